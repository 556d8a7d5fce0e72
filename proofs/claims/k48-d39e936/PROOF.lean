import PyProof.Rows.All
import Wide.All
import OpenK.AllK
import Wide.FinOn
import Lean
import PyProof.EqAt
import PyProof.EqKinds
import PyProof.TupleCall
import KE.KLam
import PyProof.NeKinds
import KE.KNestM
import KE.KRevSl
import PyProof.FactsAll.bool_2
import PyProof.Rows.EqBoolInt
import PyProof.Rows.IntBool
import KE.KDictSum
import PySem.Challenge.RW_bankwalk_k48_least_bits
-- CHANGE: your row's module here,as the last of these rows
set_option Elab.async false
set_option genSizeOf false
set_option genInjectivity false
noncomputable section
theorem x5:type_of% @List.getElem_cons_zero.{0}:=@List.getElem_cons_zero.{0}
theorem x6:type_of% @List.getElem_cons_succ.{0}:=@List.getElem_cons_succ.{0}
theorem x8:type_of% @PySem.wpAny_bind:=@PySem.wpAny_bind
theorem x9:type_of% @PySem.wpAny_pure:=@PySem.wpAny_pure
theorem y0:type_of% @PySem.wpAny_mono:=@PySem.wpAny_mono
theorem y2:type_of% @PySem.Heap.get?_push_of_some:=@PySem.Heap.get?_push_of_some
theorem y3:type_of% @PySem.Heap.get?_push_size:=@PySem.Heap.get?_push_size
theorem y4:type_of% @PySem.Heap.lt_size:=@PySem.Heap.lt_size
theorem y6:type_of% @Bool.false_ne_true:=@Bool.false_ne_true
theorem y8:type_of% @PySem.sizeLine_eq:=@PySem.sizeLine_eq
theorem y9:type_of% @List.getElem?_eq_getElem.{0}:=@List.getElem?_eq_getElem.{0}
theorem v4:type_of% @Nat.zero_lt_succ:=@Nat.zero_lt_succ
theorem v5:type_of% @Nat.le_refl:=@Nat.le_refl
theorem v6:type_of% @List.mem_cons_of_mem.{0}:=@List.mem_cons_of_mem.{0}
theorem v7:type_of% @List.mem_append_right.{0}:=@List.mem_append_right.{0}
theorem v8:type_of% @Nat.lt_of_lt_of_le:=@Nat.lt_of_lt_of_le
theorem v9:type_of% @List.mem_of_getElem?.{0}:=@List.mem_of_getElem?.{0}
theorem u7:type_of% @Nat.le_trans:=@Nat.le_trans
theorem u8:type_of% @Nat.ne_of_lt:=@Nat.ne_of_lt
theorem u9:type_of% @Nat.lt_add_one:=@Nat.lt_add_one
theorem za0:type_of% @List.mem_cons_self.{0}:=@List.mem_cons_self.{0}
theorem za1:type_of% @decide_eq_false:=@decide_eq_false
theorem za2:type_of% @decide_eq_true:=@decide_eq_true
def za3{α β:Type}{b:β}{f:α->β}{o:Option α}(h:o.map f=some b):=Option.map_eq_some_iff.mp h
def za4{α:Type}{l:List α}{i:Nat}{a:α}(h:l[i]?=some a):=List.getElem?_eq_some_iff.mp h
abbrev za5:PySem.Value:=.str "law_bankwalk_k48_least_bits" 324
abbrev za6:PySem.Value:=.str "bankwalk.maskcheck" 301
abbrev za7:PySem.Value:=.str "bankwalk.masks" 221
abbrev Frg:=PySem.W.Frag
open List (length_cons getElem?_cons_succ getElem?_cons_zero length_nil set_cons_zero set_cons_succ length_map not_mem_nil map_cons mem_cons getElem?_set getElem?_map cons_append size_toArray map_map mem_map length_append getD_eq_getElem?_getD mem_range length_range)
def obb{α β:Type _}{o:Option α}{f:α->Option β}{b:β}(h:o.bind f=some b):∃a,o=some a/\f a=some b:=Option.bind_eq_some_iff.mp h
set_option linter.all false
set_option maxRecDepth 100000
namespace L2
open PySem PySem.Spec PyProof.Rows
abbrev Key:=Sum Int Str
def qkQ:Key->Value->Bool
 |.inl k,v=>Value.isInt k v
 |.inr x,v=>Value.isStrOf x v
def qoU (w:World):Key->Int
 |.inl k=>hashInt k
 |.inr x=>hashStr w x
def qZ:∀ {k:Key} {v:Value},qkQ k v=true->(∃ i t,k=Sum.inl i/\v=Value.int i t)\/(∃ x t,k=Sum.inr x/\v=Value.str x t)
 |.inl i,v,h=>by
  obtain ⟨t,e⟩:=Value.isInt_shape (k:=i) (v:=v) h;exact .inl ⟨i,t,rfl,e⟩
 |.inr x,v,h=>by
  obtain ⟨t,e⟩:=Value.isStrOf_shape (x:=x) (v:=v) h;exact .inr ⟨x,t,rfl,e⟩
def qiU (a b:Int):decide ((Sum.inl a:Key)=Sum.inl b)=(a==b):=by
 by_cases e:a=b
 ·subst e;simp
 ·have h:¬ (Sum.inl a:Key)=Sum.inl b:=λq=>e (Sum.inl.inj q);rw [za1 h];exact (beq_eq_false_iff_ne.mpr e).symm
def qlE (a b:Str):decide ((Sum.inr a:Key)=Sum.inr b)=decide (a=b):=by
 by_cases e:a=b
 ·subst e;simp
 ·have h:¬ (Sum.inr a:Key)=Sum.inr b:=λq=>e (Sum.inr.inj q);rw [za1 h,za1 e]
def qki (a:Int) (b:Str):decide ((Sum.inl a:Key)=Sum.inr b)=false:=za1 (λq=>nomatch q)
def qkA (a:Str) (b:Int):decide ((Sum.inr a:Key)=Sum.inl b)=false:=za1 (λq=>nomatch q)
def qb8 (prog:Program) (w:World):PySem.KeyKind prog w Key where
 is:=qkQ
 hash:=qoU w
 inj:=λv a b ha hb=>by
  rcases qZ ha with ⟨i,t,rfl,rfl⟩|⟨x,t,rfl,rfl⟩
  ·rcases qZ hb with ⟨j,u,rfl,e⟩|⟨y,u,rfl,e⟩
   ·injection e with e1 _;rw [e1]
   ·exact nomatch e
  ·rcases qZ hb with ⟨j,u,rfl,e⟩|⟨y,u,rfl,e⟩
   ·exact nomatch e
   ·injection e with e1 _;rw [e1]
 byValue:=λk v h=>by
  rcases qZ h with ⟨i,t,rfl,rfl⟩|⟨x,t,rfl,rfl⟩<;>rfl
 pyHash:=λhv h=>by
  rcases qZ hv with ⟨i,t,rfl,rfl⟩|⟨x,t,rfl,rfl⟩
  ·exact wpAny_pyHash_int h
  ·exact wpAny_pyHash_str h
 eqBool:=λhu hv h=>by
  rcases qZ hu with ⟨i,t,rfl,rfl⟩|⟨x,t,rfl,rfl⟩
  ·rcases qZ hv with ⟨j,u,rfl,rfl⟩|⟨y,u,rfl,rfl⟩
   ·rw [qiU] at h;exact wpAny_eqBool_int h
   ·rw [qki] at h;exact SeqAt.EqAt.int_str i t y u _ _ _ _ h
  ·rcases qZ hv with ⟨j,u,rfl,rfl⟩|⟨y,u,rfl,rfl⟩
   ·rw [qkA] at h;exact SeqAt.EqAt.str_int x t j u _ _ _ _ h
   ·rw [qlE] at h;exact wpAny_eqBool_str h
 «strs»:=λk x t v h=>by
  rcases qZ h with ⟨i,u,rfl,e⟩|⟨y,u,rfl,e⟩
  ·exact nomatch e
  ·injection e with e1 _;subst e1;cases v<;>rfl
set_option genInjectivity true in
inductive V where
 |non|bl (b:Bool)|int (i:Int)|str (x:Str)|byt (b:Array UInt8)|flt (b:UInt64)|ref (a:Addr)|ty (n:String)
 deriving DecidableEq
def zE:V->Value->Prop
 |.non,u=>u=Value.none
 |.bl b,u=>u=Value.bool b
 |.int i,u=>∃ t,u=Value.int i t
 |.str x,u=>∃ t,u=Value.str x t
 |.byt b,u=>∃ t,u=Value.bytes b t
 |.flt b,u=>∃ t,u=Value.float b t
 |.ref a,u=>u=Value.ref a
 |.ty n,u=>u=Value.type n
abbrev qY:List V->List Value->Prop:=Paired zE
theorem qY.length {xs:List V} {us:List Value} (r:qY xs us):xs.length=us.length:=Paired.length r
theorem qY.get:∀ {xs:List V} {us:List Value} {i:Nat} {x:V},qY xs us->xs[i]?=some x->∃ u,us[i]?=some u/\zE x u
 |_,_,_,_,.nil,e=>by simp at e
 |_,_,0,_,.cons r _,e=>by simp at e;subst e;exact ⟨_,rfl,r⟩
 |_,_,i+1,x,.cons _ t,e=>by
  obtain ⟨u,h1,h2⟩:=qY.get (i:=i) (x:=x) t (by simpa using e);exact ⟨u,by simpa using h1,h2⟩
theorem qY.set {x:V} {u:Value} (r:zE x u):∀ {xs:List V} {us:List Value} (i:Nat),qY xs us->qY (xs.set i x) (us.set i u)
 |_,_,_,.nil=>.nil
 |_,_,0,.cons _ t=>.cons r t
 |_,_,i+1,.cons q t=>.cons q (qY.set r i t)
theorem qY.append:∀ {xs ys:List V} {us ws:List Value},qY xs us->qY ys ws->qY (xs++ys) (us++ws)
 |_,_,_,_,.nil,s=>s
 |_,_,_,_,.cons r t,s=>.cons r (qY.append t s)
theorem qY.take:∀ {xs:List V} {us:List Value} (n:Nat),qY xs us->qY (xs.take n) (us.take n)
 |_,_,0,_=>.nil
 |_,_,_+1,.nil=>.nil
 |_,_,n+1,.cons r t=>.cons r (qY.take n t)
theorem qY.drop:∀ {xs:List V} {us:List Value} (n:Nat),qY xs us->qY (xs.drop n) (us.drop n)
 |_,_,0,r=>r
 |_,_,_+1,.nil=>.nil
 |_,_,n+1,.cons _ t=>qY.drop n t
def qol:Option V->Option Value->Prop
 |some v,some u=>zE v u
 |none,none=>True
 |_,_=>False
def KV {κ:Type}:List (κ×V)->List (κ×Value)->Prop:=Paired λ(p:κ×V) (q:κ×Value)=>p.1=q.1/\zE p.2 q.2
def kV:Key->V
 |.inl i=>.int i
 |.inr x=>.str x
inductive HO where
 /-- a list -/
 |lst (xs:List V)
 /-- a tuple (never changes) -/
 |tup (xs:List V)
 /-- a dict whose keys are ints and texts;one whose keys are tuples of ints and texts (the empty one is both) -/
 |dK (kvs:List (Key×V))|dT (kvs:List (List Key×V))
 /-- a set of ints: its members,its size -/
 |set (S:Int->Bool) (n:Nat)
 /-- an instance of the class at C,its dict at dx,its attributes -/
 |ins (C dx:Addr) (fs:List (Str×V))
 /-- the dict of the instance at x -/
 |own (x:Addr)
 /-- the dict of an exception -/
 |xd (fs:List (Str×V))
 /-- a bound method,f of x -/
 |met (f x:Addr)
 /-- a range object lo,lo+1,.. below hi -/
 |rng (lo hi:Int)
 /-- a thing that is known to the object (the script;a dict while a loop walks it): read,never written while it is so -/
 |frz (o:Obj) (u:HO)
 /-- a code object's table -/
 |tbl (ps:Array Value)
 /-- any other thing,by what is true of its one object (a def of one's own: SetO a S n:=HO.ext λh=>..) -/
 |ext (φ:Heap->Prop)
abbrev Hp:=Addr->Option HO
def upd (H:Hp) (a:Addr) (o:HO):Hp:=λb=>if b=a then some o else H b
def qH {H:Hp} {a:Addr} {o:HO}:upd H a o a=some o:=by unfold upd;rw [if_pos rfl]
def qo {H:Hp} {a b:Addr} {o:HO} (h:b≠a):upd H a o b=H b:=by unfold upd;rw [if_neg h]
def qw {H:Hp} {a b:Addr} {o:HO} (h:H a=some o) (h':H b=none):a≠b:=by
 intro e;subst e;rw [h] at h';cases h'
def UP (h:Heap) (a:Addr) (items:Array Value):Prop:=∃ o,h.get? a=some o/\o.cls=.type "tuple"/\∃ n,o.data=.seq items n/\o.dict=none
def UP.tup {h:Heap} {a:Addr} {items:Array Value} (x:UP h a items):IsTup h a items:=let ⟨o,a,b,n,d,_⟩:=x;⟨o,a,b,n,d⟩
def UP.new (h:Heap) (items:Array Value):UP (h.push { cls:=.type "tuple",data:=.seq items }) h.objs.size items:=⟨_,y3 _ rfl,rfl,_,rfl,rfl⟩
section
variable (P:Program) (w:World)
def JZ (H:Hp) (h:Heap) (a:Addr):HO->Prop
 |.lst xs=>xs.length<=sizeLine/\∃ (its:List Value) (n:Nat),qY xs its/\h.get? a=some { cls:=.type "list",data:=.seq its.toArray n }
 |.tup xs=>xs.length<=sizeLine/\∃ its:List Value,qY xs its/\UP h a its.toArray
 |.dK kvs=>kvs.length<=sizeLine/\(a==sysModules)=false/\∃ vs,KV kvs vs/\h.DictOf (qb8 P w) a vs
 |.dT kvs=>kvs.length<=sizeLine/\(a==sysModules)=false/\∃ xs:List (List Key×Addr×Value),
   Paired (λ(p:List Key×V) (q:List Key×Addr×Value)=>p.1=q.1/\H q.2.1=some (.tup (p.1.map kV))/\zE p.2 q.2.2) kvs xs /\
   ∃ o es ep,h.get? a=some o/\o.ExactDict/\o.data=.dict es ep/\es.toList=xs.map (entryOfKey (tupleKind (qb8 P w)))/\(xs.map (·.1)).Nodup
 |.set S n=>h.SetOf (intKind P w) a S n
 |.ins C dx fs=>H dx=some (.own a)/\fs.length<=1000/\dx≠a/\h.get? a=some (PySem.W.instObj C dx) /\
   ∃ mA,h.Ns1 dx mA/\(∀ f,qol (fs.lookup f) (mA f))/\PySem.Within mA (fs.map (·.1))
 |.own _=>∃ o,h.get? a=some o
 |.xd fs=>∃ mA,h.Ns1 a mA/\∀ f,qol (fs.lookup f) (mA f)
 |.rng lo hi=>∃ t u v,h.get? a=some { cls:=.type "range",data:=.fields #[.int lo t,.int hi u,.int 1 v] }
 |.frz o u=>h.get? a=some o/\JZ H h a u
 |.tbl ps=>h.get? a=some { cls:=.none,data:=.fields ps }
 |.met f x=>h.get? a=some (PySem.W.methodObj (.ref f) (.ref x))
 |.ext φ=>φ h/\(∃ o,h.get? a=some o)/\∀ h1 h2:Heap,φ h1->(∀ o,h1.get? a=some o->h2.get? a=some o)->φ h2
def HOk (H:Hp) (h:Heap):Prop:=∀ a o,H a=some o->JZ P w H h a o
end
section
variable {P:Program} {w:World} {H H':Hp} {h h':Heap} {a:Addr} {o:HO}
theorem JZ.lt (x:JZ P w H h a o):a<h.objs.size:=by
 cases o with
 |lst xs=>obtain ⟨_,_,_,_,e⟩:=x;exact y4 e
 |tup xs=>obtain ⟨_,_,_,p⟩:=x;exact p.tup.lt
 |dK kvs=>obtain ⟨_,_,_,_,o,_,_,e,_⟩:=x;exact y4 e
 |dT kvs=>obtain ⟨_,_,_,_,o,_,_,e,_⟩:=x;exact y4 e
 |set S n=>obtain ⟨o,_,_,_,e,_⟩:=x;exact y4 e
 |ins C dx fs=>obtain ⟨_,_,_,e,_⟩:=x;exact y4 e
 |own y=>obtain ⟨_,e⟩:=x;exact y4 e
 |xd fs=>obtain ⟨_,⟨_,_,_,e,_⟩,_⟩:=x;exact y4 e
 |rng lo hi=>obtain ⟨_,_,_,e⟩:=x;exact y4 e
 |frz ob u=>obtain ⟨e,_⟩:=x;exact y4 e
 |tbl ps=>exact y4 (show h.get? a=some _ from x)
 |met f y=>exact y4 (show h.get? a=some _ from x)
 |ext φ=>obtain ⟨_,⟨_,e⟩,_⟩:=x;exact y4 e
theorem Paired.mapP {α β:Type} {F G:α->β->Prop}:∀ {l₁:List α} {l₂:List β},Paired F l₁ l₂->(∀ a b,F a b->G a b)->Paired G l₁ l₂
 |_,_,.nil,_=>.nil
 |_,_,.cons r t,f=>.cons (f _ _ r) (Paired.mapP t f)
def JZ.stay (x:JZ P w H h a o) (k:∀ b u,(b=a\/H b=some (.own a))->h.get? b=some u->h'.get? b=some u)
  (ho:∀ b,H b=some (.own a)->H' b=some (.own a)) (ht:∀ b xs,H b=some (.tup xs)->H' b=some (.tup xs)):JZ P w H' h' a o:=by
 induction o with
 |lst xs=>obtain ⟨z,its,n,r,e⟩:=x;exact ⟨z,its,n,r,k _ _ (.inl rfl) e⟩
 |tup xs=>obtain ⟨z,its,r,ob,e,c⟩:=x;exact ⟨z,its,r,ob,k _ _ (.inl rfl) e,c⟩
 |dK kvs=>obtain ⟨z,y,vs,r,ob,es,ep,e,c⟩:=x;exact ⟨z,y,vs,r,ob,es,ep,k _ _ (.inl rfl) e,c⟩
 |dT kvs=>
  obtain ⟨z,y,xs,r,ob,es,ep,e,c⟩:=x;exact ⟨z,y,xs,Paired.mapP r λp q z=>⟨z.1,ht _ _ z.2.1,z.2.2⟩,ob,es,ep,k _ _ (.inl rfl) e,c⟩
 |set S n=>obtain ⟨ob,es,ep,t,e,c⟩:=x;exact ⟨ob,es,ep,t,k _ _ (.inl rfl) e,c⟩
 |ins C dx fs=>
  obtain ⟨d,z,ne,e,mA,⟨od,es,ep,e2,c⟩,r⟩:=x;exact ⟨ho _ d,z,ne,k _ _ (.inl rfl) e,mA,⟨od,es,ep,k _ _ (.inr d) e2,c⟩,r⟩
 |own y=>obtain ⟨ob,e⟩:=x;exact ⟨ob,k _ _ (.inl rfl) e⟩
 |xd fs=>obtain ⟨mA,⟨od,es,ep,e,c⟩,r⟩:=x;exact ⟨mA,⟨od,es,ep,k _ _ (.inl rfl) e,c⟩,r⟩
 |rng lo hi=>obtain ⟨t,u,v,e⟩:=x;exact ⟨t,u,v,k _ _ (.inl rfl) e⟩
 |frz ob u ih=>obtain ⟨e,q⟩:=x;exact ⟨k _ _ (.inl rfl) e,ih q⟩
 |tbl ps=>
  have e:h.get? a=some { cls:=.none,data:=.fields ps }:=x;show h'.get? a=some { cls:=.none,data:=.fields ps };exact k a _ (.inl rfl) e
 |met f y=>
  have e:h.get? a=some (PySem.W.methodObj (.ref f) (.ref y)):=x;show h'.get? a=some (PySem.W.methodObj (.ref f) (.ref y));exact k a _ (.inl rfl) e
 |ext φ=>obtain ⟨p,⟨o,e⟩,st⟩:=x;exact ⟨st _ _ p λo q=>k _ _ (.inl rfl) q,⟨o,k _ _ (.inl rfl) e⟩,st⟩
theorem HOk.lt (x:HOk P w H h) (e:H a=some o):a<h.objs.size:=(x a o e).lt
def HOk.fresh (x:HOk P w H h) (e:h.objs.size<=a):H a=none:=by
 cases q:H a with
 |none=>rfl
 |some u=>exact absurd (v8 (x.lt q) e) (Nat.lt_irrefl _)
def HOk.kept (x:HOk P w H h) (k:∀ b u,h.get? b=some u->h'.get? b=some u):HOk P w H h':=λa o e=>
 (x a o e).stay (λb u _ q=>k b u q) (λ_ q=>q) λ_ _ q=>q
def HOk.laid (x:HOk P w H h) (k:∀ b u,h.get? b=some u->h'.get? b=some u) (hp:h.objs.size<=a) (new:JZ P w (upd H a o) h' a o):HOk P w (upd H a o) h':=λb u e=>by
 have hn:=x.fresh hp;by_cases hb:b=a
 ·subst hb;rw [qH] at e;cases e;exact new
 ·rw [qo hb] at e;exact (x b u e).stay (λc v _ q=>k c v q) (λc q=>by rw [qo (qw q hn)];exact q) λc xs q=>by rw [qo (qw q hn)];exact q
end
def Rd (H:Hp) (a:Addr) (u:HO):Prop:=H a=some u\/∃ o,H a=some (.frz o u)
def Rd.ok {P:Program} {w:World} {H:Hp} {h:Heap} {a:Addr} {u:HO} (r:Rd H a u) (x:HOk P w H h):JZ P w H h a u:=by
 rcases r with r|⟨o,r⟩
 ·exact x a u r
 ·obtain ⟨_,q⟩:=x a _ r;exact q
def Mut:Option HO->Prop
 |some (.lst _)=>True
 |some (.dK _)=>True
 |some (.dT _)=>True
 |some (.set _ _)=>True
 |some (.ins _ _ _)=>True
 |some (.ext _)=>True
 |_=>False
section
variable {P:Program} {w:World} {H:Hp} {h h':Heap} {x e:Addr} {o':HO}
def HOk.write (ok:HOk P w H h) (mu:Mut (H x)) (he:e=x\/H e=some (.own x)) (k:∀ b u,b≠e->h.get? b=some u->h'.get? b=some u) (heo:∃ u,h'.get? e=some u)
  (new:JZ P w (upd H x o') h' x o'):HOk P w (upd H x o') h':=λb u q=>by
 have nown:∀ c y,H c=some (.own y)->c≠x:=λc y r z=>by subst z;rw [r] at mu;exact mu
 have ntup:∀ c xs,H c=some (.tup xs)->c≠x:=λc xs r z=>by subst z;rw [r] at mu;exact mu
 by_cases hb:b=x
 ·subst hb;rw [qH] at q;cases q;exact new
 ·rw [qo hb] at q;by_cases hbe:b=e
  ·have q':H b=some (.own x):=by
    rcases he with z|z
    ·exact absurd (hbe.trans z) hb
    ·rw [hbe];exact z
   rw [q] at q';cases q';obtain ⟨v,hv⟩:=heo;exact ⟨v,by rw [hbe];exact hv⟩
  ·refine (ok b u q).stay (λc v hc r=>k c v ?_ r) (λc r=>by rw [qo (nown c b r)];exact r) λc xs r=>by rw [qo (ntup c xs r)];exact r
   rcases hc with rfl|hc
   ·exact hbe
   ·rintro rfl;rcases he with z|z
    ·exact nown c b hc z
    ·rw [hc] at z;cases z;exact hb rfl
end
structure Un (fs ex:List Addr) (H H':Hp) (h h':Heap):Prop where
 keep:∀ b o,h.get? b=some o->H b=none->b∉fs->b∉ex->h'.get? b=some o
 slot:∀ b o,h.get? b=some o->H b=none->b∈fs->b∉ex->∃ sl,h'.get? b=some { o with slots:=sl }
 free:∀ b o,h.get? b=some o->H b=none->b∉ex->H' b=none
 there:∀ b o,h.get? b=some o->b∉ex->∃ o',h'.get? b=some o'
 tups:∀ b xs,H b=some (.tup xs)->H' b=some (.tup xs)
 frzs:∀ b o u,H b=some (.frz o u)->H' b=some (.frz o u)
 tbls:∀ b ps,H b=some (.tbl ps)->∃ more,H' b=some (.tbl (ps++more))
section
variable {fs fs' ex ex':List Addr} {H H1 H2:Hp} {h h1 h2 h':Heap} {a x e:Addr} {o:HO}
def Un.any (u:Un fs ex H H1 h h1) {b:Addr} {ob:Obj} (q:h.get? b=some ob) (n:H b=none) (hx:b∉ex):∃ sl,h1.get? b=some { ob with slots:=sl }:=by
 by_cases hb:b∈fs
 ·exact u.slot b ob q n hb hx
 ·exact ⟨ob.slots,u.keep b ob q n hb hx⟩
def Un.kept (k:∀ b u,h.get? b=some u->h'.get? b=some u):Un fs ex H H h h':=
 ⟨λb ob q _ _ _=>k b ob q,λb ob q _ _ _=>⟨ob.slots,k b ob q⟩,λ_ _ _ n _=>n,λb ob q _=>⟨ob,k b ob q⟩,λ_ _ q=>q,λ_ _ _ q=>q,λ_ ps q=>⟨#[],by rw [q];simp⟩⟩
def Un.refl:Un fs ex H H h h:=Un.kept λ_ _ q=>q
def Un.laid (k:∀ b u,h.get? b=some u->h'.get? b=some u) (hp:h.objs.size<=a) (hn:H a=none):Un fs ex H (upd H a o) h h' where
 keep:=λb u q _ _ _=>k b u q
 slot:=λb u q _ _ _=>⟨u.slots,k b u q⟩
 free:=λb u q n _=>by rw [qo (u8 (v8 (y4 q) hp))];exact n
 there:=λb u q _=>⟨u,k b u q⟩
 tups:=λb xs q=>by rw [qo (qw q hn)];exact q
 frzs:=λb u xs q=>by rw [qo (qw q hn)];exact q
 tbls:=λb ps q=>⟨#[],by rw [qo (qw q hn),q];simp⟩
def Un.write (mu:Mut (H x)) (he:e=x\/H e=some (.own x)) (k:∀ b u,b≠e->h.get? b=some u->h'.get? b=some u) (heo:∃ u,h'.get? e=some u):Un fs ex H (upd H x o) h h':=by
 have hx:∀ b,H b=none->b≠x:=λb n z=>by subst z;rw [n] at mu;exact mu
 have hb:∀ b,H b=none->b≠e:=λb n z=>by
  subst z;rcases he with r|r
  ·exact hx b n r
  ·rw [n] at r;cases r
 have hm:∀ b u,H b=some u->¬ Mut (some u)->b≠x:=λb u q nm z=>by subst z;rw [q] at mu;exact nm mu
 refine ⟨λb u q n _ _=>k b u (hb b n) q,λb u q n _ _=>⟨u.slots,k b u (hb b n) q⟩,λb u q n _=>by rw [qo (hx b n)];exact n,λb u q _=>?_,
  λb xs q=>by rw [qo (hm b _ q λz=>z)];exact q,λb u xs q=>by rw [qo (hm b _ q λz=>z)];exact q,λb ps q=>⟨#[],by rw [qo (hm b _ q λz=>z),q];simp⟩⟩
 by_cases hbe:b=e
 ·subst hbe;exact heo
 ·exact ⟨u,k b u hbe q⟩
end
def trk (h:Heap) (H:Hp):List Addr:=(List.range h.objs.size).filter λa=>(H a).isSome
def qcN (h:Heap) (H:Hp):Heap:=PySem.W.hideAll h (trk h H)
def qah (h:Heap) (H:Hp):(qcN h H).objs.size=h.objs.size:=PySem.W.hideAll_size _ _
def qdj {h:Heap} {H:Hp} {b:Addr} {o:Obj} (e:h.get? b=some o) (n:H b=none):(qcN h H).get? b=some o:=
 PySem.W.hideAll_get _ e λhm=>by
  have q:(H b).isSome=true:=(List.mem_filter.mp hm).2;rw [n] at q;simp at q
def qhu {h:Heap} {H:Hp} {b:Addr} {o:Obj} (e:(qcN h H).get? b=some o):h.get? b=some o/\H b=none:=by
 have e':h.get? b=some o:=PySem.W.of_hideAll (trk h H) e;refine ⟨e',?_⟩;cases q:H b with
 |none=>rfl
 |some x=>
  have hm:b∈trk h H:=List.mem_filter.mpr ⟨mem_range.mpr (y4 e'),by simp [q]⟩;have z:(qcN h H).get? b=none:=PySem.W.hideAll_none (trk h H) hm;rw [z] at e;cases e
def qhL (g h:Heap) (L:Addr):List (Addr×Obj):=(List.range h.objs.size).filterMap λa=>if a=L\/(g.get? a).isSome=true then none else (h.get? a).map λo=>(a,o)
def JD (g h:Heap) (L d:Addr):List (Addr×Obj):=(qhL g h L).filter λp=>decide (p.1≠d)
structure Mod (K:Frg) (mg:Str->Option Value) (base:Heap):Prop where
 kin:K.In base
 glob:base.Ns mainGlobals mg
 blt:∃ mb,base.Ns builtinsNs mb/\∀ x:Str,x≠"__name__" -> mb x=bootBuiltins x
 nolimit:base.NoLimit
structure Cx where
 prog:Program
 w:World
 K:PySem.W.Frag
 mg:Str->Option Value
 base:Heap
 A:Around
 N:List Str
 s₀:Shared
 H₀:Hp
 env:Env
 outer:List Env
 stack:List Env
 ex:List Addr
 fn:Str->Bool
 calm:Bool
 pn:List (Addr×Obj)
 xe:Value->Shared->Prop
def frs (l:List Env):List Addr:=l.filterMap (·.frame)
abbrev Cx.fs (X:Cx):List Addr:=frs X.outer
def Vis (sc:Scope) (x:Str):Prop:=sc.names.lookup x=some .local\/sc.names.lookup x=some .cell\/sc.names.lookup x=some .free
def Loc (sc:Scope) (x:Str):Prop:=sc.names.lookup x=some .local\/sc.names.lookup x=some .cell
def qoW (env:Env) (h:Heap) (m:Str->Option Value) (x:Str) (u:Value):Prop:=
 (env.kindOf x=some .local/\m x=some u)\/((env.kindOf x=some .cell\/env.kindOf x=some .free)/\∃ c,env.cells.lookup x=some c/\h.IsCell c (some u))
structure Cx.Ok (X:Cx):Prop where
 mod:Mod X.K X.mg X.base
 kind:X.env.scope.kind=.function
 glob:X.env.globals=mainGlobals
 blt:X.env.builtins=builtinsNs
 above:X.s₀.heap.objs.size<=X.env.locals
 inj:∀ x y c,X.env.cells.lookup x=some c->X.env.cells.lookup y=some c->x=y
 has:∀ x,(X.env.kindOf x=some .cell\/X.env.kindOf x=some .free)->∃ c,X.env.cells.lookup x=some c
 cab:∀ x c,X.fn x=true->X.env.cells.lookup x=some c->X.s₀.heap.objs.size<=c
 hd:X.calm=true->X.A.handled=none
 frames:X.A.frames=some X.stack
 stk:X.stack=X.outer\/(X.stack=X.env::X.outer/\X.env.frame=some X.env.locals)
 exf:∀ b∈X.ex,b≠X.env.locals/\∀ x c,X.env.cells.lookup x=some c->c≠b
 bs:∀ b o,X.base.get? b=some o->X.s₀.heap.get? b=some o/\X.H₀ b=none
 bsz:X.base.objs.size<=X.s₀.heap.objs.size
 noex:∀ b o,X.base.get? b=some o->b∉X.ex
 exfs:∀ b∈X.ex,b∉X.fs
 funs:X.s₀.heap.FunFrames X.base X.outer
 frf:∀ b∈X.fs,X.H₀ b=none
structure Inv (X:Cx) (pins:List (Addr×Obj)) (σ:List (Option V)) (H:Hp) (s:Shared):Prop where
 ok:X.Ok
 os:s.os=X.s₀.os
 bare:AllBare s.gens
 base:Un X.fs X.ex X.H₀ H X.s₀.heap s.heap
 loc:∃ m,s.heap.Ns X.env.locals m/\∀ (i:Nat) (x:Str) (v:V),X.N[i]?=some x->σ[i]?=some (some v)->Vis X.env.scope x->∃ u,zE v u/\qoW X.env s.heap m x u
 cell:∀ x c,X.env.cells.lookup x=some c->∃ v,s.heap.IsCell c v
 free:H X.env.locals=none
 freeC:∀ x c,X.env.cells.lookup x=some c->H c=none
 pin:∀ p∈X.pn++pins,s.heap.get? p.1=some p.2/\H p.1=none/\p.1≠X.env.locals/\p.1∉X.fs/\∀ v,p.2.data≠.cell v
 hok:HOk X.prog X.w H s.heap
 len:σ.length=X.N.length
section
variable {X:Cx} {pins:List (Addr×Obj)} {σ:List (Option V)} {H H':Hp} {s:Shared} {h':Heap}
def Cx.Ok.nofr (ok:X.Ok) {b:Addr} {o:Obj} (e:X.base.get? b=some o):b∉X.fs:=λhb=>by
 have:=(ok.funs.mem hb).1;rw [e] at this;cases this
theorem Inv.bs (I:Inv X pins σ H s):∀ b o,X.base.get? b=some o->s.heap.get? b=some o/\H b=none:=λb o e=>
 ⟨I.base.keep b o (I.ok.bs b o e).1 (I.ok.bs b o e).2 (I.ok.nofr e) (I.ok.noex b o e),I.base.free b o (I.ok.bs b o e).1 (I.ok.bs b o e).2 (I.ok.noex b o e)⟩
def Inv.bk (I:Inv X pins σ H s):∀ b o,X.base.get? b=some o->s.heap.get? b=some o:=λb o e=>(I.bs b o e).1
theorem Inv.mod (I:Inv X pins σ H s):Mod X.K X.mg X.base:=I.ok.mod
def Inv.kIn (I:Inv X pins σ H s):X.K.In s.heap:=I.ok.mod.kin.keeps I.bk
theorem Inv.nolimit (I:Inv X pins σ H s):s.heap.NoLimit:=I.ok.mod.nolimit.keeps I.bk
def Inv.fr (I:Inv X pins σ H s):∃ m,Fr X.base X.env.locals s.heap m:=
 let ⟨m,hn,_⟩:=I.loc
 ⟨m,hn,I.bk,u7 I.ok.bsz I.ok.above⟩
theorem Inv.lt (I:Inv X pins σ H s):X.env.locals<s.heap.objs.size:=let ⟨_,hn,_⟩:=I.loc;hn.lt
def Inv.sz (I:Inv X pins σ H s):X.s₀.heap.objs.size<=s.heap.objs.size:=u7 I.ok.above (Nat.le_of_lt I.lt)
def Inv.nofs (I:Inv X pins σ H s) {a:Addr} (h:s.heap.objs.size<=a):a∉X.fs:=λhb=>by
 obtain ⟨_,o,ho,_⟩:=I.ok.funs.mem hb;exact absurd (v8 (y4 ho) (u7 I.sz h)) (Nat.lt_irrefl _)
def Inv.cne (I:Inv X pins σ H s):∀ x c,X.env.cells.lookup x=some c->c≠X.env.locals:=λx c e z=>by
 obtain ⟨v,o,ho,hd⟩:=I.cell x c e;obtain ⟨m,⟨o',es,ep,ho',hd',_⟩,_⟩:=I.loc;rw [z,ho'] at ho;cases ho;rw [hd'] at hd;cases hd
theorem Inv.funs (I:Inv X pins σ H s):s.heap.FunFrames X.base X.outer:=by
 have all:∀ (l:List Env),(∀ b∈frs l,b∈X.fs)->X.s₀.heap.FunFrames X.base l->s.heap.FunFrames X.base l:=by
  intro l;induction l with
  |nil=>intro _ _;trivial
  |cons env r ih=>
   intro hs hl;obtain ⟨hk,⟨L,o,hf,hn,ho,hd⟩,hr⟩:=hl;have hL:L∈X.fs:=hs L (by unfold frs;rw [List.filterMap_cons,hf];exact za0);obtain ⟨sl,e⟩:=I.base.slot L o ho (I.ok.frf L hL) hL λz=>I.ok.exfs L z hL;exact ⟨hk,⟨L,_,hf,hn,e,hd⟩,ih (λb hb=>hs b (by unfold frs;rw [List.filterMap_cons,hf];exact v6 _ hb)) hr⟩
 exact all X.outer (λ_ hb=>hb) I.ok.funs
theorem Inv.stack (I:Inv X pins σ H s):s.heap.FunFrames X.base X.stack:=by
 rcases I.ok.stk with e|⟨e,hf⟩
 ·rw [e];exact I.funs
 ·rw [e];obtain ⟨m,hn,_⟩:=I.loc;refine .cons (by rw [I.ok.kind];decide) hf hn ?_ I.funs;exact Heap.get?_none_of_le (u7 I.ok.bsz I.ok.above)
def Inv.stkSub (I:Inv X pins σ H s):∀ b∈frs X.stack,b∈X.env.locals::X.fs:=λb hb=>by
 rcases I.ok.stk with e|⟨e,hf⟩
 ·rw [e] at hb;exact v6 _ hb
 ·rw [e] at hb;unfold frs at hb;rw [List.filterMap_cons,hf] at hb;exact hb
def Inv.stkFree (I:Inv X pins σ H s):∀ b∈frs X.stack,H b=none:=λb hb=>by
 rcases mem_cons.mp (I.stkSub b hb) with e|hb
 ·rw [e];exact I.free
 ·obtain ⟨_,o,ho,_⟩:=I.ok.funs.mem hb;exact I.base.free b o ho (I.ok.frf b hb) λz=>I.ok.exfs b z hb
def Inv.step {g':Array GenState} {t':Nat} {d':Drawn} {ch:List Addr} (I:Inv X pins σ H s)
  (hch:∀ b∈ch,(b∈X.ex\/X.s₀.heap.objs.size<=b)/\b≠X.env.locals/\(∀ x c,X.env.cells.lookup x=some c->c≠b)/\∀ p∈X.pn++pins,p.1≠b)
  (keep:∀ b o,b≠X.env.locals->b∉X.fs->b∉ch->s.heap.get? b=some o->H b=none->h'.get? b=some o)
  (slot:∀ b o,b≠X.env.locals->b∈X.fs->b∉ch->s.heap.get? b=some o->H b=none->∃ sl,h'.get? b=some { o with slots:=sl }) (free:∀ b o,b∉ch->s.heap.get? b=some o->H b=none->H' b=none)
  (there:∀ b o,b∉ch->s.heap.get? b=some o->∃ o',h'.get? b=some o')
  (tups:∀ b xs,H b=some (.tup xs)->H' b=some (.tup xs)) (frzs:∀ b o u,H b=some (.frz o u)->H' b=some (.frz o u)) (tbls:∀ b ps,H b=some (.tbl ps)->∃ more,H' b=some (.tbl (ps++more)))
  (ns:∀ m,s.heap.Ns X.env.locals m->h'.Ns X.env.locals m) (hok:HOk X.prog X.w H' h') (hg:AllBare g') :
  Inv X pins σ H' { s with heap:=h',gens:=g',drawn:=d',toks:=t' }:=by
 have neL:∀ b o,X.s₀.heap.get? b=some o->b≠X.env.locals:=λb o e=>u8 (v8 (y4 e) I.ok.above);have neC:∀ b o,X.s₀.heap.get? b=some o->b∉X.ex->b∉ch:=λb o e hx hb=>by
  rcases (hch b hb).1 with z|z
  ·exact hx z
  ·exact absurd (v8 (y4 e) z) (Nat.lt_irrefl _)
 have cellK:∀ x c,X.env.cells.lookup x=some c->∀ v,s.heap.IsCell c v->h'.IsCell c v:=λx c e v ⟨o,ho,hd⟩=>by
  have nch:c∉ch:=λz=>(hch c z).2.2.1 x c e rfl;by_cases hc:c∈X.fs
  ·obtain ⟨sl,q⟩:=slot c o (I.cne x c e) hc nch ho (I.freeC x c e);exact ⟨_,q,hd⟩
  ·exact ⟨o,keep c o (I.cne x c e) hc nch ho (I.freeC x c e),hd⟩
 refine ⟨I.ok,I.os,hg,⟨λb o e n hb hx=>?_,λb o e n hb hx=>?_,λb o e n hx=>?_,λb o e hx=>?_,λb xs e=>tups b xs (I.base.tups b xs e),λb o xs e=>frzs b o xs (I.base.frzs b o xs e),λb ps e=>?_⟩,?_,λx c e=>?_,?_,λx c e=>?_,λp hp=>?_,hok,I.len⟩
 ·exact keep b o (neL b o e) hb (neC b o e hx) (I.base.keep b o e n hb hx) (I.base.free b o e n hx)
 ·obtain ⟨sl,e1⟩:=I.base.slot b o e n hb hx;obtain ⟨sl',e2⟩:=slot b _ (neL b o e) hb (neC b o e hx) e1 (I.base.free b o e n hx);exact ⟨sl',e2⟩
 ·obtain ⟨o',e1⟩:=I.base.there b o e hx;exact free b o' (neC b o e hx) e1 (I.base.free b o e n hx)
 ·obtain ⟨o',e1⟩:=I.base.there b o e hx;exact there b o' (neC b o e hx) e1
 ·obtain ⟨m1,e1⟩:=I.base.tbls b ps e;obtain ⟨m2,e2⟩:=tbls b _ e1;exact ⟨m1++m2,by rw [e2,Array.append_assoc]⟩
 ·obtain ⟨m,hn,hl⟩:=I.loc;refine ⟨m,ns m hn,λi x v e1 e2 e3=>?_⟩;obtain ⟨u,r,l⟩:=hl i x v e1 e2 e3;refine ⟨u,r,?_⟩;rcases l with l|⟨k,c,e,z⟩
  ·exact .inl l
  ·exact .inr ⟨k,c,e,cellK x c e _ z⟩
 ·obtain ⟨v,z⟩:=I.cell x c e;exact ⟨v,cellK x c e v z⟩
 ·obtain ⟨m,⟨o,_,_,ho,_⟩,_⟩:=I.loc;exact free _ o (λz=>(hch _ z).2.1 rfl) ho I.free
 ·obtain ⟨v,o,ho,hd⟩:=I.cell x c e;exact free c o (λz=>(hch c z).2.2.1 x c e rfl) ho (I.freeC x c e)
 ·obtain ⟨e,n,ne,nf,d⟩:=I.pin p hp;have nch:p.1∉ch:=λz=>(hch p.1 z).2.2.2 p hp rfl;exact ⟨keep p.1 p.2 ne nf nch e n,free p.1 p.2 nch e n,ne,nf,d⟩
def Inv.un {t':Nat} (I:Inv X pins σ H s) (u:Un X.fs [] H H' s.heap h') (hok:HOk X.prog X.w H' h'):Inv X pins σ H' { s with heap:=h',toks:=t' }:=by
 obtain ⟨m,⟨o,es,ep,ho,r⟩,_⟩:=id I.loc;obtain ⟨sl,hL⟩:=u.any ho I.free (by simp);exact I.step (g':=s.gens) (d':=s.drawn) (ch:=[]) (λ_ z=>nomatch z) (λb o _ hb _ e n=>u.keep b o e n hb (by simp)) (λb o _ hb _ e n=>u.slot b o e n hb (by simp)) (λb o _ e n=>u.free b o e n (by simp)) (λb o _ e=>u.there b o e (by simp)) u.tups u.frzs u.tbls (λm' hm=>by
  obtain ⟨o',es',ep',ho',r'⟩:=hm;rw [ho] at ho';cases ho';exact ⟨_,es',ep',hL,r'⟩) hok I.bare
def Inv.call {g':Array GenState} {t':Nat} {d':Drawn} {ch:List Addr} (I:Inv X pins σ H s) (u:Un (frs X.stack) ch H H' s.heap h') (hok:HOk X.prog X.w H' h') (hg:AllBare g')
  (hch:∀ b∈ch,(b∈X.ex\/X.s₀.heap.objs.size<=b)/\b≠X.env.locals/\(∀ x c,X.env.cells.lookup x=some c->c≠b)/\∀ p∈X.pn++pins,p.1≠b) :
  Inv X pins σ H' { s with heap:=h',gens:=g',drawn:=d',toks:=t' }:=by
 obtain ⟨m,⟨o,es,ep,ho,r⟩,_⟩:=id I.loc;obtain ⟨sl,hL⟩:=u.any ho I.free λz=>(hch _ z).2.1 rfl;exact I.step (ch:=ch) hch (λb o hL hb hc e n=>u.keep b o e n (λz=>(mem_cons.mp (I.stkSub b z)).elim hL hb) hc) (λb o _ _ hc e n=>u.any e n hc) (λb o hc e n=>u.free b o e n hc) (λb o hc e=>u.there b o e hc) u.tups u.frzs u.tbls (λm' hm=>by
  obtain ⟨o',es',ep',ho',r'⟩:=hm;rw [ho] at ho';cases ho';exact ⟨_,es',ep',hL,r'⟩) hok hg
def Inv.turned {t':Nat} {it:Addr} (I:Inv X pins σ H s) (k:∀ b o,b≠it->s.heap.get? b=some o->h'.get? b=some o) (hn:H it=none) (hL:it≠X.env.locals)
  (h1:it∈X.ex\/X.s₀.heap.objs.size<=it) (h2:∀ x c,X.env.cells.lookup x=some c->c≠it) (h3:∀ p∈X.pn++pins,p.1≠it):Inv X pins σ H { s with heap:=h',toks:=t' }:=by
 have nit:∀ b u,H b=some u->b≠it:=λb u e z=>by rw [z,hn] at e;cases e
 refine I.step (g':=s.gens) (d':=s.drawn) (ch:=[it]) (λb hb=>?_) (λb o _ _ hc e _=>k b o (λz=>hc (by simp [z])) e) (λb o _ _ hc e _=>⟨o.slots,k b o (λz=>hc (by simp [z])) e⟩) (λ_ _ _ _ n=>n)
  (λb o hc e=>⟨o,k b o (λz=>hc (by simp [z])) e⟩) (λ_ _ e=>e) (λ_ _ _ e=>e) (λb ps e=>⟨#[],by rw [e];simp⟩) (λm hm=>?_) (λb u e=>?_) I.bare
 ·have e:b=it:=by simpa using hb
  subst e;exact ⟨h1,hL,h2,h3⟩
 ·obtain ⟨o,es,ep,ho,r⟩:=hm;exact ⟨o,es,ep,k _ o (Ne.symm hL) ho,r⟩
 ·refine (I.hok b u e).stay (λc v hc q=>k c v ?_ q) (λ_ q=>q) λ_ _ q=>q;rcases hc with z|z
  ·rw [z];exact nit b u e
  ·exact nit c _ z
def Inv.tok (I:Inv X pins σ H s) (t:Nat):Inv X pins σ H { s with toks:=t }:=I.un (h':=s.heap) (t':=t) Un.refl I.hok
theorem Inv.kept {t':Nat} (I:Inv X pins σ H s) (k:∀ b u,s.heap.get? b=some u->h'.get? b=some u):Inv X pins σ H { s with heap:=h',toks:=t' }:=I.un (Un.kept k) (I.hok.kept k)
theorem Inv.laid {a:Addr} {o:HO} {t':Nat} (I:Inv X pins σ H s) (k:∀ b u,s.heap.get? b=some u->h'.get? b=some u) (hp:s.heap.objs.size<=a) (new:JZ X.prog X.w (upd H a o) h' a o) :
  Inv X pins σ (upd H a o) { s with heap:=h',toks:=t' }:=I.un (Un.laid k hp (I.hok.fresh hp)) (I.hok.laid k hp new)
theorem Inv.write {x e:Addr} {o:HO} {t':Nat} (I:Inv X pins σ H s) (mu:Mut (H x)) (he:e=x\/H e=some (.own x)) (k:∀ b u,b≠e->s.heap.get? b=some u->h'.get? b=some u) (heo:∃ u,h'.get? e=some u)
  (new:JZ X.prog X.w (upd H x o) h' x o):Inv X pins σ (upd H x o) { s with heap:=h',toks:=t' }:=I.un (Un.write mu he k heo) (I.hok.write mu he k heo new)
def Inv.pins_of {pins':List (Addr×Obj)} (I:Inv X pins σ H s) (h:∀ p∈pins',s.heap.get? p.1=some p.2/\H p.1=none/\p.1≠X.env.locals/\p.1∉X.fs/\∀ v,p.2.data≠.cell v):Inv X pins' σ H s:=
 ⟨I.ok,I.os,I.bare,I.base,I.loc,I.cell,I.free,I.freeC,λp hp=>(List.mem_append.mp hp).elim (λz=>I.pin p (List.mem_append_left _ z)) (h p),I.hok,I.len⟩
def LW {N:List Str} (hN:N.Nodup) {i j:Nat} {x:Str} (a:N[i]?=some x) (b:N[j]?=some x):i=j:=by
 obtain ⟨h1,e1⟩:=za4 a;obtain ⟨h2,e2⟩:=za4 b;exact (List.getElem_inj hN).mp (e1.trans e2.symm)
def RX {M:Model} {A:Around} {E:Value->Shared->Prop} {i:Nat} {x:Str} {v:V} {u:Value} {Q:Unit->Shared->Prop} (I:Inv X pins σ H s) (hN:X.N.Nodup) (hi:X.N[i]?=some x) (hx:Loc X.env.scope x) (r:zE v u)
  (h:∀ s',Inv X pins (σ.set i (some v)) H s'->(∃ a,Heap.SameBut a s.heap s'.heap/\(a=X.env.locals\/X.env.cells.lookup x=some a))->Q () s') (hf:X.fn x=true\/X.env.scope.names.lookup x=some .local:=by first|exact .inl rfl|exact .inr rfl|assumption):wpAny M A (storeName X.env x u) Q E s:=by
 obtain ⟨m,hn,hl⟩:=id I.loc;have hcls:(X.env.scope.kind==.class||(X.env.scope.kind==.module&&X.env.locals != X.env.globals))=false:=by rw [I.ok.kind];rfl
 have hiσ:i<σ.length:=by rw [I.len];exact (za4 hi).1
 have cne:=I.cne;have tracked:∀ {a:Addr} {h':Heap},(∃ o,s.heap.get? a=some o/\H a=none)->Heap.SameBut a s.heap h'->HOk X.prog X.w H h':=λ{a h'} ha hs b ob e=>by
  obtain ⟨_,_,hfree⟩:=ha;refine (I.hok b ob e).stay (λc w' hc q=>(hs.2 c ?_).trans q) (λ_ q=>q) λ_ _ q=>q;rintro rfl;rcases hc with rfl|hc
  ·rw [hfree] at e;cases e
  ·rw [hfree] at hc;cases hc
 rcases hx with hk|hk
 ·refine wpAny_storeName_local hk hn (λh' hn' hs=>?_) hcls;obtain ⟨oL,_,_,hoL,_⟩:=id hn;refine h _ ⟨I.ok,I.os,I.bare,⟨λb o e n hb hx=>?_,λb o e n hb hx=>?_,I.base.free,λb o e hx=>?_,I.base.tups,I.base.frzs,I.base.tbls⟩,⟨_,hn',λj y v' e1 e2 e3=>?_⟩,λy c e=>?_,I.free,I.freeC,λp hp=>?_,tracked ⟨oL,hoL,I.free⟩ hs,by simpa using I.len⟩ ⟨_,hs,.inl rfl⟩
  ·exact (hs.2 b (u8 (v8 (y4 e) I.ok.above))).trans (I.base.keep b o e n hb hx)
  ·obtain ⟨sl,e1⟩:=I.base.slot b o e n hb hx;exact ⟨sl,(hs.2 b (u8 (v8 (y4 e) I.ok.above))).trans e1⟩
  ·obtain ⟨o',e1⟩:=I.base.there b o e hx;exact ⟨o',(hs.2 b (u8 (v8 (y4 e) I.ok.above))).trans e1⟩
  ·by_cases hj:j=i
   ·subst hj;rw [hi] at e1;cases e1;rw [List.getElem?_set_self hiσ] at e2;cases e2;exact ⟨u,r,.inl ⟨hk,by simp⟩⟩
   ·rw [List.getElem?_set_ne (Ne.symm hj)] at e2;obtain ⟨u',r',q⟩:=hl j y v' e1 e2 e3;refine ⟨u',r',?_⟩;rcases q with ⟨k,e⟩|⟨k,c,e,z⟩
    ·refine .inl ⟨k,?_⟩;have:y≠x:=λe=>hj (LW hN e1 (e▸hi));simp [this,e]
    ·exact .inr ⟨k,c,e,z.sameBut hs (cne y c e)⟩
  ·obtain ⟨w',z⟩:=I.cell y c e;exact ⟨w',z.sameBut hs (cne y c e)⟩
  ·obtain ⟨e,n,ne,nf,d⟩:=I.pin p hp;exact ⟨(hs.2 p.1 ne).trans e,n,ne,nf,d⟩
 ·have hfn:X.fn x=true:=by
   rcases hf with z|z
   ·exact z
   ·rw [z] at hk;cases hk
  obtain ⟨c,hc⟩:=I.ok.has x (.inl hk);obtain ⟨w',z⟩:=I.cell x c hc;refine wpAny_storeName_cell I.ok.kind hk hc z (λh' hc' hs=>?_);obtain ⟨oc,hoc,hocd⟩:=id z;refine h { s with heap:=h' } ⟨I.ok,I.os,I.bare,⟨λb o e n hb hx=>?_,λb o e n hb hx=>?_,I.base.free,λb o e hx=>?_,I.base.tups,I.base.frzs,I.base.tbls⟩,⟨m,hn.sameBut hs (Ne.symm (cne x c hc)),λj y v' e1 e2 e3=>?_⟩,λy c' e=>?_,I.free,I.freeC,λp hp=>?_,tracked ⟨oc,hoc,I.freeC x c hc⟩ hs,by simpa using I.len⟩ ⟨c,hs,.inr hc⟩
  ·exact (hs.2 b (u8 (v8 (y4 e) (I.ok.cab x c hfn hc)))).trans (I.base.keep b o e n hb hx)
  ·obtain ⟨sl,e1⟩:=I.base.slot b o e n hb hx;exact ⟨sl,(hs.2 b (u8 (v8 (y4 e) (I.ok.cab x c hfn hc)))).trans e1⟩
  ·obtain ⟨o',e1⟩:=I.base.there b o e hx;exact ⟨o',(hs.2 b (u8 (v8 (y4 e) (I.ok.cab x c hfn hc)))).trans e1⟩
  ·by_cases hj:j=i
   ·subst hj;rw [hi] at e1;cases e1;rw [List.getElem?_set_self hiσ] at e2;cases e2;exact ⟨u,r,.inr ⟨.inl hk,c,hc,hc'⟩⟩
   ·rw [List.getElem?_set_ne (Ne.symm hj)] at e2;obtain ⟨u',r',q⟩:=hl j y v' e1 e2 e3;refine ⟨u',r',?_⟩;rcases q with q|⟨k,c',e,z'⟩
    ·exact .inl q
    ·refine .inr ⟨k,c',e,z'.sameBut hs ?_⟩;rintro rfl;exact hj (LW hN e1 (I.ok.inj _ _ _ e hc▸hi))
  ·by_cases hcc:c'=c
   ·subst hcc;exact ⟨_,hc'⟩
   ·obtain ⟨w2,z2⟩:=I.cell y c' e;exact ⟨w2,z2.sameBut hs hcc⟩
  ·obtain ⟨e,n,ne,nf,d⟩:=I.pin p hp;refine ⟨(hs.2 p.1 ?_).trans e,n,ne,nf,d⟩;intro q;rw [q,hoc] at e;have q':oc=p.2:=Option.some.inj e;exact d w' (by rw [← q'];exact hocd)
def VO {M:Model} {A:Around} {E:Value->Shared->Prop} {i:Nat} {x:Str} {v:V} {u:Value} {Q:Unit->Shared->Prop} (I:Inv X pins σ H s) (hN:X.N.Nodup) (hi:X.N[i]?=some x) (hx:Loc X.env.scope x) (r:zE v u)
  (h:∀ s',Inv X pins (σ.set i (some v)) H s'->Q () s') (hf:X.fn x=true\/X.env.scope.names.lookup x=some .local:=by first|exact .inl rfl|exact .inr rfl|assumption):wpAny M A (storeName X.env x u) Q E s:=
 RX I hN hi hx r (λs' I' _=>h s' I') hf
def Inv.call' {s':Shared} {ch:List Addr} (I:Inv X pins σ H s) (ho:s'.os=s.os) (u:Un (frs X.stack) ch H H' s.heap s'.heap) (hok:HOk X.prog X.w H' s'.heap) (hg:AllBare s'.gens)
  (hch:∀ b∈ch,(b∈X.ex\/X.s₀.heap.objs.size<=b)/\b≠X.env.locals/\(∀ x c,X.env.cells.lookup x=some c->c≠b)/\∀ p∈X.pn++pins,p.1≠b):Inv X pins σ H' s':=by
 obtain ⟨h',g',d',t',o'⟩:=s';have e:o'=s.os:=ho;subst e;exact I.call (g':=g') (t':=t') (d':=d') u hok hg hch
end
abbrev XK:=Value->Option Addr->Hp->Prop
abbrev St:=List (Option V)
abbrev VK:=V->Hp->Prop
abbrev TE:=St->Hp->VK->Prop
abbrev TT:=St->Hp->(Bool->Hp->Prop)->Prop
abbrev TA:=St->Hp->(List V->Hp->Prop)->Prop
structure Ends where
 nx:St->Hp->Prop
 rt:VK
 bk:St->Hp->Prop:=λ_ _=>False
 ct:St->Hp->Prop:=λ_ _=>False
abbrev TS:=Ends->St->Hp->Prop
def EP (X:Cx) (pins:List (Addr×Obj)) (σ:St) (Q:VK) (u:Value) (s':Shared):Prop:=∃ v H',Inv X pins σ H' s'/\zE v u/\Q v H'
def TP (X:Cx) (pins:List (Addr×Obj)) (σ:St) (Q:Bool->Hp->Prop) (b:Bool) (s':Shared):Prop:=∃ H',Inv X pins σ H' s'/\Q b H'
def AP (X:Cx) (pins:List (Addr×Obj)) (σ:St) (Q:List V->Hp->Prop) (us:List Value) (s':Shared):Prop:=∃ vs H',Inv X pins σ H' s'/\qY vs us/\Q vs H'
def SP (X:Cx) (pins:List (Addr×Obj)) (D:Ends) (f:Flow) (s':Shared):Prop:=
 match f with
 |.next=>∃ σ' H',Inv X pins σ' H' s'/\D.nx σ' H'
 |.brk=>∃ σ' H',Inv X pins σ' H' s'/\D.bk σ' H'
 |.cont=>∃ σ' H',Inv X pins σ' H' s'/\D.ct σ' H'
 |.ret u=>∃ v σ' H',Inv X pins σ' H' s'/\zE v u/\D.rt v H'
def PE (X:Cx) (e:Expr) (t:TE):Prop:=
 ∀ (pins:List (Addr×Obj)) (s:Shared) (σ:St) (H:Hp) (Q:VK),Inv X pins σ H s->t σ H Q->wpAny (model X.prog X.w) X.A (eval e X.env) (EP X pins σ Q) X.xe s
def PT (X:Cx) (e:Expr) (t:TT):Prop:=
 ∀ (pins:List (Addr×Obj)) (s:Shared) (σ:St) (H:Hp) (Q:Bool->Hp->Prop),Inv X pins σ H s->t σ H Q->wpAny (model X.prog X.w) X.A (isTrue e X.env (eval e X.env)) (TP X pins σ Q) X.xe s
def PW (X:Cx) (e:Expr) (t:TT):Prop:=
 ∀ (whole:Sem Value) (pins:List (Addr×Obj)) (s:Shared) (σ:St) (H:Hp) (Q:Bool->Hp->Prop),Inv X pins σ H s->t σ H Q->wpAny (model X.prog X.w) X.A (isTrue e X.env whole) (TP X pins σ Q) X.xe s
def PW.pt {X:Cx} {e:Expr} {t:TT} (h:PW X e t):PT X e t:=h _
def PA (X:Cx) (es:List Expr) (t:TA):Prop:=
 ∀ (pos:Pos) (pins:List (Addr×Obj)) (s:Shared) (σ:St) (H:Hp) (Q:List V->Hp->Prop),Inv X pins σ H s->t σ H Q->wpAny (model X.prog X.w) X.A (spliced (backTo pos (starEach es X.env))) (AP X pins σ Q) X.xe s
def PS (X:Cx) (st:Stmt) (t:TS):Prop:=
 ∀ (pins:List (Addr×Obj)) (s:Shared) (σ:St) (H:Hp) (D:Ends),Inv X pins σ H s->t D σ H->wpAny (model X.prog X.w) X.A (exec st X.env) (SP X pins D) X.xe s
def PSs (X:Cx) (st:List Stmt) (t:TS):Prop:=
 ∀ (pins:List (Addr×Obj)) (s:Shared) (σ:St) (H:Hp) (D:Ends),Inv X pins σ H s->t D σ H->wpAny (model X.prog X.w) X.A (execs st X.env) (SP X pins D) X.xe s
def thn {α:Type} {t:Sem α} {Q Q':α->Shared->Prop} {M:Model} {A:Around} {E:Value->Shared->Prop} {s:Shared} (h:wpAny M A t Q E s) (hQ:∀ a s,Q a s->Q' a s):wpAny M A t Q' E s:=y0 h hQ λ_ _ x=>x
section
variable {X:Cx}
def qoY (i:Nat):TE:=λσ H Q=>∃ v,σ[i]?=some (some v)/\Q v H
def tC (v:V):TE:=λ_ H Q=>Q v H
def qix {i:Nat} {x:Str} {pos:Pos} (hN:X.N[i]?=some x) (hv:Vis X.env.scope x) (hd:(x==("__debug__" : Str))=false:=by decide) (hcd:(x==("__classdict__" : Str))=false:=by decide):PE X (.Name x pos) (qoY i):=by
 intro pins s σ H Q I h;obtain ⟨v,e,h⟩:=h;obtain ⟨m,hn,hl⟩:=I.loc;obtain ⟨u,r,l⟩:=hl i x v hN e hv;have fin:EP X pins σ Q u s:=⟨v,H,I,r,h⟩
 rcases l with ⟨hk,hm⟩|⟨hk,c,hc,hcell⟩
 ·exact wpAny_Name (wpAny_loadName_local I.ok.kind hk hn hm fin) hd
 ·rcases hk with hk|hk
  ·exact wpAny_Name (wpAny_loadName_cell I.ok.kind hk hc hcell fin) hd
  ·exact wpAny_Name (wpAny_loadName_free I.ok.kind hk hc hcell fin hcd) hd
def qji {i j pos}:PE X (.Constant (.int i) j pos) (tC (.int i)):=λ_ _ _ H _ I h=>wpAny_Constant_int ⟨.int i,H,I.tok _,⟨_,rfl⟩,h⟩
def qni {b j pos}:PE X (.Constant (.bool b) j pos) (tC (.bl b)):=λ_ _ _ H _ I h=>Constant_bool ⟨.bl b,H,I,rfl,h⟩
def qiA {j pos}:PE X (.Constant .none j pos) (tC .non):=λ_ _ _ H _ I h=>Constant_none ⟨.non,H,I,rfl,h⟩
def qky {x j pos}:PE X (.Constant (.str x) j pos) (tC (.str x)):=λ_ _ _ H _ I h=>Calls.Constant_str ⟨.str x,H,I.tok _,⟨_,rfl⟩,h⟩
def Gl (X:Cx) (x:Str):Prop:=X.env.kindOf x=some .globalImplicit
def qaF {E:Value->Shared->Prop} {pins:List (Addr×Obj)} {s:Shared} {σ:St} {H:Hp} {x:Str} {u:Value} {pos:Pos} {Q:Value->Shared->Prop} (I:Inv X pins σ H s) (hg:Gl X x) (hm:X.mg x=some u) (h:Q u s)
  (hd:(x==("__debug__" : Str))=false:=by decide):wpAny (model X.prog X.w) X.A (eval (.Name x pos) X.env) Q E s:=
 Calls.Name_function_global I.ok.kind hg (Calls.loadGlobal_global (by rw [I.ok.glob];exact I.mod.glob.keeps I.bk) hm h) hd
def VB {E:Value->Shared->Prop} {pins:List (Addr×Obj)} {s:Shared} {σ:St} {H:Hp} {x:Str} {u:Value} {pos:Pos} {Q:Value->Shared->Prop} (I:Inv X pins σ H s) (hg:Gl X x) (hm:X.mg x=none) (hv:bootBuiltins x=some u) (h:Q u s)
  (hn:x≠"__name__" := by decide) (hd:(x==("__debug__" : Str))=false:=by decide):wpAny (model X.prog X.w) X.A (eval (.Name x pos) X.env) Q E s:=by
 obtain ⟨mb,h1,h2⟩:=I.mod.blt;exact Calls.Name_function_global I.ok.kind hg (Calls.loadGlobal_builtin (by rw [I.ok.glob];exact I.mod.glob.keeps I.bk) hm (by rw [I.ok.blt];exact h1.keeps I.bk) ((h2 x hn).trans hv) h) hd
def KA {x:Str} {v:V} {u:Value} {pos:Pos} (hg:Gl X x) (hm:X.mg x=none) (hv:bootBuiltins x=some u) (r:zE v u) (hn:x≠"__name__" := by decide) (hd:(x==("__debug__" : Str))=false:=by decide):PE X (.Name x pos) (tC v):=
 λ_ _ _ H _ I h=>VB I hg hm hv ⟨v,H,I,r,h⟩ hn hd
variable {a b:Expr} {ta tb:TE} {pos:Pos}
def tB (t:TE):TT:=λσ H Q=>t σ H λx H1=>∃ c,x=.bl c/\Q c H1
def qj8 {e:Expr} {t:TE} (h:PE X e t) (he:∀ whole,isTrue e X.env whole=(do let v←whole;standAt e.pos;holding [v] (truthy v)):=by intro _;rfl):PT X e (tB t):=by
 intro pins s σ H Q I hw;refine isTrue_plain (thn (h pins s σ H _ I hw) λv s1 ⟨x,H1,I1,r1,q1⟩=>?_) (he _);obtain ⟨d,rfl,q⟩:=q1;cases r1;exact wpAny_truthy_bool ⟨H1,I1,q⟩
variable {tA tB':TT} {JD:List Expr}
def qoG (t u:TT):TT:=λσ H Q=>t σ H λc H1=>if c=true then u σ H1 Q else Q false H1
def tOr (t u:TT):TT:=λσ H Q=>t σ H λc H1=>if c=true then Q true H1 else u σ H1 Q
def qoE (t:TT):TT:=λσ H Q=>t σ H λc H1=>Q (!c) H1
def qg1 (ha:PT X a tA):PW X (.BoolOp .And [a] pos) tA:=by
 intro wh pins s σ H Q I h;refine isTrue_and (thn (ha pins s σ H Q I h) λc s1 e=>?_);cases c with
 |true=>exact isTrue_and_nil e
 |false=>exact e
def qlH (ha:PT X a tA):PW X (.BoolOp .Or [a] pos) tA:=by
 intro wh pins s σ H Q I h;refine isTrue_or (thn (ha pins s σ H Q I h) λc s1 e=>?_);cases c with
 |false=>exact isTrue_or_nil e
 |true=>exact e
def qlx (ha:PT X a tA) (hb:PW X (.BoolOp .And (b::JD) pos) tB'):PW X (.BoolOp .And (a::b::JD) pos) (qoG tA tB'):=by
 intro wh pins s σ H Q I h;refine isTrue_and (thn (ha pins s σ H _ I h) λc s1 ⟨H1,I1,q1⟩=>?_);cases c with
 |true=>exact hb wh pins s1 σ H1 Q I1 q1
 |false=>exact ⟨H1,I1,q1⟩
def qnF (ha:PT X a tA) (hb:PW X (.BoolOp .Or (b::JD) pos) tB'):PW X (.BoolOp .Or (a::b::JD) pos) (tOr tA tB'):=by
 intro wh pins s σ H Q I h;refine isTrue_or (thn (ha pins s σ H _ I h) λc s1 ⟨H1,I1,q1⟩=>?_);cases c with
 |true=>exact ⟨H1,I1,q1⟩
 |false=>exact hb wh pins s1 σ H1 Q I1 q1
def qlI (ha:PT X a tA):PT X (.UnaryOp .Not a pos) (qoE tA):=by
 intro pins s σ H Q I h;exact isTrue_not (ha pins s σ H (λc H1=>Q (!c) H1) I h)
def qmQ (ta tb:TE):TE:=λσ H Q=>ta σ H λx H1=>∃ c,x=.bl c/\if c=true then tb σ H1 Q else Q (.bl false) H1
def ql7 (ta:TE):TE:=λσ H Q=>ta σ H λx H1=>∃ c,x=.bl c/\Q (.bl (!c)) H1
def qla {op} {t:TE} (h:PE X a t):PE X (.BoolOp op [a] pos) t:=λpins s σ H Q I hw=>BoolOp_one (h pins s σ H Q I hw)
def qih (ha:PE X a ta) (hb:PE X (.BoolOp .And (b::JD) pos) tb):PE X (.BoolOp .And (a::b::JD) pos) (qmQ ta tb):=by
 intro pins s σ H Q I h;refine BoolOp_and (thn (ha pins s σ H _ I h) λv s1 ⟨x,H1,I1,r1,q1⟩=>?_);obtain ⟨c,rfl,q1⟩:=q1;cases r1;refine wpAny_truthy_bool ?_;cases c with
 |true=>exact hb pins s1 σ H1 Q I1 q1
 |false=>exact ⟨.bl false,H1,I1,rfl,q1⟩
def qj2 (ha:PE X a ta):PE X (.UnaryOp .Not a pos) (ql7 ta):=by
 intro pins s σ H Q I h;refine UnaryOp_ (thn (ha pins s σ H _ I h) λv s1 ⟨x,H1,I1,r1,q1⟩=>?_);obtain ⟨c,rfl,q1⟩:=q1;cases r1;exact not_of (wpAny_truthy_bool ⟨.bl (!c),H1,I1,rfl,q1⟩)
def tIf (t:TT) (ta tb:TE):TE:=λσ H Q=>t σ H λc H1=>if c=true then ta σ H1 Q else tb σ H1 Q
def qdC {c:Expr} (hc:PT X c tA) (ha:PE X a ta) (hb:PE X b tb):PE X (.IfExp c a b pos) (tIf tA ta tb):=by
 intro pins s σ H Q I h;refine wpAny_IfExp (thn (hc pins s σ H _ I h) λd s1 ⟨H1,I1,q1⟩=>?_);cases d with
 |true=>exact ha pins s1 σ H1 Q I1 q1
 |false=>exact hb pins s1 σ H1 Q I1 q1
end
def SqL (K:Frg) (H:Hp) (a:Addr) (xs:List V):Prop:=
 Rd H a (.lst xs) ∨
  ∃ (o:Obj) (its:Array Value) (n:Nat),K.lookup a=some o/\o.cls=.type "list"/\o.dict=none/\o.data=.seq its n/\its.size<=sizeLine/\qY xs its.toList
def SqT (K:Frg) (H:Hp) (a:Addr) (xs:List V):Prop:=
 Rd H a (.tup xs) ∨
  ∃ (o:Obj) (its:Array Value) (n:Nat),K.lookup a=some o/\o.cls=.type "tuple"/\o.data=.seq its n/\its.size<=sizeLine/\qY xs its.toList/\o.dict=none
def qoS:Value->Option V
 |.none=>some .non
 |.bool b=>some (.bl b)
 |.int i _=>some (.int i)
 |.str x _=>some (.str x)
 |.bytes b _=>some (.byt b)
 |.float b _=>some (.flt b)
 |.ref a=>some (.ref a)
 |.type n=>some (.ty n)
 |_=>none
def zE.abs {x:V} {u:Value} (r:zE x u):qoS u=some x:=by
 cases x with
 |non=>cases r;rfl
 |bl _=>cases r;rfl
 |int _=>obtain ⟨t,rfl⟩:=r;rfl
 |str _=>obtain ⟨t,rfl⟩:=r;rfl
 |byt _=>obtain ⟨t,rfl⟩:=r;rfl
 |flt _=>obtain ⟨t,rfl⟩:=r;rfl
 |ref _=>cases r;rfl
 |ty _=>cases r;rfl
theorem zE.inj {x y:V} {u:Value} (r:zE x u) (q:zE y u):x=y:=Option.some.inj (r.abs.symm.trans q.abs)
theorem qY.inj:∀ {xs ys:List V} {us:List Value},qY xs us->qY ys us->xs=ys
 |_,_,_,.nil,.nil=>rfl
 |_,_,_,.cons r t,.cons r' t'=>by rw [r.inj r',qY.inj t t']
section
variable {X:Cx} {pins:List (Addr×Obj)} {σ:St} {H:Hp} {s:Shared} {a:Addr} {xs ys:List V}
def SqL.of {K:Frg} (h:H a=some (.lst xs)):SqL K H a xs:=.inl (.inl h)
def SqT.of {K:Frg} (h:H a=some (.tup xs)):SqT K H a xs:=.inl (.inl h)
def Inv.list (I:Inv X pins σ H s) (h:SqL X.K H a xs):∃ its:List Value,qY xs its/\PlainL s.heap a its.toArray/\xs.length<=sizeLine:=by
 rcases h with h|⟨o,its,n,hk,hc,hd,hs,hz,r⟩
 ·obtain ⟨z,its,n,r,e⟩:=h.ok I.hok;exact ⟨its,r,⟨_,n,e,rfl,rfl,rfl⟩,z⟩
 ·refine ⟨its.toList,r,⟨o,n,I.kIn a o hk,hc,hd,by simpa using hs⟩,?_⟩;have e:=r.length;simp only [Array.length_toList] at e;omega
def Inv.tuple (I:Inv X pins σ H s) (h:SqT X.K H a xs):∃ its:List Value,qY xs its/\IsTup s.heap a its.toArray/\xs.length<=sizeLine:=by
 rcases h with h|⟨o,its,n,hk,hc,hs,hz,r,_⟩
 ·obtain ⟨z,its,r,p⟩:=h.ok I.hok;exact ⟨its,r,p.tup,z⟩
 ·refine ⟨its.toList,r,⟨o,I.kIn a o hk,hc,n,by simpa using hs⟩,?_⟩;have e:=r.length;simp only [Array.length_toList] at e;omega
def Inv.list_inj (I:Inv X pins σ H s) (h:SqL X.K H a xs) (h':SqL X.K H a ys):xs=ys:=by
 obtain ⟨its,r,⟨o,n,e,_,_,d⟩,_⟩:=I.list h;obtain ⟨its',r',⟨o',n',e',_,_,d'⟩,_⟩:=I.list h';rw [e] at e';cases e';rw [d] at d';injection d' with d1 _;have:its=its':=by simpa using congrArg Array.toList d1
 subst this;exact r.inj r'
def Inv.tuple_inj (I:Inv X pins σ H s) (h:SqT X.K H a xs) (h':SqT X.K H a ys):xs=ys:=by
 obtain ⟨its,r,⟨o,e,_,n,d⟩,_⟩:=I.tuple h;obtain ⟨its',r',⟨o',e',_,n',d'⟩,_⟩:=I.tuple h';rw [e] at e';cases e';rw [d] at d';injection d' with d1 _;have:its=its':=by simpa using congrArg Array.toList d1
 subst this;exact r.inj r'
end
abbrev Cx.wish (X:Cx) (E:Value->Shared->Prop):Cx:={ X with xe:=E }
abbrev Cx.nox (X:Cx):Cx:=X.wish λ_ _=>False
theorem Cx.Ok.wish {X:Cx} (ok:X.Ok) (E:Value->Shared->Prop):(X.wish E).Ok:=
 ⟨ok.mod,ok.kind,ok.glob,ok.blt,ok.above,ok.inj,ok.has,ok.cab,ok.hd,ok.frames,ok.stk,ok.exf,ok.bs,ok.bsz,ok.noex,ok.exfs,ok.funs,ok.frf⟩
def Cx.Ok.unwish {X:Cx} {E:Value->Shared->Prop} (ok:(X.wish E).Ok):X.Ok:=
 ⟨ok.mod,ok.kind,ok.glob,ok.blt,ok.above,ok.inj,ok.has,ok.cab,ok.hd,ok.frames,ok.stk,ok.exf,ok.bs,ok.bsz,ok.noex,ok.exfs,ok.funs,ok.frf⟩
section
variable {X:Cx} {pins:List (Addr×Obj)} {σ:St} {H:Hp} {s:Shared} {E:Value->Shared->Prop}
theorem Inv.wish (I:Inv X pins σ H s) (E:Value->Shared->Prop):Inv (X.wish E) pins σ H s:=⟨I.ok.wish E,I.os,I.bare,I.base,I.loc,I.cell,I.free,I.freeC,I.pin,I.hok,I.len⟩
theorem Inv.unwish (I:Inv (X.wish E) pins σ H s):Inv X pins σ H s:=⟨I.ok.unwish,I.os,I.bare,I.base,I.loc,I.cell,I.free,I.freeC,I.pin,I.hok,I.len⟩
theorem SP.unwish {D:Ends} {f:Flow} {s':Shared} (h:SP (X.wish E) pins D f s'):SP X pins D f s':=by
 cases f with
 |next=>obtain ⟨σ',H',I,q⟩:=h;exact ⟨σ',H',I.unwish,q⟩
 |brk=>obtain ⟨σ',H',I,q⟩:=h;exact ⟨σ',H',I.unwish,q⟩
 |cont=>obtain ⟨σ',H',I,q⟩:=h;exact ⟨σ',H',I.unwish,q⟩
 |ret u=>obtain ⟨v,σ',H',I,r,q⟩:=h;exact ⟨v,σ',H',I.unwish,r,q⟩
theorem PSs.nox {st:List Stmt} {t:TS} (h:PSs X.nox st t):PSs X st t:=λpins s σ H D I hw=>
 y0 (h pins s σ H D (I.wish _) hw) (λ_ _ q=>q.unwish) λ_ _ z=>False.elim z
end
section
variable {X:Cx} {st:Stmt} {JD:List Stmt} {t u:TS} {e:Expr} {te:TE} {pos:Pos}
def qm0:TS:=λD σ H=>D.nx σ H
def qoI (t u:TS):TS:=λD σ H=>t { D with nx:=u D } σ H
def qgT:PSs X [] qm0:=λ_ _ σ H _ I h=>wpAny_execs_nil ⟨σ,H,I,h⟩
def qdL (h1:PS X st t) (h2:PSs X JD u):PSs X (st::JD) (qoI t u):=by
 intro pins s σ H D I h;refine wpAny_execs_cons (thn (h1 pins s σ H { D with nx:=u D } I h) λf s1 q=>?_);cases f with
 |next=>
  obtain ⟨σ',H',I',q⟩:=q;exact h2 pins s1 σ' H' D I' q
 |ret v=>exact q
 |brk=>exact q
 |cont=>exact q
def qgN (h1:PS X st t):PSs X [st] t:=by
 intro pins s σ H D I h;refine wpAny_execs_cons (thn (h1 pins s σ H D I h) λf s1 q=>?_);cases f with
 |next=>exact wpAny_execs_nil q
 |ret v=>exact q
 |brk=>exact q
 |cont=>exact q
def Inv.quiet {pins:List (Addr×Obj)} {σ:St} {H:Hp} {s:Shared} (I:Inv X pins σ H s):interactive X.env=false:=by simp [interactive,I.ok.kind]
def qnH (te:TE):TS:=λD σ H=>te σ H λ_ H1=>D.nx σ H1
def qhH (he:PE X e te) (hs:swapsWith e none pos.line X.env=pure false:=by rfl):PS X (.Expr e pos) (qnH te):=by
 intro pins s σ H D I h;exact wpAny_Expr_any (thn (he pins s σ H _ I h) λv s1 ⟨x,H1,I1,r1,q1⟩=>⟨σ,H1,I1,q1⟩) I.quiet hs
def qoC (te:TE):TS:=λD σ H=>te σ H D.rt
def qiW (he:PE X e te):PS X (.Return (some e) pos) (qoC te):=by
 intro pins s σ H D I h;exact wpAny_Return_some (thn (he pins s σ H _ I h) λv s1 ⟨x,H1,I1,r1,q1⟩=>⟨x,σ,H1,I1,r1,q1⟩)
def qov (c:TT) (t u:TS):TS:=λD σ H=>c σ H λb H1=>if b=true then t D σ H1 else u D σ H1
def ql6 {c:Expr} {a b:List Stmt} {tc:TT} (hc:PT X c tc) (ha:PSs X a t) (hb:PSs X b u):PS X (.If c a b pos) (qov tc t u):=by
 intro pins s σ H D I h;refine wpAny_If (thn (hc pins s σ H _ I h) λd s1 ⟨H1,I1,q1⟩=>?_);cases d with
 |true=>exact ha pins s1 σ H1 D I1 q1
 |false=>exact hb pins s1 σ H1 D I1 q1
end
abbrev TG:=V->St->Hp->(St->Hp->Prop)->Prop
abbrev TGs:=List V->St->Hp->(St->Hp->Prop)->Prop
def PG (X:Cx) (target:Expr) (t:TG):Prop:=
 ∀ (pins:List (Addr×Obj)) (s:Shared) (σ:St) (H:Hp) (v:V) (u:Value) (Q:St->Hp->Prop),Inv X pins σ H s->zE v u->t v σ H Q ->
  wpAny (model X.prog X.w) X.A (assign target X.env u) (λ_ s'=>∃ σ' H',Inv X pins σ' H' s'/\Q σ' H') X.xe s
def PGs (X:Cx) (ts:List Expr) (t:TGs):Prop:=
 ∀ (pins:List (Addr×Obj)) (s:Shared) (σ:St) (H:Hp) (vs:List V) (us:List Value) (Q:St->Hp->Prop),Inv X pins σ H s->qY vs us->t vs σ H Q ->
  wpAny (model X.prog X.w) X.A (assignInOrder ((assignEach ts X.env).map (·.2)) us) (λ_ s'=>∃ σ' H',Inv X pins σ' H' s'/\Q σ' H') X.xe s
abbrev qmT:=V->V->V->Hp->(Hp->Prop)->Prop
def qnR (X:Cx) (t:qmT):Prop:=
 ∀ (pins:List (Addr×Obj)) (s:Shared) (σ:St) (H:Hp) (o i v:V) (ov iv u:Value) (Q:Hp->Prop),Inv X pins σ H s->zE o ov->zE i iv->zE v u->t o i v H Q ->
  wpAny (model X.prog X.w) X.A (setItem ov iv u) (λ_ s'=>∃ H',Inv X pins σ H' s'/\Q H') X.xe s
abbrev TIp:=V->V->Hp->VK->Prop
def PIp (X:Cx) (op:Operator) (t:TIp):Prop:=
 ∀ (pins:List (Addr×Obj)) (s:Shared) (σ:St) (H:Hp) (x y:V) (v u:Value) (Q:VK),Inv X pins σ H s->zE x v->zE y u->t x y H Q ->
  wpAny (model X.prog X.w) X.A (inplaceOp op v u) (EP X pins σ Q) X.xe s
section
variable {X:Cx} {pos:Pos}
def qgh (i:Nat):TG:=λv σ H Q=>Q (σ.set i (some v)) H
def qhE {i:Nat} {x:Str} (hN:X.N.Nodup) (hi:X.N[i]?=some x) (hx:Loc X.env.scope x) (hf:X.fn x=true\/X.env.scope.names.lookup x=some .local:=by first|exact .inl rfl|exact .inr rfl|assumption):PG X (.Name x pos) (qgh i):=by
 intro pins s σ H v u Q I r h;exact wpAny_assign_Name (VO I hN hi hx r (λs' I'=>⟨_,H,I',h⟩) hf)
def qaq:TGs:=λvs σ H Q=>vs=[]/\Q σ H
def QM (t:TG) (u:TGs):TGs:=λvs σ H Q=>∃ v r,vs=v::r/\t v σ H λσ' H'=>u r σ' H' Q
def qgn:PGs X [] qaq:=by
 intro pins s σ H vs us Q I r h;obtain ⟨e,h⟩:=h;subst e;cases r;exact assignInOrder_nil ⟨σ,H,I,h⟩
def qdb {e:Expr} {es:List Expr} {t:TG} {u:TGs} (h1:PG X e t) (h2:PGs X es u)
  (hs:(assignEach (e::es) X.env).map (·.2)=assign e X.env::(assignEach es X.env).map (·.2):=by rfl):PGs X (e::es) (QM t u):=by
 intro pins s σ H vs us Q I r h;obtain ⟨v,vr,e1,h⟩:=h;subst e1;cases r with
 |cons r rr=>
  rw [hs];refine assignInOrder_cons (thn (h1 pins s σ H _ _ _ I r h) λ_ s1 ⟨σ1,H1,I1,q1⟩=>?_);exact h2 pins s1 σ1 H1 _ _ Q I1 rr q1
def qby (K:Frg) (n:Nat) (t:TGs):TG:=λv σ H Q=>∃ a xs,v=.ref a/\SqT K H a xs/\xs.length=n/\t xs σ H Q
def qkZ {es:List Expr} {k:Nat} {t:TGs} {n:Nat} (hc:X.calm=true) (h:PGs X es t)
  (hn:(assignEach es X.env).length=n:=by rfl) (hst:(assignEach es X.env).findIdx? (·.1)=none:=by rfl):PG X (.Tuple es k pos) (qby X.K n t):=by
 intro pins s σ H v u Q I r hw;obtain ⟨a,xs,e1,hq,hl,hw⟩:=hw;subst e1;cases r;obtain ⟨its,rv,ht,hz⟩:=I.tuple hq;refine assign_Tuple_tuple (I.ok.hd hc) ht (by simp [hn,← hl,rv.length]) hst λh' hx=>?_;have I1:Inv X pins σ H { s with heap:=h' }:=I.kept (t':=s.toks) λb o e=>hx b o (u8 (y4 e)) e;exact h pins _ σ H xs _ Q I1 (by simpa using rv) hw
def qoJ (to ti:TE) (t:qmT):TG:=λv σ H Q=>to σ H λo H1=>ti σ H1 λi H2=>t o i v H2 λH3=>Q σ H3
def qiz {o i:Expr} {to ti:TE} {t:qmT} (ho:PE X o to) (hi:PE X i ti) (hs:qnR X t)
  (ha:∀ v,assign (.Subscript o i pos) X.env v=(do
   let ov←holding [v] (eval o X.env)
   let iv←holding [v,ov] (eval i X.env)
   standAt pos
   holding [v,ov,iv] (setItem ov iv v)
   release [v,ov,iv] []):=by intro _;rfl):PG X (.Subscript o i pos) (qoJ to ti t):=by
 intro pins s σ H v u Q I r h;rw [ha];refine x8 (wpAny_holding (thn (ho pins s σ H _ I h) λov s1 ⟨x,H1,I1,r1,q1⟩=>?_));refine x8 (wpAny_holding (thn (hi pins s1 σ H1 _ I1 q1) λiv s2 ⟨y,H2,I2,r2,q2⟩=>?_));refine x8 (wpAny_standAt (x8 (wpAny_holding (thn (hs pins s2 σ H2 x y v ov iv u _ I2 r1 r2 r q2) λ_ s3 ⟨H3,I3,q3⟩=>?_))));exact wpAny_release ⟨σ,H3,I3,q3⟩
def qmH (te:TE) (g:TG):TS:=λD σ H=>te σ H λx H1=>g x σ H1 D.nx
def qkW {tg e:Expr} {te:TE} {g:TG} (he:PE X e te) (hg:PG X tg g) (hs:swapsWithSole [tg] e pos.line X.env=pure false:=by rfl) (hw:swappedStores [tg] e X.env=pure none:=by rfl)
  (h1:(assignEach [tg] X.env).map (·.2)=[assign tg X.env]:=by rfl):PS X (.Assign [tg] e pos) (qmH te g):=by
 intro pins s σ H D I h;refine wpAny_Assign_stores (thn (he pins s σ H _ I h) λv s1 ⟨x,H1,I1,r1,q1⟩=>?_) hs hw;rw [h1];exact thn (hg pins s1 σ H1 x v _ I1 r1 q1) λ_ s2 q=>q
def qkj {i:Nat} {x:Str} {e:Expr} {te:TE} {pos':Pos} (hN:X.N.Nodup) (hi:X.N[i]?=some x) (hx:Loc X.env.scope x) (he:PE X e te) (hs:swapsWith e (some (.Name x pos')) pos.line X.env=pure false:=by rfl) (hf:X.fn x=true\/X.env.scope.names.lookup x=some .local:=by first|exact .inl rfl|exact .inr rfl|assumption) :
  PS X (.Assign [.Name x pos'] e pos) (qmH te (qgh i)):=by
 intro pins s σ H D I h;refine wpAny_Assign_Name (thn (he pins s σ H _ I h) λv s1 ⟨y,H1,I1,r1,q1⟩=>?_) hs;exact VO I1 hN hi hx r1 (λs2 I2=>⟨_,H1,I2,q1⟩) hf
def qo1 (i j:Nat) (ta:TA):TS:=λD σ H=>ta σ H λvs H1=>∃ v w,vs=[v,w]/\D.nx ((σ.set i (some v)).set j (some w)) H1
def qiM {i j:Nat} {x y:Str} {a b:Expr} {ta:TA} {px py pt:Pos} {kt k2 pt2} (hc:X.calm=true) (hN:X.N.Nodup) (hi:X.N[i]?=some x) (hj:X.N[j]?=some y) (hij:i≠j)
  (hx:X.env.scope.names.lookup x=some .local) (hy:X.env.scope.names.lookup y=some .local) (ha:PA X [a,b] ta)
  (hw:swappedStores [.Tuple [.Name x px,.Name y py] kt pt] (.Tuple [a,b] k2 pt2) X.env=pure (some [x,y]))
  (hs:swapsWithSole [.Tuple [.Name x px,.Name y py] kt pt] (.Tuple [a,b] k2 pt2) pos.line X.env=pure false:=by rfl) :
  PS X (.Assign [.Tuple [.Name x px,.Name y py] kt pt] (.Tuple [a,b] k2 pt2) pos) (qo1 i j ta):=by
 intro pins s σ H D I h;rw [exec_Assign_arm];refine x8 (wpAny_standAt ?_);rw [hs];refine x8 (x9 ?_);rw [if_neg (by decide)];refine x8 (Tuple_ (thn (ha _ pins s σ H _ I h) λus s1 ⟨vs,H1,I1,r1,q1⟩=>?_));obtain ⟨v,w,e1,q1⟩:=q1;subst e1;obtain ⟨u1,u2,rfl,rv,rw'⟩:∃ u1 u2,us=[u1,u2]/\zE v u1/\zE w u2:=by
  cases r1 with
  |cons p q=>
   cases q with
   |cons p' q'=>
    cases q';exact ⟨_,_,rfl,p,p'⟩
 refine wpAny_newObj_type ?_ (by show 2<=sizeLine;decide);have I2:Inv X pins σ H1 { s1 with heap:=s1.heap.push { cls:=.type "tuple",data:=.seq [u1,u2].toArray } }:=I1.kept (t':=s1.toks) λb o e=>y2 _ e;rw [hw];refine x8 (x9 ?_);show wpAny (model X.prog X.w) X.A (do rule "assign.swapped-stores";let items←unpackItems (.ref s1.heap.objs.size) 2 none;assignInOrder [λv=>bindName X.env y v,λv=>bindName X.env x v] items.reverse;pure Flow.next) _ _ _;refine x8 (wpAny_rule (x8 (unpackItems_tuple (items:=#[u1,u2]) (I.ok.hd hc) (IsTup.new s1.heap _) λh' hx'=>?_)));have I3:=I2.kept (h':=h') (t':=s1.toks) λb o e=>hx' b o (u8 (y4 e)) e;show wpAny _ _ (assignInOrder [λv=>bindName X.env y v,λv=>bindName X.env x v] [u2,u1] >>= λ_=>pure Flow.next) _ _ _;refine x8 (assignInOrder_cons (wpAny_bindName (VO I3 hN hj (.inl hy) rw' (λs2 I4=>?_) (.inr hy))));refine assignInOrder_cons (wpAny_bindName (VO I4 hN hi (.inl hx) rv (λs3 I5=>assignInOrder_nil (x9 ?_)) (.inr hx)));rw [List.set_comm _ _ (Ne.symm hij)] at I5;exact ⟨_,H1,I5,q1⟩
def qox (i:Nat) (te:TE) (ti:TIp):TS:=λD σ H=>∃ x,σ[i]?=some (some x)/\te σ H λy H1=>ti x y H1 λz H2=>D.nx (σ.set i (some z)) H2
def qld {i:Nat} {x:Str} {e:Expr} {te:TE} {op:Operator} {ti:TIp} {pos':Pos} (hN:X.N.Nodup) (hi:X.N[i]?=some x) (hx:Loc X.env.scope x) (he:PE X e te) (ho:PIp X op ti) (hf:X.fn x=true\/X.env.scope.names.lookup x=some .local:=by first|exact .inl rfl|exact .inr rfl|assumption) :
  PS X (.AugAssign (.Name x pos') op e pos) (qox i te ti):=by
 intro pins s σ H D I h;obtain ⟨v,e1,h⟩:=h;obtain ⟨m,hn,hl⟩:=I.loc;have vis:Vis X.env.scope x:=by rcases hx with k|k;exact .inl k;exact .inr (.inl k)
 obtain ⟨u,r,l⟩:=hl i x v hi e1 vis;refine wpAny_AugAssign_Name ?_;have go:wpAny (model X.prog X.w) X.A (eval e X.env) (λw s₂=>wpAny (model X.prog X.w) X.A (inplaceOp op u w) (λr s₃=>wpAny (model X.prog X.w) X.A (storeName X.env x r) (λ_=>SP X pins D .next) X.xe s₃) X.xe s₂) X.xe s:=by
  refine thn (he pins s σ H _ I h) λw s1 ⟨y,H1,I1,r1,q1⟩=>?_;refine thn (ho pins s1 σ H1 v y u w _ I1 r r1 q1) λz s2 ⟨zv,H2,I2,r2,q2⟩=>?_;exact VO I2 hN hi hx r2 (λs3 I3=>⟨_,H2,I3,q2⟩) hf
 rcases l with ⟨hk,hm⟩|⟨hk,c,hc,hcell⟩
 ·exact wpAny_loadName_local I.ok.kind hk hn hm go
 ·rcases hk with hk|hk
  ·exact wpAny_loadName_cell I.ok.kind hk hc hcell go
  ·rcases hx with k|k
   ·have:X.env.scope.names.lookup x=some .free:=hk;rw [k] at this;cases this
   ·have:X.env.scope.names.lookup x=some .free:=hk;rw [k] at this;cases this
def ipI (f:Int->Int->Int):TIp:=λx y H Q=>∃ i j,x=.int i/\y=.int j/\Q (.int (f i j)) H
def qk2:PIp X .Add (ipI λi j=>i+j):=by
 intro pins s σ H x y v u Q I r1 r2 h;obtain ⟨i,j,e1,e2,q⟩:=h;subst e1;subst e2;obtain ⟨t,rfl⟩:=r1;obtain ⟨t',rfl⟩:=r2;exact iadd_int ⟨.int _,H,I.tok _,⟨_,rfl⟩,q⟩
end
section
variable {X:Cx} {pos:Pos}
def qkY (c:TT) (tb:TS):TS:=λD σ H=>∃ W:Nat->St->Hp->Prop,(∃ m,W m σ H)/\∀ m σ H,W m σ H ->
 c σ H λb H1=>if b=true then ∃ N:St->Hp->Prop,(∀ σ' H',N σ' H'->∃ m',m'<m/\W m' σ' H')/\tb { D with nx:=N,ct:=N,bk:=D.nx } σ H1 else D.nx σ H1
def qc0 {c:Expr} {body:List Stmt} {tc:TT} {tb:TS} (hp:PassesOwn (model X.prog X.w) X.A X.env X.xe) (hc:PT X c tc) (hb:PSs X body tb):PS X (.While c body [] pos) (qkY tc tb):=by
 intro pins s σ H D I h;obtain ⟨W,⟨m0,w0⟩,turn⟩:=h;refine wpAny_While (codeAny_whileLoop (λn s'=>∃ σ' H',Inv X pins σ' H' s'/\W n σ' H') ?_ m0 ⟨σ,H,I,w0⟩);rintro n s1 ⟨σ1,H1,I1,w1⟩;refine wpAny_passesOwn hp (thn (hc pins s1 σ1 H1 _ I1 (turn n σ1 H1 w1)) λb s2 ⟨H2,I2,q2⟩=>?_);cases b with
 |true=>
  obtain ⟨N,hN,q2⟩:=q2;rw [if_pos rfl];refine wpAny_passesOwn hp (thn (hb pins s2 σ1 H2 _ I2 q2) λf s3 q3=>?_);cases f with
  |next=>
   obtain ⟨σ3,H3,I3,n3⟩:=q3;obtain ⟨m',hm,w3⟩:=hN σ3 H3 n3;exact ⟨m',hm,σ3,H3,I3,w3⟩
  |cont=>
   obtain ⟨σ3,H3,I3,n3⟩:=q3;obtain ⟨m',hm,w3⟩:=hN σ3 H3 n3;exact ⟨m',hm,σ3,H3,I3,w3⟩
  |brk=>exact q3
  |ret v=>exact q3
 |false=>
  rw [if_neg y6];exact wpAny_execs_nil ⟨σ1,H2,I2,q2⟩
end
structure It where
 go:Nat->Hp->Prop
 yld:Nat->Hp->V->Hp->Prop
 stop:Nat->Hp->Prop
def KC (X:Cx) (pins:List (Addr×Obj)) (H:Hp) (b:Addr):Prop:=
 H b=none/\b≠X.env.locals/\b∉X.fs/\(b∈X.ex\/X.s₀.heap.objs.size<=b)/\(∀ x c,X.env.cells.lookup x=some c->c≠b)/\∀ p∈X.pn++pins,p.1≠b
def Inv.fpOk {X:Cx} {pins:List (Addr×Obj)} {σ:St} {H H':Hp} {s:Shared} {b:Addr} (I:Inv X pins σ H s) (hb:s.heap.objs.size<=b) (hn:H' b=none):KC X pins H' b:=by
 refine ⟨hn,Nat.ne_of_gt (v8 I.lt hb),I.nofs hb,.inr (u7 I.sz hb),λx c e z=>?_,λp hp z=>?_⟩
 ·obtain ⟨v,q⟩:=I.cell x c e;exact absurd (v8 q.lt (by rw [z];exact hb)) (Nat.lt_irrefl _)
 ·exact absurd (v8 (y4 (I.pin p hp).1) (by rw [z];exact hb)) (Nat.lt_irrefl _)
structure Turn (P:Program) (w:World) (K:Frg) (tg:Expr) (J:It) (fp:List Addr) (it:Addr) (tn:Nat->Heap->Prop):Prop where
 mem:it∈fp
 obj:∀ i h,tn i h->∀ b∈fp,∃ o,h.get? b=some o/\∀ v,o.data≠.cell v
 keep:∀ i h h',tn i h->(∀ b∈fp,∀ o,h.get? b=some o->h'.get? b=some o)->tn i h'
 item:∀ (X:Cx),X.prog=P->X.w=w->X.K=K->X.calm=true->∀ (i:Nat) (pins:List (Addr×Obj)) (s:Shared) (σ:St) (H:Hp) (E:Value->Shared->Prop),Inv X pins σ H s->(∀ b∈fp,KC X pins H b)->tn i s.heap->J.go i H ->
  wpAny (model P w) X.A (pyNext (.ref it)) (λr s1=>∃ u,r=some u /\
   wpAny (model P w) X.A (letOwnedTupleGo tg (.ref it) u) (λ_ s2=>∃ x H',Inv X pins σ H' s2/\zE x u/\J.yld i H x H'/\tn (i+1) s2.heap/\∀ b∈fp,H' b=none) E s1) E s
 done:∀ (X:Cx),X.prog=P->X.w=w->X.K=K->X.calm=true->∀ (i:Nat) (pins:List (Addr×Obj)) (s:Shared) (σ:St) (H:Hp) (E:Value->Shared->Prop),Inv X pins σ H s->(∀ b∈fp,KC X pins H b)->tn i s.heap->J.stop i H ->
  wpAny (model P w) X.A (pyNext (.ref it)) (λr s1=>r=none/\Inv X pins σ H s1) E s
 self:∀ (A:Around) (i:Nat) (s:Shared) (Q:Value->Shared->Prop) (E:Value->Shared->Prop),tn i s.heap->Q (.ref it) s->wpAny (model P w) A (pyIter (.ref it)) Q E s
abbrev TI:=St->Hp->(It->Hp->Prop)->Prop
def PIE (X:Cx) (pins:List (Addr×Obj)) (σ:St) (tg:Expr) (R:It->Hp->Prop) (itv:Value) (s2:Shared):Prop:=
 ∃ (it:Addr) (fp:List Addr) (tn:Nat->Heap->Prop) (J:It) (H':Hp),itv=.ref it/\Inv X pins σ H' s2/\Turn X.prog X.w X.K tg J fp it tn/\tn 0 s2.heap/\(∀ b∈fp,KC X pins H' b)/\R J H'
def PI (X:Cx) (tg iter:Expr) (wi:TI):Prop:=
 ∀ (pins:List (Addr×Obj)) (s:Shared) (σ:St) (H:Hp) (R:It->Hp->Prop),Inv X pins σ H s->wi σ H R ->
  wpAny (model X.prog X.w) X.A (eval iter X.env) (λv s1=>wpAny (model X.prog X.w) X.A (pyIter v) (PIE X pins σ tg R) X.xe s1) X.xe s
def qhk {M:Model} {A:Around} {E:Value->Shared->Prop} {s:Shared} {tg:Expr} {it:Addr} {u:Value} {o:Obj} {n:String} {vs:Array Value} {Q:Unit->Shared->Prop} (ho:s.heap.get? it=some o) (hc:o.cls=.type n) (hd:o.data=.fields vs)
    (hn:["enumerate","zip","dict_itemiterator","dict_reverseitemiterator","odict_iterator","itertools.zip_longest","itertools.pairwise"].contains n=false) (hQ:Q () s):wpAny M A (letOwnedTupleGo tg (.ref it) u) Q E s:=by
  unfold letOwnedTupleGo;cases tg<;>first
    |exact x9 hQ
    | (cases u<;>first
        |exact x9 hQ
        | (refine x8 (wpAny_load ho ?_)
           rw [hc,hd];show wpAny M A (if (["enumerate","zip","dict_itemiterator","dict_reverseitemiterator","odict_iterator","itertools.zip_longest","itertools.pairwise"].contains n&&vs[0]?==some (rawInt _))=true then _ else _) Q E s;rw [if_neg (by intro h;rw [hn,Bool.false_and] at h;cases h)];exact x9 hQ))
def Itl (K:Frg) (a:Addr):It:=
 ⟨λi H=>∃ xs x,SqL K H a xs/\xs[i]?=some x,λi H x H'=>H'=H/\∀ xs,SqL K H a xs->xs[i]?=some x,λi H=>∃ xs,SqL K H a xs/\xs.length<=i⟩
def Itt (K:Frg) (a:Addr):It:=
 ⟨λi H=>∃ xs x,SqT K H a xs/\xs[i]?=some x,λi H x H'=>H'=H/\∀ xs,SqT K H a xs->xs[i]?=some x,λi H=>∃ xs,SqT K H a xs/\xs.length<=i⟩
def Itr (lo:Int) (n:Nat):It:=⟨λi _=>i<n,λi H x H'=>H'=H/\x=.int (lo+i),λi _=>n<=i⟩
def qaR {P:Program} {w:World} {K:Frg} {tg:Expr} (a it:Addr):Turn P w K tg (Itl K a) [it] it (λi h=>h.IsListIter it a i) where
 mem:=by simp
 obj:=λi h st b hb=>by
  have e:b=it:=by simpa using hb
  subst e;obtain ⟨o,e,c,d⟩:=st;exact ⟨o,e,λv z=>by rw [d] at z;cases z⟩
 keep:=λi h h' st k=>st.at λo e=>k it (by simp) o e
 item:=by
  intro X hP hw hK hc i pins s σ H E I hf st hg;subst hP hw hK;obtain ⟨xs,x,hq,hx⟩:=hg;obtain ⟨its,rv,p,hz⟩:=I.list hq;obtain ⟨u,hu,ru⟩:=rv.get hx;obtain ⟨f0,f1,f2,f3,f4,f5⟩:=hf it (by simp);refine wpAny_pyNext_list_item st p.isList (x:=u) (by simpa using hu) λh' st' sb=>?_;have I1:Inv X pins σ H { s with heap:=h' }:=I.turned (t':=s.toks) (λb o hb e=>(sb.2 b hb).trans e) f0 f1 f3 f4 f5;obtain ⟨o,e,c,d⟩:=id st';exact ⟨u,rfl,qhk (s:={ s with heap:=h' }) e c d (by decide) ⟨x,H,I1,ru,⟨rfl,λys hy=>by rw [I.list_inj hy hq];exact hx⟩,st',λb hb=>(hf b hb).1⟩⟩
 done:=by
  intro X hP hw hK hc i pins s σ H E I hf st hg;subst hP hw hK;obtain ⟨xs,hq,hx⟩:=hg;obtain ⟨its,rv,p,hz⟩:=I.list hq;obtain ⟨f0,f1,f2,f3,f4,f5⟩:=hf it (by simp);have hl:=rv.length;exact wpAny_pyNext_list_end (I.ok.hd hc) st p.isList (by simp;omega) λh' eb=>⟨rfl,I.turned (t':=s.toks) (λb o hb e=>eb b o hb e) f0 f1 f3 f4 f5⟩
 self:=λ_ _ _ _ _ st h=>wpAny_pyIter_listiter st h
def N4 {P:Program} {w:World} {K:Frg} {tg:Expr} (a it:Addr):Turn P w K tg (Itt K a) [it] it (λi h=>h.IsTupleIter it a i) where
 mem:=by simp
 obj:=λi h st b hb=>by
  have e:b=it:=by simpa using hb
  subst e;obtain ⟨o,e,c,d⟩:=st;exact ⟨o,e,λv z=>by rw [d] at z;cases z⟩
 keep:=λi h h' st k=>st.at λo e=>k it (by simp) o e
 item:=by
  intro X hP hw hK hc i pins s σ H E I hf st hg;subst hP hw hK;obtain ⟨xs,x,hq,hx⟩:=hg;obtain ⟨its,rv,p,hz⟩:=I.tuple hq;obtain ⟨u,hu,ru⟩:=rv.get hx;obtain ⟨f0,f1,f2,f3,f4,f5⟩:=hf it (by simp);refine wpAny_pyNext_tuple_item st (show s.heap.IsTuple a its.toArray from p) (x:=u) (by simpa using hu) λh' st' sb=>?_;have I1:Inv X pins σ H { s with heap:=h' }:=I.turned (t':=s.toks) (λb o hb e=>(sb.2 b hb).trans e) f0 f1 f3 f4 f5;obtain ⟨o,e,c,d⟩:=id st';exact ⟨u,rfl,qhk (s:={ s with heap:=h' }) e c d (by decide) ⟨x,H,I1,ru,⟨rfl,λys hy=>by rw [I.tuple_inj hy hq];exact hx⟩,st',λb hb=>(hf b hb).1⟩⟩
 done:=by
  intro X hP hw hK hc i pins s σ H E I hf st hg;subst hP hw hK;obtain ⟨xs,hq,hx⟩:=hg;obtain ⟨its,rv,p,hz⟩:=I.tuple hq;obtain ⟨f0,f1,f2,f3,f4,f5⟩:=hf it (by simp);have hl:=rv.length;exact wpAny_pyNext_tuple_end (I.ok.hd hc) st (show s.heap.IsTuple a its.toArray from p) (by simp;omega) λh' eb=>⟨rfl,I.turned (t':=s.toks) (λb o hb e=>eb b o hb e) f0 f1 f3 f4 f5⟩
 self:=λ_ _ _ _ _ st h=>wpAny_pyIter_tupleiter st h
def NA {P:Program} {w:World} {K:Frg} {tg:Expr} (it:Addr) (lo:Int) (n:Nat):Turn P w K tg (Itr lo n) [it] it (λi h=>IsRangeIter h it (lo+(i:Nat)*1) ((n:Int)-(i:Nat)) 1) where
 mem:=by simp
 obj:=λi h st b hb=>by
  have e:b=it:=by simpa using hb
  subst e;exact ⟨_,st,λv z=>by
   have z':Data.fields _=Data.cell v:=z;cases z'⟩
 keep:=λi h h' st k=>k it (by simp) _ st
 item:=by
  intro X hP hw hK hc i pins s σ H E I hf st hg;subst hP hw hK;obtain ⟨f0,f1,f2,f3,f4,f5⟩:=hf it (by simp);have W:=Walks.range (prog:=X.prog) (w:=X.w) (I.ok.hd hc) it lo 1 n;refine W.item i s _ _ hg st λv h' tk hv st' kk=>?_;obtain ⟨t,rfl⟩:=hv;have I1:Inv X pins σ H { s with heap:=h',toks:=tk }:=I.turned (λb o hb e=>kk b o (by simpa using hb) e) f0 f1 f3 f4 f5;refine ⟨_,rfl,qhk (s:={ s with heap:=h',toks:=tk }) (n:="range_iterator") st' rfl rfl (by decide) ⟨.int (lo+i),H,I1,⟨t,?_⟩,⟨rfl,rfl⟩,st',λb hb=>(hf b hb).1⟩⟩;rw [Int.mul_one]
 done:=by
  intro X hP hw hK hc i pins s σ H E I hf st hg;subst hP hw hK;obtain ⟨f0,f1,f2,f3,f4,f5⟩:=hf it (by simp);exact wpAny_pyNext_range_end (I.ok.hd hc) st (by have:n<=i:=hg;omega) λh' eb=>⟨rfl,I.turned (t':=s.toks) (λb o hb e=>eb b o hb e) f0 f1 f3 f4 f5⟩
 self:=λ_ _ _ _ _ st h=>wpAny_pyIter_rangeiter st h
section
variable {X:Cx} {tg:Expr}
def qdz {pins:List (Addr×Obj)} {σ:St} {H:Hp} {s:Shared} {R:It->Hp->Prop} {E:Value->Shared->Prop} {lo hi:Int} {t u v:Tok} {tk:Nat} (I:Inv X pins σ H s) (h1:-(2 ^ 62)<=lo) (h2:lo<2 ^ 62) (h3:-(2 ^ 62)<=hi) (h4:hi<2 ^ 62)
  (q:R (Itr lo (hi-lo).toNat) H):wpAny (model X.prog X.w) X.A (pyIter (.ref s.heap.objs.size)) (PIE X pins σ tg R) E { s with heap:=s.heap.push { cls:=.type "range",data:=.fields #[.int lo t,.int hi u,.int 1 v] },toks:=tk }:=by
 refine wpAny_pyIter_range (IsRange.new ..) (small_one h1 h2 h3 h4) ?_;have I1:Inv X pins σ H { s with heap:=s.heap.push { cls:=.type "range",data:=.fields #[.int lo t,.int hi u,.int 1 v] },toks:=tk }:=I.kept λb o e=>y2 _ e;refine ⟨(s.heap.push { cls:=.type "range",data:=.fields #[.int lo t,.int hi u,.int 1 v] }).objs.size,[(s.heap.push { cls:=.type "range",data:=.fields #[.int lo t,.int hi u,.int 1 v] }).objs.size],_,_,H,rfl,
  I1.kept (t':=tk) λb o e=>y2 _ e,NA _ lo (hi-lo).toNat,?_,λb hb=>?_,q⟩
 ·have e1:lo+((0:Nat):Int)*1=lo:=by simp
  have e2:(((hi-lo).toNat:Nat):Int)-((0:Nat):Int)=Builtin.Range.rangeSize lo hi 1:=by rw [rangeSize_one];split<;>omega
  show IsRangeIter _ _ (lo+((0:Nat):Int)*1) ((((hi-lo).toNat:Nat):Int)-((0:Nat):Int)) 1;rw [e1,e2];exact y3 _ rfl
 ·have e:b=(s.heap.push { cls:=.type "range",data:=.fields #[.int lo t,.int hi u,.int 1 v] }).objs.size:=by simpa using hb
  subst e;exact I1.fpOk (v5 _) (I1.hok.fresh (v5 _))
def qm9 (ta:TA):TI:=λσ H R=>ta σ H λvs H1=>∃ j:Int,vs=[.int j]/\-(2 ^ 62)<=j/\j<2 ^ 62/\R (Itr 0 j.toNat) H1
def qcG {a:Expr} {ta:TA} {p pos:Pos} (hg:Gl X "range") (hm:X.mg "range" = none) (ha:PA X [a] ta) (hs:starEach [a] X.env=[(false,eval a X.env)]:=by rfl):PI X tg (.Call (.Name "range" p) [a] [] pos) (qm9 ta):=by
 intro pins s σ H R I h;refine Call_ (VB I hg hm boot_range (PyProof.Rows.callWith_type1 (thn (ha pos pins s σ H _ I h) λus s1 ⟨vs,H1,I1,r1,q1⟩=>?_) hs rfl));obtain ⟨j,e,q1,q2,q⟩:=q1;subst e;cases r1 with
 |cons r rr=>
  cases rr;obtain ⟨t,rfl⟩:=r;exact call_range_1 (qdz I1 (by omega) (by omega) q1 q2 (by simpa using q))
def qoA (wi:TI) (g:TG) (tb:TS):TS:=λD σ H=>wi σ H λJ H1=>∃ W:Nat->Nat->St->Hp->Prop,(∃ m,W 0 m σ H1)/\∀ i m σ H,W i m σ H ->
 (J.stop i H/\D.nx σ H)\/(J.go i H/\∃ N:St->Hp->Prop,(∀ σ' H',N σ' H'->∃ m',m'<m/\W (i+1) m' σ' H')/\∀ x H',J.yld i H x H'->g x σ H' λσ2 H2=>tb { D with nx:=N,ct:=N,bk:=D.nx } σ2 H2)
def SI (fp:List Addr) (h:Heap):List (Addr×Obj):=fp.filterMap λb=>(h.get? b).map λo=>(b,o)
def Z7 {fp:List Addr} {h:Heap} {b:Addr} {o:Obj} (hb:b∈fp) (e:h.get? b=some o):(b,o)∈SI fp h:=List.mem_filterMap.mpr ⟨b,hb,by rw [e];rfl⟩
def qcy {fp:List Addr} {h:Heap} {p:Addr×Obj} (hp:p∈SI fp h):p.1∈fp/\h.get? p.1=some p.2:=by
 obtain ⟨b,hb,e⟩:=List.mem_filterMap.mp hp;cases q:h.get? b with
 |none=>rw [q] at e;cases e
 |some o=>
  rw [q] at e;have e':(b,o)=p:=Option.some.inj e;subst e';exact ⟨hb,q⟩
def Inv.pinned {pins:List (Addr×Obj)} {σ:St} {H:Hp} {s:Shared} {fp:List Addr} (I:Inv X pins σ H s) (hf:∀ b∈fp,KC X pins H b) (ho:∀ b∈fp,∃ o,s.heap.get? b=some o/\∀ v,o.data≠.cell v):Inv X (pins++SI fp s.heap) σ H s:=
 I.pins_of λp hp=>(List.mem_append.mp hp).elim (λz=>I.pin p (v7 _ z)) λz=>by
  obtain ⟨hb,e⟩:=qcy z;obtain ⟨f0,f1,f2,_⟩:=hf p.1 hb;obtain ⟨o,e',d⟩:=ho p.1 hb;rw [e] at e';cases e';exact ⟨e,f0,f1,f2,d⟩
def Inv.unpinned {pins pl:List (Addr×Obj)} {σ:St} {H:Hp} {s:Shared} (I:Inv X (pins++pl) σ H s):Inv X pins σ H s:=I.pins_of λp hp=>I.pin p (v7 _ (List.mem_append_left _ hp))
def qlj {iter:Expr} {body:List Stmt} {wi:TI} {g:TG} {tb:TS} {pos:Pos} (hp:PassesOwn (model X.prog X.w) X.A X.env X.xe) (hc:X.calm=true) (hi:PI X tg iter wi) (hg:PG X tg g) (hb:PSs X body tb)
  (hs:∀ x,foldedSetIterable iter X.env x=pure x:=by intro _;rfl):PS X (.For tg iter body [] pos) (qoA wi g tb):=by
 intro pins s σ H D I h;refine wpAny_For (thn (hi pins s σ H _ I h) λv s1 h1=>thn h1 λitv s2 h2=>?_) hs;obtain ⟨it,fp,tn,J,H2,e,I2,T,st2,f2,W,⟨m0,w0⟩,turn⟩:=h2;subst e
 -- what stays true of the iterator's objects through the loop
 have stat:∀ {H':Hp},(∀ b∈fp,H' b=none)->∀ b∈fp,KC X pins H' b:=λhn b hb=>⟨hn b hb,(f2 b hb).2⟩
 refine codeAny_forLoop_any (λn s'=>∃ i σ' H',Inv X pins σ' H' s'/\tn i s'.heap/\(∀ b∈fp,H' b=none)/\W i n σ' H') ?_ m0 ⟨0,σ,H2,I2,st2,λb hb=>(f2 b hb).1,w0⟩;rintro n s3 ⟨i,σ3,H3,I3,st3,fr3,w3⟩;rcases turn i n σ3 H3 w3 with ⟨stop,qn⟩|⟨go,N,hN,step⟩
 ·refine wpAny_passesOwn hp (thn (T.done X rfl rfl rfl hc i pins s3 σ3 H3 X.xe I3 (stat fr3) st3 stop) λr s4 ⟨hr,I4⟩=>?_);subst hr;exact wpAny_execs_nil ⟨σ3,H3,I4,qn⟩
 ·refine wpAny_passesOwn hp (thn (T.item X rfl rfl rfl hc i pins s3 σ3 H3 X.xe I3 (stat fr3) st3 go) λr s4 ⟨u,hr,h4⟩=>?_);subst hr;refine wpAny_passesOwn hp (thn h4 λ_ s5 ⟨x,H5,I5,r5,y5,st5,fr5⟩=>?_);have I5':=I5.pinned (stat fr5) (T.obj _ _ st5);refine wpAny_passesOwn hp (thn (hg _ s5 σ3 H5 x u _ I5' r5 (step x H5 y5)) λ_ s6 ⟨σ6,H6,I6,q6⟩=>?_);refine wpAny_passesOwn hp (thn (hb _ s6 σ6 H6 _ I6 q6) λf s7 q7=>?_);have again:∀ {σ7:St} {H7:Hp},Inv X (pins++SI fp s5.heap) σ7 H7 s7->N σ7 H7->∃ m,m<n/\∃ i σ' H',Inv X pins σ' H' s7/\tn i s7.heap/\(∀ b∈fp,H' b=none)/\W i m σ' H':=λ{σ7 H7} I7 n7=>by
   obtain ⟨m',hm,w7⟩:=hN σ7 H7 n7;refine ⟨m',hm,i+1,σ7,H7,I7.unpinned,T.keep _ _ _ st5 λb hb o e=>(I7.pin (b,o) (v7 _ (v7 _ (Z7 hb e)))).1,λb hb=>?_,w7⟩;obtain ⟨o,e,d⟩:=T.obj _ _ st5 b hb;exact (I7.pin (b,o) (v7 _ (v7 _ (Z7 hb e)))).2.1
  cases f with
  |next=>obtain ⟨σ7,H7,I7,n7⟩:=q7;exact again I7 n7
  |cont=>obtain ⟨σ7,H7,I7,n7⟩:=q7;exact again I7 n7
  |brk=>obtain ⟨σ7,H7,I7,q7⟩:=q7;exact ⟨σ7,H7,I7.unpinned,q7⟩
  |ret v=>obtain ⟨x7,σ7,H7,I7,r7,q7⟩:=q7;exact ⟨x7,σ7,H7,I7.unpinned,r7,q7⟩
end
abbrev R2:=V->V->Hp->VK->Prop
def OpR (X:Cx) (f:Value->Value->Sem Value) (r:R2):Prop:=
 ∀ (pins:List (Addr×Obj)) (s:Shared) (σ:St) (H:Hp) (x y:V) (v u:Value) (Q:VK),Inv X pins σ H s->zE x v->zE y u->r x y H Q ->
  wpAny (model X.prog X.w) X.A (f v u) (EP X pins σ Q) X.xe s
def JX (X:Cx) (f:Value) (r:List V->Hp->VK->Prop):Prop:=
 ∀ (pins:List (Addr×Obj)) (s:Shared) (σ:St) (H:Hp) (xs:List V) (us:List Value) (Q:VK),Inv X pins σ H s->qY xs us->r xs H Q ->
  wpAny (model X.prog X.w) X.A (call f us) (EP X pins σ Q) X.xe s
def tOp (r:R2) (ta tb:TE):TE:=λσ H Q=>ta σ H λx H1=>tb σ H1 λy H2=>r x y H2 Q
def rI (C:Int->Int->Prop) (g:Int->Int->V):R2:=λx y H Q=>∃ i j,x=.int i/\y=.int j/\C i j/\Q (g i j) H
def rI0 (g:Int->Int->V):R2:=λx y H Q=>∃ i j,x=.int i/\y=.int j/\Q (g i j) H
section
variable {X:Cx} {a b c:Expr} {ta tb tc:TE} {pos:Pos}
def qmG (ha:PE X a ta) (hb:PE X b tb) {pins:List (Addr×Obj)} {s:Shared} {σ:St} {H:Hp} {R:V->V->Hp->Prop} (I:Inv X pins σ H s)
  (h:ta σ H λx H1=>tb σ H1 λy H2=>R x y H2) {Q:Value->Shared->Prop} {f:Value->Value->Sem Value}
  (hf:∀ v u s2 x y H2,Inv X pins σ H2 s2->zE x v->zE y u->R x y H2->wpAny (model X.prog X.w) X.A (f v u) Q X.xe s2) :
  wpAny (model X.prog X.w) X.A (eval a X.env) (λv s₁=>wpAny (model X.prog X.w) X.A (eval b X.env) (λu s₂=>wpAny (model X.prog X.w) X.A (f v u) Q X.xe s₂) X.xe s₁) X.xe s:=by
 refine thn (ha pins s σ H _ I h) λv s1 ⟨x,H1,I1,r1,q1⟩=>?_;refine thn (hb pins s1 σ H1 _ I1 q1) λu s2 ⟨y,H2,I2,r2,q2⟩=>?_;exact hf v u s2 x y H2 I2 r1 r2 q2
def qmS {op:Operator} {r:R2} (ho:OpR X (binaryOp op) r) (ha:PE X a ta) (hb:PE X b tb):PE X (.BinOp a op b pos) (tOp r ta tb):=by
 intro pins s σ H Q I h;exact wpAny_BinOp (qmG ha hb I h λv u s2 x y H2 I2 rx ry q=>ho pins s2 σ H2 x y v u Q I2 rx ry q)
def opI {f:Value->Value->Sem Value} {C:Int->Int->Prop} {g:Int->Int->Int}
  (rule:∀ (i j:Int) (t u:Tok) (s:Shared) (Q:Value->Shared->Prop) (E:Value->Shared->Prop),C i j->Q (.int (g i j) s.toks) { s with toks:=s.toks+1 }->wpAny (model X.prog X.w) X.A (f (.int i t) (.int j u)) Q E s) :
  OpR X f (rI C λi j=>.int (g i j)):=by
 intro pins s σ H x y v u Q I rx ry h;obtain ⟨i,j,rfl,rfl,hc,q⟩:=h;obtain ⟨t,rfl⟩:=rx;obtain ⟨t',rfl⟩:=ry;exact rule i j t t' s _ _ hc ⟨.int (g i j),H,I.tok _,⟨_,rfl⟩,q⟩
def qlN {f:Value->Value->Sem Value} {g:Int->Int->Int}
  (rule:∀ (i j:Int) (t u:Tok) (s:Shared) (Q:Value->Shared->Prop) (E:Value->Shared->Prop),Q (.int (g i j) s.toks) { s with toks:=s.toks+1 }->wpAny (model X.prog X.w) X.A (f (.int i t) (.int j u)) Q E s) :
  OpR X f (rI0 λi j=>.int (g i j)):=by
 intro pins s σ H x y v u Q I rx ry h;obtain ⟨i,j,rfl,rfl,q⟩:=h;obtain ⟨t,rfl⟩:=rx;obtain ⟨t',rfl⟩:=ry;exact rule i j t t' s _ _ ⟨.int (g i j),H,I.tok _,⟨_,rfl⟩,q⟩
def qlU {f:Value->Value->Sem Value} {g:Int->Int->Bool}
  (rule:∀ (i j:Int) (t u:Tok) (s:Shared) (Q:Value->Shared->Prop) (E:Value->Shared->Prop),Q (.bool (g i j)) s->wpAny (model X.prog X.w) X.A (f (.int i t) (.int j u)) Q E s) :
  OpR X f (rI0 λi j=>.bl (g i j)):=by
 intro pins s σ H x y v u Q I rx ry h;obtain ⟨i,j,rfl,rfl,q⟩:=h;obtain ⟨t,rfl⟩:=rx;obtain ⟨t',rfl⟩:=ry;exact rule i j t t' s _ _ ⟨.bl (g i j),H,I,rfl,q⟩
def qdA (i j:Int):Prop:=0<j/\j<1073741824
def qbo (i j:Int):Prop:=0<=j/\j<=1000000/\i.natAbs<2 ^ 64
def EF (i j:Int):Prop:=(-(2 ^ 64)<i/\i<2 ^ 64)\/(-(2 ^ 64)<j/\j<2 ^ 64)
def EF.ok {i j:Int} (h:EF i j):IntMulOk i j:=by
 rcases h with ⟨h1,h2⟩|⟨h1,h2⟩
 ·exact .of_left (intBits_le_64 h1 h2)
 ·exact .of_right (intBits_le_64 h1 h2)
def M3 (k:Nat):(0:Int)<=2 ^ k:=by
 rw [two_pow_cast];exact Int.natCast_nonneg _
def qkd:OpR X (binaryOp .Add) (rI0 λi j=>.int (i+j)):=qlN λ_ _ _ _ _ _ _ q=>add_int q
def qiu:OpR X (binaryOp .Sub) (rI0 λi j=>.int (i-j)):=qlN λ_ _ _ _ _ _ _ q=>sub_int q
def qkJ:OpR X (binaryOp .Mult) (rI EF λi j=>.int (i*j)):=opI λ_ _ _ _ _ _ _ hc q=>mul_int q hc.ok
def qhz:OpR X (binaryOp .FloorDiv) (rI qdA λi j=>.int (i/j)):=opI λi j _ _ _ _ _ hc q=>by
 have h1:(0:Int)<j:=hc.1;have h2:j<1073741824:=hc.2;exact floordiv_int (by omega) (by rw [Int.fdiv_eq_ediv_of_nonneg i (by omega)];exact q) (.inl (PyProof.noPylong_small (by omega)))
def qlq:OpR X (binaryOp .Mod) (rI (λ_ j=>0<j) λi j=>.int (i%j)):=opI λi j _ _ _ _ _ hc q=>by
 have h1:(0:Int)<j:=hc;exact mod_int' (by omega) (by rw [Int.fmod_eq_emod_of_nonneg i (by omega)];exact q)
def qk7:OpR X (binaryOp .Pow) (rI qbo λi j=>.int (i ^ j.toNat)):=opI λ_ _ _ _ _ _ _ hc q=>pow_int_small hc.1 hc.2.1 hc.2.2 q
def qkB:OpR X (binaryOp .LShift) (rI qbo λi j=>.int (i*2 ^ j.toNat)):=opI λ_ _ _ _ _ _ _ hc q=>lshift_int_small hc.1 hc.2.1 hc.2.2 q
def qlr:OpR X (binaryOp .RShift) (rI (λ_ j=>0<=j) λi j=>.int (i/2 ^ j.toNat)):=opI λi j _ _ _ _ _ hc q=>
 rshift_int hc (by rw [Int.fdiv_eq_ediv_of_nonneg i (M3 _)];exact q)
def qk5:OpR X (binaryOp .BitAnd) (rI0 λi j=>.int (Builtin.bitAnd i j)):=qlN λ_ _ _ _ _ _ _ q=>and_int q
def qjU:OpR X (binaryOp .BitXor) (rI0 λi j=>.int (Builtin.bitXor i j)):=qlN λ_ _ _ _ _ _ _ q=>xor_int q
end
def qmL:V->V->Bool
 |.non,.non=>true|.non,.int _=>true|.int _,.non=>true|.non,.bl _=>true|.bl _,.non=>true|.non,.str _=>true|.str _,.non=>true
 |.int _,.int _=>true|.bl _,.bl _=>true|.str _,.str _=>true|.byt _,.byt _=>true
 |.int _,.str _=>true|.str _,.int _=>true|.bl _,.str _=>true|.str _,.bl _=>true
 |_,_=>false
def rEq:R2:=λx y H Q=>qmL x y=true/\Q (.bl (decide (x=y))) H
def rNe:R2:=λx y H Q=>qmL x y=true/\Q (.bl (!decide (x=y))) H
def qbU {i j:Int}:decide (V.int i=V.int j)=(i==j):=by
 rw [Bool.eq_iff_iff];simp
def qeO {i j:Bool}:decide (V.bl i=V.bl j)=(i==j):=by
 rw [Bool.eq_iff_iff];simp
def qca {i j:Str}:decide (V.str i=V.str j)=(i==j):=by
 rw [Bool.eq_iff_iff];simp
def qbV {i j:Array UInt8}:decide (V.byt i=V.byt j)=(i.toList==j.toList):=by
 rw [Bool.eq_iff_iff];cases i;cases j;simp
section
variable {X:Cx} {a b c:Expr} {ta tb tc:TE} {pos:Pos}
def qJ {pins:List (Addr×Obj)} {σ:St} {H:Hp} {s:Shared} {Q:VK} {k k':Bool} (I:Inv X pins σ H s) (q:Q (.bl k) H) (e:k=k'):EP X pins σ Q (.bool k') s:=by
 subst e;exact ⟨.bl k,H,I,rfl,q⟩
def qmi:OpR X (compareOp .Eq) rEq:=by
 intro pins s σ H x y v u Q I rx ry h;obtain ⟨hs,q⟩:=h;cases x with
 |non=>
  cases rx;cases y with
  |non=>cases ry;exact PySem.EqNone.eq_none_none (qJ I q (by simp))
  |bl j=>cases ry;exact PySem.EqNone.eq_none_bool (qJ I q (by simp))
  |int j=>obtain ⟨t',rfl⟩:=ry;exact PySem.EqNone.eq_none_int (qJ I q (by simp))
  |str j=>obtain ⟨t',rfl⟩:=ry;exact PySem.EqNone.eq_none_str (qJ I q (by simp))
  |_=>exact absurd (show false=true from hs) y6
 |bl i=>
  cases rx;cases y with
  |non=>cases ry;exact PySem.EqNone.eq_bool_none (qJ I q (by simp))
  |bl j=>cases ry;exact eq_bool (qJ I q qeO)
  |str j=>obtain ⟨t',rfl⟩:=ry;exact PySem.EqMixed.eq_bool_str (qJ I q (by simp))
  |_=>exact absurd (show false=true from hs) y6
 |int i=>
  obtain ⟨t,rfl⟩:=rx;cases y with
  |non=>cases ry;exact PySem.EqNone.eq_int_none (qJ I q (by simp))
  |int j=>obtain ⟨t',rfl⟩:=ry;exact eq_int (qJ I q qbU)
  |str j=>obtain ⟨t',rfl⟩:=ry;exact PySem.EqMixed.eq_int_str (qJ I q (by simp))
  |_=>exact absurd (show false=true from hs) y6
 |str i=>
  obtain ⟨t,rfl⟩:=rx;cases y with
  |non=>cases ry;exact PySem.EqNone.eq_str_none (qJ I q (by simp))
  |bl j=>cases ry;exact PySem.EqMixed.eq_str_bool (qJ I q (by simp))
  |int j=>obtain ⟨t',rfl⟩:=ry;exact PySem.EqMixed.eq_str_int (qJ I q (by simp))
  |str j=>obtain ⟨t',rfl⟩:=ry;exact eq_str (qJ I q qca)
  |_=>exact absurd (show false=true from hs) y6
 |byt i=>
  obtain ⟨t,rfl⟩:=rx;cases y with
  |byt j=>obtain ⟨t',rfl⟩:=ry;exact PySem.W.eq_bytes (qJ I q qbV)
  |_=>exact absurd (show false=true from hs) y6
 |_=>cases y<;>exact absurd (show false=true from hs) y6
def qmE:OpR X (compareOp .NotEq) rNe:=by
 intro pins s σ H x y v u Q I rx ry h;obtain ⟨hs,q⟩:=h;cases x with
 |non=>
  cases rx;cases y with
  |non=>cases ry;exact PySem.EqNone.ne_none_none (qJ I q (by simp))
  |bl j=>cases ry;exact PySem.EqNone.ne_none_bool (qJ I q (by simp))
  |int j=>obtain ⟨t',rfl⟩:=ry;exact PySem.EqNone.ne_none_int (qJ I q (by simp))
  |str j=>obtain ⟨t',rfl⟩:=ry;exact PySem.EqNone.ne_none_str (qJ I q (by simp))
  |_=>exact absurd (show false=true from hs) y6
 |bl i=>
  cases rx;cases y with
  |non=>cases ry;exact PySem.EqNone.ne_bool_none (qJ I q (by simp))
  |bl j=>cases ry;exact ne_bool (qJ I q (congrArg not qeO))
  |str j=>obtain ⟨t',rfl⟩:=ry;exact PySem.EqMixed.ne_bool_str (qJ I q (by simp))
  |_=>exact absurd (show false=true from hs) y6
 |int i=>
  obtain ⟨t,rfl⟩:=rx;cases y with
  |non=>cases ry;exact PySem.EqNone.ne_int_none (qJ I q (by simp))
  |int j=>obtain ⟨t',rfl⟩:=ry;exact ne_int (qJ I q (congrArg not qbU))
  |str j=>obtain ⟨t',rfl⟩:=ry;exact PySem.EqMixed.ne_int_str (qJ I q (by simp))
  |_=>exact absurd (show false=true from hs) y6
 |str i=>
  obtain ⟨t,rfl⟩:=rx;cases y with
  |non=>cases ry;exact PySem.EqNone.ne_str_none (qJ I q (by simp))
  |bl j=>cases ry;exact PySem.EqMixed.ne_str_bool (qJ I q (by simp))
  |int j=>obtain ⟨t',rfl⟩:=ry;exact PySem.EqMixed.ne_str_int (qJ I q (by simp))
  |str j=>obtain ⟨t',rfl⟩:=ry;exact ne_str (qJ I q (congrArg not qca))
  |_=>exact absurd (show false=true from hs) y6
 |byt i=>
  obtain ⟨t,rfl⟩:=rx;cases y with
  |byt j=>obtain ⟨t',rfl⟩:=ry;exact PySem.W.ne_bytes (qJ I q (congrArg not qbV))
  |_=>exact absurd (show false=true from hs) y6
 |_=>cases y<;>exact absurd (show false=true from hs) y6
def qgU:OpR X (compareOp .Lt) (rI0 λi j=>.bl (decide (i<j))):=qlU λ_ _ _ _ _ _ _ q=>lt_int q
def qic:OpR X (compareOp .LtE) (rI0 λi j=>.bl (decide (i<=j))):=qlU λ_ _ _ _ _ _ _ q=>le_int q
def qmk:OpR X (compareOp .Gt) (rI0 λi j=>.bl (decide (j<i))):=qlU λ_ _ _ _ _ _ _ q=>gt_int q
def qim:OpR X (compareOp .GtE) (rI0 λi j=>.bl (decide (j<=i))):=qlU λ_ _ _ _ _ _ _ q=>ge_int q
def W2:OpR X (compareOp .Is) (λx y H Q=>y=.non/\Q (.bl (decide (x=.non))) H):=by
 intro pins s σ H x y v u Q I rx ry h;obtain ⟨rfl,q⟩:=h;cases ry;refine is_none_gen (qJ I q ?_);cases x<;>first
  | (cases rx;rfl)
  | (obtain ⟨t,rfl⟩:=rx;rfl)
def OpR.or {f:Value->Value->Sem Value} {r r':R2} (h:OpR X f r) (h':OpR X f r'):OpR X f (λx y H Q=>r x y H Q\/r' x y H Q):=by
 intro pins s σ H x y v u Q I rx ry q;rcases q with q|q
 ·exact h pins s σ H x y v u Q I rx ry q
 ·exact h' pins s σ H x y v u Q I rx ry q
def qE (b:Expr) {op:CmpOp} (h:op≠.In:=by decide) (h2:op≠.NotIn:=by decide):behindInMarks op b=false:=by
 have e1:(op==CmpOp.In)=false:=by cases op<;>first|rfl|exact absurd rfl h
 have e2:(op==CmpOp.NotIn)=false:=by cases op<;>first|rfl|exact absurd rfl h2
 cases b<;>simp [behindInMarks,e1,e2]
def qhF {op:CmpOp} {r:R2} (ho:OpR X (compareOp op) r) (ha:PE X a ta) (hb:PE X b tb) (hm:behindInMarks op b=false):PE X (.Compare a [op] [b] pos) (tOp r ta tb):=by
 intro pins s σ H Q I h;exact wpAny_Compare1 (qmG ha hb I h λv u s2 x y H2 I2 rx ry q=>ho pins s2 σ H2 x y v u Q I2 rx ry q) hm
def qhe (t:TE):TT:=λσ H Q=>t σ H λx H'=>∃ k,x=.bl k/\Q k H'
def qgE {op:CmpOp} {r:R2} (ho:OpR X (compareOp op) r) (ha:PE X a ta) (hb:PE X b tb) (hm:behindInMarks op b=false):PT X (.Compare a [op] [b] pos) (qhe (tOp r ta tb)):=by
 intro pins s σ H Q I h;refine wpAny_isTrue_Compare1 (thn (ha pins s σ H _ I h) λv s1 ⟨x,H1,I1,r1,q1⟩=>thn (hb pins s1 σ H1 _ I1 q1) λu s2 ⟨y,H2,I2,r2,q2⟩=>
  thn (ho pins s2 σ H2 x y v u _ I2 r1 r2 q2) λc s3 ⟨z,H3,I3,r3,k,e,q3⟩=>?_) hm
 subst e;cases r3;exact wpAny_truthy_bool ⟨H3,I3,q3⟩
def qf6 (r r':R2) (ta tb tc:TE):TE:=λσ H Q=>ta σ H λx H1=>tb σ H1 λy H2=>r x y H2 λz H3=>∃ k,z=.bl k /\
 (if k=true then tc σ H3 λw' H4=>r' y w' H4 Q else Q (.bl false) H3)
def qdk {op op':CmpOp} {r r':R2} (ho:OpR X (compareOp op) r) (ho':OpR X (compareOp op') r') (ha:PE X a ta) (hb:PE X b tb) (hc:PE X c tc)
  (hm:lastMarks [op,op'] [b,c]=false:=by with_unfolding_all rfl):PT X (.Compare a [op,op'] [b,c] pos) (qhe (qf6 r r' ta tb tc)):=by
 intro pins s σ H Q I h;refine isTrue_chain (thn (ha pins s σ H _ I h) λv s1 ⟨x,H1,I1,r1,q1⟩=>test_link (thn (hb pins s1 σ H1 _ I1 q1) λu s2 ⟨y,H2,I2,r2,q2⟩=>
  thn (ho pins s2 σ H2 x y v u _ I2 r1 r2 q2) λd s3 ⟨z,H3,I3,r3,k,e,q3⟩=>?_)) hm
 subst e;cases r3;refine wpAny_truthy_bool ?_;cases k with
 |false=>
  obtain ⟨k',e',q'⟩:=q3;cases e';exact ite_ff ⟨H3,I3,q'⟩
 |true=>
  refine ite_tt (test_last (thn (hc pins s3 σ H3 _ I3 q3) λw' s4 ⟨z',H4,I4,r4,q4⟩=>thn (ho' pins s4 σ H4 y z' u w' _ I4 r2 r4 q4) λd' s5 ⟨z2,H5,I5,r5,k2,e2,q5⟩=>?_));subst e2;cases r5;exact wpAny_truthy_bool ⟨H5,I5,q5⟩
def SX:(sizeLine:Nat)<2 ^ 63:=by rw [y8];decide
def XI {x:V} {us:List Value} (r:qY [x] us):∃ u,us=[u]/\zE x u:=by
 cases r with
 |cons r1 r2=>cases r2;exact ⟨_,rfl,r1⟩
def qcl {x y:V} {us:List Value} (r:qY [x,y] us):∃ u w',us=[u,w']/\zE x u/\zE y w':=by
 cases r with
 |cons r1 r2=>
  cases r2 with
  |cons r3 r4=>cases r4;exact ⟨_,_,rfl,r1,r3⟩
def LY:JX X (.builtin "abs") (λxs H Q=>∃ i,xs=[.int i]/\Q (.int (if i<0 then -i else i)) H):=by
 intro pins s σ H xs us Q I r h;obtain ⟨i,rfl,q⟩:=h;obtain ⟨u,rfl,t,rfl⟩:=XI r;exact call_abs_int λu tk=>⟨.int (if i<0 then -i else i),H,I.tok _,⟨_,rfl⟩,q⟩
def WB (hc:X.calm=true):JX X (.builtin "min") (λxs H Q=>∃ i j,xs=[.int i,.int j]/\Q (.int (if j<i then j else i)) H):=by
 intro pins s σ H xs us Q I r h;obtain ⟨i,j,rfl,q⟩:=h;obtain ⟨u,w',rfl,⟨t,rfl⟩,⟨t',rfl⟩⟩:=qcl r;refine min_two_ints (I.ok.hd hc) λh' tk k=>⟨_,H,I.kept k,?_,q⟩
 by_cases hj:j<i
 ·rw [if_pos hj,if_pos hj];exact ⟨_,rfl⟩
 ·rw [if_neg hj,if_neg hj];exact ⟨_,rfl⟩
def qn1 (K:Frg) (x:V) (H:Hp) (n:Nat):Prop:=
 match x with
 |.str y=>y.length<=sizeLine/\n=y.length
 |.byt y=>y.size<=sizeLine/\n=y.size
 |.ref p=>(∃ xs,SqL K H p xs/\n=xs.length)\/∃ xs,SqT K H p xs/\n=xs.length
 |_=>False
def za:JX X (.builtin "len") (λxs H Q=>∃ x n,xs=[x]/\qn1 X.K x H n/\Q (.int n) H):=by
 intro pins s σ H xs us Q I r h;obtain ⟨x,n,rfl,e,q⟩:=h;obtain ⟨u,rfl,rx⟩:=XI r;have hl:=SX;have hs:sizeLine=16777216:=y8;cases x with
 |str y=>
  obtain ⟨t,rfl⟩:=rx;obtain ⟨hy,e'⟩:y.length<=sizeLine/\n=y.length:=e;subst e';exact len_str (by omega) ⟨.int _,H,I.tok _,⟨_,rfl⟩,q⟩
 |byt y=>
  obtain ⟨t,rfl⟩:=rx;obtain ⟨hy,e'⟩:y.size<=sizeLine/\n=y.size:=e;subst e';exact PySem.W.len_bytes (by omega) ⟨.int _,H,I.tok _,⟨_,rfl⟩,q⟩
 |ref p=>
  cases rx;have e':(∃ xs,SqL X.K H p xs/\n=xs.length)\/∃ xs,SqT X.K H p xs/\n=xs.length:=e;rcases e' with ⟨xs,hx,e'⟩|⟨xs,hx,e'⟩
  ·subst e';obtain ⟨its,r',pl,hz⟩:=I.list hx;have hlen:=r'.length;exact Calls.call_len_list pl.isList (by simp only [size_toArray];omega) ⟨.int xs.length,H,I.tok _,⟨_,by simp only [size_toArray];rw [hlen]⟩,q⟩
  ·subst e';obtain ⟨its,r',pl,hz⟩:=I.tuple hx;have hlen:=r'.length;exact len_tuple pl (by simp only [size_toArray];omega) ⟨.int xs.length,H,I.tok _,⟨_,by simp only [size_toArray];rw [hlen]⟩,q⟩
 |_=>exact (show False from e).elim
end
section
variable {prog:Program} {w:World} {A:Around} {E:Value->Shared->Prop} {s:Shared} {K:Frg} {x dx C f:Addr} {mA:Str->Option Value} {name:Str} {v:Value}
end
section
variable {P:Program} {w:World} {H H':Hp} {h h':Heap} {a C dx:Addr} {fs fs':List (Str×V)}
end
section
variable {X:Cx} {pins:List (Addr×Obj)} {σ:St} {H:Hp} {s:Shared} {a C dx:Addr} {fs:List (Str×V)} {f:Str} {v:V} {A:Around} {E:Value->Shared->Prop}
def Inv.made (I:Inv X pins σ H s):Inv X pins σ (upd (upd H s.heap.objs.size (.own (s.heap.objs.size+1))) (s.heap.objs.size+1) (.ins C s.heap.objs.size []))
  { s with heap:=(s.heap.push PySem.W.emptyDict).push (PySem.W.instObj C s.heap.objs.size) }:=by
 have e1:(s.heap.push PySem.W.emptyDict).get? s.heap.objs.size=some PySem.W.emptyDict:=y3 s.heap rfl;have e2:((s.heap.push PySem.W.emptyDict).push (PySem.W.instObj C s.heap.objs.size)).get? (s.heap.objs.size+1)=some (PySem.W.instObj C s.heap.objs.size):=by
  have:=y3 (s.heap.push PySem.W.emptyDict) (o:=PySem.W.instObj C s.heap.objs.size) rfl
  rwa [Heap.size_push] at this
 have e3:(s.heap.push PySem.W.emptyDict).Ns s.heap.objs.size (λ_=>none):=⟨PySem.W.emptyDict,#[],_,e1,rfl,(λe he=>absurd he (by simp)),λ_=>rfl⟩
 have I1:=I.laid (a:=s.heap.objs.size) (o:=.own (s.heap.objs.size+1)) (h':=s.heap.push PySem.W.emptyDict) (t':=s.toks) (λb u q=>y2 _ q) (v5 _) ⟨_,e1⟩;refine I1.laid (a:=s.heap.objs.size+1) (o:=.ins C s.heap.objs.size []) (t':=s.toks) (λb u q=>y2 _ q) (Nat.le_of_eq (Heap.size_push _ _)) ?_;have ne:s.heap.objs.size≠s.heap.objs.size+1:=u8 (Nat.lt_succ_self _);refine ⟨by rw [qo ne,qH],Nat.zero_le _,ne,e2,λ_=>none,(Heap.Ns1.of_empty e3).at λo q=>y2 _ q,λ_=>True.intro,λy hy=>absurd rfl hy⟩
end
section
variable {X:Cx} {o e value:Expr} {f:Str} {pos pos' tpos:Pos} {ta tv:TE}
end
section
variable {X:Cx} {pins:List (Addr×Obj)} {σ:St} {H:Hp} {s:Shared} {A:Around} {E:Value->Shared->Prop} {Q:Value->Shared->Prop} {c:Value} {b:Bool}
end
structure Room (k:Nat) (A:Around):Prop where
 hd:A.handled=none
 dp:A.depth+3*k+5<recursionLimit
 un:A.units+16*k+200<cLine
 gd:A.guards=some []
def Room.mono {j k:Nat} {A:Around} (r:Room k A) (h:j<=k):Room j A:=⟨r.hd,by have:=r.dp;omega,by have:=r.un;omega,r.gd⟩
theorem Room.deeper {k:Nat} {A:Around} (r:Room (k+1) A) (env:Env):Room k (A.deeper env):=
 ⟨r.hd,by have:=r.dp;show A.depth+1+3*k+5<_;omega,by have:=r.un;show A.units+3+16*k+200<_;omega,r.gd⟩
theorem Room.in1 {k:Nat} {A:Around} (r:Room (k+1) A):Room k A.in1:=
 ⟨r.hd,by have:=r.dp;show A.depth+3*k+5<_;omega,by have:=r.un;show A.units+1+16*k+200<_;omega,r.gd⟩
theorem Room.depth {k:Nat} {A:Around} (r:Room k A):A.depth<recursionLimit:=by have:=r.dp;omega
theorem Room.units {k:Nat} {A:Around} (r:Room k A):A.units+64<cLine:=by have:=r.un;omega
def qoF:TA:=λ_ H Q=>Q [] H
def qec (ta:TE) (tr:TA):TA:=λσ H Q=>ta σ H λx H1=>tr σ H1 λxs H2=>Q (x::xs) H2
section
variable {X:Cx} {e:Expr} {es:List Expr} {te:TE} {t:TA} {pos:Pos}
def L6:PA X [] qoF:=λ_ _ _ _ H Q I h=>Calls.spliced_nil ⟨[],H,I,.nil,h⟩
def j6 (ha:PE X e te) (hr:PA X es t) (hs:starEach (e::es) X.env=(false,eval e X.env)::starEach es X.env:=by rfl):PA X (e::es) (qec te t):=by
 intro pos pins s σ H Q I h;rw [hs];show wpAny _ _ (spliced ((false,eval e X.env)::backTo pos (starEach es X.env))) _ _ s;refine Calls.spliced_cons (thn (ha pins s σ H _ I h) λu s1 ⟨x,H1,I1,r1,q1⟩=>?_);exact thn (hr pos pins s1 σ H1 _ I1 q1) λus s2 ⟨xs,H2,I2,r2,q2⟩=>⟨x::xs,H2,I2,.cons r1 r2,q2⟩
def qoO (t:TA):TE:=λσ H Q=>t σ H λxs H1=>xs.length<=sizeLine/\∀ p,H1 p=none->Q (.ref p) (upd H1 p (.tup xs))
def qoK (t:TA):TE:=λσ H Q=>t σ H λxs H1=>xs.length<=sizeLine/\∀ p,H1 p=none->Q (.ref p) (upd H1 p (.lst xs))
def qfv {x1} (h:PA X es t):PE X (.Tuple es x1 pos) (qoO t):=by
 intro pins s σ H Q I hq;refine wpAny_Tuple_spliced (thn (h pos pins s σ H _ I hq) λus s1 ⟨xs,H1,I1,r,z,q⟩=>⟨by rw [← r.length];exact z,?_⟩);have hf:H1 s1.heap.objs.size=none:=I1.hok.fresh (v5 _);refine ⟨.ref s1.heap.objs.size,upd H1 s1.heap.objs.size (.tup xs),I1.laid (t':=s1.toks) (λb u e=>y2 _ e) (v5 _) ?_,rfl,q _ hf⟩;exact ⟨z,us,r,⟨_,y3 _ rfl,rfl,_,rfl,rfl⟩⟩
def qk6 (h:PA X es t):PE X (.List es pos) (qoK t):=by
 intro pins s σ H Q I hq;refine wpAny_List_spliced (thn (h pos pins s σ H _ I hq) λus s1 ⟨xs,H1,I1,r,z,q⟩=>⟨by rw [← r.length];exact z,?_⟩);have hf:H1 s1.heap.objs.size=none:=I1.hok.fresh (v5 _);refine ⟨.ref s1.heap.objs.size,upd H1 s1.heap.objs.size (.lst xs),I1.laid (t':=s1.toks) (λb u e=>y2 _ e) (v5 _) ?_,rfl,q _ hf⟩;exact ⟨z,us,0,r,y3 _ rfl⟩
end
abbrev Sp:=List V->Hp->VK->XK->Prop
abbrev CXT:=List Env->Hp->Shared->XK->Value->Shared->Prop
structure Env0 (P:Program) (w:World) (K:Frg) (mg:Str->Option Value) (base:Heap) (A:Around) (outer:List Env) (s:Shared) (H:Hp):Prop where
 frames:A.frames=some outer
 mod:Mod K mg base
 bs:∀ b o,base.get? b=some o->s.heap.get? b=some o/\H b=none
 bsz:base.objs.size<=s.heap.objs.size
 funs:s.heap.FunFrames base outer
 frf:∀ b∈frs outer,H b=none
 hok:HOk P w H s.heap
 bare:AllBare s.gens
def CE (outer:List Env) (P:Program) (w:World) (H:Hp) (s:Shared) (Q:VK) (u:Value) (s':Shared):Prop:=
 ∃ v H',s'.os=s.os/\AllBare s'.gens/\Un (frs outer) [] H H' s.heap s'.heap/\HOk P w H' s'.heap/\zE v u/\Q v H'
def CR (CX:CXT) (outer:List Env) (P:Program) (w:World) (H:Hp) (s:Shared) (Q:VK) (E:XK) (r:Result) (s':Shared):Prop:=
 match r with
 |.ok (.ret u)=>CE outer P w H s Q u s'
 |.ok _=>False
 |.error e=>CX outer H s E e s'
structure FnOk (P:Program) (w:World) (K:Frg) (mg:Str->Option Value) (base:Heap) (CX:CXT) (k:Nat) (f:Addr) (fd:FuncData) (ps:List Str) (sp:Sp):Prop where
 len:∀ vs H Q E,sp vs H Q E->vs.length=ps.length
 run:∀ (A:Around) (outer:List Env) (s:Shared) (H:Hp) (args:Args) (us:List Value) (vs:List V) (Q:VK) (E:XK),Room k A->Env0 P w K mg base A outer s H->BindsTo s fd args (ps.zip us)->qY vs us->sp vs H Q E ->
  codeAny (model P w) A (.call (.ref f) args) (CR CX outer P w H s Q E) s
theorem FnOk.mono {P:Program} {w:World} {K:Frg} {mg:Str->Option Value} {base:Heap} {CX:CXT} {j k:Nat} {f:Addr} {fd:FuncData} {ps:List Str} {sp:Sp} (F:FnOk P w K mg base CX j f fd ps sp) (h:j<=k) :
  FnOk P w K mg base CX k f fd ps sp:=⟨F.len,λA outer s H args us vs Q E hr=>F.run A outer s H args us vs Q E (hr.mono h)⟩
def FnOk.imp {P:Program} {w:World} {K:Frg} {mg:Str->Option Value} {base:Heap} {CX:CXT} {k:Nat} {f:Addr} {fd:FuncData} {ps:List Str} {sp sp':Sp} (F:FnOk P w K mg base CX k f fd ps sp)
  (h:∀ vs H Q E,sp' vs H Q E->sp vs H Q E):FnOk P w K mg base CX k f fd ps sp':=
 ⟨λvs H Q E q=>F.len vs H Q E (h _ _ _ _ q),λA outer s H args us vs Q E hr he hb hv hs=>F.run A outer s H args us vs Q E hr he hb hv (h _ _ _ _ hs)⟩
theorem Env0.in1 {P:Program} {w:World} {K:Frg} {mg:Str->Option Value} {base:Heap} {A:Around} {outer:List Env} {s:Shared} {H:Hp} (e:Env0 P w K mg base A outer s H) :
  Env0 P w K mg base A.in1 outer s H:=⟨e.frames,e.mod,e.bs,e.bsz,e.funs,e.frf,e.hok,e.bare⟩
section
variable {X:Cx} {pins:List (Addr×Obj)} {σ:St} {H:Hp} {s s':Shared}
def Inv.env0 (I:Inv X pins σ H s):Env0 X.prog X.w X.K X.mg X.base X.A X.stack s H:=
 ⟨I.ok.frames,I.ok.mod,I.bs,u7 I.ok.bsz I.sz,I.stack,I.stkFree,I.hok,I.bare⟩
def Inv.after {Q:VK} {u:Value} (I:Inv X pins σ H s) (h:CE X.stack X.prog X.w H s Q u s'):EP X pins σ Q u s':=by
 obtain ⟨v,H',os,bare,un,hok,r,q⟩:=h;obtain ⟨hh,g,d,t,os'⟩:=s';obtain rfl:os'=s.os:=os;exact ⟨v,H',I.call (h':=hh) (g':=g) (d':=d) (t':=t) (ch:=[]) un hok bare (λb z=>absurd z (by simp)),r,q⟩
end
def qmo (sp:Sp) (dvs:List V) (E:XK) (t:TA):TE:=λσ H Q=>t σ H λvs H1=>sp (vs++dvs) H1 Q E
def EQ (K:Frg) (fd:FuncData) (ps:List Str) (ds:List Value):Prop:=
 ∀ (s:Shared) (us:List Value),K.In s.heap->(us++ds).length=ps.length->BindsTo s fd ⟨us,[]⟩ (ps.zip (us++ds))
def EQ.all {K:Frg} {fd:FuncData} {ps:List Str} (h:∀ us:List Value,us.length=ps.length->bindArgs fd ⟨us,[]⟩=pure (ps.zip us)):EQ K fd ps []:=λs us _ hl=>by
 rw [List.append_nil] at hl ⊢;exact .of_eq (h us hl)
def qbr (CX:CXT) (X:Cx) (E:XK):Prop:=∀ (pins:List (Addr×Obj)) (σ:St) (H:Hp) (s:Shared) (e:Value) (s':Shared),Inv X pins σ H s->CX X.stack H s E e s'->X.xe e s'
section
variable {X:Cx} {CX:CXT} {k:Nat} {f C:Addr} {fd:FuncData} {ps:List Str} {sp:Sp} {dvs:List V} {ds:List Value} {E:XK} {x m:Str} {p pos apos:Pos} {e o:Expr} {es:List Expr} {ta:TE} {t:TA}
def qeZ {pins:List (Addr×Obj)} {σ:St} {H:Hp} {s:Shared} {Q:VK} {us:List Value} {vs:List V} (F:FnOk X.prog X.w X.K X.mg X.base CX k f fd ps sp) (hr:Room k X.A) (hb:EQ X.K fd ps ds) (hd:qY dvs ds) (hx:qbr CX X E)
  (I:Inv X pins σ H s) (r:qY vs us) (h:sp (vs++dvs) H Q E):wpAny (model X.prog X.w) X.A (call (.ref f) us) (EP X pins σ Q) X.xe s:=by
 have r2:qY (vs++dvs) (us++ds):=r.append hd;have hl:(us++ds).length=ps.length:=by rw [← r2.length];exact F.len _ _ _ _ h
 refine wpAny_call (codeAny_mono (F.run X.A X.stack s H ⟨us,[]⟩ (us++ds) (vs++dvs) Q E hr I.env0 (hb s us I.kIn hl) r2 h) λr s' hq=>?_);cases r with
 |error e=>exact hx pins σ H s e s' I hq
 |ok fl=>
  cases fl with
  |ret u=>exact I.after hq
  |next=>exact False.elim hq
  |brk=>exact False.elim hq
  |cont=>exact False.elim hq
def qgm (F:FnOk X.prog X.w X.K X.mg X.base CX k f fd ps sp) (hr:Room k X.A) (hg:Gl X x) (hm:X.mg x=some (.ref f)) (hk:PySem.W.keepIn X.K (.ref f)=true) (hb:EQ X.K fd ps ds) (hd:qY dvs ds) (hx:qbr CX X E)
  (ha:PA X (e::es) t) (hdb:(x==("__debug__" : Str))=false:=by decide) (he:starEach (e::es) X.env=(false,eval e X.env)::starEach es X.env:=by rfl) (hpl:(backTo pos (starEach es X.env)).any (·.1)=false:=by rfl) :
  PE X (.Call (.Name x p) (e::es) [] pos) (qmo sp dvs E t):=by
 intro pins s σ H Q I h;refine wpAny_Call_Name_kw (qaF I hg hm ?_ hdb);refine PySem.W.callWith_K (h₀:=X.base) I.ok.mod.kin hk (thn (ha pos pins s σ H _ I h) λus s1 ⟨vs,H1,I1,r,q⟩=>⟨I1.kIn,?_⟩) he hpl;exact qeZ F hr hb hd hx I1 r q
end
section
variable {X:Cx} {CX:CXT} {k:Nat} {f C:Addr} {fd:FuncData} {ps ks:List Str} {sp:Sp} {E:XK} {x m:Str} {p pos apos kpos:Pos} {e o:Expr} {es:List Expr} {kws:List Keyword} {te ta:TE} {t tk:TA} {nm:Option Str}
variable {g:List Value->List Value->List Value} {gV:List V->List V->List V}
end
structure FnScope (N P:List Str) (sc:Scope):Prop where
 kind:sc.kind=.function
 co:sc.isCoroutine=false
 gen:sc.isGenerator=false
 nd:N.Nodup
 pre:N.take P.length=P
 par:∀ x∈P,sc.names.lookup x=some .local\/sc.names.lookup x=some .cell
 nofree:∀ y∈sc.names,y.2≠.free
theorem SK {kindOf:Str->Option NameKind} {x:Str}:∀ {binds:List (Str×Value)} {m:Str->Option Value},(∀ v,(x,v)∉binds)->bindL kindOf binds m x=m x
 |[],_,_=>rfl
 | (n,v)::r,m,h=>by
  unfold bindL;rw [SK λw hw=>h w (v6 _ hw)];split
  ·have:x≠n:=by rintro rfl;exact h v za0
   simp [this]
  ·rfl
theorem RV {kindOf:Str->Option NameKind} {x:Str}:∀ {binds:List (Str×Value)} {m:Str->Option Value},(∀ v,(x,v)∉binds)->bindC kindOf binds m x=m x
 |[],_,_=>rfl
 | (n,v)::r,m,h=>by
  unfold bindC;rw [RV λw hw=>h w (v6 _ hw)];split
  ·rfl
  ·have:x≠n:=by rintro rfl;exact h v za0
   simp [this]
theorem SJ {kindOf:Str->Option NameKind} {x:Str} {v:Value}:∀ {P:List Str} {vs:List Value} {i:Nat} {m:Str->Option Value},P.Nodup->P[i]?=some x->vs[i]?=some v->kindOf x=some .local ->
  bindL kindOf (P.zip vs) m x=some v
 |[],_,_,_,_,h,_,_=>by simp at h
 |_::_,[],_,_,_,_,h,_=>by simp at h
 |p::P,w::vs,0,m,nd,h1,h2,hk=>by
  simp at h1 h2;subst h1;subst h2;show bindL kindOf ((p,w)::P.zip vs) m p=_;unfold bindL;rw [SK λv hv=>(List.nodup_cons.mp nd).1 (List.of_mem_zip hv).1,if_pos hk];simp
 |p::P,w::vs,i+1,m,nd,h1,h2,hk=>by
  show bindL kindOf ((p,w)::P.zip vs) m x=_;unfold bindL;exact SJ (i:=i) (List.nodup_cons.mp nd).2 (by simpa using h1) (by simpa using h2) hk
theorem SM {kindOf:Str->Option NameKind} {x:Str} {v:Value}:∀ {P:List Str} {vs:List Value} {i:Nat} {m:Str->Option Value},P.Nodup->P[i]?=some x->vs[i]?=some v->kindOf x≠some .local ->
  bindC kindOf (P.zip vs) m x=some v
 |[],_,_,_,_,h,_,_=>by simp at h
 |_::_,[],_,_,_,_,h,_=>by simp at h
 |p::P,w::vs,0,m,nd,h1,h2,hk=>by
  simp at h1 h2;subst h1;subst h2;show bindC kindOf ((p,w)::P.zip vs) m p=_;unfold bindC;rw [RV λv hv=>(List.nodup_cons.mp nd).1 (List.of_mem_zip hv).1,if_neg hk];simp
 |p::P,w::vs,i+1,m,nd,h1,h2,hk=>by
  show bindC kindOf ((p,w)::P.zip vs) m x=_;unfold bindC;exact SM (i:=i) (List.nodup_cons.mp nd).2 (by simpa using h1) (by simpa using h2) hk
def start (N:List Str) (vs:List V):St:=vs.map some++List.replicate (N.length-vs.length) none
def N9 (CX:CXT) (P:Program) (w:World) (K:Frg) (mg:Str->Option Value) (base:Heap) (N:List Str) (qual:Str) (scope:Scope) (f:Addr) (cd:Value) (A:Around) (outer:List Env) (s:Shared) (H:Hp) (E:XK):Cx where
 prog:=P
 w:=w
 K:=K
 mg:=mg
 base:=base
 A:=A.deeper (envOfC qual scope s.heap.objs.size f cd)
 N:=N
 s₀:=s
 H₀:=H
 env:=envOfC qual scope s.heap.objs.size f cd
 outer:=outer
 stack:=envOfC qual scope s.heap.objs.size f cd::outer
 ex:=[]
 calm:=true
 fn:=λ_=>true
 pn:=[]
 xe:=λe s'=>wpAny (model P w) (A.deeper (envOfC qual scope s.heap.objs.size f cd)) (leaving (envOfC qual scope s.heap.objs.size f cd) e) (λ_ s''=>CX outer H s E e s'') (λe' s''=>CX outer H s E e' s'') s'
def MM {sc:Scope} {n:Nat} {x:Str} (h:sc.names.lookup x=some .cell):∃ c,(cellsFrom n sc.names []).lookup x=some c:=by
 have q:=PySem.W.cellsFrom_some sc.names n [] (.inl h);exact Option.isSome_iff_exists.mp q
def qcu {CX:CXT} {P:Program} {w:World} {K:Frg} {mg:Str->Option Value} {base:Heap} {N ps:List Str} {qual:Str} {scope:Scope} {f:Addr} {cd:Value} {A:Around} {outer:List Env} {s s1:Shared} {H:Hp} {E:XK} {us:List Value} {vs:List V}
  (S:FnScope N ps scope) (hd:A.handled=none) (e0:Env0 P w K mg base A outer s H) (hl:vs.length=ps.length) (r:qY vs us)
  (x:InCallC s s.heap.objs.size (bindL (envOfC qual scope s.heap.objs.size f cd).kindOf (ps.zip us) λ_=>none) (cellsFrom (s.heap.objs.size+1) scope.names []) (bindC (envOfC qual scope s.heap.objs.size f cd).kindOf (ps.zip us) λ_=>none) s1) :
  Inv (N9 CX P w K mg base N qual scope f cd A outer s H E) [] (start N vs) H s1:=by
 have hpl:ps.length<=N.length:=by have:=congrArg List.length S.pre;rw [List.length_take] at this;omega
 obtain ⟨h1,tk,rfl,hk⟩:=x.done;have noA:∀ b:Addr,b∉(N9 CX P w K mg base N qual scope f cd A outer s H E).ex:=λb z=>absurd (show b∈([]:List Addr) from z) (by simp);refine ⟨⟨e0.mod,S.kind,rfl,rfl,v5 _,λy z c h1 h2=>?_,λy hy=>?_,λy c _ h=>?_,λ_=>hd,Around.frames_deeper e0.frames,.inr ⟨rfl,rfl⟩,λb z=>absurd z (noA b),e0.bs,e0.bsz,λb _ _=>noA b,λb z=>absurd z (noA b),e0.funs,e0.frf⟩,
  rfl,e0.bare,Un.kept hk,⟨_,x.toInCall.ns,λi y v h1 h2 h3=>?_⟩,λy c h=>⟨_,x.cell y c h⟩,e0.hok.fresh (v5 _),λy c h=>?_,λp hp=>absurd (show p∈([]:List (Addr×Obj)) from hp) (by simp),e0.hok.kept hk,?_⟩
 ·exact name_of_addr x.apart (PySem.mem_of_lookup h1) (PySem.mem_of_lookup h2)
 ·have hy:scope.names.lookup y=some .cell\/scope.names.lookup y=some .free:=hy;rcases hy with hy|hy
  ·exact MM hy
  ·exact absurd rfl (S.nofree _ (PySem.mem_of_lookup hy))
 ·exact Nat.le_of_lt (x.above y c (PySem.mem_of_lookup h))
 ·have hi:i<vs.length:=by
   unfold start at h2;by_cases hi:i<vs.length
   ·exact hi
   ·rw [List.getElem?_append_right (by simpa using hi)] at h2;rw [List.getElem?_replicate] at h2;split at h2<;>cases h2
  have ha:vs[i]?=some v:=by
   unfold start at h2;rw [List.getElem?_append_left (by simpa using hi),getElem?_map] at h2;cases e:vs[i]? with
   |none=>rw [e] at h2;cases h2
   |some a=>rw [e] at h2;cases h2;rfl
  obtain ⟨u,hu,rv⟩:=r.get ha;have hp:ps[i]?=some y:=by
   rw [← S.pre,List.getElem?_take_of_lt (by omega)];exact h1
  have ndP:ps.Nodup:=by rw [← S.pre];exact S.nd.sublist (List.take_sublist _ _)
  refine ⟨u,rv,?_⟩;rcases S.par y (v9 hp) with k|k
  ·exact .inl ⟨k,SJ ndP hp hu k⟩
  ·obtain ⟨c,e⟩:=MM (n:=s.heap.objs.size+1) k;refine .inr ⟨.inl k,c,e,?_⟩;have q:=x.cell y c e;rw [SM ndP hp hu (by show scope.names.lookup y≠_;rw [k];decide)] at q;exact q
 ·exact e0.hok.fresh (Nat.le_of_lt (x.above y c (PySem.mem_of_lookup h)))
 ·unfold start;show _=N.length;rw [length_append,length_map,List.length_replicate];omega
def qlo {CX:CXT} {P:Program} {w:World} {K:Frg} {mg:Str->Option Value} {base:Heap} {k:Nat} {f:Addr} {name qual:Str} {params:Arguments} {body:List Stmt} {scope:Scope} {dV kV doc pm cdv ct oc:Value} {an od:Option Addr}
  {osl:Array (Option Value)} {N ps:List Str} {sp:Sp} (lk:K.lookup f=some ⟨oc,od,.func (PySem.W.fnOf name qual params body scope dV kV doc pm an cdv ct),osl⟩) (hcd:PySem.W.codeIn K cdv qual=true) (S:FnScope N ps scope)
  (len:∀ vs H Q E,sp vs H Q E->vs.length=ps.length)
  (hbody:∀ (A:Around) (outer:List Env) (s:Shared) (H:Hp) (vs:List V) (Q:VK) (E:XK),Room k (A.deeper (envOfC qual scope s.heap.objs.size f cdv))->sp vs H Q E ->
   ∃ t,PSs (N9 CX P w K mg base N qual scope f cdv A outer s H E) body t/\t { nx:=λ_ H'=>Q .non H',rt:=Q } (start N vs) H) :
  FnOk P w K mg base CX (k+1) f (PySem.W.fnOf name qual params body scope dV kV doc pm an cdv ct) ps sp:=by
 refine ⟨len,λA outer s H args us vs Q E hr e0 hb r hsp=>?_⟩;have hl:=len _ _ _ _ hsp;have KX:K.In s.heap:=e0.mod.kin.keeps λb o e=>(e0.bs b o e).1;have lim:s.heap.NoLimit:=e0.mod.nolimit.keeps λb o e=>(e0.bs b o e).1;have hkind:∀ y∈ps.zip us,scope.names.lookup y.1=some .local\/(scope.names.lookup y.1=some .cell/\((cellsFrom (s.heap.objs.size+1) scope.names []).lookup y.1).isSome=true):=λ⟨n,v⟩ hy=>by
  rcases S.par n (List.of_mem_zip hy).1 with q|q
  ·exact .inl q
  ·exact .inr ⟨q,PySem.W.cellsFrom_some _ _ _ (.inl q)⟩
 refine codeAny_call_function hr.depth (KX _ _ lk) rfl S.co S.gen rfl (PySem.W.codeRec_of KX hcd) (hb _ _ _ _ ?_);refine wpAny_newFunctionEnv_cells S.kind hkind λenv he s1 x=>?_;subst he;refine ⟨lim.keeps x.toInCall.keep,codeAny_func ?_⟩;obtain ⟨t,ht,hq⟩:=hbody A outer s H vs Q E (hr.deeper _) hsp;have I:Inv (N9 CX P w K mg base N qual scope f cdv A outer s H E) [] (start N vs) H s1:=qcu S hr.hd e0 hl r x;refine y0 (ht [] s1 (start N vs) H _ I hq) (λfl s' hs=>?_) λe s' hs=>hs;have fin:∀ {σ':St} {H':Hp} {v:V} {u:Value},Inv (N9 CX P w K mg base N qual scope f cdv A outer s H E) [] σ' H' s'->zE v u->Q v H'->CE outer P w H s Q u s':=
  λ{σ' H' v u} J rv q=>⟨v,H',J.os,J.bare,J.base,J.hok,rv,q⟩
 cases fl with
 |ret u=>
  obtain ⟨v,σ',H',J,rv,q⟩:=hs;exact fin J rv q
 |next=>
  obtain ⟨σ',H',J,q⟩:=hs;exact fin (v:=V.non) (u:=Value.none) J rfl q
 |brk=>
  obtain ⟨_,_,_,q⟩:=hs;exact False.elim q
 |cont=>
  obtain ⟨_,_,_,q⟩:=hs;exact False.elim q
section
variable {X:Cx} {x:Str} {p pos:Pos} {e:Expr} {es:List Expr} {t:TA} {id T:String} {r:List V->Hp->VK->Prop}
def tCB (r:List V->Hp->VK->Prop) (t:TA):TE:=λσ H Q=>t σ H λvs H1=>r vs H1 Q
def CA (hc:JX X (.builtin id) r) (hg:Gl X x) (hm:X.mg x=none) (hv:bootBuiltins x=some (.builtin id)) (ha:PA X (e::es) t) (hn:x≠"__name__" := by decide) (hdb:(x==("__debug__" : Str))=false:=by decide)
  (he:starEach (e::es) X.env=(false,eval e X.env)::starEach es X.env:=by rfl) (hpl:(backTo pos (starEach es X.env)).any (·.1)=false:=by rfl):PE X (.Call (.Name x p) (e::es) [] pos) (tCB r t):=by
 intro pins s σ H Q I h;refine wpAny_Call_Name_kw (VB I hg hm hv ?_ hn hdb);exact PyProof.Rows.callWith_builtin1 (thn (ha pos pins s σ H _ I h) λus s1 ⟨vs,H1,I1,r1,q1⟩=>hc pins s1 σ H1 vs us Q I1 r1 q1) he hpl
def qaA (hc:JX X (.type T) r) (hg:Gl X x) (hm:X.mg x=none) (hv:bootBuiltins x=some (.type T)) (ha:PA X (e::es) t) (hn:x≠"__name__" := by decide) (hdb:(x==("__debug__" : Str))=false:=by decide)
  (he:starEach (e::es) X.env=(false,eval e X.env)::starEach es X.env:=by rfl) (hpl:(backTo pos (starEach es X.env)).any (·.1)=false:=by rfl):PE X (.Call (.Name x p) (e::es) [] pos) (tCB r t):=by
 intro pins s σ H Q I h;refine wpAny_Call_Name_kw (VB I hg hm hv ?_ hn hdb);exact PyProof.Rows.callWith_type1 (thn (ha pos pins s σ H _ I h) λus s1 ⟨vs,H1,I1,r1,q1⟩=>hc pins s1 σ H1 vs us Q I1 r1 q1) he hpl
end
end L2
namespace HT
open PySem PyProof.Rows
section
open PySem.SeqAt
open PySem.MeetsSeq PySem.MeetsSeq2 PySem.MeetsSeq3
end
section
variable {prog:Program} {w:World} {A:Around} {E:Value->Shared->Prop} {s:Shared}
def qgK {t b:Addr} {vs ws:List Value} {Q:Value->Shared->Prop} (ht:IsTup s.heap t vs.toArray) (hb:IsTup s.heap b ws.toArray) (hv:vs≠[])
  (h1:ws=[]->Q (.ref t) s) (h2:ws≠[]->Q (.ref s.heap.objs.size) { s with heap:=s.heap.push { cls:=.type "tuple",data:=.seq (vs++ws).toArray } })
  (hsz:vs.length+ws.length<=sizeLine):wpAny (model prog w) A (binaryOp .Add (.ref t) (.ref b)) Q E s:=by
 obtain ⟨⟨cls,dd,data,sl⟩,ho,hc,n,hd⟩:=id ht;obtain ⟨⟨cls2,dd2,data2,sl2⟩,ho2,hc2,n2,hd2⟩:=id hb;simp only at hc hd hc2 hd2;subst hc hd hc2 hd2;have e:vs.toArray++ws.toArray=(vs++ws).toArray:=by simp
 by_cases hw:ws=[]
 ·exact concat_meets ⟨_,ho,rfl⟩ ⟨_,ho2,rfl⟩ noFill_tuple_add seq_tuple_add PySem.F.slot_tuple_add PySem.F.entry_tuple_add (PySem.F.args_tuple_add_2 _ _)
   (tuple_addW1 t b vs.toArray ws.toArray n n2 dd dd2 sl sl2 (by simpa using hv) (by simp [hw])) ⟨ho,ho2,h1 hw⟩
 ·refine concat_meets ⟨_,ho,rfl⟩ ⟨_,ho2,rfl⟩ noFill_tuple_add seq_tuple_add PySem.F.slot_tuple_add PySem.F.entry_tuple_add (PySem.F.args_tuple_add_2 _ _)
   (tuple_addW2 t b vs.toArray ws.toArray n n2 dd dd2 sl sl2 (by simpa using hv) (by simpa using hw) (by rw [size_toArray,size_toArray];exact hsz)) ⟨ho,ho2,?_⟩
  rw [e];exact h2 hw
def sIx (n d:Nat):Option Int->Nat
 |none=>d
 |some v=>if v<0 then (v+(n:Int)).toNat else min v.toNat n
def qdi (n d:Nat):sIx n d none=d:=rfl
def qhc (n d k:Nat):sIx n d (some (k:Int))=min k n:=by
 show (if (k:Int)<0 then ((k:Int)+(n:Int)).toNat else min (k:Int).toNat n)=min k n;rw [if_neg (by omega),Int.toNat_natCast]
def qjl (n d:Nat) (hd:d<=n) (o:Option Int):sIx n d o<=n:=by
 cases o with
 |none=>exact hd
 |some v=>
  show (if v<0 then (v+(n:Int)).toNat else min v.toNat n)<=n;by_cases hv:v<0
  ·rw [if_pos hv];omega
  ·rw [if_neg hv];exact Nat.min_le_right _ _
def qb5 (v:Int) (n d:Nat):(if v<0 then max (v+(n:Int)) 0 else min v (n:Int))=((sIx n d (some v):Nat):Int):=by
 show (if v<0 then max (v+(n:Int)) 0 else min v (n:Int))=(((if v<0 then (v+(n:Int)).toNat else min v.toNat n):Nat):Int);by_cases hv:v<0
 ·simp only [if_pos hv];omega
 ·simp only [if_neg hv];omega
def NY (lo hi:Option Int) (n:Nat):Builtin.Slice.sliceAdjust lo hi 1 (n:Int)=(((sIx n 0 lo:Nat):Int),((sIx n n hi:Nat):Int)):=by
 have h1:¬ ((1:Int)<0):=by omega
 unfold Builtin.Slice.sliceAdjust;simp only [h1,if_false];refine Prod.ext ?_ ?_
 ·cases lo with
  |none=>rfl
  |some v=>exact qb5 v n 0
 ·cases hi with
  |none=>rfl
  |some v=>exact qb5 v n n
def M1 (i j:Nat):Builtin.Slice.slicePlaces (i:Int) (j:Int) 1=j-i:=by
 unfold Builtin.Slice.slicePlaces;have h1:(1:Int) > 0:=by omega
 simp only [h1,if_true,Int.ediv_one];split<;>omega
def XB {v:Value} {o:Option Int} {Q:Option Int->Shared->Prop} (p:IsPart v o) (h:Q o s):wpAny (model prog w) A (Builtin.Slice.slicePartIndex v) Q E s:=by
 cases p with
 |none=>exact slicePart_none h
 |int i t=>exact slicePart_int h
def U4 {sl:Addr} {vl vu:Value} {lo hi:Option Int} {n:Nat} {Q:Int×Int×Nat->Shared->Prop} (hs:s.heap.IsSliceOf sl vl vu .none) (pl:IsPart vl lo) (pu:IsPart vu hi)
  (h:Q (((sIx n 0 lo:Nat):Int),1,sIx n n hi-sIx n 0 lo) s):wpAny (model prog w) A (Builtin.Slice.sliceApplied (.ref sl) (pure (n:Int))) Q E s:=by
 obtain ⟨os,hos,hcs,hds⟩:=id hs;unfold Builtin.Slice.sliceApplied Builtin.Slice.sliceFields;refine x8 (x8 (wpAny_field hos hds (x:=vl) rfl (x8 (wpAny_field hos hds (x:=vu) rfl (x8 (wpAny_field hos hds (x:=.none) rfl (x9 ?_)))))));refine x8 (slicePart_none ?_);show wpAny _ _ (if ((1:Int)==0)=true then _ else _) _ _ s;rw [if_neg (by decide)];refine x8 (XB pl (x8 (XB pu (x8 (x9 ?_)))));show wpAny _ _ (match Builtin.Slice.sliceAdjust lo hi 1 (n:Int) with|(lo,hi)=>pure (lo,(1:Int),Builtin.Slice.slicePlaces lo hi 1)) _ _ s;rw [NY lo hi n];show wpAny _ _ (pure (((sIx n 0 lo:Nat):Int),(1:Int),Builtin.Slice.slicePlaces ((sIx n 0 lo:Nat):Int) ((sIx n n hi:Nat):Int) 1)) _ _ s;rw [M1];exact x9 h
def qd2 (xs:Array Value) (i k:Nat):((List.range k).filterMap λ(m:Nat)=>xs[((i:Int)+(m:Int)*1).toNat]?).toArray=((xs.toList.drop i).take k).toArray:=by
 have e:(λ(m:Nat)=>xs[((i:Int)+(m:Int)*1).toNat]?)=λm=>xs[i+m]?:=by
  funext m;have:((i:Int)+(m:Int)*1).toNat=i+m:=by omega
  rw [this]
 rw [e];have:=pick_run xs i k;rw [List.filterMap_map] at this;have e2:((λx=>xs[x]?)∘λx=>i+x)=λm=>xs[i+m]?:=rfl;rw [e2] at this;rw [this]
def VU {t sl:Addr} {items:Array Value} {vl vu:Value} {lo hi:Option Int} {Q:Value->Shared->Prop} (ht:IsTup s.heap t items) (hs:s.heap.IsSliceOf sl vl vu .none) (pl:IsPart vl lo) (pu:IsPart vu hi)
  (hw:¬ (sIx items.size 0 lo=0/\sIx items.size items.size hi=items.size))
  (h:Q (.ref s.heap.objs.size) { s with heap:=s.heap.push { cls:=.type "tuple",data:=.seq ((items.toList.drop (sIx items.size 0 lo)).take (sIx items.size items.size hi-sIx items.size 0 lo)).toArray } })
  (hsz:items.size<=sizeLine):wpAny (model prog w) A (getItem (.ref t) (.ref sl)) Q E s:=by
 have htake:sizeOk (.seq ((items.toList.drop (sIx items.size 0 lo)).take (sIx items.size items.size hi-sIx items.size 0 lo)).toArray):=by
  show ((items.toList.drop (sIx items.size 0 lo)).take (sIx items.size items.size hi-sIx items.size 0 lo)).toArray.size<=sizeLine;rw [size_toArray,List.length_take,List.length_drop,Array.length_toList];omega
 have hj:sIx items.size items.size hi<=items.size:=qjl _ _ (v5 _) hi;obtain ⟨os,hos,hcs,hds⟩:=id hs;have hTs:s.TypeIs (.ref sl) "slice" := ⟨os,hos,hcs⟩
 unfold getItem
 try with_reducible refine wpAny_holding ?_
 first|refine x8 (x9 ?_)|skip
 refine x8 (wpAny_sequenceKey ht.typeIs (by decide) ?_);refine x8 (wpAny_callSpecial?_slot (name:=Str.ofString "__getitem__") ht.typeIs PyProof.Rows.slot_tuple_getitem
  (wpAny_call_entry PyProof.Rows.slot_tuple_getitem ht.typeIs entry_tuple_getitem ?_ (args_tuple_getitem _ _)))
 show wpAny _ _ (Builtin.Tuple.tupleItemsOf (.ref t) >>= _) _ _ s;refine x8 (tupleItemsOf_ ht ?_);refine x8 (wpAny_typeOf hTs ?_);rw [if_pos (by decide)];refine x8 (U4 hs pl pu ?_);have hno:¬ ((((sIx items.size 0 lo:Nat):Int)==0&&(1:Int)==1&&(sIx items.size items.size hi-sIx items.size 0 lo)==items.size)=true):=by
  intro q;rw [Bool.and_eq_true,Bool.and_eq_true] at q;have q1:((sIx items.size 0 lo:Nat):Int)=0:=eq_of_beq q.1.1;have q2:sIx items.size items.size hi-sIx items.size 0 lo=items.size:=eq_of_beq q.2;exact hw ⟨by omega,by omega⟩
 show wpAny _ _ (if (((sIx items.size 0 lo:Nat):Int)==0&&(1:Int)==1&&(sIx items.size items.size hi-sIx items.size 0 lo)==items.size)=true then _ else _) _ _ s;rw [if_neg hno,qd2]
 first
  |exact x8 (m:=Builtin.Tuple.tupleExact _) (wpAny_newObj_type (x9 ⟨_,rfl,x9 h⟩) htake)
  |exact x8 (m:=Builtin.Tuple.tupleExact _) (wpAny_newObj_type (x8 (x9 (x9 ⟨_,rfl,x9 h⟩))) htake)
  |exact x8 (x8 (m:=Builtin.Tuple.tupleExact _) (wpAny_newObj_type (x9 (x9 ⟨_,rfl,x9 h⟩)) htake))
  |exact x8 (x8 (m:=Builtin.Tuple.tupleExact _) (wpAny_newObj_type (x9 ⟨_,rfl,x9 h⟩) htake))
end
end HT
namespace L2
open PySem PySem.Spec PyProof.Rows
abbrev TO:=St->Hp->(Option Int->Hp->Prop)->Prop
def PO (X:Cx) (e:Option Expr) (t:TO):Prop:=
 ∀ (pins:List (Addr×Obj)) (s:Shared) (σ:St) (H:Hp) (Q:Option Int->Hp->Prop),Inv X pins σ H s->t σ H Q ->
  wpAny (model X.prog X.w) X.A (evalPart e X.env) (λu s'=>∃ o H',Inv X pins σ H' s'/\IsPart u o/\Q o H') X.xe s
def qhq:TO:=λ_ H Q=>Q none H
def qmp (t:TE):TO:=λσ H Q=>t σ H λx H1=>∃ i,x=.int i/\Q (some i) H1
section
variable {X:Cx} {e:Expr} {te:TE} {lo hi:Option Expr} {tl th:TO} {pos p2:Pos}
def qhf:PO X none qhq:=by
 intro pins s σ H Q I h;rw [evalPart_none];exact x9 ⟨none,H,I,.none,h⟩
def qgt (h:PE X e te):PO X (some e) (qmp te):=by
 intro pins s σ H Q I hw;rw [evalPart_some];refine thn (h pins s σ H _ I hw) λu s1 ⟨x,H1,I1,r1,q1⟩=>?_;obtain ⟨i,rfl,q⟩:=q1;obtain ⟨t,rfl⟩:=r1;exact ⟨some i,H1,I1,.int i t,q⟩
def SlR (X:Cx) (r:V->Option Int->Option Int->Hp->VK->Prop):Prop:=
 ∀ (pins:List (Addr×Obj)) (s:Shared) (σ:St) (H:Hp) (x:V) (v vl vu:Value) (lo hi:Option Int) (sl:Addr) (Q:VK),Inv X pins σ H s->zE x v->s.heap.IsSliceOf sl vl vu .none->IsPart vl lo->IsPart vu hi->r x lo hi H Q ->
  ∃ T id,typeLookup (.type T) "__getitem__" = pure (some (.builtin id))/\s.TypeIs v T/\wpAny (model X.prog X.w) X.A (getItem v (.ref sl)) (EP X pins σ Q) X.xe s
def SlR.or {r r':V->Option Int->Option Int->Hp->VK->Prop} (h:SlR X r) (h':SlR X r'):SlR X (λx lo hi H Q=>r x lo hi H Q\/r' x lo hi H Q):=by
 intro pins s σ H x v vl vu lo hi sl Q I rx hs pl pu q;rcases q with q|q
 ·exact h pins s σ H x v vl vu lo hi sl Q I rx hs pl pu q
 ·exact h' pins s σ H x v vl vu lo hi sl Q I rx hs pl pu q
def tSl (r:V->Option Int->Option Int->Hp->VK->Prop) (te:TE) (tl th:TO):TE:=λσ H Q=>te σ H λx H1=>tl σ H1 λl H2=>th σ H2 λu H3=>r x l u H3 Q
def qdy {r:V->Option Int->Option Int->Hp->VK->Prop} (hr:SlR X r) (he:PE X e te) (hl:PO X lo tl) (hu:PO X hi th):PE X (.Subscript e (.Slice lo hi none p2) pos) (tSl r te tl th):=by
 intro pins s σ H Q I h;refine Subscript_ (thn (he pins s σ H _ I h) λv s1 ⟨x,H1,I1,r1,q1⟩=>?_);refine wpAny_Slice (thn (hl pins s1 σ H1 _ I1 q1) λvl s2 ⟨l,H2,I2,pl,q2⟩=>thn (hu pins s2 σ H2 _ I2 q2) λvu s3 ⟨u,H3,I3,pu,q3⟩=>?_);rw [evalPart_none];refine x9 ?_;have I4:Inv X pins σ H3 { s3 with heap:=s3.heap.push { cls:=.type "slice",data:=.fields #[vl,vu,.none] } }:=I3.kept (t':=s3.toks) λb ob q=>y2 _ q;obtain ⟨T,id,hT,ht,hg⟩:=hr pins { s3 with heap:=s3.heap.push { cls:=.type "slice",data:=.fields #[vl,vu,.none] } } σ H3 x v vl vu l u s3.heap.objs.size Q I4 r1 (Heap.IsSliceOf.new ..) pl pu q3;show wpAny (model X.prog X.w) X.A (subscriptTail e (.Slice lo hi none p2) v (.ref s3.heap.objs.size)) (EP X pins σ Q) X.xe { s3 with heap:=s3.heap.push { cls:=.type "slice",data:=.fields #[vl,vu,.none] } };exact tail_any (ops:=[.ref s3.heap.objs.size,v]) ht hT hg (by with_unfolding_all rfl)
def qgb (xs:List V) (lo hi:Option Int):List V:=(xs.drop (HT.sIx xs.length 0 lo)).take (HT.sIx xs.length xs.length hi-HT.sIx xs.length 0 lo)
def WF (xs:List V) (lo hi:Option Int):(qgb xs lo hi).length<=xs.length:=by
 unfold qgb;rw [List.length_take,List.length_drop];omega
def qo2 (K:Frg):V->Option Int->Option Int->Hp->VK->Prop:=λx lo hi H Q=>∃ a xs,x=.ref a/\SqT K H a xs /\
 ¬ (HT.sIx xs.length 0 lo=0/\HT.sIx xs.length xs.length hi=xs.length)/\∀ p,H p=none->Q (.ref p) (upd H p (.tup (qgb xs lo hi)))
def qjO:SlR X (qo2 X.K):=by
 intro pins s σ H x v vl vu lo hi sl Q I rx hs pl pu h;obtain ⟨a,xs,rfl,hx,hw,q⟩:=h;cases rx;obtain ⟨its,r,ht,hz⟩:=I.tuple hx;have hlen:its.toArray.size=xs.length:=by rw [size_toArray];exact r.length.symm
 refine ⟨"tuple",_,PyProof.Rows.slot_tuple_getitem.lookup,ht.typeIs,?_⟩;refine HT.VU ht hs pl pu (by rw [hlen];exact hw) ?_ (by rw [hlen];exact hz);rw [hlen];refine ⟨.ref s.heap.objs.size,_,I.laid (t':=s.toks) (o:=.tup (qgb xs lo hi)) (λb ob q=>y2 _ q) (v5 _) ?_,rfl,q _ (I.hok.fresh (v5 _))⟩;exact ⟨u7 (WF xs lo hi) hz,_,(r.drop (HT.sIx xs.length 0 lo)).take (HT.sIx xs.length xs.length hi-HT.sIx xs.length 0 lo),UP.new _ _⟩
def qkn (K:Frg):R2:=λx y H Q=>∃ a b xs ys,x=.ref a/\y=.ref b/\SqT K H a xs/\SqT K H b ys/\xs≠[]/\xs.length+ys.length<=sizeLine /\
 (ys=[]->Q (.ref a) H)/\(ys≠[]->∀ p,H p=none->Q (.ref p) (upd H p (.tup (xs++ys))))
def qY.nil_iff {xs:List V} {us:List Value} (r:qY xs us):us=[]↔xs=[]:=by
 cases r with
 |nil=>simp
 |cons _ _=>simp
def qgL:OpR X (binaryOp .Add) (qkn X.K):=by
 intro pins s σ H x y v u Q I rx ry h;obtain ⟨a,b,xs,ys,rfl,rfl,ha,hb,hx,hz,q1,q2⟩:=h;cases rx;cases ry;obtain ⟨its,r1,p1,_⟩:=I.tuple ha;obtain ⟨its2,r2,p2,_⟩:=I.tuple hb;refine HT.qgK p1 p2 (λz=>hx (r1.nil_iff.mp z)) (λz=>⟨.ref a,H,I,rfl,q1 (r2.nil_iff.mp z)⟩) (λz=>?_) (by rw [← r1.length,← r2.length];exact hz);refine ⟨.ref s.heap.objs.size,_,I.laid (t':=s.toks) (o:=.tup (xs++ys)) (λb ob q=>y2 _ q) (v5 _) ?_,rfl,q2 (λw=>z (r2.nil_iff.mpr w)) _ (I.hok.fresh (v5 _))⟩;exact ⟨by rw [length_append];exact hz,_,r1.append r2,UP.new _ _⟩
end
def ixN (n:Nat) (i:Int):Option Nat:=if 0<=i then (if i<n then some i.toNat else none) else if -(n:Int)<=i then some (i+n).toNat else none
def atI {α:Type} (xs:List α) (i:Int):Option α:=(ixN xs.length i).bind λj=>xs[j]?
def qcC {n:Nat} {i:Int} {j:Nat} (h:ixN n i=some j):seqIndex? i n=some j/\j<n/\-(n:Int)<=i/\i<n:=by
 unfold ixN at h;by_cases h0:0<=i
 ·rw [if_pos h0] at h;by_cases h1:i<n
  ·rw [if_pos h1] at h;have e:i.toNat=j:=Option.some.inj h;exact ⟨by rw [seqIndex_of h0 h1,e],by omega,by omega,h1⟩
  ·rw [if_neg h1] at h;cases h
 ·rw [if_neg h0] at h;by_cases h1:-(n:Int)<=i
  ·rw [if_pos h1] at h;have e:(i+n).toNat=j:=Option.some.inj h;exact ⟨by rw [seqIndex_neg (by omega) h1,e],by omega,h1,by omega⟩
  ·rw [if_neg h1] at h;cases h
def KQ {α:Type} {xs:List α} {i:Int} {v:α} (h:atI xs i=some v):∃ j,seqIndex? i xs.length=some j/\xs[j]?=some v/\j<xs.length/\-(xs.length:Int)<=i/\i<xs.length:=by
 unfold atI at h;cases e:ixN xs.length i with
 |none=>rw [e] at h;cases h
 |some j=>
  rw [e] at h;obtain ⟨h1,h2,h3,h4⟩:=qcC e;exact ⟨j,h1,h,h2,h3,h4⟩
def qcB (b:Expr):Prop:=∀ o i,subscripted b false o i=operate [o,i] (getItem o i)
def IxR (X:Cx) (r:R2):Prop:=
 ∀ (value slice:Expr) (pins:List (Addr×Obj)) (s:Shared) (σ:St) (H:Hp) (x y:V) (v u:Value) (Q:VK),Inv X pins σ H s->zE x v->zE y u->r x y H Q ->
  subscripted slice false v u=operate [v,u] (getItem v u)->wpAny (model X.prog X.w) X.A (subscriptTail value slice v u) (EP X pins σ Q) X.xe s
def MtR (X:Cx) (id:String) (r:V->List V->Hp->VK->Prop):Prop:=
 ∀ (pins:List (Addr×Obj)) (s:Shared) (σ:St) (H:Hp) (x:V) (xs:List V) (v:Value) (us:List Value) (Q:VK),Inv X pins σ H s->zE x v->qY xs us->r x xs H Q ->
  wpAny (model X.prog X.w) X.A (call (.builtin id) (v::us)) (EP X pins σ Q) X.xe s
section
variable {X:Cx} {a b:Expr} {ta tb:TE} {pos:Pos}
def IxR.or {r r':R2} (h:IxR X r) (h':IxR X r'):IxR X (λx y H Q=>r x y H Q\/r' x y H Q):=by
 intro value slice pins s σ H x y v u Q I rx ry q hs;rcases q with q|q
 ·exact h value slice pins s σ H x y v u Q I rx ry q hs
 ·exact h' value slice pins s σ H x y v u Q I rx ry q hs
def qnp {r:R2} (hr:IxR X r) (ha:PE X a ta) (hb:PE X b tb) (hs:qcB b):PE X (.Subscript a b pos) (tOp r ta tb):=by
 intro pins s σ H Q I h;exact Subscript_ (qmG ha hb I h λv u s2 x y H2 I2 rx ry q=>hr a b pins s2 σ H2 x y v u Q I2 rx ry q (hs _ _))
def qoh (K:Frg):R2:=λx y H Q=>∃ p xs i v,x=.ref p/\y=.int i/\SqL K H p xs/\atI xs i=some v/\Q v H
def qn4 (K:Frg):R2:=λx y H Q=>∃ p xs i v,x=.ref p/\y=.int i/\SqT K H p xs/\atI xs i=some v/\Q v H
def qom:R2:=λx y H Q=>∃ z i c,x=.str z/\y=.int i/\z.length<=sizeLine/\atI z.cps.toList i=some c/\Q (.str ⟨#[c]⟩) H
def qgJ:IxR X (qoh X.K):=by
 intro value slice pins s σ H x y v u Q I rx ry h hs;obtain ⟨p,xs,i,z,rfl,rfl,hq,he,q⟩:=h;cases rx;obtain ⟨t,rfl⟩:=ry;obtain ⟨its,r,pl,hz⟩:=I.list hq;obtain ⟨j,h1,h2,h3,h4,h5⟩:=KQ he;obtain ⟨w,ew,rw'⟩:=r.get h2;have hl:=r.length;have hn:=SX;have fin:EP X pins σ Q w s:=⟨z,H,I,rw',q⟩
 by_cases h0:0<=i
 ·have hj:i.toNat=j:=by
   rw [seqIndex_of h0 h5] at h1;exact Option.some.inj h1
  exact item_listR pl.isList h0 (by omega) (by rw [hj];simpa using ew) fin hs
 ·have hj:(i+(its.toArray.size:Int)).toNat=j:=by
   rw [seqIndex_neg (by omega) h4] at h1;rw [size_toArray,← hl];exact Option.some.inj h1
  exact subscriptTail_builtinR (x:=w) pl.isList.typeIs slot_list_getitem.lookup
   (wpAny_getItem_list_neg (Q:=λr s'=>r=w/\EP X pins σ Q r s') pl.isList (by omega) (by rw [size_toArray]<;>omega) (by omega) (by rw [hj];simpa using ew) ⟨rfl,fin⟩) hs
def qkI:IxR X (qn4 X.K):=by
 intro value slice pins s σ H x y v u Q I rx ry h hs;obtain ⟨p,xs,i,z,rfl,rfl,hq,he,q⟩:=h;cases rx;obtain ⟨t,rfl⟩:=ry;obtain ⟨its,r,pl,hz⟩:=I.tuple hq;obtain ⟨j,h1,h2,h3,h4,h5⟩:=KQ he;obtain ⟨w,ew,rw'⟩:=r.get h2;have hl:=r.length;have hn:=SX;have fin:EP X pins σ Q w s:=⟨z,H,I,rw',q⟩
 exact subscriptTail_builtinR (x:=w) pl.typeIs slot_tuple_getitem.lookup
  (getItem_tuple (j:=j) (Q:=λr s'=>r=w/\EP X pins σ Q r s') pl (by omega) (by omega) (by rw [size_toArray,← hl];exact h1) (by simpa using ew) ⟨rfl,fin⟩) hs
def qjI:IxR X qom:=by
 intro value slice pins s σ H x y v u Q I rx ry h hs;obtain ⟨z,i,c,rfl,rfl,hz,he,q⟩:=h;obtain ⟨t,rfl⟩:=rx;obtain ⟨t',rfl⟩:=ry;obtain ⟨j,h1,h2,h3,h4,h5⟩:=KQ he;have hl:z.cps.toList.length=z.length:=by simp [Str.length]
 rw [hl] at h1 h4 h5;have hn:=SX;exact tail_any (typeIs_str s z t) slot_str_getitem.lookup (getItem_str (c:=c) (by
  have e1:decide (i < -(2 ^ 63:Int))=false:=za1 (by omega);have e2:decide (i ≥ 2 ^ 63)=false:=za1 (by omega);rw [e1,e2,Bool.or_false]) (by rw [h1];simpa using h2) ⟨.str ⟨#[c]⟩,H,I.tok _,⟨_,rfl⟩,q⟩) hs
def rIx (K:Frg):R2:=λx y H Q=>qoh K x y H Q\/qn4 K x y H Q\/qom x y H Q
def qiF:IxR X (rIx X.K):=qgJ.or (qkI.or qjI)
def ND (its:List Value) (n j:Nat) (u:Value):Obj.mapSeq (·.setIfInBounds j u) { cls:=.type "list",data:=.seq its.toArray n }={ cls:=.type "list",data:=.seq (its.set j u).toArray n }:=by
 simp [Obj.mapSeq]
theorem Inv.lst {pins:List (Addr×Obj)} {σ:St} {H:Hp} {s:Shared} {p:Addr} {xs:List V} (I:Inv X pins σ H s) (h:H p=some (.lst xs)) :
  ∃ (its:List Value) (n:Nat),qY xs its/\s.heap.get? p=some { cls:=.type "list",data:=.seq its.toArray n }/\xs.length<=sizeLine:=by
 obtain ⟨z,its,n,r,e⟩:=I.hok p _ h;exact ⟨its,n,r,e,z⟩
def Inv.lstUpd {pins:List (Addr×Obj)} {σ:St} {H:Hp} {s:Shared} {p:Addr} {xs ys:List V} {its its':List Value} {n n':Nat} {f:Obj->Obj} (I:Inv X pins σ H s) (h:H p=some (.lst xs))
  (ho:s.heap.get? p=some { cls:=.type "list",data:=.seq its.toArray n }) (hf:f { cls:=.type "list",data:=.seq its.toArray n }={ cls:=.type "list",data:=.seq its'.toArray n' }) (r:qY ys its') (hz:ys.length<=sizeLine) (t:Nat) :
  Inv X pins σ (upd H p (.lst ys)) { s with heap:=s.heap.update p f,toks:=t }:=by
 have e:(s.heap.update p f).get? p=some { cls:=.type "list",data:=.seq its'.toArray n' }:=by
  rw [Heap.get?_update_self f ho (by rw [hf]<;>rfl),hf]
 refine I.write (x:=p) (e:=p) (by rw [h];trivial) (.inl rfl) (λb u hb q=>(Heap.get?_update_other _ _ (Ne.symm hb)).trans q) ⟨_,e⟩ ?_;exact ⟨hz,its',n',r,e⟩
def qmM:V->V->V->Hp->(Hp->Prop)->Prop:=λo i v H Q=>∃ p xs k j,o=.ref p/\i=.int k/\H p=some (.lst xs)/\ixN xs.length k=some j/\Q (upd H p (.lst (xs.set j v)))
def qda:qnR X qmM:=by
 intro pins s σ H o i v ov iv u Q I ro ri rv h;obtain ⟨p,xs,k,j,rfl,rfl,hp,hj,q⟩:=h;cases ro;obtain ⟨t,rfl⟩:=ri;obtain ⟨its,n,r,ho,hz⟩:=I.lst hp;obtain ⟨h1,h2,h3,h4⟩:=qcC hj;have hl:=r.length;have hn:=SX;have I':Inv X pins σ (upd H p (.lst (xs.set j v))) { s with heap:=s.heap.update p (Obj.mapSeq (·.setIfInBounds j u)) }:=
  I.lstUpd hp ho (ND its n j u) (r.set rv j) (by rw [List.length_set];exact hz) s.toks
 by_cases h0:0<=k
 ·have hk:k.toNat=j:=by
   rw [seqIndex_of h0 h4] at h1;exact Option.some.inj h1
  exact PySem.W.ki_setAt ho h0 (by omega) (by rw [size_toArray,← hl];exact h4) (by rw [hk];exact ⟨_,I',q⟩)
 ·have hk:(k+(its.toArray.size:Int)).toNat=j:=by
   rw [seqIndex_neg (by omega) h3] at h1;rw [size_toArray,← hl];exact Option.some.inj h1
  exact PySem.W.ki_setBack ho (by omega) (by rw [size_toArray,← hl];exact h3) (by omega) (by rw [hk];exact ⟨_,I',q⟩)
def RK (lo hi:Option Int) (n:Nat):(sliceBounds lo hi none n).1=((HT.sIx n 0 lo:Nat):Int)/\(sliceBounds lo hi none n).2.1=((HT.sIx n n hi:Nat):Int)/\(sliceBounds lo hi none n).2.2=1:=by
 refine ⟨?_,?_,rfl⟩
 ·cases lo with
  |none=>simp [sliceBounds,HT.sIx]
  |some i=>
   simp only [sliceBounds,HT.sIx,Option.getD_none,show (1:Int) > 0 by decide,if_true];by_cases h:i<0
   ·simp only [h,if_true]<;>omega
   ·simp only [h,if_false]<;>omega
 ·cases hi with
  |none=>simp [sliceBounds,HT.sIx]
  |some i=>
   simp only [sliceBounds,HT.sIx,Option.getD_none,show (1:Int) > 0 by decide,if_true];by_cases h:i<0
   ·simp only [h,if_true]<;>omega
   ·simp only [h,if_false]<;>omega
def CC (its:List Value) (lo hi:Option Int):slicePick its.toArray lo hi none=((its.drop (HT.sIx its.length 0 lo)).take (HT.sIx its.length its.length hi-HT.sIx its.length 0 lo)).toArray:=by
 obtain ⟨h1,h2,h3⟩:=RK lo hi its.toArray.size;unfold slicePick;rw [h1,h2,h3];simp only [sliceRange_one,pick_run,size_toArray]<;>rfl
def qoQ (K:Frg):V->Option Int->Option Int->Hp->VK->Prop:=λx lo hi H Q=>∃ a xs,x=.ref a/\SqL K H a xs/\∀ p,H p=none->Q (.ref p) (upd H p (.lst (qgb xs lo hi)))
def qhy:SlR X (qoQ X.K):=by
 intro pins s σ H x v vl vu lo hi sl Q I rx hs pl pu h;obtain ⟨a,xs,rfl,hx,q⟩:=h;cases rx;obtain ⟨its,r,ht,hz⟩:=I.list hx;have hlen:=r.length;refine ⟨"list",_,slot_list_getitem.lookup,ht.isList.typeIs,?_⟩;refine wpAny_getItem_list_slice ht.isList hs pl pu .none (by simp) ?_ (by rw [size_toArray]<;>omega);rw [CC,← hlen];refine ⟨.ref s.heap.objs.size,_,I.laid (t':=s.toks) (o:=.lst (qgb xs lo hi)) (λb ob q=>y2 _ q) (v5 _) ?_,rfl,q _ (I.hok.fresh (v5 _))⟩;exact ⟨u7 (WF xs lo hi) hz,_,0,(r.drop (HT.sIx xs.length 0 lo)).take (HT.sIx xs.length xs.length hi-HT.sIx xs.length 0 lo),y3 _ rfl⟩
def WT:V->Bool
 |.non=>true
 |.bl _=>true
 |.int _=>true
 |.str _=>true
 |_=>false
def eqV:V->V->Bool
 |.non,.non=>true
 |.bl a,.bl b=>a==b
 |.bl a,.int b=>(if a then 1 else 0)==b
 |.int a,.bl b=>a==(if b then 1 else 0)
 |.int a,.int b=>a==b
 |.str a,.str b=>a==b
 |_,_=>false
def qkG {A:Around} {s:Shared} {y x:V} {u v:Value} (ry:zE y u) (rx:zE x v) (fy:WT y=true) (fx:WT x=true):SeqAt.EqAt A s u v (eqV y x):=by
 cases y with
 |non=>
  cases ry;cases x with
  |non=>cases rx;exact SeqAt.EqAt.same _
  |bl b=>cases rx;exact SeqAt.EqAt.none_bool b
  |int b=>obtain ⟨t,rfl⟩:=rx;exact SeqAt.EqAt.none_int b t
  |str b=>obtain ⟨t,rfl⟩:=rx;exact SeqAt.EqAt.none_str b t
  |_=>exact absurd (show false=true from fx) y6
 |bl a=>
  cases ry;cases x with
  |non=>cases rx;exact SeqAt.EqAt.bool_none a
  |bl b=>cases rx;exact SeqAt.EqAt.bool_bool a b
  |int b=>obtain ⟨t,rfl⟩:=rx;exact SeqAt.EqAt.bool_int a b t
  |str b=>obtain ⟨t,rfl⟩:=rx;exact SeqAt.EqAt.bool_str a b t
  |_=>exact absurd (show false=true from fx) y6
 |int a=>
  obtain ⟨t',rfl⟩:=ry;cases x with
  |non=>cases rx;exact SeqAt.EqAt.int_none a t'
  |bl b=>cases rx;exact SeqAt.EqAt.int_bool a t' b
  |int b=>obtain ⟨t,rfl⟩:=rx;exact SeqAt.EqAt.int_int a t' b t
  |str b=>obtain ⟨t,rfl⟩:=rx;exact SeqAt.EqAt.int_str a t' b t
  |_=>exact absurd (show false=true from fx) y6
 |str a=>
  obtain ⟨t',rfl⟩:=ry;cases x with
  |non=>cases rx;exact SeqAt.EqAt.str_none a t'
  |bl b=>cases rx;exact SeqAt.EqAt.str_bool a t' b
  |int b=>obtain ⟨t,rfl⟩:=rx;exact SeqAt.EqAt.str_int a t' b t
  |str b=>obtain ⟨t,rfl⟩:=rx;exact SeqAt.EqAt.str_str a t' b t
  |_=>exact absurd (show false=true from fx) y6
 |_=>exact absurd (show false=true from fy) y6
def eqU (x:V) (u:Value):Bool:=match u with
 |.none=>eqV .non x
 |.bool b=>eqV (.bl b) x
 |.int i _=>eqV (.int i) x
 |.str z _=>eqV (.str z) x
 |_=>false
def qfT {x y:V} {u:Value} (r:zE y u) (f:WT y=true):eqU x u=eqV y x:=by
 cases y with
 |non=>cases r;rfl
 |bl b=>cases r;rfl
 |int i=>obtain ⟨t,rfl⟩:=r;rfl
 |str z=>obtain ⟨t,rfl⟩:=r;rfl
 |_=>exact absurd (show false=true from f) y6
theorem EX {x:V}:∀ {xs:List V} {us:List Value},qY xs us->xs.all WT=true->us.any (eqU x)=xs.any λy=>eqV y x
 |_,_,.nil,_=>rfl
 |y::xs,u::us,.cons r t,f=>by
  rw [List.all_cons,Bool.and_eq_true] at f;rw [List.any_cons,List.any_cons,qfT r f.1,EX t f.2]
theorem VL {A:Around} {s:Shared} {x:V} {v:Value} (rx:zE x v) (fx:WT x=true):∀ {xs:List V} {us:List Value},qY xs us->xs.all WT=true->∀ u∈us,SeqAt.EqAt A s u v (eqU x u)
 |_,_,.nil,_=>λu hu=>by cases hu
 |y::xs,u::us,.cons r t,f=>λu' hu=>by
  rw [List.all_cons,Bool.and_eq_true] at f;rcases mem_cons.mp hu with rfl|hu
  ·rw [qfT r f.1];exact qkG r rx f.1 fx
  ·exact VL rx fx t f.2 u' hu
def inV (x:V) (xs:List V):Bool:=xs.any λy=>eqV y x
def rIn (K:Frg) (neg:Bool):R2:=λx y H Q=>∃ p xs,y=.ref p/\(SqL K H p xs\/SqT K H p xs)/\WT x=true/\xs.all WT=true/\Q (.bl (if neg then !inV x xs else inV x xs)) H
def D0:OpR X (compareOp .In) (rIn X.K false):=by
 intro pins s σ H x y v u Q I rx ry h;obtain ⟨p,xs,rfl,hq,fx,fs,q⟩:=h;cases ry;rcases hq with hq|hq
 ·obtain ⟨its,r,pl,hz⟩:=I.list hq;refine SeqAt.in_listAt (eqU x) pl.isList (λw hw=>VL rx fx r fs w (by simpa using hw)) ⟨.bl _,H,I,rfl,?_⟩;rw [show its.toArray.any (eqU x)=its.any (eqU x) by simp,EX r fs];exact q
 ·obtain ⟨its,r,pl,hz⟩:=I.tuple hq;refine SeqAt.in_tupleAt (eqU x) pl (λw hw=>VL rx fx r fs w (by simpa using hw)) ⟨.bl _,H,I,rfl,?_⟩;rw [show its.toArray.any (eqU x)=its.any (eqU x) by simp,EX r fs];exact q
def UT:OpR X (compareOp .NotIn) (rIn X.K true):=by
 intro pins s σ H x y v u Q I rx ry h;obtain ⟨p,xs,rfl,hq,fx,fs,q⟩:=h;cases ry;rcases hq with hq|hq
 ·obtain ⟨its,r,pl,hz⟩:=I.list hq;refine SeqAt.notIn_listAt (eqU x) pl.isList (λw hw=>VL rx fx r fs w (by simpa using hw)) ⟨.bl _,H,I,rfl,?_⟩;rw [show its.toArray.any (eqU x)=its.any (eqU x) by simp,EX r fs];exact q
 ·obtain ⟨its,r,pl,hz⟩:=I.tuple hq;refine SeqAt.notIn_tupleAt (eqU x) pl (λw hw=>VL rx fx r fs w (by simpa using hw)) ⟨.bl _,H,I,rfl,?_⟩;rw [show its.toArray.any (eqU x)=its.any (eqU x) by simp,EX r fs];exact q
def RT:JX X (.type "list") (λxs H Q=>∃ p ys,xs=[.ref p]/\(SqL X.K H p ys\/SqT X.K H p ys)/\∀ l,H l=none->Q (.ref l) (upd H l (.lst ys))):=by
 intro pins s σ H xs us Q I r h;obtain ⟨p,ys,rfl,hq,q⟩:=h;obtain ⟨u,rfl,rx⟩:=XI r;cases rx;have fin:∀ (its:List Value),qY ys its->ys.length<=sizeLine->∀ (h':Heap) (c':Nat),(∀ b o',s.heap.get? b=some o'->h'.get? b=some o') ->
   h'.get? s.heap.objs.size=some { cls:=.type "list",dict:=none,data:=.seq its.toArray c',slots:=#[] }->EP X pins σ Q (.ref s.heap.objs.size) { s with heap:=h' }:=λits r' hz h' c' kp e=>
  ⟨.ref s.heap.objs.size,_,I.laid (t':=s.toks) kp (v5 _) (show JZ X.prog X.w _ h' _ (.lst ys) from ⟨hz,its,c',r',e⟩),rfl,q _ (I.hok.fresh (v5 _))⟩
 rcases hq with hq|hq
 ·obtain ⟨its,r',pl,hz⟩:=I.list hq;have hlen:=r'.length;obtain ⟨o,ho,hc,n,hd⟩:=pl.isList;exact call_list_seq p (.inl rfl) ho hc hd (λh' c' kp e=>fin its r' hz h' c' kp e) (by simp only [size_toArray]<;>omega)
 ·obtain ⟨its,r',pl,hz⟩:=I.tuple hq;have hlen:=r'.length;obtain ⟨o,ho,hc,n,hd⟩:=pl;exact call_list_seq p (.inr rfl) ho hc hd (λh' c' kp e=>fin its r' hz h' c' kp e) (by simp only [size_toArray]<;>omega)
def CW:JX X (.type "tuple") (λxs H Q=>∃ p ys,xs=[.ref p]/\((SqL X.K H p ys/\∀ l,H l=none->Q (.ref l) (upd H l (.tup ys)))\/(SqT X.K H p ys/\Q (.ref p) H))):=by
 intro pins s σ H xs us Q I r h;obtain ⟨p,ys,rfl,h⟩:=h;obtain ⟨u,rfl,rx⟩:=XI r;cases rx;rcases h with ⟨hq,q⟩|⟨hq,q⟩
 ·obtain ⟨its,r',pl,hz⟩:=I.list hq;have hlen:=r'.length;refine call_tuple_list pl.isList (λh' kp=>?_) (by simp only [size_toArray]<;>omega);have I1:Inv X pins σ H { s with heap:=h' }:=I.kept (t':=s.toks) kp;have I2:Inv X pins σ (upd H h'.objs.size (.tup ys)) { s with heap:=h'.push { cls:=.type "tuple",data:=.seq its.toArray } }:=
   I1.laid (t':=s.toks) (λb o e=>y2 _ e) (v5 _) (show JZ X.prog X.w _ _ _ (.tup ys) from ⟨hz,its,r',UP.new _ _⟩)
  exact ⟨.ref h'.objs.size,_,I2,rfl,q _ (I1.hok.fresh (v5 _))⟩
 ·obtain ⟨its,r',pl,hz⟩:=I.tuple hq;exact call_tuple_same pl ⟨.ref p,H,I,rfl,q⟩
def tyV (K:Frg) (T:String) (x:V) (H:Hp):Prop:=match x with
 |.str _=>T="str"
 |.int _=>T="int"
 |.ref p=>(T="list"/\∃ xs,SqL K H p xs)\/(T="tuple"/\∃ o,K.lookup p=some o/\o.cls=.type "tuple"/\o.dict=none) ∨
   (T="dict"/\((∃ kvs,H p=some (.dK kvs))\/∃ kvs,H p=some (.dT kvs)))\/(T="set"/\∃ S n,H p=some (.set S n))
 |_=>False
def qfZ {pins:List (Addr×Obj)} {σ:St} {H:Hp} {s:Shared} {T:String} {x:V} {v:Value} (I:Inv X pins σ H s) (r:zE x v) (ty:tyV X.K T x H) :
  s.TypeIs v T/\∀ a,v=.ref a->∃ ob,s.heap.get? a=some ob/\ob.dict=none:=by
 cases x with
 |str z=>
  obtain ⟨t,rfl⟩:=r;cases (show T="str" from ty);exact ⟨typeIs_str s z t,λ_ e=>nomatch e⟩
 |int i=>
  obtain ⟨t,rfl⟩:=r;cases (show T="int" from ty);exact ⟨typeIs_int s i t,λ_ e=>nomatch e⟩
 |ref p=>
  cases r;rcases ty with ⟨rfl,xs,hq⟩|⟨rfl,o,hk,hc,hd⟩|⟨rfl,hk⟩|⟨rfl,S,n,hk⟩
  ·obtain ⟨its,_,pl,_⟩:=I.list hq;refine ⟨pl.isList.typeIs,λa e=>?_⟩;cases e;obtain ⟨o,n,e,c,hd,_⟩:=pl;exact ⟨o,e,hd⟩
  ·refine ⟨⟨o,I.kIn p o hk,hc⟩,λa e=>?_⟩;cases e;exact ⟨o,I.kIn _ o hk,hd⟩
  ·have z:∃ o,s.heap.get? p=some o/\o.ExactDict:=by
    rcases hk with ⟨kvs,hk⟩|⟨kvs,hk⟩
    ·obtain ⟨_,_,_,_,o,_,_,e,ex,_⟩:=I.hok p _ hk;exact ⟨o,e,ex⟩
    ·obtain ⟨_,_,_,_,o,_,_,e,ex,_⟩:=I.hok p _ hk;exact ⟨o,e,ex⟩
   obtain ⟨o,e,ex⟩:=z;refine ⟨⟨o,e,ex.1⟩,λa e2=>?_⟩;cases e2;exact ⟨o,e,ex.2.1⟩
  ·obtain ⟨o,_,_,_,e,ex,_⟩:=I.hok p _ hk;refine ⟨⟨o,e,ex.1⟩,λa e2=>?_⟩;cases e2;exact ⟨o,e,ex.2.1⟩
 |_=>exact False.elim ty
def qou (K:Frg) (T:String) (r:V->List V->Hp->VK->Prop) (to:TE):TE:=λσ H Q=>to σ H λx H1=>tyV K T x H1/\r x [] H1 Q
def tBM (K:Frg) (T:String) (r:V->List V->Hp->VK->Prop) (to:TE) (t:TA):TE:=λσ H Q=>to σ H λx H1=>tyV K T x H1/\t σ H1 λxs H2=>r x xs H2 Q
variable {o e:Expr} {es:List Expr} {to:TE} {t:TA} {name:Str} {apos cpos:Pos} {T id:String} {r:V->List V->Hp->VK->Prop}
def qj5 (pa:PlainAttrs T) (slot:Slot T name id) (hty:typeOf (.builtin id)=pure (.type "method_descriptor")) (hm:MtR X id r) (ho:PE X o to)
  (hbase:attributeBase o name X.env (eval o X.env)=eval o X.env:=by rfl) (hline:(apos.endLine==cpos.line)=true:=by rfl):PE X (.Call (.Attribute o name apos) [] [] cpos) (qou X.K T r to):=by
 intro pins s σ H Q I h;refine wpAny_Call_method0_late hbase hline (thn (ho pins s σ H _ I h) λv s1 ⟨x,H1,I1,r1,ty,q1⟩=>?_);obtain ⟨h1,h2⟩:=qfZ I1 r1 ty;exact ⟨T,id,pa,slot,hty,h1,h2,Calls.callWith_builtin rfl (PySem.evalArgs_none (hm pins s1 σ H1 x [] v [] Q I1 r1 .nil q1))⟩
def qma (pa:PlainAttrs T) (slot:Slot T name id) (hty:typeOf (.builtin id)=pure (.type "method_descriptor")) (hm:MtR X id r) (ho:PE X o to) (ha:PA X (e::es) t)
  (hbase:attributeBase o name X.env (eval o X.env)=eval o X.env:=by rfl)
  (hfew:((backTo cpos (starEach (e::es) X.env)).all (λx=>!x.1)&&(backToKw cpos (keywordEach [] X.env)).all (λx=>x.1.isSome)
   && decide ((e::es).length+([]:List Keyword).length+(if ([]:List Keyword).isEmpty then 0 else 1)<30))=true:=by rfl)
  (hline:(apos.endLine==cpos.line)=true:=by rfl) (hs:starEach (e::es) X.env=(false,eval e X.env)::starEach es X.env:=by rfl) (hplain:(backTo cpos (starEach es X.env)).any (·.1)=false:=by rfl) :
  PE X (.Call (.Attribute o name apos) (e::es) [] cpos) (tBM X.K T r to t):=by
 intro pins s σ H Q I h;refine wpAny_Call_method_late hbase hfew hline rfl (thn (ho pins s σ H _ I h) λv s1 ⟨x,H1,I1,r1,ty,q1⟩=>?_);obtain ⟨h1,h2⟩:=qfZ I1 r1 ty;refine ⟨T,id,pa,slot,hty,h1,h2,?_⟩;have hA:=ha cpos pins s1 σ H1 _ I1 q1;rw [hs] at hA ⊢;refine Calls.callWith_builtin (by show (false||(backTo cpos (starEach es X.env)).any (·.1))=false;rw [hplain]<;>rfl) (Calls.evalArgs_plain ?_);exact thn hA λus s2 ⟨vs,H2,I2,r2,q2⟩=>hm pins s2 σ H2 x vs v us Q I2 r1 r2 q2
end
def MtM (X:Cx) (id:String) (r:V->List V->Hp->VK->Prop):Prop:=
 ∀ (pins:List (Addr×Obj)) (s:Shared) (σ:St) (H:Hp) (x:V) (xs:List V) (v:Value) (us:List Value) (Q:VK),Inv X pins σ H s->zE x v->qY xs us->r x xs H Q ->
  wpAny (model X.prog X.w) X.A (call (.builtin id) (v::us)) (EP X pins σ Q) X.xe s
def qY.one:∀ {x:V} {us:List Value},qY [x] us->∃ u,us=[u]/\zE x u
 |_,_,.cons r .nil=>⟨_,rfl,r⟩
def qY.zero:∀ {us:List Value},qY [] us->us=[]
 |_,.nil=>rfl
theorem qY.dropLast {xs:List V} {us:List Value} (h:qY xs us):qY xs.dropLast us.dropLast:=by
 induction h with
 |nil=>exact .nil
 |cons r t ih=>
  cases t with
  |nil=>exact .nil
  |cons q t'=>exact .cons r ih
theorem qY.eraseIdx:∀ {xs:List V} {us:List Value} (i:Nat),qY xs us->qY (xs.eraseIdx i) (us.eraseIdx i)
 |_,_,_,.nil=>.nil
 |_,_,0,.cons _ t=>t
 |_,_,i+1,.cons r t=>.cons r (qY.eraseIdx i t)
theorem qY.reverse {xs:List V} {us:List Value} (h:qY xs us):qY xs.reverse us.reverse:=by
 induction h with
 |nil=>exact .nil
 |cons r t ih=>rw [List.reverse_cons,List.reverse_cons];exact qY.append ih (.cons r .nil)
section
variable {X:Cx} {pins:List (Addr×Obj)} {σ:St} {H:Hp} {s:Shared} {l b:Addr} {xs ys zs:List V}
def Inv.lset {its its':List Value} {n:Nat} {f:Array Value->Array Value} {t':Nat} (I:Inv X pins σ H s) (hH:H l=some (.lst xs))
  (e:s.heap.get? l=some { cls:=.type "list",data:=.seq its.toArray n }) (hf:f its.toArray=its'.toArray) (hv:qY ys its') (hz:ys.length<=sizeLine) :
  Inv X pins σ (upd H l (.lst ys)) { s with heap:=s.heap.update l (Obj.mapSeq f),toks:=t' }:=by
 have q:=PySem.IsL.update e f;rw [hf] at q;refine I.write (x:=l) (e:=l) (by rw [hH];exact trivial) (.inl rfl) (λb' u hb hu=>(Heap.get?_update_other s.heap (Obj.mapSeq f) (Ne.symm hb)).trans hu) ⟨_,q⟩ ?_;exact ⟨hz,its',_,hv,q⟩
def Inv.lnew {its:List Value} {t':Nat} (I:Inv X pins σ H s) (hv:qY ys its) (hz:ys.length<=sizeLine) :
  Inv X pins σ (upd H s.heap.objs.size (.lst ys)) { s with heap:=s.heap.push { cls:=.type "list",data:=.seq its.toArray },toks:=t' }:=
 I.laid (λ_ _ q=>y2 _ q) (v5 _) ⟨hz,its,0,hv,y3 _ rfl⟩
theorem Inv.fresh (I:Inv X pins σ H s):H s.heap.objs.size=none:=I.hok.fresh (v5 _)
def Inv.lstM (I:Inv X pins σ H s) (hH:H l=some (.lst xs)):xs.length<=sizeLine/\∃ (its:List Value) (n:Nat),qY xs its/\xs.length=its.length/\s.heap.get? l=some { cls:=.type "list",data:=.seq its.toArray n }:=by
 obtain ⟨z,its,n,r,e⟩:=I.hok l _ hH;exact ⟨z,its,n,r,r.length,e⟩
def qed {n:Nat} (h:n<=sizeLine):Builtin.List.listTooLong n=false:=by
 unfold Builtin.List.listTooLong;exact za1 (by omega)
end
section
variable {X:Cx}
def qb2:V->List V->Hp->VK->Prop:=λx vs H Q=>∃ l xs y,x=.ref l/\vs=[y]/\H l=some (.lst xs)/\xs.length<sizeLine/\Q .non (upd H l (.lst (xs++[y])))
def SR:MtM X "list.append" qb2:=by
 intro pins s σ H x vs v us Q I rx rv h;obtain ⟨l,xs,y,rfl,rfl,hH,hz,q⟩:=h;cases rx;obtain ⟨u,rfl,ru⟩:=rv.one;obtain ⟨z,its,n,r,hl,e⟩:=I.lstM hH;refine call_meets F.slot_list_append ⟨_,e,rfl⟩ F.entry_list_append (F.args_list_append_2 _ _) (PySem.list_append l its.toArray n u (by rw [size_toArray];omega)) ⟨e,?_⟩;refine ⟨.non,_,I.lset (its':=its++[u]) hH e (by simp) (r.append (.cons ru .nil)) ?_,rfl,q⟩;rw [length_append,List.length_singleton];omega
def qap:V->List V->Hp->VK->Prop:=λx vs H Q=>∃ l b xs zs,x=.ref l/\vs=[.ref b]/\H l=some (.lst xs)/\H b=some (.lst zs)/\xs.length+zs.length<=sizeLine/\Q .non (upd H l (.lst (xs++zs)))
def qbi:MtM X "list.extend" qap:=by
 intro pins s σ H x vs v us Q I rx rv h;obtain ⟨l,b,xs,zs,rfl,rfl,hH,hB,hz,q⟩:=h;cases rx;obtain ⟨u,rfl,ru⟩:=rv.one;cases ru;obtain ⟨z,its,n,r,hl,e⟩:=I.lstM hH;obtain ⟨z2,its2,n2,r2,hl2,e2⟩:=I.lstM hB;have hsz:its.toArray.size+its2.toArray.size<=sizeLine:=by rw [size_toArray,size_toArray];omega
 have hlong:¬ (!its.toArray.isEmpty&&Builtin.List.listTooLong (its.toArray.size+its2.toArray.size))=true:=by
  rw [qed hsz,Bool.and_false];exact y6
 refine call_meets F.slot_list_extend ⟨_,e,rfl⟩ F.entry_list_extend (F.args_list_extend_2 _ _)
  (AutoSeq1.list_extend_list_list_0 l its.toArray n b its2.toArray n2 hlong (by rw [size_toArray];omega) (by omega)) ⟨e,e2,?_⟩
 refine ⟨.non,_,I.lset (its':=its++its2) hH e (by simp) (r.append r2) ?_,rfl,q⟩;rw [length_append];omega
def qn8:R2:=λx y H Q=>∃ l b xs zs,x=.ref l/\y=.ref b/\H l=some (.lst xs)/\H b=some (.lst zs)/\xs.length+zs.length<=sizeLine/\∀ p,H p=none->Q (.ref p) (upd H p (.lst (xs++zs)))
def qiw:OpR X (binaryOp .Add) qn8:=by
 intro pins s σ H x y v u Q I rx ry h;obtain ⟨l,b,xs,zs,rfl,rfl,hH,hB,hz,q⟩:=h;cases rx;cases ry;obtain ⟨z,its,n,r,hl,e⟩:=I.lstM hH;obtain ⟨z2,its2,n2,r2,hl2,e2⟩:=I.lstM hB;refine PySem.P.add_list e e2 ?_ (by rw [size_toArray,size_toArray];omega);have ea:its.toArray++its2.toArray=(its++its2).toArray:=by simp
 rw [ea];exact ⟨.ref _,_,I.lnew (t':=s.toks) (r.append r2) (by rw [length_append];omega),rfl,q _ I.fresh⟩
end
section
variable {prog:Program} {w:World} {A:Around} {E:Value->Shared->Prop} {s:Shared}
end
section
variable {X:Cx}
end
end L2
namespace Att
open PySem PySem.W PySem.Calls PyProof.Rows
def EU {P:Params} {h:Heap}:∀ (ns:List Int) (vs:List Value),WellAll P h vs (ns.map WData.int)->IntsAre vs ns:=by
 intro ns;induction ns with
 |nil=>
  intro vs w;rw [List.map_nil] at w;cases w;exact .nil
 |cons n ns ih=>
  intro vs w;rw [map_cons] at w;cases w with
  |cons a b=>
   cases a;exact .cons _ _ (ih _ b)
def qbX {l:OpenLaw} {n:Nat} (hn:l.most=some n) {P:Params} {h:Heap} {args:List WData} {vals:List Value}
  (hpre:l.row.toRowW.claim.pre args=true) (hwl:WellAll P h vals args) :
  ∃ a vs ns,vals=[Value.ref a]/\args=[WData.list (ns.map WData.int)]/\h.get? a=some { cls:=.type "list",data:=.seq vs.toArray }/\IntsAre vs ns/\ns.length<=n:=by
 have hsh:WShape.hasAll [] args [.list .int]=true:=(pre_splitW hpre).1;have hc:l.pre.holds [] { args:=args }=true:=(pre_splitW hpre).2;obtain ⟨d,r,rfl,h1,h2⟩:=hasAllW_cons hsh;obtain rfl:=hasAllW_nil h2;obtain ⟨xs,rfl,h3⟩:=hasW_list h1;obtain ⟨ns,rfl⟩:=items_int h3;have hlen:ns.length<=n:=by
  unfold OpenLaw.pre at hc;have h4:(WTm.not (.lt (.lit (.int (n:Int))) (.len (.arg 0)))).holds [] { args:=[.list (ns.map .int)] }=true:=by
   have h4:=(holds_andW hc).1;rw [hn] at h4;exact h4
  have h5:=condW_of h4 (w_not (w_lt w_lit (w_len_list (w_arg rfl))));rw [length_map] at h5;refine Nat.le_of_not_lt λq=>?_;have q':(n:Int)<((ns.length:Nat):Int):=by omega
  first
   | (rw [za2 q'] at h5;exact absurd h5 (by decide))
   | (simp at h5;omega)
 cases hwl with
 |cons w1 w2=>
  cases w2;cases w1 with
  |list ho hall=>exact ⟨_,_,ns,rfl,rfl,ho,EU ns _ hall,hlen⟩
def qb6 (l:OpenLaw) (args:List WData):l.row.toRowW.claim.post args (.bool true) args=true:=
 postW_of (r:=l.row.toRowW) (X:=(true==true))
  (show WShape.has [] (.bool true) .bool=true by first|rfl|decide|simp [WShape.has,WShape.arms,WShape.armsAll])
  (show (WTm.eq .res (.lit (.bool true))).value [] { args:=args,res:=some (.bool true),after:=args }=some (.bool (true==true)) from w_eq_bool (w_res rfl) w_lit) rfl
def T0 {l:OpenLaw} {n:Nat} {q:Program} {loose:List Str} {XP:(Str->Option Value)->Heap->Prop} {YP:World->Heap->Prop} {d:DefRec}
  (hn:l.most=some n) (hdf:d.params.defaults=[])
  (call:∀ (w:World) (s₀ s₁:Shared) (mg mb:Str->Option Value) (fa:Addr) (o:Obj) (pm cd doc:Value) (a:Addr) (vs:List Value) (ns:List Int),
   Ground q loose [] XP w s₀ mg mb s₁.heap->YP w s₁.heap ->
   s₁.heap.get? fa=some o->o.data=.func (docDef d.name d.params d.body d.scope pm cd doc)->s₁.heap.CodeRec cd d.name->mg d.name=some (.ref fa) ->
   s₁.heap.get? a=some { cls:=.type "list",data:=.seq vs.toArray }->IntsAre vs ns->ns.length<=n->s₁.gens=#[] ->
   codeAny (model l.prog w) callerA (.call (.ref fa) ⟨[.ref a],[]⟩) (λr s'=>r=.ok (.ret (.bool true))/\OldK s₁.heap s'.heap/\s'.os=s₁.os/\AllBare s'.gens) s₁) :
  WalkO q loose XP YP l.row.toRowW d [] (λf vs=>PySem.call f vs):=by
 intro w s₀ s₁ mg mb G Y fa o pm cd doc dV kV ho hd hcd hD hmg hg args vals as hpre hlay hrd hwl hlo;obtain rfl:dV=.none:=Dflts.none hD hdf;obtain rfl:kV=.none:=Dflts.noKw hD;obtain ⟨a,vs,ns,rfl,rfl,hobj,hints,hlen⟩:=qbX hn hpre hwl;refine enter_call (codeAny_mono (call w s₀ s₁ mg mb fa o pm cd doc a vs ns G Y ho (fd_plain hd) hcd hmg hobj hints hlen hg) λr s' hq=>?_);obtain ⟨rfl,h2,h3,h4⟩:=hq;exact ⟨.inl ⟨.bool true,.bool true,[],rfl,λ_=>rfl,.bool true,qb6 l _,λ_=>⟨List.Pairwise.nil,λ_ hm=>(nomatch hm)⟩⟩,h2,h3,h4⟩
section
variable {prog:Program} {w:World} {A:Around} {E:Value->Shared->Prop} {s:Shared} {K:Frag}
end
end Att
namespace L2
open PySem PySem.Spec PyProof.Rows
theorem SC:∀ {vs:List Value} {ns:List Int},IntsAre vs ns->qY (ns.map V.int) vs
 |_,_,.nil=>.nil
 |_,_,.cons n t h=>.cons ⟨t,rfl⟩ (SC h)
def QA (s:Stmt):Arguments:=match s with
 |.FunctionDef _ a _ _ _ _ _ _ _ _=>a
 |_=>{ posonlyargs:=[],args:=[],vararg:=none,kwonlyargs:=[],kw_defaults:=[],kwarg:=none,defaults:=[] }
def zh (s:Stmt):List Stmt:=match s with
 |.FunctionDef _ _ b _ _ _ _ _ _ _=>b
 |_=>[]
def qg (s:Stmt):Scope:=match s with
 |.FunctionDef _ _ _ _ _ _ sc _ _ _=>sc
 |_=>{ kind:=.function,names:=[],isGenerator:=false,isCoroutine:=false }
abbrev CX0:CXT:=λ_ _ _ _ _ _=>False
abbrev E0:XK:=λ_ _ _=>False
def qkN {X:Cx}:qbr CX0 X E0:=λ_ _ _ _ _ _ _ h=>h.elim
structure Fun (K:Frg) (x qual:Str) (st:Stmt) (f:Addr) (fd:FuncData):Prop where
 ex:∃ (oc:Value) (od:Option Addr) (kV doc pm:Value) (an:Option Addr) (cdv ct:Value) (osl:Array (Option Value)),
  fd=PySem.W.fnOf x qual (QA st) (zh st) (qg st) .none kV doc pm an cdv ct/\K.lookup f=some ⟨oc,od,.func fd,osl⟩/\PySem.W.codeIn K cdv qual=true
 kp:PySem.W.keepIn K (.ref f)=true
section
variable {P:Program} {w:World} {K:Frg} {mg:Str->Option Value} {base:Heap}
def Fun.ok {x qual:Str} {st:Stmt} {f:Addr} {fd:FuncData} {N ps:List Str} {k:Nat} {sp:Sp} (F:Fun K x qual st f fd) (S:FnScope N ps (qg st)) (len:∀ vs H Q E,sp vs H Q E->vs.length=ps.length)
  (hbody:∀ (cdv:Value) (A:Around) (outer:List Env) (s:Shared) (H:Hp) (vs:List V) (Q:VK) (E:XK),Room k (A.deeper (envOfC qual (qg st) s.heap.objs.size f cdv))->sp vs H Q E ->
   ∃ t,PSs (N9 CX0 P w K mg base N qual (qg st) f cdv A outer s H E).nox (zh st) t/\t { nx:=λ_ H'=>Q .non H',rt:=Q } (start N vs) H):FnOk P w K mg base CX0 (k+1) f fd ps sp:=by
 obtain ⟨oc,od,kV,doc,pm,an,cdv,ct,osl,rfl,lk,hcd⟩:=F.ex;refine qlo lk hcd S len λA outer s H vs Q E hr hsp=>?_;obtain ⟨t,h,q⟩:=hbody cdv A outer s H vs Q E hr hsp;exact ⟨t,h.nox,q⟩
def Fun.binds {x qual:Str} {st:Stmt} {f:Addr} {fd:FuncData} {ps:List Str} (F:Fun K x qual st f fd)
  (h:∀ (kV doc pm:Value) (an:Option Addr) (cdv ct:Value) (us:List Value),us.length=ps.length->bindArgs (PySem.W.fnOf x qual (QA st) (zh st) (qg st) .none kV doc pm an cdv ct) ⟨us,[]⟩=pure (ps.zip us)):EQ K fd ps []:=by
 obtain ⟨oc,od,kV,doc,pm,an,cdv,ct,osl,rfl,lk,hcd⟩:=F.ex;exact .all (h kV doc pm an cdv ct)
def qcv {x qual:Str} {st:Stmt} {f:Addr} {oc:Value} {od an:Option Addr} {osl:Array (Option Value)} {kV doc pm cdv ct:Value} (l:K.lookup f=some ⟨oc,od,.func (PySem.W.fnOf x qual (QA st) (zh st) (qg st) .none kV doc pm an cdv ct),osl⟩)
  (c:PySem.W.codeIn K cdv qual=true) (k:PySem.W.keepIn K (.ref f)=true):Fun K x qual st f (PySem.W.fnOf x qual (QA st) (zh st) (qg st) .none kV doc pm an cdv ct):=⟨⟨oc,od,kV,doc,pm,an,cdv,ct,osl,rfl,l,c⟩,k⟩
end
section
variable {X:Cx}
end
def qmn {A B:Prop} (h:B):if false=true then A else B:=by
 rw [if_neg y6];exact h
def qmX {A B:Prop} (h:A):if true=true then A else B:=by
 rw [if_pos rfl];exact h
end L2
set_option maxHeartbeats 4000000
namespace L3
open PySem PySem.Spec PyProof.Rows L2
set_option genInjectivity true in
inductive T where
 |non|bl (b:Bool)|int (i:Int)|str (x:Str)|tup (xs:List T)|ref (a:Addr)
inductive O where
 |lst (xs:List T)
 |frz (xs:List T)
 |dct (kvs:List (Int×T))
 |exn (C:Addr)
 |tab (ks:List Str) (xs:List T)
 |clo (i:Nat) (ts:List T)
abbrev Gp:=Addr->Option O
def gu (G:Gp) (a:Addr) (o:O):Gp:=λb=>if b=a then some o else G b
def qD {G:Gp} {a:Addr} {o:O}:gu G a o a=some o:=by unfold gu;rw [if_pos rfl]
def zX {G:Gp} {a b:Addr} {o:O} (h:b≠a):gu G a o b=G b:=by unfold gu;rw [if_neg h]
mutual
inductive Rp (K:Frg) (H:Hp):T->V->Prop
 |non:Rp K H .non .non
 |bl (b:Bool):Rp K H (.bl b) (.bl b)
 |int (i:Int):Rp K H (.int i) (.int i)
 |str (x:Str):Rp K H (.str x) (.str x)
 |ref (a:Addr):Rp K H (.ref a) (.ref a)
 |tup {xs:List T} {a:Addr} {vs:List V}:SqT K H a vs->Rps K H xs vs->Rp K H (.tup xs) (.ref a)
inductive Rps (K:Frg) (H:Hp):List T->List V->Prop
 |nil:Rps K H [] []
 |cons {x:T} {v:V} {xs:List T} {vs:List V}:Rp K H x v->Rps K H xs vs->Rps K H (x::xs) (v::vs)
end
def IsX (a C:Addr) (h:Heap):Prop:=∃ o vs,h.get? a=some o/\o.cls=.ref C/\o.data=.fields vs
def CdR (o:Obj) (q:Str):Prop:=∃ vs t,o.data=.fields vs/\vs[1]?=some (.str q t)
def TZ (K:Frg) (i:Nat):Option FuncData:=(K.filterMap λp=>match p.2.cls,p.2.data with
 |.str _ _,.func fd=>some fd
 |_,_=>none)[i]?
def frN (sc:Scope):List Str:=(sc.names.filter λp=>p.2==.free).map λp=>p.1
def psN (sc:Scope):List Str:=(sc.names.filter λp=>p.2==.local).map λp=>p.1
structure CloOk (clos:List (Str×Addr)) (fr:List Str):Prop where
 inj:∀ x y a,clos.lookup x=some a->clos.lookup y=some a->x=y
 has:∀ x∈fr,∃ a,clos.lookup x=some a
 nd:(clos.map λp=>p.1).Nodup
def qmg (H:Hp) (clos:List (Str×Addr)) (fr:List Str) (ws:List V):Prop:=ws.length=fr.length/\(∀ x c,clos.lookup x=some c->∃ o v,H c=some (.frz o (.own c))/\o.data=.cell v) /\
 ∀ (i:Nat) (x:Str) (v:V),fr[i]?=some x->ws[i]?=some v->∃ c o u,clos.lookup x=some c/\H c=some (.frz o (.own c))/\o.data=.cell (some u)/\zE v u
structure LamF (H:Hp) (f:Addr) (fd:FuncData) (body:Expr) (clos:List (Str×Addr)) (c:Addr) (ws:List V):Prop where
 bd:fd.body=.expr body
 fo:∃ pm ctv,H f=some (.frz (PySem.W.kla_obj "<lambda>" fd.qualname fd.params body fd.scope clos pm c ctv) (.own f))
 co:∃ oc,H c=some (.frz oc (.own c))/\CdR oc fd.qualname
 ok:CloOk clos (frN fd.scope)
 caps:qmg H clos (frN fd.scope) ws
def X6 (K:Frg):List (Addr×Addr×Str):=K.filterMap λp=>match p.2.cls,p.2.data with
 |.str _ _,.fields vs=>(match vs[0]?,vs[1]? with|some (Value.ref P),some (Value.str q _)=>some (p.1,P,q)|_,_=>none)
 |_,_=>none
def TK (H:Hp) (P:Addr) (q:Str):Prop:=∃ ps,H P=some (.tbl ps)/\TriplesOk ps.toList/\∀ pos cv,codeAmong pos ps.toList=some cv->∃ c oc,cv=.ref c/\H c=some (.frz oc (.own c))/\CdR oc q
def qhY (K:Frg) (H:Hp):Prop:=∀ t∈X6 K,TK H t.2.1 t.2.2
def OR (K:Frg) (H:Hp) (a:Addr):O->Prop
 |.lst xs=>∃ vs,H a=some (.lst vs)/\Rps K H xs vs
 |.frz xs=>∃ vs,(∃ o,H a=some (.frz o (.lst vs)))/\Rps K H xs vs
 |.dct kvs=>∃ vs,H a=some (.dK ((kvs.map λp=>(Sum.inl p.1:Key)).zip vs))/\Rps K H (kvs.map λp=>p.2) vs
 |.exn C=>H a=some (.ext (IsX a C))
 |.tab ks xs=>∃ vs,H a=some (.dK ((ks.map λk=>(Sum.inr k:Key)).zip vs))/\Rps K H xs vs
 |.clo i ts=>∃ fd body clos c ws,TZ K i=some fd/\LamF H a fd body clos c ws/\Rps K H ts ws
structure HR (K:Frg) (G:Gp) (H:Hp):Prop where
 at':∀ a o,G a=some o->OR K H a o
 tabs:qhY K H
instance {K:Frg} {G:Gp} {H:Hp}:CoeFun (HR K G H) λ_=>∀ a o,G a=some o->OR K H a o:=⟨HR.at'⟩
def T1:HO->Bool
 |.tbl _=>true
 |_=>false
def Kp (G:Gp) (H:Hp) (G':Gp) (H':Hp):Prop:=∀ a o,H a=some o->G a=none->T1 o=false->H' a=some o/\G' a=none
def Kp.refl {G:Gp} {H:Hp}:Kp G H G H:=λ_ _ h g _=>⟨h,g⟩
def Kp.trans {G G1 G2:Gp} {H H1 H2:Hp} (a:Kp G H G1 H1) (b:Kp G1 H1 G2 H2):Kp G H G2 H2:=λx o h g t=>
 let ⟨h1,g1⟩:=a x o h g t;b x o h1 g1 t
section
variable {K:Frg} {G G':Gp} {H H':Hp}
def HR.noneT (hr:HR K G H) {a:Addr} {vs:List V} (h:Rd H a (.tup vs)):G a=none:=by
 cases e:G a with
 |none=>rfl
 |some o=>
  have q:=hr a o e;cases o with
  |lst xs=>
   obtain ⟨us,q1,_⟩:=q;rcases h with h|⟨ob,h⟩<;>(rw [q1] at h;cases h)
  |frz xs=>
   obtain ⟨us,⟨o1,q1⟩,_⟩:=q;rcases h with h|⟨ob,h⟩<;>(rw [q1] at h;cases h)
  |dct kvs=>
   obtain ⟨us,q1,_⟩:=q;rcases h with h|⟨ob,h⟩<;>(rw [q1] at h;cases h)
  |exn C=>
   have q1:H a=some (.ext (IsX a C)):=q;rcases h with h|⟨ob,h⟩<;>(rw [q1] at h;cases h)
  |tab ks xs=>
   obtain ⟨us,q1,_⟩:=q;rcases h with h|⟨ob,h⟩<;>(rw [q1] at h;cases h)
  |clo i ts=>
   obtain ⟨_,_,_,_,_,_,⟨_,⟨_,_,q1⟩,_⟩,_⟩:=q;rcases h with h|⟨ob,h⟩<;>(rw [q1] at h;cases h)
def HR.noneC (hr:HR K G H) {c:Addr} {oc:Obj} (h:H c=some (.frz oc (.own c))) (r:∀ fd,oc.data≠.func fd):G c=none:=by
 cases e:G c with
 |none=>rfl
 |some o=>
  have q:=hr c o e;cases o with
  |lst xs=>obtain ⟨us,q1,_⟩:=q;rw [q1] at h;cases h
  |frz xs=>obtain ⟨us,⟨o1,q1⟩,_⟩:=q;rw [q1] at h;cases h
  |dct kvs=>obtain ⟨us,q1,_⟩:=q;rw [q1] at h;cases h
  |exn C=>have q1:H c=some (.ext (IsX c C)):=q;rw [q1] at h;cases h
  |tab ks xs=>obtain ⟨us,q1,_⟩:=q;rw [q1] at h;cases h
  |clo i ts=>
   obtain ⟨_,_,_,_,_,_,⟨_,⟨_,_,q1⟩,_⟩,_⟩:=q;rw [q1] at h;cases h;exact absurd rfl (r _)
def CdR.nf {o:Obj} {q:Str} (x:CdR o q) (fd:FuncData):o.data≠.func fd:=λz=>by
 obtain ⟨vs,t,e,_⟩:=x;rw [e] at z;cases z
def qa1 {o:Obj} {v:Option Value} (x:o.data=.cell v) (fd:FuncData):o.data≠.func fd:=λz=>by rw [x] at z;cases z
def LamF.keep {f:Addr} {fd:FuncData} {body:Expr} {clos:List (Str×Addr)} {c:Addr} {ws:List V} (x:LamF H f fd body clos c ws) (k:∀ a o,(a=f\/∀ fd,o.data≠.func fd)->H a=some (.frz o (.own a))->H' a=some (.frz o (.own a))):LamF H' f fd body clos c ws:=by
 obtain ⟨bd,⟨pm,ctv,fo⟩,⟨oc,co,cr⟩,ok,c1,c2,c3⟩:=x;refine ⟨bd,⟨pm,ctv,k _ _ (.inl rfl) fo⟩,⟨oc,k _ _ (.inr cr.nf) co,cr⟩,ok,c1,λy a e=>?_,λi y v e1 e2=>?_⟩
 ·obtain ⟨o,v,q,d⟩:=c2 y a e;exact ⟨o,v,k _ _ (.inr (qa1 d)) q,d⟩
 ·obtain ⟨a,o,u,l,q,d,r⟩:=c3 i y v e1 e2;exact ⟨a,o,u,l,k _ _ (.inr (qa1 d)) q,d,r⟩
def TK.keep {P:Addr} {q:Str} (x:TK H P q) (k:∀ ps,H P=some (.tbl ps)->H' P=some (.tbl ps)) (kc:∀ c oc,H c=some (.frz oc (.own c))->CdR oc q->H' c=some (.frz oc (.own c))):TK H' P q:=
 let ⟨ps,e,t,c⟩:=x
 ⟨ps,k ps e,t,λpos cv z=>let ⟨c',oc,a,b,r⟩:=c pos cv z;⟨c',oc,a,kc c' oc b r,r⟩⟩
theorem qhY.upd {p:Addr} {ho:HO} (x:qhY K H) (h1:∀ ps,H p≠some (.tbl ps)) (h2:∀ oc,H p≠some (.frz oc (.own p))):qhY K (upd H p ho):=λt ht=>
 (x t ht).keep (λps e=>by rw [qo (λz=>h1 ps (by rw [← z];exact e))];exact e) λc oc e _=>by rw [qo (λz=>h2 oc (by rw [← z];exact e))];exact e
def HR.tabU (hr:HR K G H) {p:Addr} {o:O} {ho:HO} (g:G p=some o) (n:∀ i ts,o≠.clo i ts):qhY K (upd H p ho):=by
 have q:=hr p o g;refine hr.tabs.upd (λps e=>?_) λoc e=>?_ <;>
 ·cases o with
  |lst xs=>obtain ⟨us,q1,_⟩:=q;rw [q1] at e;cases e
  |frz xs=>obtain ⟨us,⟨o1,q1⟩,_⟩:=q;rw [q1] at e;cases e
  |dct kvs=>obtain ⟨us,q1,_⟩:=q;rw [q1] at e;cases e
  |exn C=>have q1:H p=some (.ext (IsX p C)):=q;rw [q1] at e;cases e
  |tab ks xs=>obtain ⟨us,q1,_⟩:=q;rw [q1] at e;cases e
  |clo i ts=>exact n i ts rfl
def EG (hr:HR K G H) (k:Kp G H G' H') {a:Addr} {vs:List V} (h:SqT K H a vs):SqT K H' a vs:=by
 rcases h with h|h
 ·have g:=hr.noneT h;rcases h with h|⟨o,h⟩
  ·exact .inl (.inl (k a _ h g rfl).1)
  ·exact .inl (.inr ⟨o,(k a _ h g rfl).1⟩)
 ·exact .inr h
mutual
theorem Rp.keep (hr:HR K G H) (k:Kp G H G' H'):∀ {x:T} {v:V},Rp K H x v->Rp K H' x v
 |_,_,.non=>.non
 |_,_,.bl b=>.bl b
 |_,_,.int i=>.int i
 |_,_,.str x=>.str x
 |_,_,.ref a=>.ref a
 |_,_,.tup h hs=>.tup (EG hr k h) (Rps.keep hr k hs)
theorem Rps.keep (hr:HR K G H) (k:Kp G H G' H'):∀ {x:List T} {v:List V},Rps K H x v->Rps K H' x v
 |_,_,.nil=>.nil
 |_,_,.cons a b=>.cons (Rp.keep hr k a) (Rps.keep hr k b)
end
theorem Rps.length:∀ {xs:List T} {vs:List V},Rps K H xs vs->xs.length=vs.length
 |_,_,.nil=>rfl
 |_,_,.cons _ b=>by simp [Rps.length b]
theorem Rps.get:∀ {xs:List T} {vs:List V} {i:Nat} {x:T},Rps K H xs vs->xs[i]?=some x->∃ v,vs[i]?=some v/\Rp K H x v
 |_,_,_,_,.nil,e=>by simp at e
 |_,_,0,_,.cons r _,e=>by simp at e;subst e;exact ⟨_,rfl,r⟩
 |_,_,i+1,x,.cons _ t,e=>by
  obtain ⟨u,h1,h2⟩:=Rps.get (i:=i) (x:=x) t (by simpa using e);exact ⟨u,by simpa using h1,h2⟩
theorem Rps.append:∀ {xs ys:List T} {vs us:List V},Rps K H xs vs->Rps K H ys us->Rps K H (xs++ys) (vs++us)
 |_,_,_,_,.nil,s=>s
 |_,_,_,_,.cons r t,s=>.cons r (Rps.append t s)
theorem Rps.take:∀ {xs:List T} {vs:List V} (n:Nat),Rps K H xs vs->Rps K H (xs.take n) (vs.take n)
 |_,_,0,_=>.nil
 |_,_,_+1,.nil=>.nil
 |_,_,n+1,.cons r t=>.cons r (Rps.take n t)
theorem Rps.drop:∀ {xs:List T} {vs:List V} (n:Nat),Rps K H xs vs->Rps K H (xs.drop n) (vs.drop n)
 |_,_,0,r=>r
 |_,_,_+1,.nil=>.nil
 |_,_,n+1,.cons _ t=>Rps.drop n t
theorem Rps.set {x:T} {v:V} (r:Rp K H x v):∀ {xs:List T} {vs:List V} (i:Nat),Rps K H xs vs->Rps K H (xs.set i x) (vs.set i v)
 |_,_,_,.nil=>.nil
 |_,_,0,.cons _ t=>.cons r t
 |_,_,i+1,.cons q t=>.cons q (Rps.set r i t)
theorem Rps.ints:∀ (ns:List Int),Rps K H (ns.map T.int) (ns.map V.int)
 |[]=>.nil
 |n::r=>.cons (.int n) (Rps.ints r)
theorem Rps.reverse {xs:List T} {vs:List V} (h:Rps K H xs vs):Rps K H xs.reverse vs.reverse:=by
 induction xs generalizing vs with
 |nil=>cases h;exact .nil
 |cons x r ih=>
  cases h with
  |cons a b=>
   rw [List.reverse_cons,List.reverse_cons];exact (ih b).append (.cons a .nil)
def Kp.laid {p:Addr} {ho:HO} (hp:H p=none):Kp G H G (upd H p ho):=λa o h g _=>⟨by rw [qo (qw h hp)];exact h,g⟩
def HR.free (hr:HR K G H) {p:Addr} (hp:H p=none):G p=none:=by
 cases e:G p with
 |none=>rfl
 |some o=>
  have q:=hr p o e;cases o with
  |lst xs=>obtain ⟨us,q1,_⟩:=q;rw [hp] at q1;cases q1
  |frz xs=>obtain ⟨us,⟨o1,q1⟩,_⟩:=q;rw [hp] at q1;cases q1
  |dct kvs=>obtain ⟨us,q1,_⟩:=q;rw [hp] at q1;cases q1
  |exn C=>have q1:H p=some (.ext (IsX p C)):=q;rw [hp] at q1;cases q1
  |tab ks xs=>obtain ⟨us,q1,_⟩:=q;rw [hp] at q1;cases q1
  |clo i ts=>obtain ⟨_,_,_,_,_,_,⟨_,⟨_,_,q1⟩,_⟩,_⟩:=q;rw [hp] at q1;cases q1
theorem OR.keep (hr:HR K G H) (k:Kp G H G' H') {a:Addr} {o:O} (h:OR K H a o) (e:∀ u,H a=some u->H' a=some u):OR K H' a o:=by
 cases o with
 |lst xs=>obtain ⟨vs,h1,h2⟩:=h;exact ⟨vs,e _ h1,h2.keep hr k⟩
 |frz xs=>obtain ⟨vs,⟨o,h1⟩,h2⟩:=h;exact ⟨vs,⟨o,e _ h1⟩,h2.keep hr k⟩
 |dct kvs=>obtain ⟨vs,h1,h2⟩:=h;exact ⟨vs,e _ h1,h2.keep hr k⟩
 |exn C=>exact e _ h
 |tab ks xs=>obtain ⟨vs,h1,h2⟩:=h;exact ⟨vs,e _ h1,h2.keep hr k⟩
 |clo i ts=>
  obtain ⟨fd,body,clos,c,ws,l,f,r⟩:=h;exact ⟨fd,body,clos,c,ws,l,f.keep λb o n q=>by
   rcases n with rfl|n
   ·exact e _ q
   ·exact (k b _ q (hr.noneC q n) rfl).1,r.keep hr k⟩
theorem HR.laid (hr:HR K G H) {p:Addr} {ho:HO} (hp:H p=none):HR K G (upd H p ho):=⟨λa o e=>
 (hr a o e).keep hr (Kp.laid hp) λu h=>by rw [qo (qw h hp)];exact h,hr.tabs.upd (λ_ e=>by rw [hp] at e;cases e) λ_ e=>by rw [hp] at e;cases e⟩
def Kp.newL {p:Addr} {ho:HO} {o':O} (hp:H p=none):Kp G H (gu G p o') (upd H p ho):=λa o h g _=>
 ⟨by rw [qo (qw h hp)];exact h,by rw [zX (qw h hp)];exact g⟩
def HR.newL (hr:HR K G H) {p:Addr} {xs:List T} {vs:List V} (hp:H p=none) (r:Rps K H xs vs):HR K (gu G p (.lst xs)) (upd H p (.lst vs)):=⟨λa o e=>by
 by_cases ha:a=p
 ·subst ha;rw [qD] at e;cases e;exact ⟨vs,qH,r.keep hr (Kp.laid hp)⟩
 ·rw [zX ha] at e;exact (hr a o e).keep hr (Kp.laid hp) λu h=>by rw [qo ha];exact h,(hr.laid hp).tabs⟩
def Kp.wr {p:Addr} {ho:HO} {o o':O} (g:G p=some o):Kp G H (gu G p o') (upd H p ho):=λa ob h ga _=>by
 have ha:a≠p:=by intro e;subst e;rw [g] at ga;cases ga
 exact ⟨by rw [qo ha];exact h,by rw [zX ha];exact ga⟩
theorem HR.wr (hr:HR K G H) {p:Addr} {ys xs:List T} {vs:List V} (g:G p=some (.lst ys)) (r:Rps K H xs vs):HR K (gu G p (.lst xs)) (upd H p (.lst vs)):=⟨λa o e=>by
 have k:Kp G H (gu G p (.lst xs)) (upd H p (.lst vs)):=Kp.wr g;by_cases ha:a=p
 ·subst ha;rw [qD] at e;cases e;exact ⟨vs,qH,r.keep hr k⟩
 ·rw [zX ha] at e;exact (hr a o e).keep hr k λu h=>by rw [qo ha];exact h,hr.tabU g λ_ _ z=>nomatch z⟩
end
abbrev St3:=List (Option T)
structure Rel (K:Frg) (τ:St3) (G:Gp) (σ:L2.St) (H:Hp):Prop where
 hp:HR K G H
 len:τ.length=σ.length
 st:∀ (i:Nat) (t:T),τ[i]?=some (some t)->∃ v,σ[i]?=some (some v)/\Rp K H t v
def Rel.next {K:Frg} {τ:St3} {G G':Gp} {σ:L2.St} {H H':Hp} (r:Rel K τ G σ H) (hr:HR K G' H') (k:Kp G H G' H'):Rel K τ G' σ H':=
 ⟨hr,r.len,λi t e=>let ⟨v,h1,h2⟩:=r.st i t e;⟨v,h1,h2.keep r.hp k⟩⟩
theorem Rel.set {K:Frg} {τ:St3} {G:Gp} {σ:L2.St} {H:Hp} {t:T} {v:V} (r:Rel K τ G σ H) (i:Nat) (h:Rp K H t v):Rel K (τ.set i (some t)) G (σ.set i (some v)) H:=by
 refine ⟨r.hp,by simp [r.len],λj u e=>?_⟩;by_cases hij:i=j
 ·subst hij;rw [List.getElem?_set_self'] at e;have hl:i<τ.length:=by
   cases q:τ[i]? with
   |none=>rw [q] at e;cases e
   |some z=>exact (za4 q).1
  rw [y9 hl] at e;have e':t=u:=by simpa using e
  subst e';exact ⟨v,by rw [List.getElem?_set_self (by rw [← r.len];exact hl)],h⟩
 ·rw [List.getElem?_set_ne hij] at e;obtain ⟨w,h1,h2⟩:=r.st j u e;exact ⟨w,by rw [List.getElem?_set_ne hij];exact h1,h2⟩
abbrev Q3:=T->Gp->Prop
abbrev TE3:=St3->Gp->Q3->Prop
abbrev TT3:=St3->Gp->(Bool->Gp->Prop)->Prop
abbrev TA3:=St3->Gp->(List T->Gp->Prop)->Prop
def Aft (K:Frg) (G:Gp) (H:Hp) (q:Q3) (Q:VK):Prop:=∀ x G',q x G'->∀ v H',Rp K H' x v->HR K G' H'->Kp G H G' H'->Q v H'
def ql3 (K:Frg) (G:Gp) (H:Hp) (q:Bool->Gp->Prop) (Q:Bool->Hp->Prop):Prop:=∀ x G',q x G'->∀ H',HR K G' H'->Kp G H G' H'->Q x H'
def qoz (K:Frg) (G:Gp) (H:Hp) (q:List T->Gp->Prop) (Q:List V->Hp->Prop):Prop:=∀ x G',q x G'->∀ v H',Rps K H' x v->HR K G' H'->Kp G H G' H'->Q v H'
def lE (K:Frg) (t:TE3):TE:=λσ H Q=>∃ τ G q,Rel K τ G σ H/\t τ G q/\Aft K G H q Q
def lT (K:Frg) (t:TT3):TT:=λσ H Q=>∃ τ G q,Rel K τ G σ H/\t τ G q/\ql3 K G H q Q
def lA (K:Frg) (t:TA3):TA:=λσ H Q=>∃ τ G q,Rel K τ G σ H/\t τ G q/\qoz K G H q Q
abbrev E3 (X:Cx) (e:Expr) (t:TE3):Prop:=PE X e (lE X.K t)
abbrev C3 (X:Cx) (e:Expr) (t:TT3):Prop:=PT X e (lT X.K t)
abbrev W3 (X:Cx) (e:Expr) (t:TT3):Prop:=PW X e (lT X.K t)
abbrev A3 (X:Cx) (es:List Expr) (t:TA3):Prop:=PA X es (lA X.K t)
def Aft.back {K:Frg} {G G1:Gp} {H H1:Hp} {q:Q3} {Q:VK} (a:Aft K G H q Q) (k:Kp G H G1 H1):Aft K G1 H1 q Q:=λx G' h v H' r hr k'=>a x G' h v H' r hr (k.trans k')
def ql3.back {K:Frg} {G G1:Gp} {H H1:Hp} {q:Bool->Gp->Prop} {Q:Bool->Hp->Prop} (a:ql3 K G H q Q) (k:Kp G H G1 H1):ql3 K G1 H1 q Q:=λx G' h H' hr k'=>a x G' h H' hr (k.trans k')
def WK {X:Cx} {e:Expr} {t t':TE} (h:PE X e t) (w:∀ σ H Q,t' σ H Q->t σ H Q):PE X e t':=λpins s σ H Q I q=>h pins s σ H Q I (w σ H Q q)
def ql1 {X:Cx} {e:Expr} {t t':TT} (h:PT X e t) (w:∀ σ H Q,t' σ H Q->t σ H Q):PT X e t':=λpins s σ H Q I q=>h pins s σ H Q I (w σ H Q q)
def qoo {X:Cx} {e:Expr} {t t':TT} (h:PW X e t) (w:∀ σ H Q,t' σ H Q->t σ H Q):PW X e t':=λwh pins s σ H Q I q=>h wh pins s σ H Q I (w σ H Q q)
def qnV {X:Cx} {e:List Expr} {t t':TA} (h:PA X e t) (w:∀ σ H Q,t' σ H Q->t σ H Q):PA X e t':=λpos pins s σ H Q I q=>h pos pins s σ H Q I (w σ H Q q)
def zf {K:Frg} {ta:TE3} {τ:St3} {G:Gp} {σ:L2.St} {H:Hp} {q:Q3} {Q:VK} (r:Rel K τ G σ H) (h:ta τ G q)
  (n:∀ x G1,q x G1->∀ v H1,Rp K H1 x v->HR K G1 H1->Kp G H G1 H1->Rel K τ G1 σ H1->Q v H1):lE K ta σ H Q:=
 ⟨τ,G,q,r,h,λx G1 hq v H1 rx hr k=>n x G1 hq v H1 rx hr k (r.next hr k)⟩
def XC {K:Frg} {ta:TT3} {τ:St3} {G:Gp} {σ:L2.St} {H:Hp} {q:Bool->Gp->Prop} {Q:Bool->Hp->Prop} (r:Rel K τ G σ H) (h:ta τ G q)
  (n:∀ x G1,q x G1->∀ H1,HR K G1 H1->Kp G H G1 H1->Rel K τ G1 σ H1->Q x H1):lT K ta σ H Q:=
 ⟨τ,G,q,r,h,λx G1 hq H1 hr k=>n x G1 hq H1 hr k (r.next hr k)⟩
def ZK {K:Frg} {ta:TA3} {τ:St3} {G:Gp} {σ:L2.St} {H:Hp} {q:List T->Gp->Prop} {Q:List V->Hp->Prop} (r:Rel K τ G σ H) (h:ta τ G q)
  (n:∀ x G1,q x G1->∀ v H1,Rps K H1 x v->HR K G1 H1->Kp G H G1 H1->Rel K τ G1 σ H1->Q v H1):lA K ta σ H Q:=
 ⟨τ,G,q,r,h,λx G1 hq v H1 rx hr k=>n x G1 hq v H1 rx hr k (r.next hr k)⟩
section
variable {X:Cx} {a b c:Expr} {ta tb tc:TE3} {pos:Pos}
def v3 (i:Nat):TE3:=λτ G q=>match τ[i]? with|some (some t)=>q t G|_=>False
def c3 (t:T):TE3:=λ_ G q=>q t G
def e_c {t:T} {v:V} {e:Expr} (h:PE X e (tC v)) (hr:∀ H,Rp X.K H t v):E3 X e (c3 t):=WK h λσ H Q ⟨τ,G,q,r,h,af⟩=>af t G h v H (hr H) r.hp Kp.refl
abbrev R3:=T->T->Gp->Q3->Prop
def XN (K:Frg) (r3:R3) (r:R2):Prop:=∀ x y v u G H q Q,HR K G H->Rp K H x v->Rp K H y u->r3 x y G q->Aft K G H q Q->r v u H Q
def o3 (r:R3) (ta tb:TE3):TE3:=λτ G q=>ta τ G λx G1=>tb τ G1 λy G2=>r x y G2 q
def qbv {K:Frg} {r3:R3} {r:R2} (hr:XN K r3 r) {σ:L2.St} {H:Hp} {Q:VK} (h:lE K (o3 r3 ta tb) σ H Q):tOp r (lE K ta) (lE K tb) σ H Q:=by
 obtain ⟨τ,G,q,rl,h,af⟩:=h;refine zf rl h λx G1 h1 v H1 rx hr1 k1 rl1=>zf rl1 h1 λy G2 h2 u H2 ry hr2 k2 rl2=>?_;exact hr x y v u G2 H2 q Q hr2 (rx.keep hr1 k2) ry h2 (af.back (k1.trans k2))
def qcS {op:Operator} {r3:R3} {r:R2} (ho:OpR X (binaryOp op) r) (hr:XN X.K r3 r) (ha:E3 X a ta) (hb:E3 X b tb):E3 X (.BinOp a op b pos) (o3 r3 ta tb):=
 WK (qmS ho ha hb) λ_ _ _ h=>qbv hr h
def tb3 (t:TE3):TT3:=λτ G q=>t τ G λx G'=>match x with|.bl k=>q k G'|_=>False
def qhK {K:Frg} {t:TE3} {t2:TE} (hw:∀ σ H Q,lE K t σ H Q->t2 σ H Q) {σ:L2.St} {H:Hp} {Q:Bool->Hp->Prop} (h:lT K (tb3 t) σ H Q):qhe t2 σ H Q:=by
 obtain ⟨τ,G,q,rl,h,af⟩:=h;refine hw _ _ _ (zf rl h λx G1 h1 v H1 rx hr1 k1 rl1=>?_);cases x with
 |bl k=>cases rx;exact ⟨k,rfl,af k G1 h1 H1 hr1 k1⟩
 |_=>exact h1.elim
def ch3 (r r':R3) (ta tb tc:TE3):TE3:=λτ G q=>ta τ G λx G1=>tb τ G1 λy G2=>r x y G2 λz G3=>match z with
 |.bl k=>if k=true then tc τ G3 λw G4=>r' y w G4 q else q (.bl false) G3
 |_=>False
def qmx {K:Frg} {r3 r3':R3} {r r':R2} (hr:XN K r3 r) (hr':XN K r3' r') {σ:L2.St} {H:Hp} {Q:VK} (h:lE K (ch3 r3 r3' ta tb tc) σ H Q):qf6 r r' (lE K ta) (lE K tb) (lE K tc) σ H Q:=by
 obtain ⟨τ,G,q,rl,h,af⟩:=h;refine zf rl h λx G1 h1 v H1 rx hr1 k1 rl1=>zf rl1 h1 λy G2 h2 u H2 ry hr2 k2 rl2=>?_;refine hr x y v u G2 H2 _ _ hr2 (rx.keep hr1 k2) ry h2 λz G3 h3 w H3 rz hr3 k3=>?_;cases z with
 |bl k=>
  cases rz;refine ⟨k,rfl,?_⟩;cases k with
  |false=>
   rw [if_neg y6];rw [show (match T.bl false with|.bl k=>if k=true then tc τ G3 λw G4=>r3' y w G4 q else q (.bl false) G3|_=>False)=q (.bl false) G3 from by simp] at h3;exact af _ G3 h3 _ H3 (.bl false) hr3 ((k1.trans k2).trans k3)
  |true=>
   rw [if_pos rfl];refine zf (rl2.next hr3 k3) (show tc τ G3 λw G4=>r3' y w G4 q from by simpa using h3) λw G4 h4 w' H4 rw' hr4 k4 rl4=>?_;exact hr' y w _ _ G4 H4 q Q hr4 ((ry.keep hr2 k3).keep hr3 k4) rw' h4 (af.back (((k1.trans k2).trans k3).trans k4))
 |_=>exact h3.elim
def u3 (r:T->Gp->Q3->Prop) (ta:TE3):TE3:=λτ G q=>ta τ G λx G1=>r x G1 q
def iI (f:Int->Int->Int):R3:=λx y G q=>match x,y with|.int i,.int j=>q (.int (f i j)) G|_,_=>False
def iC (C:Int->Int->Prop) (f:Int->Int->Int):R3:=λx y G q=>match x,y with|.int i,.int j=>C i j/\q (.int (f i j)) G|_,_=>False
def iB (f:Int->Int->Bool):R3:=λx y G q=>match x,y with|.int i,.int j=>q (.bl (f i j)) G|_,_=>False
def qaC {K:Frg} {f:Int->Int->Int}:XN K (iI f) (rI0 λi j=>.int (f i j)):=λx y v u G H q Q hr rx ry h af=>by
 cases x<;>try exact h.elim
 cases y<;>try exact h.elim
 cases rx;cases ry;exact ⟨_,_,rfl,rfl,af _ G h _ H (.int _) hr Kp.refl⟩
def W1 {K:Frg} {C:Int->Int->Prop} {f:Int->Int->Int}:XN K (iC C f) (rI C λi j=>.int (f i j)):=λx y v u G H q Q hr rx ry h af=>by
 cases x<;>try exact h.elim
 cases y<;>try exact h.elim
 cases rx;cases ry;exact ⟨_,_,rfl,rfl,h.1,af _ G h.2 _ H (.int _) hr Kp.refl⟩
def UV {K:Frg} {f:Int->Int->Bool}:XN K (iB f) (rI0 λi j=>.bl (f i j)):=λx y v u G H q Q hr rx ry h af=>by
 cases x<;>try exact h.elim
 cases y<;>try exact h.elim
 cases rx;cases ry;exact ⟨_,_,rfl,rfl,af _ G h _ H (.bl _) hr Kp.refl⟩
def U8:T->T->Option Bool
 |.non,.non=>some true|.non,.int _=>some false|.int _,.non=>some false|.non,.bl _=>some false|.bl _,.non=>some false|.non,.str _=>some false|.str _,.non=>some false
 |.int i,.int j=>some (decide (i=j))|.bl i,.bl j=>some (decide (i=j))|.str i,.str j=>some (decide (i=j))
 |.int _,.str _=>some false|.str _,.int _=>some false|.bl _,.str _=>some false|.str _,.bl _=>some false
 |_,_=>none
def MK {K:Frg} {H:Hp} {x y:T} {v u:V} {k:Bool} (rx:Rp K H x v) (ry:Rp K H y u) (h:U8 x y=some k):qmL v u=true/\decide (v=u)=k:=by
 cases rx<;>cases ry<;>simp [U8] at h<;>subst h<;>refine ⟨rfl,?_⟩<;>simp
def qcV (neg:Bool):R3:=λx y G q=>match y with|.non=>q (.bl (match x with|.non=>!neg|_=>neg)) G|_=>False
def qkv {K:Frg} {H:Hp} {x:T} {v:V} (rx:Rp K H x v):decide (v=.non)=(match x with|.non=>true|_=>false):=by
 cases rx<;>simp
def VV {K:Frg}:XN K (qcV false) (λx y H Q=>y=.non/\Q (.bl (decide (x=.non))) H):=λx y v u G H q Q hr rx ry h af=>by
 cases y<;>try exact h.elim
 cases ry;refine ⟨rfl,?_⟩;rw [qkv rx];refine af _ G h _ H ?_ hr Kp.refl;cases x<;>exact .bl _
variable {tA tB:TT3} {JD:List Expr}
def qmf (t u:TT3):TT3:=λτ G q=>t τ G λk G1=>if k=true then u τ G1 q else q false G1
def or3 (t u:TT3):TT3:=λτ G q=>t τ G λk G1=>if k=true then q true G1 else u τ G1 q
def TB (t:TT3):TT3:=λτ G q=>t τ G λk G1=>q (!k) G1
def VQ (ta tb:TE3):TE3:=λτ G q=>ta τ G λx G1=>match x with|.bl k=>if k=true then tb τ G1 q else q (.bl false) G1|_=>False
def qcY (ta:TE3):TE3:=λτ G q=>ta τ G λx G1=>match x with|.bl k=>q (.bl (!k)) G1|_=>False
def if3 (t:TT3) (ta tb:TE3):TE3:=λτ G q=>t τ G λk G1=>if k=true then ta τ G1 q else tb τ G1 q
variable {e:Expr} {es:List Expr} {te:TE3} {t:TA3}
def ql:TA3:=λ_ G q=>q [] G
def qd (ta:TE3) (tr:TA3):TA3:=λτ G q=>ta τ G λx G1=>tr τ G1 λxs G2=>q (x::xs) G2
def qcW (t:TA3):TE3:=λτ G q=>t τ G λxs G1=>xs.length<=sizeLine/\q (.tup xs) G1
def UM (t:TA3):TE3:=λτ G q=>t τ G λxs G1=>xs.length<=sizeLine/\∀ p,G1 p=none->q (.ref p) (gu G1 p (.lst xs))
def qck (K:Frg) (r3:List T->Gp->Q3->Prop) (r:List V->Hp->VK->Prop):Prop:=∀ xs vs G H q Q,HR K G H->Rps K H xs vs->r3 xs G q->Aft K G H q Q->r vs H Q
def cb3 (r:List T->Gp->Q3->Prop) (t:TA3):TE3:=λτ G q=>t τ G λxs G1=>r xs G1 q
def qkr {K:Frg} {r3:List T->Gp->Q3->Prop} {r:List V->Hp->VK->Prop} (hr:qck K r3 r) {σ:L2.St} {H:Hp} {Q:VK} (h:lE K (cb3 r3 t) σ H Q):tCB r (lA K t) σ H Q:=by
 obtain ⟨τ,G,q,rl,h,af⟩:=h;exact ZK rl h λxs G1 h1 vs H1 rs hr1 k1 rl1=>hr xs vs G1 H1 q Q hr1 rs h1 (af.back k1)
end
def getL (G:Gp) (p:Addr):Option (List T):=match G p with|some (.lst xs)=>some xs|some (.frz xs)=>some xs|_=>none
section
variable {K:Frg} {G G':Gp} {H H':Hp}
def zD (hr:HR K G H) {p:Addr} {xs:List T} (h:getL G p=some xs):∃ vs,SqL K H p vs/\Rps K H xs vs:=by
 unfold getL at h;split at h
 ·rename_i ys e;cases h;obtain ⟨vs,h1,h2⟩:=hr p _ e;exact ⟨vs,SqL.of h1,h2⟩
 ·rename_i ys e;cases h;obtain ⟨vs,⟨o,h1⟩,h2⟩:=hr p _ e;exact ⟨vs,.inl (.inr ⟨o,h1⟩),h2⟩
 ·cases h
theorem HR.lst (hr:HR K G H) {p:Addr} {xs:List T} (h:G p=some (.lst xs)):∃ vs,H p=some (.lst vs)/\Rps K H xs vs:=hr p _ h
theorem Rps.atI {xs:List T} {vs:List V} {i:Int} {x:T} (r:Rps K H xs vs) (h:atI xs i=some x):∃ v,L2.atI vs i=some v/\Rp K H x v:=by
 unfold L2.atI at h ⊢;rw [← r.length];cases e:ixN xs.length i with
 |none=>rw [e] at h;cases h
 |some j=>
  rw [e] at h;exact r.get (by simpa using h)
end
def ix3:R3:=λx y G q=>match x,y with
 |.tup xs,.int i=>(match atI xs i with|some z=>q z G|none=>False)
 |.ref p,.int i=>(match getL G p with|some xs=>(match atI xs i with|some z=>q z G|none=>False)|none=>False)
 |_,_=>False
section
variable {X:Cx} {a b c e:Expr} {es:List Expr} {ta tb tc te:TE3} {t:TA3} {pos:Pos}
def qjW {K:Frg}:XN K ix3 (rIx K):=λx y v u G H q Q hr rx ry h af=>by
 cases x<;>try exact h.elim
 case tup xs=>
  cases y<;>try exact h.elim
  case int i=>
   unfold ix3 at h;simp only at h;split at h
   ·rename_i z e;cases ry;cases rx with
    |tup hs rs=>
     obtain ⟨w,e2,rw'⟩:=rs.atI e;exact .inr (.inl ⟨_,_,i,w,rfl,rfl,hs,e2,af z G h w H rw' hr Kp.refl⟩)
   ·exact h.elim
 case ref p=>
  cases y<;>try exact h.elim
  case int i=>
   unfold ix3 at h;simp only at h;split at h
   ·rename_i xs e0;split at h
    ·rename_i z e;cases ry;cases rx;obtain ⟨vs,hs,rs⟩:=zD hr e0;obtain ⟨w,e2,rw'⟩:=rs.atI e;exact .inl ⟨p,vs,i,w,rfl,rfl,hs,e2,af z G h w H rw' hr Kp.refl⟩
    ·exact h.elim
   ·exact h.elim
def NM {α:Type} (xs:List α) (lo hi:Option Int):List α:=(xs.drop (HT.sIx xs.length 0 lo)).take (HT.sIx xs.length xs.length hi-HT.sIx xs.length 0 lo)
def Rps.cut {K:Frg} {H:Hp} {xs:List T} {vs:List V} (r:Rps K H xs vs) (lo hi:Option Int):Rps K H (NM xs lo hi) (qgb vs lo hi):=by
 unfold NM qgb;rw [r.length];exact (r.drop _).take _
abbrev TO3:=St3->Gp->(Option Int->Gp->Prop)->Prop
def lO (K:Frg) (t:TO3):TO:=λσ H Q=>∃ τ G q,Rel K τ G σ H/\t τ G q/\∀ x G',q x G'->∀ H',HR K G' H'->Kp G H G' H'->Q x H'
abbrev P3 (X:Cx) (e:Option Expr) (t:TO3):Prop:=PO X e (lO X.K t)
def np3:TO3:=λ_ G q=>q none G
def sp3 (t:TE3):TO3:=λτ G q=>t τ G λx G1=>match x with|.int i=>q (some i) G1|_=>False
def qoq {X:Cx} {e:Option Expr} {t t':TO} (h:PO X e t) (w:∀ σ H Q,t' σ H Q->t σ H Q):PO X e t':=λpins s σ H Q I q=>h pins s σ H Q I (w σ H Q q)
def sl3:T->Option Int->Option Int->Gp->Q3->Prop:=λx lo hi G q=>match x with
 |.tup xs=>¬ (HT.sIx xs.length 0 lo=0/\HT.sIx xs.length xs.length hi=xs.length)/\q (.tup (NM xs lo hi)) G
 |.ref p=>(match getL G p with|some xs=>∀ a,G a=none->q (.ref a) (gu G a (.lst (NM xs lo hi)))|none=>False)
 |_=>False
def qh4 (te:TE3) (tl th:TO3):TE3:=λτ G q=>te τ G λx G1=>tl τ G1 λl G2=>th τ G2 λu G3=>sl3 x l u G3 q
def qbw {K:Frg} {H:Hp} {xs:List T} {vs:List V} (r:Rps K H xs vs):vs=[]↔xs=[]:=by
 cases r<;>simp
def Z3:R3:=λx y G q=>match x,y with
 |.tup xs,.tup ys=>xs≠[]/\xs.length+ys.length<=sizeLine/\q (.tup (xs++ys)) G
 |.ref a,.ref b=>(match G a,G b with|some (.lst xs),some (.lst ys)=>xs.length+ys.length<=sizeLine/\∀ p,G p=none->q (.ref p) (gu G p (.lst (xs++ys)))|_,_=>False)
 |.int i,.int j=>q (.int (i+j)) G
 |_,_=>False
def qhP {K:Frg}:XN K Z3 (λx y H Q=>(rI0 (λi j=>.int (i+j)) x y H Q\/qkn K x y H Q)\/qn8 x y H Q):=λx y v u G H q Q hr rx ry h af=>by
 cases x<;>try exact h.elim
 case int i=>
  cases y<;>try exact h.elim
  cases rx;cases ry;exact .inl (.inl ⟨_,_,rfl,rfl,af _ G h _ H (.int _) hr Kp.refl⟩)
 case tup xs=>
  cases y<;>try exact h.elim
  case tup ys=>
   obtain ⟨h1,h2,h3⟩:=h;cases rx with
   |tup hs rs=>
    cases ry with
    |tup hs' rs'=>
     refine .inl (.inr ⟨_,_,_,_,rfl,rfl,hs,hs',λz=>h1 ((qbw rs).mp z),by rw [← rs.length,← rs'.length];exact h2,λz=>?_,λz p hp=>?_⟩)
     ·have e:=(qbw rs').mp z;subst e;rw [List.append_nil] at h3;exact af _ G h3 _ H (.tup hs rs) hr Kp.refl
     ·exact af _ G h3 _ _ (.tup (SqT.of qH) ((rs.append rs').keep hr (Kp.laid hp))) (hr.laid hp) (Kp.laid hp)
 case ref a=>
  cases y<;>try exact h.elim
  case ref b=>
   unfold Z3 at h;simp only at h;split at h
   ·rename_i xs ys e1 e2;cases rx;cases ry;obtain ⟨vs,g1,r1⟩:=hr.lst e1;obtain ⟨us,g2,r2⟩:=hr.lst e2;refine .inr ⟨a,b,vs,us,rfl,rfl,g1,g2,by rw [← r1.length,← r2.length];exact h.1,λp hp=>?_⟩;exact af _ _ (h.2 p (hr.free hp)) _ _ (.ref p) (hr.newL hp (r1.append r2)) (Kp.newL hp)
   ·exact h.elim
def D6:T->Bool
 |.non=>true|.bl _=>true|.int _=>true|.str _=>true|_=>false
def eqF:T->T->Bool
 |.non,.non=>true
 |.bl a,.bl b=>a==b
 |.bl a,.int b=>(if a then 1 else 0)==b
 |.int a,.bl b=>a==(if b then 1 else 0)
 |.int a,.int b=>a==b
 |.str a,.str b=>a==b
 |_,_=>false
def TY {K:Frg} {H:Hp} {x:T} {v:V} (r:Rp K H x v) (h:D6 x=true):WT v=true:=by
 cases r<;>first|rfl|(cases h)
theorem CI {K:Frg} {H:Hp}:∀ {x:List T} {v:List V},Rps K H x v->x.all D6=true->v.all WT=true
 |_,_,.nil,_=>rfl
 |_,_,.cons a b,h=>by
  rw [List.all_cons,Bool.and_eq_true] at h ⊢;exact ⟨TY a h.1,CI b h.2⟩
def qjN {K:Frg} {H:Hp} {x y:T} {v u:V} (r:Rp K H x v) (s:Rp K H y u) (h:D6 x=true) (h':D6 y=true):eqV v u=eqF x y:=by
 cases r<;>first|(cases h;done)|(cases s<;>first|rfl|(cases h';done))
theorem qbg {K:Frg} {H:Hp} {x:T} {v:V} (r:Rp K H x v) (h:D6 x=true):∀ {ys:List T} {us:List V},Rps K H ys us->ys.all D6=true->inV v us=ys.any λy=>eqF y x
 |_,_,.nil,_=>rfl
 |_,_,.cons a b,h'=>by
  rw [List.all_cons,Bool.and_eq_true] at h';unfold inV;rw [List.any_cons,List.any_cons,qjN a r h'.1 h];congr 1;exact qbg r h b h'.2
def in3 (neg:Bool):R3:=λx y G q=>D6 x=true/\match y with
 |.tup ys=>ys.all D6=true/\q (.bl (if neg then !(ys.any λy=>eqF y x) else (ys.any λy=>eqF y x))) G
 |.ref p=>(match getL G p with|some ys=>ys.all D6=true/\q (.bl (if neg then !(ys.any λy=>eqF y x) else (ys.any λy=>eqF y x))) G|none=>False)
 |_=>False
def S6 {K:Frg} {neg:Bool}:XN K (in3 neg) (rIn K neg):=λx y v u G H q Q hr rx ry h af=>by
 obtain ⟨hf,h⟩:=h;cases y<;>try exact h.elim
 case tup ys=>
  cases ry with
  |tup hs rs=>
   refine ⟨_,_,rfl,.inr hs,TY rx hf,CI rs h.1,?_⟩;rw [qbg rx hf rs h.1];exact af _ G h.2 _ H (.bl _) hr Kp.refl
 case ref p=>
  simp only at h;split at h
  ·rename_i ys e;cases ry;obtain ⟨us,hs,rs⟩:=zD hr e;refine ⟨_,_,rfl,.inl hs,TY rx hf,CI rs h.1,?_⟩;rw [qbg rx hf rs h.1];exact af _ G h.2 _ H (.bl _) hr Kp.refl
  ·exact h.elim
def U1:List T->Gp->Q3->Prop:=λxs G q=>match xs with
 |[.tup ys]=>q (.int ys.length) G
 |[.str y]=>y.length<=sizeLine/\q (.int y.length) G
 |[.ref p]=>(match getL G p with|some ys=>q (.int ys.length) G|none=>False)
 |_=>False
def T9 {K:Frg} {H:Hp} {x:T} {vs:List V} (r:Rps K H [x] vs):∃ v,vs=[v]/\Rp K H x v:=by
 cases r with
 |cons a b=>cases b;exact ⟨_,rfl,a⟩
def qm7 {K:Frg} {H:Hp} {x y:T} {vs:List V} (r:Rps K H [x,y] vs):∃ v u,vs=[v,u]/\Rp K H x v/\Rp K H y u:=by
 cases r with
 |cons a b=>cases b with|cons c d=>cases d;exact ⟨_,_,rfl,a,c⟩
def zO {K:Frg}:qck K U1 (λxs H Q=>∃ x n,xs=[x]/\qn1 K x H n/\Q (.int n) H):=λxs vs G H q Q hr rs h af=>by
 unfold U1 at h;split at h
 ·obtain ⟨v,rfl,r⟩:=T9 rs;cases r with
  |tup hs r2=>exact ⟨_,_,rfl,.inr ⟨_,hs,rfl⟩,by rw [← r2.length];exact af _ G h _ H (.int _) hr Kp.refl⟩
 ·obtain ⟨v,rfl,r⟩:=T9 rs;cases r;exact ⟨_,_,rfl,⟨h.1,rfl⟩,af _ G h.2 _ H (.int _) hr Kp.refl⟩
 ·obtain ⟨v,rfl,r⟩:=T9 rs;split at h
  ·rename_i ys e;cases r;obtain ⟨us,hs,r2⟩:=zD hr e;exact ⟨_,_,rfl,.inl ⟨_,hs,rfl⟩,by rw [← r2.length];exact af _ G h _ H (.int _) hr Kp.refl⟩
  ·exact h.elim
 ·exact h.elim
def qiN:List T->Gp->Q3->Prop:=λxs G q=>match xs with|[.int i]=>q (.int (if i<0 then -i else i)) G|_=>False
def qa5 {K:Frg}:qck K qiN (λxs H Q=>∃ i,xs=[.int i]/\Q (.int (if i<0 then -i else i)) H):=λxs vs G H q Q hr rs h af=>by
 unfold qiN at h;split at h
 ·obtain ⟨v,rfl,r⟩:=T9 rs;cases r;exact ⟨_,rfl,af _ G h _ H (.int _) hr Kp.refl⟩
 ·exact h.elim
def qfL:List T->Gp->Q3->Prop:=λxs G q=>match xs with|[.int i,.int j]=>q (.int (if j<i then j else i)) G|_=>False
def T3 {K:Frg}:qck K qfL (λxs H Q=>∃ i j,xs=[.int i,.int j]/\Q (.int (if j<i then j else i)) H):=λxs vs G H q Q hr rs h af=>by
 unfold qfL at h;split at h
 ·obtain ⟨v,u,rfl,r,r'⟩:=qm7 rs;cases r;cases r';exact ⟨_,_,rfl,af _ G h _ H (.int _) hr Kp.refl⟩
 ·exact h.elim
def SN:List T->Gp->Q3->Prop:=λxs G q=>match xs with
 |[.tup ys]=>q (.tup ys) G
 |[.ref p]=>(match getL G p with|some ys=>q (.tup ys) G|none=>False)
 |_=>False
def qbD {K:Frg}:qck K SN (λxs H Q=>∃ p ys,xs=[.ref p]/\((SqL K H p ys/\∀ l,H l=none->Q (.ref l) (upd H l (.tup ys)))\/(SqT K H p ys/\Q (.ref p) H))):=λxs vs G H q Q hr rs h af=>by
 unfold SN at h;split at h
 ·obtain ⟨v,rfl,r⟩:=T9 rs;cases r with
  |tup hs r2=>exact ⟨_,_,rfl,.inr ⟨hs,af _ G h _ H (.tup hs r2) hr Kp.refl⟩⟩
 ·obtain ⟨v,rfl,r⟩:=T9 rs;split at h
  ·rename_i ys e;cases r;obtain ⟨us,hs,r2⟩:=zD hr e;exact ⟨_,_,rfl,.inl ⟨hs,λl hl=>af _ G h _ _ (.tup (SqT.of qH) (r2.keep hr (Kp.laid hl))) (hr.laid hl) (Kp.laid hl)⟩⟩
  ·exact h.elim
 ·exact h.elim
def M2:List T->Gp->Q3->Prop:=λxs G q=>match xs with
 |[.tup ys]=>∀ p,G p=none->q (.ref p) (gu G p (.lst ys))
 |[.ref p]=>(match getL G p with|some ys=>∀ p,G p=none->q (.ref p) (gu G p (.lst ys))|none=>False)
 |_=>False
def qee {K:Frg}:qck K M2 (λxs H Q=>∃ p ys,xs=[.ref p]/\(SqL K H p ys\/SqT K H p ys)/\∀ l,H l=none->Q (.ref l) (upd H l (.lst ys))):=λxs vs G H q Q hr rs h af=>by
 unfold M2 at h;split at h
 ·obtain ⟨v,rfl,r⟩:=T9 rs;cases r with
  |tup hs r2=>exact ⟨_,_,rfl,.inr hs,λl hl=>af _ _ (h l (hr.free hl)) _ _ (.ref l) (hr.newL hl r2) (Kp.newL hl)⟩
 ·obtain ⟨v,rfl,r⟩:=T9 rs;split at h
  ·rename_i ys e;cases r;obtain ⟨us,hs,r2⟩:=zD hr e;exact ⟨_,_,rfl,.inl hs,λl hl=>af _ _ (h l (hr.free hl)) _ _ (.ref l) (hr.newL hl r2) (Kp.newL hl)⟩
  ·exact h.elim
 ·exact h.elim
def qgB:T->List T->Gp->Q3->Prop:=λx xs G q=>match x,xs with
 |.ref l,[.ref b]=>(match G l,G b with|some (.lst ys),some (.lst zs)=>ys.length+zs.length<=sizeLine/\q .non (gu G l (.lst (ys++zs)))|_,_=>False)
 |_,_=>False
def TQ:T->List T->Gp->Q3->Prop:=λx xs G q=>match x,xs with
 |.ref l,[y]=>(match G l with|some (.lst ys)=>ys.length<sizeLine/\q .non (gu G l (.lst (ys++[y])))|_=>False)
 |_,_=>False
def qnu (K:Frg) (r3:T->List T->Gp->Q3->Prop) (r:V->List V->Hp->VK->Prop):Prop:=∀ x xs v vs G H q Q,HR K G H->Rp K H x v->Rps K H xs vs->r3 x xs G q->Aft K G H q Q->r v vs H Q
def qgG {K:Frg}:qnu K qgB qap:=λx xs v vs G H q Q hr rx rs h af=>by
 unfold qgB at h;split at h
 ·rename_i l b;split at h
  ·rename_i ys zs e1 e2;cases rx;obtain ⟨u,rfl,r⟩:=T9 rs;cases r;obtain ⟨vs,g1,r1⟩:=hr.lst e1;obtain ⟨us,g2,r2⟩:=hr.lst e2;exact ⟨l,b,vs,us,rfl,rfl,g1,g2,by rw [← r1.length,← r2.length];exact h.1,af _ _ h.2 _ _ .non (hr.wr e1 (r1.append r2)) (Kp.wr e1)⟩
  ·exact h.elim
 ·exact h.elim
def qhB {K:Frg}:qnu K TQ qb2:=λx xs v vs G H q Q hr rx rs h af=>by
 unfold TQ at h;split at h
 ·rename_i l y;split at h
  ·rename_i ys e1;cases rx;obtain ⟨u,rfl,r⟩:=T9 rs;obtain ⟨vs,g1,r1⟩:=hr.lst e1;exact ⟨l,vs,u,rfl,rfl,g1,by rw [← r1.length];exact h.1,af _ _ h.2 _ _ .non (hr.wr e1 (r1.append (.cons r .nil))) (Kp.wr e1)⟩
  ·exact h.elim
 ·exact h.elim
def bm3 (r:T->List T->Gp->Q3->Prop) (to:TE3) (t:TA3):TE3:=λτ G q=>to τ G λx G1=>(match x with|.ref p=>(getL G1 p).isSome=true|_=>False)/\t τ G1 λxs G2=>r x xs G2 q
def qnN {o:Expr} {to:TE3} {name:Str} {apos cpos:Pos} {id:String} {r3:T->List T->Gp->Q3->Prop} {r:V->List V->Hp->VK->Prop} (slot:Slot "list" name id) (hty:typeOf (.builtin id)=pure (.type "method_descriptor")) (hm:MtR X id r) (hr:qnu X.K r3 r) (ho:E3 X o to) (ha:A3 X (e::es) t)
  (hbase:attributeBase o name X.env (eval o X.env)=eval o X.env:=by rfl)
  (hfew:((backTo cpos (starEach (e::es) X.env)).all (λx=>!x.1)&&(backToKw cpos (keywordEach [] X.env)).all (λx=>x.1.isSome)
   && decide ((e::es).length+([]:List Keyword).length+(if ([]:List Keyword).isEmpty then 0 else 1)<30))=true:=by rfl)
  (hline:(apos.endLine==cpos.line)=true:=by rfl) (hs:starEach (e::es) X.env=(false,eval e X.env)::starEach es X.env:=by rfl) (hplain:(backTo cpos (starEach es X.env)).any (·.1)=false:=by rfl) :
  E3 X (.Call (.Attribute o name apos) (e::es) [] cpos) (bm3 r3 to t):=
 WK (qma PySem.F.plainAttrs_list slot hty hm ho ha hbase hfew hline hs hplain) λ_ _ _ ⟨τ,G,q,rl,h,af⟩=>zf rl h λx G1 h1 v H1 rx hr1 k1 rl1=>by
  obtain ⟨hp,h1⟩:=h1;cases x<;>try exact hp.elim
  case ref p=>
   cases rx;have hp':(getL G1 p).isSome=true:=hp;obtain ⟨ys,e⟩:=Option.isSome_iff_exists.mp hp';obtain ⟨us,hs,r2⟩:=zD hr1 e;exact ⟨.inl ⟨rfl,us,hs⟩,ZK rl1 h1 λxs G2 h2 vs H2 rs hr2 k2 rl2=>hr _ xs _ vs G2 H2 q _ hr2 (.ref p) rs h2 (af.back (k1.trans k2))⟩
end
def tyT (G:Gp):T->Option String
 |.non=>some "NoneType" |.bl _=>some "bool" |.int _=>some "int" |.str _=>some "str" |.tup _=>some "tuple"
 |.ref p=>if (getL G p).isSome then some "list" else none
def jN (t c:String):Bool:=t==c||(t == "bool" && c == "int")
def XF (K:Frg):∀ t∈["NoneType","bool","int","str","tuple","list"],∀ c∈["bool","int","str","tuple","list"],PySem.W.kitOne K (.type t) (.type c)=some (jN t c):=by
 intro t ht c hc;simp only [mem_cons,not_mem_nil,or_false] at ht hc;rcases ht with rfl|rfl|rfl|rfl|rfl|rfl<;>rcases hc with rfl|rfl|rfl|rfl|rfl<;>kernel_rfl
section
variable {X:Cx} {a b c e:Expr} {es:List Expr} {ta tb tc te:TE3} {t:TA3} {pos:Pos}
def TyS (K:Frg) (H:Hp) (x:V) (t:String):Prop:=match x with
 |.non=>t="NoneType" |.bl _=>t="bool" |.int _=>t="int" |.str _=>t="str"
 |.ref a=>(t="tuple"/\∃ vs,SqT K H a vs)\/(t="list"/\∃ vs,SqL K H a vs)
 |_=>False
def TyS.mem {K:Frg} {H:Hp} {x:V} {t:String} (h:TyS K H x t):t∈["NoneType","bool","int","str","tuple","list"]:=by
 cases x<;>simp [TyS] at h<;>first|(subst h;decide)|(rcases h with ⟨rfl,_⟩|⟨rfl,_⟩<;>decide)
def TyS.kitx {pins:List (Addr×Obj)} {σ:L2.St} {H:Hp} {s:Shared} {x:V} {u:Value} {t:String} (I:Inv X pins σ H s) (rx:zE x u) (h:TyS X.K H x t) :
  ∃ HH:Heap->Prop,PySem.W.KitX X.K u (.type t) HH/\HH s.heap/\u≠.builtin "__main__.__loader__#opaque" := by
 cases x with
 |non=>cases (show u=Value.none from rx);cases (show t=_ from h);exact ⟨_,PySem.W.kitx_none,True.intro,λz=>nomatch z⟩
 |bl y=>cases (show u=Value.bool y from rx);cases (show t=_ from h);exact ⟨_,PySem.W.kitx_bool,True.intro,λz=>nomatch z⟩
 |int i=>obtain ⟨tk,q⟩:=(show ∃ t,u=Value.int i t from rx);cases q;cases (show t=_ from h);exact ⟨_,PySem.W.kitx_int,True.intro,λz=>nomatch z⟩
 |str y=>obtain ⟨tk,q⟩:=(show ∃ t,u=Value.str y t from rx);cases q;cases (show t=_ from h);exact ⟨_,PySem.W.kitx_str,True.intro,λz=>nomatch z⟩
 |ref a=>
  cases (show u=Value.ref a from rx);rcases (show (t="tuple"/\∃ vs,SqT X.K H a vs)\/(t="list"/\∃ vs,SqL X.K H a vs) from h) with ⟨rfl,vs,hs⟩|⟨rfl,vs,hs⟩
  ·obtain ⟨its,_,p,_⟩:=I.tuple hs;obtain ⟨o,h1,h2,_⟩:=p;exact ⟨_,PySem.W.kitx_tuple,⟨o,h1,h2⟩,λz=>nomatch z⟩
  ·obtain ⟨its,_,p,_⟩:=I.list hs;obtain ⟨o,n,h1,h2,_⟩:=p;exact ⟨_,PySem.W.kitx_list,⟨o,h1,h2⟩,λz=>nomatch z⟩
 |_=>exact False.elim h
abbrev Z0:List String:=["bool","int","str","tuple","list"]
def qd1:JX X (.builtin "isinstance") (λxs H Q=>∃ x t c,xs=[x,.ty c]/\TyS X.K H x t/\c∈Z0/\Q (.bl (jN t c)) H):=by
 intro pins s σ H xs us Q I r h;obtain ⟨x,t,c,rfl,ht,hc,q⟩:=h;obtain ⟨u,w,rfl,rx,rc⟩:=qcl r;cases (show w=Value.type c from rc);obtain ⟨HH,kx,hh,ne⟩:=ht.kitx I rx;exact PySem.W.kia_one kx I.kIn hh (XF X.K t ht.mem c hc) ne λtk=>⟨.bl _,H,I.tok tk,rfl,q⟩
def qc2 (K:Frg) {t c d:String} (ht:t∈["NoneType","bool","int","str","tuple","list"]) (hc:c∈Z0) (hd:d∈Z0):PySem.W.kitAny K (.type t) [.type c,.type d]=some (jN t c||jN t d):=by
 unfold PySem.W.kitAny;rw [XF K t ht c hc];cases jN t c with
 |true=>rfl
 |false=>
  show PySem.W.kitAny K (.type t) [.type d]=_;unfold PySem.W.kitAny;rw [XF K t ht d hd];cases jN t d<;>rfl
def qaG:JX X (.builtin "isinstance") (λxs H Q=>∃ x t c d p,xs=[x,.ref p]/\H p=some (.tup [.ty c,.ty d])/\TyS X.K H x t/\c∈Z0/\d∈Z0/\Q (.bl (jN t c||jN t d)) H):=by
 intro pins s σ H xs us Q I r h;obtain ⟨x,t,c,d,p,rfl,hp,ht,hc,hd,q⟩:=h;obtain ⟨u,w,rfl,rx,rc⟩:=qcl r;cases (show w=Value.ref p from rc);obtain ⟨HH,kx,hh,ne⟩:=ht.kitx I rx;obtain ⟨_,its,rv,⟨o,ho,hcl,n,hda,_⟩⟩:=(show JZ X.prog X.w H s.heap p (.tup [.ty c,.ty d]) from I.hok p _ hp)
 obtain ⟨u1,u2,rfl,r1,r2⟩:=qcl rv;cases (show u1=Value.type c from r1);cases (show u2=Value.type d from r2);obtain ⟨cl,dd,da,sl⟩:=o;cases (show cl=_ from hcl);cases (show da=_ from hda);exact PySem.W.kia_tup kx I.kIn hh ho (qc2 X.K ht.mem hc hd) ne λtk=>⟨.bl _,H,I.tok tk,rfl,q⟩
def qfX {K:Frg} {G:Gp} {H:Hp} (hr:HR K G H) {x:T} {v:V} {t:String} (r:Rp K H x v) (h:tyT G x=some t):TyS K H v t:=by
 cases r with
 |non=>cases h;rfl
 |bl _=>cases h;rfl
 |int _=>cases h;rfl
 |str _=>cases h;rfl
 |tup hs rs=>cases h;exact .inl ⟨rfl,_,hs⟩
 |ref a=>
  have h:(if (getL G a).isSome then some "list" else none)=some t:=h;split at h
  ·rename_i e;cases h;obtain ⟨ys,e⟩:=Option.isSome_iff_exists.mp e;obtain ⟨us,hs,_⟩:=zD hr e;exact .inr ⟨rfl,us,hs⟩
  ·cases h
def WJ (f:String->Bool) (te:TE3):TE3:=λτ G q=>te τ G λx G1=>match tyT G1 x with|some t=>q (.bl (f t)) G1|none=>False
structure Ends3 where
 nx:St3->Gp->Prop
 rt:Q3
 bk:St3->Gp->Prop:=λ_ _=>False
 ct:St3->Gp->Prop:=λ_ _=>False
abbrev TS3:=Ends3->St3->Gp->Prop
def qf2 (K:Frg) (G:Gp) (H:Hp) (q:St3->Gp->Prop) (Q:L2.St->Hp->Prop):Prop:=∀ τ G',q τ G'->∀ σ H',Rel K τ G' σ H'->Kp G H G' H'->Q σ H'
structure AftD (K:Frg) (G:Gp) (H:Hp) (d:Ends3) (D:Ends):Prop where
 nx:qf2 K G H d.nx D.nx
 rt:Aft K G H d.rt D.rt
 bk:qf2 K G H d.bk D.bk
 ct:qf2 K G H d.ct D.ct
def qf2.back {K:Frg} {G G1:Gp} {H H1:Hp} {q:St3->Gp->Prop} {Q:L2.St->Hp->Prop} (a:qf2 K G H q Q) (k:Kp G H G1 H1):qf2 K G1 H1 q Q:=λx G' h v H' r k'=>a x G' h v H' r (k.trans k')
theorem AftD.back {K:Frg} {G G1:Gp} {H H1:Hp} {d:Ends3} {D:Ends} (a:AftD K G H d D) (k:Kp G H G1 H1):AftD K G1 H1 d D:=⟨a.nx.back k,a.rt.back k,a.bk.back k,a.ct.back k⟩
def lS (K:Frg) (t:TS3):TS:=λD σ H=>∃ τ G d,Rel K τ G σ H/\t d τ G/\AftD K G H d D
abbrev S3 (X:Cx) (st:Stmt) (t:TS3):Prop:=PS X st (lS X.K t)
abbrev B3 (X:Cx) (st:List Stmt) (t:TS3):Prop:=PSs X st (lS X.K t)
def qcU {X:Cx} {st:Stmt} {t t':TS} (h:PS X st t) (w:∀ D σ H,t' D σ H->t D σ H):PS X st t':=λpins s σ H D I q=>h pins s σ H D I (w D σ H q)
def qh7 {X:Cx} {st:List Stmt} {t t':TS} (h:PSs X st t) (w:∀ D σ H,t' D σ H->t D σ H):PSs X st t':=λpins s σ H D I q=>h pins s σ H D I (w D σ H q)
variable {st:Stmt} {JD:List Stmt} {t1 t2:TS3} {tA:TT3}
def zp:TS3:=λd τ G=>d.nx τ G
def qM (t u:TS3):TS3:=λd τ G=>t { d with nx:=u d } τ G
def ZZ (te:TE3):TS3:=λd τ G=>te τ G λ_ G1=>d.nx τ G1
def zt (te:TE3):TS3:=λd τ G=>te τ G d.rt
def ZO (c:TT3) (t u:TS3):TS3:=λd τ G=>c τ G λk G1=>if k=true then t d τ G1 else u d τ G1
abbrev TG3:=T->St3->Gp->(St3->Gp->Prop)->Prop
abbrev LM:=List T->St3->Gp->(St3->Gp->Prop)->Prop
def lG (K:Frg) (t:TG3):TG:=λv σ H Q=>∃ x τ G q,Rp K H x v/\Rel K τ G σ H/\t x τ G q/\qf2 K G H q Q
def lGs (K:Frg) (t:LM):TGs:=λv σ H Q=>∃ x τ G q,Rps K H x v/\Rel K τ G σ H/\t x τ G q/\qf2 K G H q Q
abbrev G3 (X:Cx) (e:Expr) (t:TG3):Prop:=PG X e (lG X.K t)
abbrev Gs3 (X:Cx) (es:List Expr) (t:LM):Prop:=PGs X es (lGs X.K t)
def qmt {X:Cx} {e:Expr} {t t':TG} (h:PG X e t) (w:∀ v σ H Q,t' v σ H Q->t v σ H Q):PG X e t':=λpins s σ H v u Q I r q=>h pins s σ H v u Q I r (w v σ H Q q)
def qjh {X:Cx} {e:List Expr} {t t':TGs} (h:PGs X e t) (w:∀ v σ H Q,t' v σ H Q->t v σ H Q):PGs X e t':=λpins s σ H v u Q I r q=>h pins s σ H v u Q I r (w v σ H Q q)
def gn3 (i:Nat):TG3:=λx τ G q=>q (τ.set i (some x)) G
def YT:LM:=λxs τ G q=>match xs with|[]=>q τ G|_=>False
def qV (t:TG3) (u:LM):LM:=λxs τ G q=>match xs with|x::r=>t x τ G λτ' G'=>u r τ' G' q|[]=>False
def YW (n:Nat) (t:LM):TG3:=λx τ G q=>match x with|.tup xs=>xs.length=n/\t xs τ G q|_=>False
def qgX:T->T->T->Gp->(Gp->Prop)->Prop:=λo i v G q=>match o,i with
 |.ref p,.int k=>(match G p with|some (.lst xs)=>(match ixN xs.length k with|some j=>q (gu G p (.lst (xs.set j v)))|none=>False)|_=>False)
 |_,_=>False
def SG (to ti:TE3):TG3:=λx τ G q=>to τ G λo G1=>ti τ G1 λi G2=>qgX o i x G2 λG3=>q τ G3
def zr (te:TE3) (g:TG3):TS3:=λd τ G=>te τ G λx G1=>g x τ G1 d.nx
def qlZ (i j:Nat) (ta:TA3):TS3:=λd τ G=>ta τ G λxs G1=>match xs with|[x,y]=>d.nx ((τ.set i (some x)).set j (some y)) G1|_=>False
end
abbrev TI3:=St3->Gp->(List T->(Gp->Prop)->Gp->Prop)->Prop
def qhX (K:Frg) (J:It) (items:List T) (stay:Gp->Prop) (G0:Gp) (H0:Hp):Prop:=∀ G H,HR K G H->Kp G0 H0 G H->stay G ->
 (∀ i x,items[i]?=some x->J.go i H)/\(∀ i x v H',items[i]?=some x->J.yld i H v H'->Rp K H' x v/\HR K G H'/\Kp G H G H')/\J.stop items.length H
def lI (K:Frg) (wi:TI3):TI:=λσ H R=>∃ τ G r,Rel K τ G σ H/\wi τ G r/\∀ items stay G',r items stay G'->∀ J H',HR K G' H'->Kp G H G' H'->qhX K J items stay G' H'->R J H'
abbrev I3 (X:Cx) (tg iter:Expr) (wi:TI3):Prop:=PI X tg iter (lI X.K wi)
def qlS {X:Cx} {tg e:Expr} {t t':TI} (h:PI X tg e t) (w:∀ σ H R,t' σ H R->t σ H R):PI X tg e t':=λpins s σ H R I q=>h pins s σ H R I (w σ H R q)
section
variable {X:Cx} {a b c e l tg:Expr} {es:List Expr} {ta tb tc te:TE3} {t:TA3} {pos:Pos}
def qlv {tl:TE} (hl:PE X l tl):PI X tg l (λσ H R=>tl σ H λx H1=>∃ a,x=.ref a/\(((∃ xs,SqL X.K H1 a xs)/\R (Itl X.K a) H1)\/((∃ xs,SqT X.K H1 a xs)/\R (Itt X.K a) H1))):=by
 intro pins s σ H R I h;refine thn (hl pins s σ H _ I h) λv s1 ⟨x,H1,I1,r1,q1⟩=>?_;obtain ⟨a,e,⟨⟨xs,hq⟩,q⟩|⟨⟨xs,hq⟩,q⟩⟩:=q1
 ·subst e;cases r1;obtain ⟨its,rv,p,hz⟩:=I1.list hq;refine wpAny_pyIter_list p.isList ?_;refine ⟨s1.heap.objs.size,[s1.heap.objs.size],_,_,H1,rfl,I1.kept (t':=s1.toks) λb o e=>y2 _ e,qaR a _,⟨_,y3 _ rfl,rfl,rfl⟩,λb hb=>?_,q⟩;have e:b=s1.heap.objs.size:=by simpa using hb
  subst e;exact I1.fpOk (v5 _) (I1.hok.fresh (v5 _))
 ·subst e;cases r1;obtain ⟨its,rv,p,hz⟩:=I1.tuple hq;refine wpAny_pyIter_tuple (show s1.heap.IsTuple a its.toArray from p) ?_;refine ⟨s1.heap.objs.size,[s1.heap.objs.size],_,_,H1,rfl,I1.kept (t':=s1.toks) λb o e=>y2 _ e,N4 a _,⟨_,y3 _ rfl,rfl,rfl⟩,λb hb=>?_,q⟩;have e:b=s1.heap.objs.size:=by simpa using hb
  subst e;exact I1.fpOk (v5 _) (I1.hok.fresh (v5 _))
def VN (tl:TE3):TI3:=λτ G r=>tl τ G λx G1=>match x with
 |.tup xs=>r xs (λ_=>True) G1
 |.ref p=>(match getL G1 p with|some xs=>r xs (λG=>getL G p=some xs) G1|none=>False)
 |_=>False
def qje {K:Frg} {p:Addr} {xs:List T} {G0:Gp} {H0:Hp}:qhX K (Itl K p) xs (λG=>getL G p=some xs) G0 H0:=by
 intro G H hr _ hs;obtain ⟨vs,sq,rs⟩:=zD hr hs;refine ⟨λi x hi=>?_,λi x v H' hi y=>?_,⟨vs,sq,by rw [rs.length];exact v5 _⟩⟩
 ·obtain ⟨v,hv,_⟩:=rs.get hi;exact ⟨vs,v,sq,hv⟩
 ·obtain ⟨e,y⟩:=y;subst e;obtain ⟨w,hw,rw'⟩:=rs.get hi;have e2:=(y vs sq).symm.trans hw;cases e2;exact ⟨rw',hr,Kp.refl⟩
def qig {K:Frg} {p:Addr} {xs:List T} {vs:List V} {G0:Gp} {H0:Hp} (hr0:HR K G0 H0) (sq0:SqT K H0 p vs) (rs0:Rps K H0 xs vs):qhX K (Itt K p) xs (λ_=>True) G0 H0:=by
 intro G H hr k _;have sq:=EG hr0 k sq0;have rs:=rs0.keep hr0 k;refine ⟨λi x hi=>?_,λi x v H' hi y=>?_,⟨vs,sq,by rw [rs.length];exact v5 _⟩⟩
 ·obtain ⟨v,hv,_⟩:=rs.get hi;exact ⟨vs,v,sq,hv⟩
 ·obtain ⟨e,y⟩:=y;subst e;obtain ⟨w,hw,rw'⟩:=rs.get hi;have e2:=(y vs sq).symm.trans hw;cases e2;exact ⟨rw',hr,Kp.refl⟩
def qas (lo:Int) (n:Nat):List T:=(List.range n).map λ(i:Nat)=>T.int (lo+(i:Int))
def qkb {K:Frg} {lo:Int} {n:Nat} {G0:Gp} {H0:Hp}:qhX K (Itr lo n) (qas lo n) (λ_=>True) G0 H0:=by
 intro G H hr k _;have hl:(qas lo n).length=n:=by simp [qas]
 refine ⟨λi x hi=>?_,λi x v H' hi y=>?_,(show n<=(qas lo n).length by rw [hl];exact v5 n)⟩
 ·have:=(za4 hi).1;rw [hl] at this;exact this
 ·obtain ⟨e,y⟩:=y;subst e;subst y;have h1:=(za4 hi).1;rw [hl] at h1;unfold qas at hi;rw [getElem?_map,List.getElem?_range h1] at hi;have e:T.int (lo+(i:Int))=x:=by simpa using hi
  subst e;exact ⟨.int _,hr,Kp.refl⟩
def J7 (ta:TA3):TI3:=λτ G r=>ta τ G λxs G1=>match xs with
 |[.int j]=>(-(2 ^ 62)<=j/\j<2 ^ 62)/\r (qas 0 j.toNat) (λ_=>True) G1
 |[.int i,.int j]=>(-(2 ^ 62)<=i/\i<2 ^ 62/\-(2 ^ 62)<=j/\j<2 ^ 62)/\r (qas i (j-i).toNat) (λ_=>True) G1
 |_=>False
def X7 (stay:Gp->Prop) (g:TG3) (tb:TS3) (d:Ends3):List T->St3->Gp->Prop
 |[],τ,G=>stay G/\d.nx τ G
 |x::r,τ,G=>stay G/\g x τ G λτ2 G2=>tb { d with nx:=X7 stay g tb d r,ct:=X7 stay g tb d r,bk:=d.nx } τ2 G2
def ET (wi:TI3) (g:TG3) (tb:TS3):TS3:=λd τ G=>wi τ G λitems stay G1=>X7 stay g tb d items τ G1
def qcp {stay:Gp->Prop} {g:TG3} {tb:TS3} {d:Ends3} (items:List T) (Pv:Nat->St3->Gp->Prop) {τ:St3} {G:Gp} (h0:Pv 0 τ G) (hst:∀ i τ G,i<=items.length->Pv i τ G->stay G)
  (hs:∀ i x τ G (nx:St3->Gp->Prop),items[i]?=some x->Pv i τ G->(∀ τ G,Pv (i+1) τ G->nx τ G)->g x τ G λτ2 G2=>tb { d with nx:=nx,ct:=nx,bk:=d.nx } τ2 G2)
  (hd:∀ τ G,Pv items.length τ G->d.nx τ G):X7 stay g tb d items τ G:=by
 have key:∀ (r:List T) (i:Nat) τ G,items.drop i=r->i<=items.length->Pv i τ G->X7 stay g tb d r τ G:=by
  intro r;induction r with
  |nil=>
   intro i τ G e hi p;have:i=items.length:=by have:=congrArg List.length e;simp at this;omega
   subst this;exact ⟨hst _ τ G hi p,hd τ G p⟩
  |cons x r ih=>
   intro i τ G e hi p;have hl:i<items.length:=by
    apply Classical.byContradiction;intro z;rw [List.drop_eq_nil_of_le (by omega)] at e;cases e
   have e':=List.drop_eq_getElem_cons hl;rw [e] at e';injection e' with e1 e2;refine ⟨hst i τ G hi p,hs i x τ G _ (by rw [y9 hl,e1]) p λτ2 G2 p2=>ih (i+1) τ2 G2 e2.symm hl p2⟩
 exact key items 0 τ G (by simp) (Nat.zero_le _) h0
def XD (c:TT3) (tb:TS3):TS3:=λd τ G=>∃ W:Nat->St3->Gp->Prop,(∃ m,W m τ G)/\∀ m τ G,W m τ G ->
 c τ G λb G1=>if b=true then ∃ N:St3->Gp->Prop,(∀ τ' G',N τ' G'->∃ m',m'<m/\W m' τ' G')/\tb { d with nx:=N,ct:=N,bk:=d.nx } τ G1 else d.nx τ G1
abbrev Sp3:=List T->Gp->Q3->Prop
def lSp (K:Frg) (sp:Sp3):Sp:=λvs H Q _=>∃ ts G q,HR K G H/\Rps K H ts vs/\sp ts G q/\Aft K G H q Q
def Fn3 (P:Program) (w:World) (K:Frg) (mg:Str->Option Value) (base:Heap) (k:Nat) (x:Str) (sp:Sp3):Prop:=
 ∃ f fd ps,FnOk P w K mg base CX0 k f fd ps (lSp K sp)/\EQ K fd ps []/\PySem.W.keepIn K (.ref f)=true/\mg x=some (.ref f)
theorem Fn3.mono {P:Program} {w:World} {K:Frg} {mg:Str->Option Value} {base:Heap} {j k:Nat} {x:Str} {sp:Sp3} (F:Fn3 P w K mg base j x sp) (h:j<=k):Fn3 P w K mg base k x sp:=
 let ⟨f,fd,ps,a,b,c,d⟩:=F;⟨f,fd,ps,a.mono h,b,c,d⟩
theorem Fn3.imp {P:Program} {w:World} {K:Frg} {mg:Str->Option Value} {base:Heap} {k:Nat} {x:Str} {sp sp':Sp3} (F:Fn3 P w K mg base k x sp) (h:∀ ts G q,sp' ts G q->sp ts G q):Fn3 P w K mg base k x sp':=
 let ⟨f,fd,ps,a,b,c,d⟩:=F;⟨f,fd,ps,a.imp λvs H Q E ⟨ts,G,q,h1,h2,h3,h4⟩=>⟨ts,G,q,h1,h2,h _ _ _ h3,h4⟩,b,c,d⟩
def qv (N:List Str) (ts:List T):St3:=ts.map some++List.replicate (N.length-ts.length) none
def DP {K:Frg} {N:List Str} {G:Gp} {H:Hp} {ts:List T} {vs:List V} (hr:HR K G H) (rs:Rps K H ts vs):Rel K (qv N ts) G (L2.start N vs) H:=by
 refine ⟨hr,by simp [qv,L2.start,rs.length],λi t e=>?_⟩;unfold qv at e;by_cases hi:i<ts.length
 ·rw [List.getElem?_append_left (by simpa using hi),getElem?_map] at e;cases q:ts[i]? with
  |none=>rw [q] at e;cases e
  |some z=>
   rw [q] at e;have e':z=t:=by simpa using e
   subst e';obtain ⟨v,hv,r⟩:=rs.get q;refine ⟨v,?_,r⟩;unfold L2.start;rw [List.getElem?_append_left (by rw [length_map,← rs.length];exact hi),getElem?_map,hv];rfl
 ·rw [List.getElem?_append_right (by simpa using hi),List.getElem?_replicate] at e;split at e<;>cases e
def qkC {P:Program} {w:World} {K:Frg} {mg:Str->Option Value} {base:Heap} {x qual:Str} {st:Stmt} {f:Addr} {fd:FuncData} {N ps:List Str} {k:Nat} {sp:Sp3} {t3:TS3} (F:Fun K x qual st f fd) (S:FnScope N ps (qg st)) (bd:EQ K fd ps []) (hm:mg x=some (.ref f))
  (body:∀ (cdv:Value) (A:Around) (outer:List Env) (s:Shared) (H:Hp) (E:XK),Room k (A.deeper (envOfC qual (qg st) s.heap.objs.size f cdv)) ->
   B3 (N9 CX0 P w K mg base N qual (qg st) f cdv A outer s H E).nox (zh st) t3)
  (read:∀ ts G q,sp ts G q->ts.length=ps.length/\t3 { nx:=λ_ G'=>q .non G',rt:=q } (qv N ts) G):Fn3 P w K mg base (k+1) x sp:=by
 refine ⟨f,fd,ps,F.ok S (λvs H Q E ⟨ts,G,q,h1,h2,h3,h4⟩=>by rw [← h2.length];exact (read ts G q h3).1) λcdv A outer s H vs Q E hr ⟨ts,G,q,h1,h2,h3,h4⟩=>?_,bd,F.kp,hm⟩;refine ⟨_,body cdv A outer s H E hr,qv N ts,G,_,DP h1 h2,(read ts G q h3).2,⟨λτ' G' h' σ' H' rl' k'=>h4 _ G' h' _ H' .non rl'.hp k',h4,λ_ _ z=>z.elim,λ_ _ z=>z.elim⟩⟩
def qfo (xs:List T):Option Bool:=match xs with
 |[]=>some true
 |.bl k::r=>(match qfo r with|some j=>some (k&&j)|none=>none)
 |_=>none
def qmI (xs:List T):Option Bool:=match xs with
 |[]=>some false
 |.bl k::r=>(match qmI r with|some j=>some (k||j)|none=>none)
 |_=>none
def qeo {P:Program} {w:World} {A:Around} {its:List Value} {ks:List Bool} (h:its=ks.map Value.bool):TruthOf P w A (λi v=>its.toArray[i]?=some v) (λi=>ks.getD i true):=by
 intro i v s Q E hp hq;subst h;have hp':ks[i]?.map Value.bool=some v:=by simpa using hp
 cases e:ks[i]? with
 |none=>rw [e] at hp';cases hp'
 |some k=>
  rw [e] at hp';cases hp';have:ks.getD i true=k:=by rw [getD_eq_getElem?_getD,e];rfl
  have hq:Q (ks.getD i true) s:=hq;rw [this] at hq;exact wpAny_truthy_bool hq
theorem WV:∀ {ks:List Bool} {us:List Value},qY (ks.map V.bl) us->us=ks.map Value.bool
 |[],_,r=>by cases r;rfl
 |k::ks,_,r=>by
  cases r with
  |cons a b=>rw [show _=Value.bool k from a,WV b];rfl
def qco (ks:List Bool):((List.range ks.length).all λi=>ks.getD i true)=ks.all id:=by
 induction ks with
 |nil=>rfl
 |cons k ks ih=>
  rw [length_cons,List.range_succ_eq_map,List.all_cons,List.all_map,List.all_cons];congr 1
def JQ (hc:X.calm=true):JX X (.builtin "all") (λxs H Q=>∃ (p:Addr) (ks:List Bool),xs=[.ref p]/\SqL X.K H p (ks.map V.bl)/\Q (.bl (ks.all id)) H):=by
 intro pins s σ H xs us Q I r h;obtain ⟨p,ks,rfl,hq,q⟩:=h;obtain ⟨u,rfl,rp⟩:=XI r;cases (show u=Value.ref p from rp);obtain ⟨its,rv,pl,hz⟩:=I.list hq;have hb:=WV rv;have hlen:its.length=ks.length:=by rw [hb];simp
 have hp:p<s.heap.objs.size:=by obtain ⟨o,n,e,_⟩:=pl;exact y4 e
 refine call_all_walk (wpAny_pyIter_list pl.isList ⟨s.heap.objs.size,_,_,_,_,_,λi=>ks.getD i true,rfl,Walks.list (A:=X.A.in1) (show X.A.in1.handled=none from I.ok.hd hc) s.heap.objs.size p (u8 hp) its.toArray,⟨⟨_,y3 _ rfl,rfl,rfl⟩,?_⟩,qeo hb,λh' tk hk=>?_⟩)
 ·obtain ⟨o,n,e,c,_,d⟩:=pl;exact ⟨o,y2 _ e,c,n,d⟩
 ·refine ⟨.bl _,H,?_,rfl,by rw [size_toArray,hlen,qco];exact q⟩;exact I.kept (h':=h') (t':=tk) λb o e=>hk b o (by simp;exact u8 (y4 e)) (y2 _ e)
end
def clos (env:Env):List (Str×NameKind)->List (Str×Addr)->List (Str×Addr)
 |[],cs=>cs
 | (n,k)::r,cs=>if k=.free then clos env r ((n,(env.cells.lookup n).getD 0)::cs) else clos env r cs
def VC {scope:Scope} {env:Env} (h:∀ y∈scope.names,y.2=.free->∃ c,env.cells.lookup y.1=some c):closureFor scope env=pure (clos env scope.names []):=by
 have key:∀ (l:List (Str×NameKind)) (cs:List (Str×Addr)),(∀ y∈l,y.2=.free->∃ c,env.cells.lookup y.1=some c) ->
   (forIn l cs λ(x:Str×NameKind) (r:List (Str×Addr))=>if (x.2==NameKind.free)=true then (do let a←cellOf env x.1;pure (ForInStep.yield ((x.1,a)::r))) else pure (ForInStep.yield r))=(pure (clos env l cs):Sem _):=by
  intro l;induction l with
  |nil=>intro cs _;rfl
  |cons y r ih=>
   intro cs hl;obtain ⟨n,k⟩:=y;rw [List.forIn_cons];by_cases hk:k=.free
   ·subst hk;obtain ⟨c,hc⟩:=hl (n,.free) za0 rfl;have e:cellOf env n=pure c:=by unfold cellOf;rw [show List.lookup n env.cells=some c from hc]
    simp only [beq_self_eq_true,if_true];rw [e,pure_bind,pure_bind];show forIn r ((n,c)::cs) _=_;rw [ih _ λz hz=>hl z (v6 _ hz)];show _=(pure (if NameKind.free=NameKind.free then clos env r ((n,(env.cells.lookup n).getD 0)::cs) else clos env r cs):Sem _);rw [if_pos rfl,show List.lookup n env.cells=some c from hc];rfl
   ·have hb:(k==NameKind.free)=false:=by cases k<;>first|rfl|exact absurd rfl hk
    simp only [hb,Bool.false_eq_true,if_false];rw [pure_bind];show forIn r cs _=_;rw [ih _ λz hz=>hl z (v6 _ hz)];show _=(pure (if k=NameKind.free then clos env r ((n,(env.cells.lookup n).getD 0)::cs) else clos env r cs):Sem _);rw [if_neg hk]
 have:=key scope.names [] h;unfold closureFor;refine Eq.trans ?_ this;exact bind_pure (m:=Sem) _
theorem Q8 {env:Env}:∀ (l:List (Str×NameKind)) (cs:List (Str×Addr)) (x:Str) (c:Addr),(∀ y∈l,y.2=.free->∃ c,env.cells.lookup y.1=some c) ->
  (∀ x c,cs.lookup x=some c->env.cells.lookup x=some c)->(clos env l cs).lookup x=some c->env.cells.lookup x=some c
 |[],_,_,_,_,h,e=>h _ _ e
 | (n,k)::r,cs,x,c,hl,h,e=>by
  unfold clos at e;split at e
  ·rename_i hk;refine Q8 r _ x c (λy hy=>hl y (v6 _ hy)) (λx c e=>?_) e;rw [List.lookup_cons] at e;split at e
   ·rename_i hx;have hx':x=n:=by simpa using hx
    subst hx';obtain ⟨d,hd⟩:=hl (x,k) za0 hk;have hd:List.lookup x env.cells=some d:=hd;rw [hd] at e ⊢;exact e
   ·exact h _ _ e
  ·exact Q8 r cs x c (λy hy=>hl y (v6 _ hy)) h e
theorem VI {env:Env}:∀ (l:List (Str×NameKind)) (cs:List (Str×Addr)) (x:Str),((x,NameKind.free)∈l\/∃ c,cs.lookup x=some c)->∃ c,(clos env l cs).lookup x=some c
 |[],_,_,h=>by
  rcases h with h|h
  ·simp at h
  ·exact h
 | (n,k)::r,cs,x,h=>by
  unfold clos;have put:∀ d:Addr,(x=n\/∃ c,cs.lookup x=some c)->∃ c,((n,d)::cs).lookup x=some c:=λd z=>by
   rw [List.lookup_cons];cases hx:x==n with
   |true=>exact ⟨d,rfl⟩
   |false=>
    rcases z with z|z
    ·rw [z] at hx;simp at hx
    ·exact z
  split
  ·rename_i hk;refine VI r _ x ?_;rcases h with h|h
   ·rcases mem_cons.mp h with e|e
    ·cases e;exact .inr (put _ (.inl rfl))
    ·exact .inl e
   ·exact .inr (put _ (.inr h))
  ·rename_i hk;refine VI r _ x ?_;rcases h with h|h
   ·rcases mem_cons.mp h with e|e
    ·cases e;exact absurd rfl hk
    ·exact .inl e
   ·exact .inr h
theorem XR {env:Env}:∀ (l:List (Str×NameKind)) (cs:List (Str×Addr)) (x:Str) (c:Addr),(clos env l cs).lookup x=some c->(x,NameKind.free)∈l\/cs.lookup x=some c
 |[],_,_,_,e=>.inr e
 | (n,k)::r,cs,x,c,e=>by
  unfold clos at e;split at e
  ·rename_i hk;rcases XR r _ x c e with z|z
   ·exact .inl (v6 _ z)
   ·rw [List.lookup_cons] at z;split at z
    ·rename_i hx;have hx':x=n:=by simpa using hx
     subst hx';subst hk;exact .inl za0
    ·exact .inr z
  ·rcases XR r cs x c e with z|z
   ·exact .inl (v6 _ z)
   ·exact .inr z
theorem QJ {α:Type}:∀ (xs ys:List (Str×α)) (x:Str),(xs++ys).lookup x=(match xs.lookup x with|some c=>some c|none=>ys.lookup x)
 |[],ys,x=>rfl
 | (n,c)::xs,ys,x=>by
  rw [cons_append,List.lookup_cons,List.lookup_cons];cases x==n with
  |true=>rfl
  |false=>exact QJ xs ys x
theorem zY:∀ (l:List (Str×NameKind)) {n:Nat} {acc:List (Str×Addr)},cellsFrom n l acc=cellsFrom n l []++acc
 |[],_,_=>rfl
 | (x,k)::r,n,acc=>by
  unfold cellsFrom;split
  ·rw [zY r (acc:=(x,n)::acc),zY r (acc:=[(x,n)]),List.append_assoc];rfl
  ·exact zY r
theorem ZC:∀ (l:List (Str×NameKind)) (n:Nat) (acc:List (Str×Addr)) (x:Str) (c:Addr),(x,c)∈cellsFrom n l acc->(x,NameKind.cell)∈l\/(x,c)∈acc
 |[],_,_,_,_,h=>.inr h
 | (y,k)::r,n,acc,x,c,h=>by
  unfold cellsFrom at h;split at h
  ·rename_i hk;have hk:k=.cell:=by simpa using hk
   rcases ZC r _ _ x c h with z|z
   ·exact .inl (v6 _ z)
   ·rcases mem_cons.mp z with e|e
    ·cases e;subst hk;exact .inl za0
    ·exact .inr e
  ·rcases ZC r _ _ x c h with z|z
   ·exact .inl (v6 _ z)
   ·exact .inr z
theorem jv:∀ (l:List (Str×NameKind)) (n:Nat) (acc:List (Str×Addr)) (x:Str),((x,NameKind.cell)∈l\/∃ c,acc.lookup x=some c)->∃ c,(cellsFrom n l acc).lookup x=some c
 |[],_,_,_,h=>by
  rcases h with h|h
  ·simp at h
  ·exact h
 | (y,k)::r,n,acc,x,h=>by
  unfold cellsFrom;have put:(x=y\/∃ c,acc.lookup x=some c)->∃ c,((y,n)::acc).lookup x=some c:=λz=>by
   rw [List.lookup_cons];cases hx:x==y with
   |true=>exact ⟨n,rfl⟩
   |false=>
    rcases z with z|z
    ·rw [z] at hx;simp at hx
    ·exact z
  split
  ·refine jv r _ _ x ?_;rcases h with h|h
   ·rcases mem_cons.mp h with e|e
    ·cases e;exact .inr (put (.inl rfl))
    ·exact .inl e
   ·exact .inr (put (.inr h))
  ·rename_i hk;refine jv r _ _ x ?_;rcases h with h|h
   ·rcases mem_cons.mp h with e|e
    ·cases e;exact absurd rfl hk
    ·exact .inl e
   ·exact .inr h
def U6 {M:Model} {A:Around} {E:Value->Shared->Prop} {s:Shared} {scope:Scope} {globals:Addr} {cl:List (Str×Addr)} {qual:Str} {env:Env} {Q:Env->Shared->Prop}
  (hQ:∀ h₁:Heap,h₁.Ns s.heap.objs.size (λ_=>none)->(∀ b o,s.heap.get? b=some o->h₁.get? b=some o)->CellsOk h₁ (s.heap.objs.size+1) (cellsFrom (s.heap.objs.size+1) scope.names [])->Q (newEnv scope s.heap.objs.size globals (cellsFrom (s.heap.objs.size+1) scope.names cl) qual none .none (some env) builtinsNs) { s with heap:=h₁ }) :
  wpAny M A (newFunctionEnv scope globals cl [] qual none .none (some env)) Q E s:=by
 simp only [newFunctionEnv,Option.isSome_some,if_true];refine x8 (wpAny_alloc ?_);refine x8 (wpAny_layCells _ (λname kind cells=>by cases hkc:kind==NameKind.cell<;>simp [hkc]) _ _ _ _ ?_);have ok:=cellsFrom_ok scope.names (s.heap.push { cls:=.type "dict",data:=.dict #[] }) (s.heap.objs.size+1) [] ⟨λ_ _ hm=>(nomatch hm),List.Pairwise.nil⟩ (by rw [Heap.size_push];exact v5 _);rw [Heap.size_push] at ok;rw [show ({ s with heap:=s.heap.push { cls:=.type "dict",data:=.dict #[] } }:Shared).heap.objs.size=s.heap.objs.size+1 from Heap.size_push ..];rw [List.forIn_nil];refine x8 (x9 (x9 ?_));exact hQ _ ((Heap.Ns.new s.heap (.type "dict")).keeps (pushCells_keeps _ _)) (λb o e=>pushCells_keeps _ _ b o (y2 _ e)) ok
def qr (X:Cx) (N':List Str) (scope:Scope) (s:Shared) (H:Hp) (fp:List Addr):Cx where
 prog:=X.prog
 w:=X.w
 K:=X.K
 mg:=X.mg
 base:=X.base
 A:=X.A
 N:=N'
 s₀:=s
 H₀:=H
 env:=compEnvC scope (cellsFrom (s.heap.objs.size+1) scope.names (clos X.env scope.names [])) s.heap.objs.size X.env
 outer:=X.stack
 stack:=X.stack
 ex:=fp
 fn:=λx=>scope.names.lookup x==some .cell
 calm:=true
 pn:=[]
 xe:=λ_ _=>False
def qcM (outer inner:Scope):Bool:=(inner.kind==.function)&&inner.names.all λy=>
 (y.2 != .cell||inner.names.lookup y.1==some .cell)&&(y.2 != .local||inner.names.lookup y.1==some .local)&&(y.2 != .free||(inner.names.lookup y.1==some .free&&(outer.names.lookup y.1==some .cell||outer.names.lookup y.1==some .free)))
def cap {α:Type} (m:List (Option Nat)) (σ:List (Option α)):List (Option α):=m.map λo=>match o with|some j=>(σ[j]?).join|none=>none
def UF (N N':List Str) (scope:Scope) (m:List (Option Nat)):Bool:=(m.length==N'.length)&&(m.zip N').all λp=>match p.1 with
 |none=>true
 |some j=>N[j]?==some p.2&&scope.names.lookup p.2==some .free
def qbe {α:Type} {m:List (Option Nat)} {σ:List (Option α)} {i:Nat} {v:α} (h:(cap m σ)[i]?=some (some v)):∃ j,m[i]?=some (some j)/\σ[j]?=some (some v):=by
 unfold cap at h;rw [getElem?_map] at h;cases e:m[i]? with
 |none=>rw [e] at h;cases h
 |some o=>
  rw [e] at h;cases o with
  |none=>cases h
  |some j=>
   refine ⟨j,rfl,?_⟩;have h':(σ[j]?).join=some v:=by simpa using h
   cases q:σ[j]? with
   |none=>rw [q] at h';cases h'
   |some z=>rw [q] at h';exact congrArg some h'
def qa9 {N N':List Str} {scope:Scope} {m:List (Option Nat)} (h:UF N N' scope m=true) {i j:Nat} {x:Str} (e:m[i]?=some (some j)) (hx:N'[i]?=some x):N[j]?=some x/\scope.names.lookup x=some .free:=by
 unfold UF at h;rw [Bool.and_eq_true] at h;have hm:(some j,x)∈m.zip N':=v9 (i:=i) (List.getElem?_zip_eq_some.mpr ⟨e,hx⟩);have:=List.all_eq_true.mp h.2 _ hm;simp only [Bool.and_eq_true,beq_iff_eq] at this;exact this
def qgZ {N N':List Str} {scope:Scope} {m:List (Option Nat)} {α:Type} (σ:List (Option α)) (h:UF N N' scope m=true):(cap m σ).length=N'.length:=by
 unfold UF at h;rw [Bool.and_eq_true] at h;unfold cap;rw [length_map];simpa using h.1
structure ScFacts (outer inner:Scope):Prop where
 kind:inner.kind=.function
 own:∀ y∈inner.names,y.2=.cell->inner.names.lookup y.1=some .cell
 loc:∀ y∈inner.names,y.2=.local->inner.names.lookup y.1=some .local
 free:∀ y∈inner.names,y.2=.free->inner.names.lookup y.1=some .free/\(outer.names.lookup y.1=some .cell\/outer.names.lookup y.1=some .free)
def NS {outer inner:Scope} (h:qcM outer inner=true):ScFacts outer inner:=by
 unfold qcM at h;rw [Bool.and_eq_true] at h;have ha:=List.all_eq_true.mp h.2;refine ⟨by simpa using h.1,λy hy e=>?_,λy hy e=>?_,λy hy e=>?_⟩
 ·have:=ha y hy;rw [e] at this;simpa using this
 ·have:=ha y hy;rw [e] at this;simpa using this
 ·have:=ha y hy;rw [e] at this;simpa using this
def j8 {scope:Scope} {env:Env} {x:Str} {k:NameKind} (h:(relabel scope env).names.lookup x=some k):scope.names.lookup x=some k\/(k=.cell/\scope.names.lookup x=some .free):=by
 have key:∀ (l:List (Str×NameKind)),(l.map λ(n,k)=>if (k==NameKind.free&&env.scope.kind==.function&&env.kindOf n==some .cell) then (n,NameKind.cell) else (n,k)).lookup x=some k->l.lookup x=some k\/(k=.cell/\l.lookup x=some .free):=by
  intro l;induction l with
  |nil=>intro h;simp at h
  |cons y r ih=>
   intro h;obtain ⟨n,j⟩:=y;rw [map_cons] at h;dsimp only at h;by_cases hc:(j==NameKind.free&&env.scope.kind==.function&&env.kindOf n==some .cell)=true
   ·rw [if_pos hc,List.lookup_cons] at h;rw [List.lookup_cons];cases hx:x==n with
    |true=>
     rw [hx] at h;have hk:NameKind.cell=k:=by simpa using h
     have hj:j=.free:=by simp only [Bool.and_eq_true,beq_iff_eq] at hc;exact hc.1.1
     exact .inr ⟨hk.symm,by rw [hj]⟩
    |false=>rw [hx] at h;exact ih h
   ·rw [if_neg hc,List.lookup_cons] at h;rw [List.lookup_cons];cases hx:x==n with
    |true=>rw [hx] at h;exact .inl h
    |false=>rw [hx] at h;exact ih h
 exact key scope.names h
def PF (X:Cx) (ifs:List Expr) (t:TT):Prop:=
 ∀ (pins:List (Addr×Obj)) (s:Shared) (σ:L2.St) (H:Hp) (Q:Bool->Hp->Prop),Inv X pins σ H s->t σ H Q ->
  wpAny (model X.prog X.w) X.A (forIn ifs true λc r=>if r=true then do let ok←isTrue c X.env (eval c X.env);pure (ForInStep.yield ok) else pure (ForInStep.yield r)) (TP X pins σ Q) X.xe s
def qle {X:Cx}:PF X [] (λ_ H Q=>Q true H):=λ_ _ _ H _ I h=>wpAny_tests_nil ⟨H,I,h⟩
def qjd {X:Cx} {c:Expr} {t:TT} (h:PT X c t):PF X [c] t:=λpins s σ H Q I q=>wpAny_tests_one (h pins s σ H Q I q)
section
variable {X:Cx} {pins:List (Addr×Obj)} {σ:L2.St} {H:Hp} {s:Shared}
def qd8 {N':List Str} {scope:Scope} {fp:List Addr} {m:List (Option Nat)} {h1:Heap} {mm:Str->Option Value} (hc:X.calm=true) (I:Inv X pins σ H s) (sc:ScFacts X.env.scope scope) (hcap:UF X.N N' scope m=true)
  (hfp:∀ b∈fp,KC X pins H b) (hob:∀ b∈fp,∃ o,s.heap.get? b=some o) (hns:h1.Ns s.heap.objs.size mm) (hk:∀ b o,s.heap.get? b=some o->h1.get? b=some o) (hown:CellsOk h1 (s.heap.objs.size+1) (cellsFrom (s.heap.objs.size+1) scope.names [])) :
  Inv (qr X N' scope s H fp) [] (cap m σ) H { s with heap:=h1 }:=by
 have hcl:∀ y∈scope.names,y.2=.free->∃ c,X.env.cells.lookup y.1=some c:=λy hy e=>by
  rcases (sc.free y hy e).2 with z|z
  ·exact I.ok.has y.1 (.inl z)
  ·exact I.ok.has y.1 (.inr z)
 have cl:∀ x c,(clos X.env scope.names []).lookup x=some c->X.env.cells.lookup x=some c:=λx c e=>Q8 scope.names [] x c hcl (λ_ _ z=>by simp at z) e;have clt:∀ x c,(clos X.env scope.names []).lookup x=some c->c<s.heap.objs.size:=λx c e=>by
  obtain ⟨v,q⟩:=I.cell x c (cl x c e);exact q.lt
 -- a cell of the block: its own,or one from around
 have cs:∀ x c,(cellsFrom (s.heap.objs.size+1) scope.names (clos X.env scope.names [])).lookup x=some c->((x,c)∈cellsFrom (s.heap.objs.size+1) scope.names []/\s.heap.objs.size+1<=c/\h1.IsCell c none)\/(clos X.env scope.names []).lookup x=some c:=λx c e=>by
  rw [zY,QJ] at e;cases q:(cellsFrom (s.heap.objs.size+1) scope.names []).lookup x with
  |none=>rw [q] at e;exact .inr e
  |some d=>
   rw [q] at e;cases e;have mem:=PySem.mem_of_lookup q;exact .inl ⟨mem,(hown.empty x _ mem).2,(hown.empty x _ mem).1⟩
 have fpne:∀ b∈fp,b≠s.heap.objs.size:=λb hb=>let ⟨o,e⟩:=hob b hb;u8 (y4 e)
 refine ⟨⟨I.ok.mod,sc.kind,I.ok.glob,I.ok.blt,v5 _,λx y c e1 e2=>?_,λx hx=>?_,λx c hf e=>?_,λ_=>I.ok.hd hc,I.ok.frames,.inl rfl,λb hb=>⟨fpne b hb,λx c e=>?_⟩,I.bs,u7 I.ok.bsz I.sz,λb o e hb=>?_,λb hb z=>?_,I.stack,I.stkFree⟩,
  rfl,I.bare,Un.kept hk,⟨mm,hns,λi x v e1 e2 e3=>?_⟩,λx c e=>?_,I.fresh,λx c e=>?_,λp hp=>absurd (show p∈([]:List (Addr×Obj)) from hp) (by simp),I.hok.kept hk,qgZ σ hcap⟩
 ·rcases cs x c e1 with ⟨m1,l1,_⟩|z1<;>rcases cs y c e2 with ⟨m2,l2,_⟩|z2
  ·exact PySem.name_of_addr hown.apart m1 m2
  ·exact absurd (clt y c z2) (Nat.not_lt.mpr (u7 (Nat.le_succ _) l1))
  ·exact absurd (clt x c z1) (Nat.not_lt.mpr (u7 (Nat.le_succ _) l2))
  ·exact I.ok.inj x y c (cl x c z1) (cl y c z2)
 ·have hx:(relabel scope X.env).names.lookup x=some .cell\/(relabel scope X.env).names.lookup x=some .free:=hx;have hf:scope.names.lookup x=some .cell\/scope.names.lookup x=some .free:=by
   rcases hx with z|z
   ·rcases j8 z with q|⟨_,q⟩
    ·exact .inl q
    ·exact .inr q
   ·rcases j8 z with q|⟨q,_⟩
    ·exact .inr q
    ·cases q
  show ∃ c,(cellsFrom (s.heap.objs.size+1) scope.names (clos X.env scope.names [])).lookup x=some c;rcases hf with hf|hf
  ·exact jv scope.names _ _ x (.inl (PySem.mem_of_lookup hf))
  ·exact jv scope.names _ _ x (.inr (VI scope.names [] x (.inl (PySem.mem_of_lookup hf))))
 ·have hf:scope.names.lookup x=some .cell:=by simpa [qr] using hf
  rcases cs x c e with ⟨_,l1,_⟩|z1
  ·exact u7 (Nat.le_succ _) l1
  ·rcases XR scope.names [] x c z1 with q|q
   ·rw [(sc.free _ q rfl).1] at hf;cases hf
   ·simp at q
 ·rcases cs x c e with ⟨_,l1,_⟩|z1
  ·obtain ⟨o,eo⟩:=hob b hb;exact Nat.ne_of_gt (v8 (y4 eo) (u7 (Nat.le_succ _) l1))
  ·exact (hfp b hb).2.2.2.2.1 x c (cl x c z1)
 ·rcases (hfp b hb).2.2.2.1 with z|z
  ·exact I.ok.noex b o e z
  ·exact absurd (v8 (y4 e) (u7 I.ok.bsz z)) (Nat.lt_irrefl _)
 ·rcases mem_cons.mp (I.stkSub b z) with q|q
  ·exact (hfp b hb).2.1 q
  ·exact (hfp b hb).2.2.1 q
 ·obtain ⟨j,ej,es⟩:=qbe e2;obtain ⟨hN,hfr⟩:=qa9 hcap ej e1;have mem:=PySem.mem_of_lookup hfr;have ho:=(sc.free _ mem rfl).2;obtain ⟨m0,hn0,hl0⟩:=I.loc;obtain ⟨u,ru,lk⟩:=hl0 j x v hN es (ho.elim (λz=>.inr (.inl z)) λz=>.inr (.inr z));refine ⟨u,ru,.inr ⟨?_,?_⟩⟩
  ·rcases e3 with z|z|z
   ·rcases j8 z with q|⟨q,_⟩
    ·rw [hfr] at q;cases q
    ·cases q
   ·exact .inl z
   ·exact .inr z
  ·rcases lk with ⟨z,_⟩|⟨_,c,hc',hcell⟩
   ·have z:X.env.scope.names.lookup x=some .local:=z;rcases ho with q|q<;>(rw [z] at q;cases q)
   ·obtain ⟨c',hc2⟩:=VI (env:=X.env) scope.names [] x (.inl mem);have e:=cl x c' hc2;rw [hc'] at e;cases e;obtain ⟨o,eo,d⟩:=hcell;refine ⟨c,?_,o,hk c o eo,d⟩;show (cellsFrom (s.heap.objs.size+1) scope.names (clos X.env scope.names [])).lookup x=some c;rw [zY,QJ];cases q:(cellsFrom (s.heap.objs.size+1) scope.names []).lookup x with
    |none=>exact hc2
    |some d=>
     rcases ZC scope.names _ [] x d (PySem.mem_of_lookup q) with z|z
     ·rw [sc.own _ z rfl] at hfr;cases hfr
     ·simp at z
 ·rcases cs x c e with ⟨_,_,z⟩|z1
  ·exact ⟨none,z⟩
  ·obtain ⟨v,o,eo,d⟩:=I.cell x c (cl x c z1);exact ⟨v,o,hk c o eo,d⟩
 ·rcases cs x c e with ⟨_,l1,_⟩|z1
  ·exact I.hok.fresh (u7 (Nat.le_succ _) l1)
  ·exact I.freeC x c (cl x c z1)
def W8 {N':List Str} {scope:Scope} {fp:List Addr} {pins':List (Addr×Obj)} {σ':L2.St} {H':Hp} {s':Shared} {h2:Heap} (I:Inv X pins σ H s) (hfp:∀ b∈fp,KC X pins H b) (J:Inv (qr X N' scope s H fp) pins' σ' H' s')
  (sb:Heap.SameBut s.heap.objs.size s'.heap h2):Inv X pins σ H' { s' with heap:=h2 }:=by
 have ne:∀ b o,s.heap.get? b=some o->b≠s.heap.objs.size:=λb o e=>u8 (y4 e);have g:∀ b,b≠s.heap.objs.size->h2.get? b=s'.heap.get? b:=λb hb=>sb.2 b hb;have hn:H' s.heap.objs.size=none:=J.free;have u:Un (frs X.stack) fp H H' s.heap s'.heap:=J.base;refine I.call' (s':={ s' with heap:=h2 }) J.os ⟨λb o e n hb hx=>?_,λb o e n hb hx=>?_,u.free,λb o e hx=>?_,u.tups,u.frzs,u.tbls⟩ (λa o e=>?_) J.bare λb hb=>⟨(hfp b hb).2.2.2.1,(hfp b hb).2.1,(hfp b hb).2.2.2.2.1,(hfp b hb).2.2.2.2.2⟩
 ·show h2.get? b=_;rw [g b (ne b o e)];exact u.keep b o e n hb hx
 ·show ∃ sl,h2.get? b=_;rw [g b (ne b o e)];exact u.slot b o e n hb hx
 ·show ∃ o',h2.get? b=_;rw [g b (ne b o e)];exact u.there b o e hx
 ·refine (J.hok a o e).stay (λb v hb q=>?_) (λ_ q=>q) λ_ _ q=>q;have hb':b≠s.heap.objs.size:=by
   intro z;subst z;rcases hb with z|z
   ·rw [← z] at e;rw [hn] at e;cases e
   ·rw [hn] at z;cases z
  rw [g b hb'];exact q
end
def qjD (ip:Pos) (tg:Expr) (ifs:List Expr) (it:Value) (env:Env) (body ag:Sem Fin):Sem Fin:=do
 standAt ip
 match←pyNext it with
 |none=>pure (.done .next)
 |some v=>
  letOwnedTupleGo tg it v
  assign tg env v
  let mut ok:=true
  for c in ifs do
   if ok then ok←isTrue c env (eval c env)
  if ok then body else ag
section
variable {X:Cx} {ce tg iter:Expr} {kx:Nat} {ip:Pos} {ifs:List Expr} {gs:List Comprehension} {body:Sem Fin} {pins:List (Addr×Obj)} {wi:TI} {g:TG} {tif:TT} {tb:Addr->(L2.St->Hp->Prop)->L2.St->Hp->Prop} {s:Shared} {σ:L2.St} {H:Hp}
def qdc (J:It) (g:TG) (tif:TT) (tb:(L2.St->Hp->Prop)->L2.St->Hp->Prop) (QN:L2.St->Hp->Prop) (W:Nat->Nat->L2.St->Hp->Prop):Prop:=∀ i n σ H,W i n σ H ->
 (J.stop i H/\QN σ H)\/(J.go i H/\∀ x H',J.yld i H x H'->g x σ H' λσ2 H2=>tif σ2 H2 λk H3=>
  if k=true then tb (λσ4 H4=>∃ n',n'<n/\W (i+1) n' σ4 H4) σ2 H3 else ∃ n',n'<n/\W (i+1) n' σ2 H3)
def TM {it D:Addr} {fp:List Addr} {tn:Nat->Heap->Prop} {J:It} {tb:(L2.St->Hp->Prop)->L2.St->Hp->Prop} {QN:L2.St->Hp->Prop} {Post:Result->Shared->Prop} {W:Nat->Nat->L2.St->Hp->Prop} {n0:Nat} (hc:X.calm=true) (hx:∀ v s,¬ X.xe v s)
  (hq:(Code.compLoop ce kx (.ref it) (.ref D) X.env).quiet=true) (ha:X.A.under (.compLoop ce kx (.ref it) (.ref D) X.env)=X.A) (hp:(model X.prog X.w).den (.compLoop ce kx (.ref it) (.ref D) X.env)=(qjD ip tg ifs (.ref it) X.env body (again (.compLoop ce kx (.ref it) (.ref D) X.env))).onRaise (λx=>do noteFrame x X.env;theTreesLotGoes x))
  (T:Turn X.prog X.w X.K tg J fp it tn) (hg:PG X tg g) (hf:PF X ifs tif) (hb:∀ pins s σ H N Q E,Inv X pins σ H s->tb N σ H->(∀ s' σ' H',Inv X pins σ' H' s'->N σ' H'->wpAny (model X.prog X.w) X.A (again (.compLoop ce kx (.ref it) (.ref D) X.env)) Q E s')->wpAny (model X.prog X.w) X.A body Q E s)
  (stat:∀ H',(∀ b∈fp,H' b=none)->∀ b∈fp,KC X pins H' b) (turn:qdc J g tif tb QN W) (stop:∀ s σ H,Inv X pins σ H s->QN σ H->Post (.ok .next) s)
  (I:Inv X pins σ H s) (st:tn 0 s.heap) (fr:∀ b∈fp,H b=none) (w0:W 0 n0 σ H):codeAny (model X.prog X.w) X.A (.compLoop ce kx (.ref it) (.ref D) X.env) Post s:=by
 refine codeAny_loop hq (λn s'=>∃ i σ' H',Inv X pins σ' H' s'/\tn i s'.heap/\(∀ b∈fp,H' b=none)/\W i n σ' H') (λn s' hI=>?_) n0 ⟨0,σ,H,I,st,fr,w0⟩;rw [ha,hp];refine wpAny_noted ?_;refine x8 (wpAny_standAt (x8 ?_));obtain ⟨i,σ5,H5,I5,st5,fr5,w5⟩:=hI;rcases turn i n σ5 H5 w5 with ⟨sp,q⟩|⟨go,step⟩
 ·refine thn (T.done X rfl rfl rfl hc i pins s' σ5 H5 _ I5 (stat _ fr5) st5 sp) λr s6 ⟨hr,I6⟩=>?_;subst hr;exact x9 (stop _ _ _ I6 q)
 ·refine thn (T.item X rfl rfl rfl hc i pins s' σ5 H5 _ I5 (stat _ fr5) st5 go) λr s6 ⟨u,hr,h6⟩=>?_;subst hr;refine x8 (thn h6 λ_ s7 ⟨x,H7,I7,r7,y7,st7,fr7⟩=>?_);have I7':=I7.pinned (stat _ fr7) (T.obj _ _ st7);have again:∀ {σ8:L2.St} {H8:Hp} {s8:Shared},Inv X (pins++SI fp s7.heap) σ8 H8 s8->(∃ n',n'<n/\W (i+1) n' σ8 H8) ->
    ∃ m',m'<n/\∃ i σ' H',Inv X pins σ' H' s8/\tn i s8.heap/\(∀ b∈fp,H' b=none)/\W i m' σ' H':=λ{σ8 H8 s8} I8 ⟨n',hn,w8⟩=>by
   refine ⟨n',hn,i+1,σ8,H8,I8.unpinned,T.keep _ _ _ st7 λb hb o e=>(I8.pin (b,o) (v7 _ (v7 _ (Z7 hb e)))).1,λb hb=>?_,w8⟩;obtain ⟨o,e,d⟩:=T.obj _ _ st7 b hb;exact (I8.pin (b,o) (v7 _ (v7 _ (Z7 hb e)))).2.1
  refine x8 (y0 (hg _ s7 σ5 H7 x u _ I7' r7 (step x H7 y7)) (λ_ s8 ⟨σ8,H8,I8,q8⟩=>?_) λ_ _ z=>(hx _ _ z).elim);refine x8 (y0 (hf _ s8 σ8 H8 _ I8 q8) (λk s9 ⟨H9,I9,q9⟩=>?_) λ_ _ z=>(hx _ _ z).elim);cases k with
  |false=>
   rw [if_neg y6] at q9;exact x9 ⟨rfl,again I9 q9⟩
  |true=>
   rw [if_pos rfl] at q9;exact hb _ _ _ _ _ _ _ I9 q9 λs10 σ10 H10 I10 q10=>x9 ⟨rfl,again I10 q10⟩
def tLG (wi:TI) (g:TG) (tif:TT) (tb:Addr->(L2.St->Hp->Prop)->L2.St->Hp->Prop) (m:List (Option Nat)):TE:=λσ H Q=>wi σ H λJ H1=>∀ D,H1 D=none ->
 ∃ W:Nat->Nat->L2.St->Hp->Prop,(∃ n,W 0 n (cap m σ) (upd H1 D (.lst [])))/\qdc J g tif (tb D) (λ_ H=>Q (.ref D) H) W
def KH {elt:Expr} {scope:Scope} {pos cpos:Pos} {N':List Str} {m:List (Option Nat)} {bd:Addr->Env->Sem Fin->Sem Fin} {use:Option (Value->Sem Unit)} {Qc:Value->Shared->Prop} {QD:Addr->Hp->Prop} (hc:X.calm=true) (hi:PI X tg iter wi)
  (hp:∀ it D env,(model X.prog X.w).den (.compLoop (.ListComp elt (⟨tg,iter,ifs,0⟩::gs) scope pos) 0 (.ref it) (.ref D) env)=(qjD iter.pos tg ifs (.ref it) env (bd D env (again (.compLoop (.ListComp elt (⟨tg,iter,ifs,0⟩::gs) scope pos) 0 (.ref it) (.ref D) env))) (again (.compLoop (.ListComp elt (⟨tg,iter,ifs,0⟩::gs) scope pos) 0 (.ref it) (.ref D) env))).onRaise (λx=>do noteFrame x env;theTreesLotGoes x))
  (hg:∀ s H fp,PG (qr X N' scope s H fp) tg g) (hf:∀ s H fp,PF (qr X N' scope s H fp) ifs tif)
  (hb:∀ s H fp D kk pins s' σ' H' N Q E,Inv (qr X N' scope s H fp) pins σ' H' s'->tb D N σ' H'->(∀ s2 σ2 H2,Inv (qr X N' scope s H fp) pins σ2 H2 s2->N σ2 H2->wpAny (model X.prog X.w) X.A kk Q E s2)->wpAny (model X.prog X.w) X.A (bd D (qr X N' scope s H fp).env kk) Q E s')
  (hsc:qcM X.env.scope scope=true) (hcap:UF X.N N' scope m=true) (hs:∀ x,foldedSetIterable iter X.env x=pure x) (I:Inv X pins σ H s)
  (h:wi σ H λJ H1=>∀ D,H1 D=none->∃ W:Nat->Nat->L2.St->Hp->Prop,(∃ n,W 0 n (cap m σ) (upd H1 D (.lst [])))/\qdc J g tif (tb D) (λ_ H=>QD D H) W)
  (fin:∀ (D:Addr) (s3:Shared) (H3:Hp) (fp:List Addr) (s6:Shared) (H6:Hp) (σ6:L2.St) (r:Flow),Inv X pins σ H3 s3->(∀ b∈fp,KC X pins H3 b)->Inv (qr X N' scope s3 H3 fp) [] σ6 H6 s6->QD D H6->compPost (model X.prog X.w) X.A X.xe use Qc (.ref D) s3.heap.objs.size (.ok r) s6) :
  wpAny (model X.prog X.w) X.A (comprehension (.ListComp elt (⟨tg,iter,ifs,0⟩::gs) scope pos) scope X.env cpos (newList []) false (eval iter X.env) use) Qc X.xe s:=by
 have sc:=NS hsc;have hcl:∀ y∈scope.names,y.2=.free->∃ c,X.env.cells.lookup y.1=some c:=λy hy e=>by
  rcases (sc.free y hy e).2 with z|z
  ·exact I.ok.has y.1 (.inl z)
  ·exact I.ok.has y.1 (.inr z)
 refine wpAny_comprehension_free (g:=⟨tg,iter,ifs,0⟩) (gs:=gs) rfl hs (VC hcl) sc.kind sc.loc ?_;show wpAny _ _ (eval iter X.env) _ _ s;refine thn (hi pins s σ H _ I h) λv s1 h1=>thn h1 λitv s2 h2=>?_;obtain ⟨it,fp,tn,J,H2,rfl,I2,T,st2,f2,hW⟩:=h2;refine wpAny_newObj_type ?_;have hD:H2 s2.heap.objs.size=none:=I2.fresh;obtain ⟨W,⟨n0,w0⟩,turn⟩:=hW _ hD;generalize hDe:s2.heap.objs.size=D at *;have I3:Inv X pins σ (upd H2 D (.lst [])) { s2 with heap:=s2.heap.push { cls:=.type "list",dict:=none,data:=.seq ([]:List Value).toArray } }:=by
  subst hDe;exact I2.laid (t':=s2.toks) (λb u e=>y2 _ e) (v5 _) ⟨Nat.zero_le _,[],0,.nil,y3 _ rfl⟩
 have ob2:=T.obj 0 _ st2;have ob3:∀ b∈fp,∃ o,(s2.heap.push { cls:=.type "list",dict:=none,data:=.seq ([]:List Value).toArray }).get? b=some o:=λb hb=>let ⟨o,e,_⟩:=ob2 b hb;⟨o,y2 _ e⟩
 have f3:∀ b∈fp,KC X pins (upd H2 D (.lst [])) b:=λb hb=>by
  obtain ⟨o,e,_⟩:=ob2 b hb;have:b≠D:=by rw [← hDe];exact u8 (y4 e)
  exact ⟨by rw [qo this];exact (f2 b hb).1,(f2 b hb).2⟩
 have k23:∀ b o,s2.heap.get? b=some o->(s2.heap.push { cls:=.type "list",dict:=none,data:=.seq ([]:List Value).toArray }).get? b=some o:=λb o e=>y2 _ e;generalize hH3:upd H2 D (.lst [])=H3 at *;generalize hs3:({ s2 with heap:=s2.heap.push { cls:=.type "list",dict:=none,data:=.seq ([]:List Value).toArray } }:Shared)=s3 at *;have ob3:∀ b∈fp,∃ o,s3.heap.get? b=some o:=by rw [← hs3];exact ob3
 have k23:∀ b o,s2.heap.get? b=some o->s3.heap.get? b=some o:=by rw [← hs3];exact k23
 refine U6 λh₁ hns hk hown=>?_;have I4:Inv (qr X N' scope s3 H3 fp) [] (cap m σ) H3 { s3 with heap:=h₁ }:=qd8 hc I3 sc hcap f3 ob3 hns hk hown;have tn4:tn 0 h₁:=T.keep _ _ _ st2 λb hb o e=>hk b o (k23 b o e);have stat:∀ H':Hp,(∀ b∈fp,H' b=none)->∀ b∈fp,KC (qr X N' scope s3 H3 fp) [] H' b:=λH' hn b hb=>by
  refine ⟨hn b hb,I4.ok.exf b hb |>.1,I4.ok.exfs b hb,.inl hb,λx c e=>(I4.ok.exf b hb).2 x c e,λp hp=>absurd (show p∈([]:List (Addr×Obj)) from hp) (by simp)⟩
 exact codeAny_compStart_list (TM (X:=qr X N' scope s3 H3 fp) rfl (λ_ _ z=>z) rfl rfl (hp _ _ _) T (hg _ _ _) (hf _ _ _) (hb s3 H3 fp D _) stat turn (λs6 σ6 H6 I6 q=>fin D s3 H3 fp s6 H6 σ6 _ I3 f3 I6 q) I4 tn4 (λb hb=>(f3 b hb).1) w0)
  (T.self X.A 0 _ _ _ tn4 (TM (X:=qr X N' scope s3 H3 fp) rfl (λ_ _ z=>z) rfl rfl (hp _ _ _) T (hg _ _ _) (hf _ _ _) (hb s3 H3 fp D _) stat turn (λs6 σ6 H6 I6 q=>fin D s3 H3 fp s6 H6 σ6 _ I3 f3 I6 q) I4 tn4 (λb hb=>(f3 b hb).1) w0))
def apB (elt:Expr) (D:Addr) (env:Env) (kk:Sem Fin):Sem Fin:=do
 (do let _←call (.builtin "list.append") [.ref D,← eval elt env])
 kk
def tAp (te:TE) (D:Addr) (N:L2.St->Hp->Prop) (σ:L2.St) (H:Hp):Prop:=te σ H λy H4=>∃ zs,H4 D=some (.lst zs)/\zs.length<sizeLine/\N σ (upd H4 D (.lst (zs++[y])))
def qhl {elt:Expr} {te:TE} {D:Addr} {kk:Sem Fin} (hx:∀ v s,¬ X.xe v s) (he:PE X elt te):∀ pins s σ H N Q E,Inv X pins σ H s->tAp te D N σ H->(∀ s' σ' H',Inv X pins σ' H' s'->N σ' H'->wpAny (model X.prog X.w) X.A kk Q E s')->wpAny (model X.prog X.w) X.A (apB elt D X.env kk) Q E s:=λpins s σ H N Q E I h hk=>by
 refine x8 (x8 (y0 (he pins s σ H _ I h) (λw s10 ⟨y,H10,I10,r10,zs,hz,hl,q10⟩=>?_) λ_ _ z=>(hx _ _ z).elim));refine x8 (y0 (SR (X:=X) _ s10 σ H10 (.ref D) [y] (.ref D) [w] (λ_ H11=>H11=upd H10 D (.lst (zs++[y]))) I10 rfl (.cons r10 .nil) ⟨D,zs,y,rfl,rfl,hz,hl,rfl⟩) (λ_ s11 ⟨_,H11,I11,_,e11⟩=>?_) λ_ _ z=>(hx _ _ z).elim);subst e11;exact x9 (hk _ _ _ I11 q10)
def qfg {scope:Scope} {N':List Str} {Q:VK} (D:Addr) (s3:Shared) (H3:Hp) (fp:List Addr) (s6:Shared) (H6:Hp) (σ6:L2.St) (r:Flow) (I3:Inv X pins σ H3 s3) (f3:∀ b∈fp,KC X pins H3 b) (I6:Inv (qr X N' scope s3 H3 fp) [] σ6 H6 s6) (q:Q (.ref D) H6):compPost (model X.prog X.w) X.A X.xe none (EP X pins σ Q) (.ref D) s3.heap.objs.size (.ok r) s6:=by
 obtain ⟨mm,hn6,_⟩:=I6.loc;exact ⟨mm,hn6,λh' sb=>⟨.ref D,H6,W8 I3 f3 I6 sb,rfl,q⟩⟩
def qmu {elt:Expr} {scope:Scope} {pos:Pos} {N':List Str} {m:List (Option Nat)} {te:TE} (hc:X.calm=true) (hi:PI X tg iter wi)
  (hg:∀ s H fp,PG (qr X N' scope s H fp) tg g) (hf:∀ s H fp,PF (qr X N' scope s H fp) ifs tif) (he:∀ s H fp,PE (qr X N' scope s H fp) elt te)
  (hsc:qcM X.env.scope scope=true) (hcap:UF X.N N' scope m=true) (hs:∀ x,foldedSetIterable iter X.env x=pure x:=by intro _;rfl) :
  PE X (.ListComp elt [⟨tg,iter,ifs,0⟩] scope pos) (tLG wi g tif (tAp te) m):=by
 intro pins s σ H Q I h;rw [eval_ListComp];exact KH (use:=none) (bd:=apB elt) hc hi (λ_ _ _=>rfl) hg hf (λs H fp D kk=>qhl (λ_ _ z=>z) (he s H fp)) hsc hcap hs I h qfg
end
section
variable {K:Frg} {G G':Gp} {H H':Hp}
def qgO {D:Addr} {o:HO} {ws:List V} (hD:H D=some (.lst ws)) {a:Addr} {vs:List V} (h:SqT K H a vs):SqT K (upd H D o) a vs:=by
 rcases h with h|h
 ·refine .inl ?_;rcases h with h|⟨ob,h⟩
  ·have:a≠D:=by intro e;subst e;rw [hD] at h;cases h
   exact .inl (by rw [qo this];exact h)
  ·have:a≠D:=by intro e;subst e;rw [hD] at h;cases h
   exact .inr ⟨ob,by rw [qo this];exact h⟩
 ·exact .inr h
mutual
theorem Rp.wrD {D:Addr} {o:HO} {ws:List V} (hD:H D=some (.lst ws)):∀ {x:T} {v:V},Rp K H x v->Rp K (upd H D o) x v
 |_,_,.non=>.non
 |_,_,.bl b=>.bl b
 |_,_,.int i=>.int i
 |_,_,.str x=>.str x
 |_,_,.ref a=>.ref a
 |_,_,.tup h hs=>.tup (qgO hD h) (Rps.wrD hD hs)
theorem Rps.wrD {D:Addr} {o:HO} {ws:List V} (hD:H D=some (.lst ws)):∀ {x:List T} {v:List V},Rps K H x v->Rps K (upd H D o) x v
 |_,_,.nil=>.nil
 |_,_,.cons a b=>.cons (Rp.wrD hD a) (Rps.wrD hD b)
end
theorem HR.wrD {D:Addr} {o:HO} {ws:List V} (hr:HR K G H) (hD:H D=some (.lst ws)) (g:G D=none):HR K G (upd H D o):=⟨λa ob e=>by
 have ha:a≠D:=by intro z;subst z;rw [g] at e;cases e
 have q:=hr a ob e;cases ob with
 |lst xs=>obtain ⟨vs,h1,h2⟩:=q;exact ⟨vs,by rw [qo ha];exact h1,h2.wrD hD⟩
 |frz xs=>obtain ⟨vs,⟨o1,h1⟩,h2⟩:=q;exact ⟨vs,⟨o1,by rw [qo ha];exact h1⟩,h2.wrD hD⟩
 |dct kvs=>obtain ⟨vs,h1,h2⟩:=q;exact ⟨vs,by rw [qo ha];exact h1,h2.wrD hD⟩
 |exn C=>have h1:H a=some (.ext (IsX a C)):=q;exact (show _=_ by rw [qo ha];exact h1)
 |tab ks xs=>obtain ⟨vs,h1,h2⟩:=q;exact ⟨vs,by rw [qo ha];exact h1,h2.wrD hD⟩
 |clo i ts=>
  obtain ⟨fd,body,clos,c,ws,l,f,r⟩:=q;exact ⟨fd,body,clos,c,ws,l,f.keep λb o _ q=>by rw [qo (by rintro rfl;rw [hD] at q;cases q)];exact q,r.wrD hD⟩,hr.tabs.upd (λ_ z=>by rw [hD] at z;cases z) λ_ z=>by rw [hD] at z;cases z⟩
theorem Rel.wrD {D:Addr} {o:HO} {ws:List V} {τ:St3} {σ:L2.St} (r:Rel K τ G σ H) (hD:H D=some (.lst ws)) (g:G D=none):Rel K τ G σ (upd H D o):=
 ⟨r.hp.wrD hD g,r.len,λi t e=>let ⟨v,h1,h2⟩:=r.st i t e;⟨v,h1,h2.wrD hD⟩⟩
def Kp.wrD {D:Addr} {o:HO} (k:Kp G H G' H') (hD:H D=none):Kp G H G' (upd H' D o):=λa ob h g t=>by
 obtain ⟨h1,h2⟩:=k a ob h g t;exact ⟨by rw [qo (qw h hD)];exact h1,h2⟩
def qea {α:Type} {m:List (Option Nat)} {σ:List (Option α)} {i j:Nat} (h:m[i]?=some (some j)):(cap m σ)[i]?=some ((σ[j]?).join):=by
 unfold cap;rw [getElem?_map,h];rfl
theorem Rel.cap {τ:St3} {σ:L2.St} (r:Rel K τ G σ H) (m:List (Option Nat)):Rel K (cap m τ) G (L3.cap m σ) H:=by
 refine ⟨r.hp,by simp [L3.cap],λi t e=>?_⟩;obtain ⟨j,e1,e2⟩:=qbe e;obtain ⟨v,h1,h2⟩:=r.st j t e2;exact ⟨v,by rw [qea e1,h1];rfl,h2⟩
end
def qcP (stay:Gp->Prop) (g:TG3) (tif:TT3) (te:TE3) (q:Q3):List T->List T->St3->Gp->Prop
 |[],ys,_,G=>stay G/\∀ p,G p=none->q (.ref p) (gu G p (.lst ys))
 |x::r,ys,τ,G=>stay G/\g x τ G λτ2 G2=>tif τ2 G2 λk G3=>if k=true then te τ2 G3 λy G4=>ys.length<sizeLine/\qcP stay g tif te q r (ys++[y]) τ2 G4 else qcP stay g tif te q r ys τ2 G3
def lc3 (wi:TI3) (g:TG3) (tif:TT3) (te:TE3) (m:List (Option Nat)):TE3:=λτ G q=>wi τ G λitems stay G1=>qcP stay g tif te q items [] (cap m τ) G1
abbrev F3 (X:Cx) (ifs:List Expr) (t:TT3):Prop:=PF X ifs (lT X.K t)
def tt3:TT3:=λ_ G q=>q true G
def qjT {K:Frg} {m:List (Option Nat)} {wi:TI3} {g:TG3} {tif:TT3} {te:TE3} {σ:L2.St} {H:Hp} {Q:VK} (hh:lE K (lc3 wi g tif te m) σ H Q):tLG (lI K wi) (lG K g) (lT K tif) (tAp (lE K te)) m σ H Q:=by
  obtain ⟨τ,G,q,rl,h,af⟩:=hh;refine ⟨τ,G,_,rl,h,λitems stay G1 h1 J H1 hr1 k1 ok D hD=>?_⟩;have gD:G1 D=none:=hr1.free hD;refine ⟨λi n σ' H'=>n=items.length-i/\i<=items.length/\∃ τ' G' ys vs,Rel K τ' G' σ' H'/\Kp G1 H1 G' H'/\H' D=some (.lst vs)/\Rps K H' ys vs/\G' D=none/\qcP stay g tif te q (items.drop i) ys τ' G',
   ⟨_,rfl,Nat.zero_le _,cap m τ,G1,[],[],((rl.next hr1 k1).cap m).next (hr1.laid hD) (Kp.laid hD),Kp.laid hD,qH,.nil,gD,by simpa using h1⟩,?_⟩
  rintro i n σ' H' ⟨rfl,hi,τ',G',ys,vs,rl',k',hDl,rys,gD',h'⟩;by_cases hlt:i<items.length
  ·rw [List.drop_eq_getElem_cons hlt] at h';obtain ⟨hst,h'⟩:=h';obtain ⟨go,yld,_⟩:=ok G' H' rl'.hp k' hst;have hx:items[i]?=some items[i]:=y9 hlt;refine .inr ⟨go i _ hx,λv H2 y=>?_⟩;obtain ⟨rv,hr2,k2⟩:=yld i _ v H2 hx y;have nxt:∀ {τ4:St3} {G4:Gp} {σ4:L2.St} {H4:Hp} {ys4:List T} {vs4:List V},Rel K τ4 G4 σ4 H4->Kp G1 H1 G4 H4->H4 D=some (.lst vs4)->Rps K H4 ys4 vs4->G4 D=none->qcP stay g tif te q (items.drop (i+1)) ys4 τ4 G4 ->
     ∃ n',n'<items.length-i/\(n'=items.length-(i+1)/\i+1<=items.length/\∃ τ' G' ys vs,Rel K τ' G' σ4 H4/\Kp G1 H1 G' H4/\H4 D=some (.lst vs)/\Rps K H4 ys vs/\G' D=none/\qcP stay g tif te q (items.drop (i+1)) ys τ' G'):=
    λ{τ4 G4 σ4 H4 ys4 vs4} a b c d e f=>⟨_,by omega,rfl,hlt,τ4,G4,ys4,vs4,a,b,c,d,e,f⟩
   refine ⟨_,τ',G',_,rv,rl'.next hr2 k2,h',λτ3 G3 h3 σ3 H3 rl3 k3=>⟨τ3,G3,_,rl3,h3,λk G4 h4 H4 hr4 k4=>?_⟩⟩;have kk:=(k2.trans k3).trans k4;obtain ⟨hD4,gD4⟩:=kk D _ hDl gD' rfl;have rys4:=rys.keep rl'.hp kk;cases k with
   |false=>
    rw [if_neg y6] at h4;refine qmn ?_;exact nxt (rl3.next hr4 k4) (k'.trans kk) hD4 rys4 gD4 h4
   |true=>
    rw [if_pos rfl] at h4;refine qmX ?_;refine ⟨τ3,G4,_,rl3.next hr4 k4,h4,λz G5 h5 w H5 rw5 hr5 k5=>?_⟩;obtain ⟨hD5,gD5⟩:=k5 D _ hD4 gD4 rfl;have rys5:=rys4.keep hr4 k5;exact ⟨vs,hD5,by rw [← rys.length];exact h5.1,nxt (((rl3.next hr4 k4).next hr5 k5).wrD hD5 gD5) (((k'.trans kk).trans k5).wrD hD) qH ((rys5.append (.cons rw5 .nil)).wrD hD5) gD5 h5.2⟩
  ·have e:i=items.length:=by omega
   subst e;rw [List.drop_length] at h';obtain ⟨_,_,stop⟩:=ok G' H' rl'.hp k' h'.1;refine .inl ⟨stop,af _ _ (h'.2 D gD') _ H' (.ref D) ⟨λa o e=>?_,rl'.hp.tabs⟩ λa o e ga t=>?_⟩
   ·by_cases ha:a=D
    ·subst ha;rw [qD] at e;cases e;exact ⟨vs,hDl,rys⟩
    ·rw [zX ha] at e;exact rl'.hp a o e
   ·obtain ⟨e1,g1⟩:=k1 a o e ga t;obtain ⟨e2,g2⟩:=k' a o e1 g1 t;exact ⟨e2,by rw [zX (qw e1 hD)];exact g2⟩
section
variable {X:Cx}
end
structure Src (P:Program) (w:World) (it c:Addr) (St:Nat->Heap->Prop) (Has:Array Value->Heap->Prop):Prop where
 obj:∀ {k h},St k h->∃ o,h.get? it=some o/\∀ v,o.data≠.cell v
 keep:∀ {k h h'},St k h->(∀ o,h.get? it=some o->h'.get? it=some o)->St k h'
 hkeep:∀ {xs h h'},Has xs h->(∀ o,h.get? c=some o->h'.get? c=some o)->Has xs h'
 item:∀ {A:Around} {s:Shared} {k:Nat} {xs:Array Value} {x:Value} {Q:Value->Shared->Prop} {E:Value->Shared->Prop},St k s.heap->Has xs s.heap->xs[k]?=some x ->
  (∀ h',St (k+1) h'->Heap.SameBut it s.heap h'->Q x { s with heap:=h' })->wpAny (model P w) A (Builtin.SmallTypes.nextOf (.ref it)) Q E s
 done:∀ {A:Around} {s:Shared} {k:Nat} {xs:Array Value} {Q:Value->Shared->Prop} {E:Value->Shared->Prop},A.handled=none->St k s.heap->Has xs s.heap->xs[k]?=none ->
  (∀ h' e,Heap.ExtBut it s.heap h'->(∃ o,h'.get? e=some o/\o.cls=.type "StopIteration")->E (.ref e) { s with heap:=h' })->wpAny (model P w) A (Builtin.SmallTypes.nextOf (.ref it)) Q E s
def qds {P:Program} {w:World} (it l:Addr):Src P w it l (λk h=>h.IsListIter it l k) (λxs h=>h.IsList l xs) where
 obj:=λst=>let ⟨o,e,_,d⟩:=st;⟨o,e,λv z=>by rw [d] at z;cases z⟩
 keep:=λst k=>st.at λo e=>k o e
 hkeep:=λst k=>st.at λo e=>k o e
 item:=λst hl hx hQ=>wpAny_nextOf_list_item st hl hx hQ
 done:=λhh st hl hx hE=>wpAny_nextOf_list_end hh st hl hx hE
def M9 {P:Program} {w:World} {A:Around} {s:Shared} {it t:Addr} {i:Nat} {its:Array Value} {x:Value} {Q:Value->Shared->Prop} {E:Value->Shared->Prop} (hit:s.heap.IsTupleIter it t i) (ht:s.heap.IsTuple t its) (hx:its[i]?=some x)
  (hQ:∀ h',h'.IsTupleIter it t (i+1)->Heap.SameBut it s.heap h'->Q x { s with heap:=h' }):wpAny (model P w) A (Builtin.SmallTypes.nextOf (.ref it)) Q E s:=by
 obtain ⟨o1,e1,c1,d1⟩:=id hit;obtain ⟨o2,e2,_,n2,d2⟩:=ht;unfold Builtin.SmallTypes.nextOf;refine x8 (wpAny_callSpecial?_slot (name:=Str.ofString "__next__") hit.typeIs F.slot_tuple_iterator_next (wpAny_call_entry F.slot_tuple_iterator_next hit.typeIs F.entry_tuple_iterator_next ?_ (F.args_tuple_iterator_next_1 _)));refine x8 (m:=field (.ref it) 0) (wpAny_field e1 d1 (x:=.ref t) rfl ?_);rw [if_neg (show ¬ ((Value.ref t==Value.none)=true) by exact y6)];refine x8 (m:=field (.ref it) 1) (wpAny_field e1 d1 (x:=.int i 0) rfl ?_);refine x8 (m:=seqItems? (.ref t)) (wpAny_seqItems e2 d2 ?_);simp only [Int.toNat_natCast,hx];refine x8 (wpAny_setField e1 d1 (by simp) (x9 ⟨x,rfl,x9 (hQ _ ⟨_,Heap.get?_update_self _ e1 (Obj.isFreed_of_fields (Obj.data_mapFields d1 _)),(Obj.cls_mapFields ..).trans c1,?_⟩ (Heap.SameBut.update ..))⟩));rw [Obj.data_mapFields d1];simp [rawInt]
def WQ {P:Program} {w:World} {A:Around} {s:Shared} {it t:Addr} {i:Nat} {its:Array Value} {Q:Value->Shared->Prop} {E:Value->Shared->Prop} (hh:A.handled=none) (hit:s.heap.IsTupleIter it t i) (ht:s.heap.IsTuple t its) (hx:its[i]?=none)
  (hE:∀ h' e,Heap.ExtBut it s.heap h'->(∃ o,h'.get? e=some o/\o.cls=.type "StopIteration")->E (.ref e) { s with heap:=h' }):wpAny (model P w) A (Builtin.SmallTypes.nextOf (.ref it)) Q E s:=by
 obtain ⟨o1,e1,c1,d1⟩:=id hit;obtain ⟨o2,e2,_,n2,d2⟩:=ht;unfold Builtin.SmallTypes.nextOf;refine x8 (wpAny_callSpecial?_slot (name:=Str.ofString "__next__") hit.typeIs F.slot_tuple_iterator_next (wpAny_call_entry F.slot_tuple_iterator_next hit.typeIs F.entry_tuple_iterator_next ?_ (F.args_tuple_iterator_next_1 _)));refine x8 (m:=field (.ref it) 0) (wpAny_field e1 d1 (x:=.ref t) rfl ?_);rw [if_neg (show ¬ ((Value.ref t==Value.none)=true) by exact y6)];refine x8 (m:=field (.ref it) 1) (wpAny_field e1 d1 (x:=.int i 0) rfl ?_);refine x8 (m:=seqItems? (.ref t)) (wpAny_seqItems e2 d2 ?_);simp only [Int.toNat_natCast,hx];refine x8 (wpAny_rule (x8 (wpAny_setField e1 d1 (by simp) ?_)));refine x8 (m:=newExc (.type "StopIteration") []) ?_;simp only [newExc,newTuple];refine x8 (wpAny_newObj_type ?_ (by size_fits));refine x8 (m:=firstArgMember _ _) (wpAny_of_eq (a:=Value.none) (by first|rfl|(simp only [firstArgMember]<;>rfl)) (wpAny_newObj_type ?_ (by size_fits)));simp only [raiseNew];refine x8 (wpAny_handled ?_)
 first|rw [show A.in1.handled=Option.none from hh]|rw [show A.handled=Option.none from hh]
 exact x8 (x9 (wpAny_throw (hE _ _ (((Heap.SameBut.update ..).extBut.push _).push _) ⟨_,y3 _ rfl,rfl⟩)))
def qgA {P:Program} {w:World} (it t:Addr):Src P w it t (λk h=>h.IsTupleIter it t k) (λxs h=>h.IsTuple t xs) where
 obj:=λst=>let ⟨o,e,_,d⟩:=st;⟨o,e,λv z=>by rw [d] at z;cases z⟩
 keep:=λst k=>st.at λo e=>k o e
 hkeep:=λst k=>st.at λo e=>k o e
 item:=λst hl hx hQ=>M9 st hl hx hQ
 done:=λhh st hl hx hE=>WQ hh st hl hx hE
structure ZA (z ti to i1 i2 c1 c2:Addr):Prop where
 ne:([z,ti,to,i1,i2]:List Addr).Nodup
 a1:c1∉[z,to,i1,i2]
 a2:c2∉[z,to,i1,i2]
section
variable {P:Program} {w:World} {A:Around} {s:Shared} {z ti to i1 i2 c1 c2:Addr} {S1 S2:Nat->Heap->Prop} {H1 H2:Array Value->Heap->Prop} {k1 k2:Nat} {xs ys:Array Value} {x y a b:Value} {E:Value->Shared->Prop}
def qd9 {Q:Value->Shared->Prop} (R1:Src P w i1 c1 S1 H1) (R2:Src P w i2 c2 S2 H2) (D:ZA z ti to i1 i2 c1 c2) (hz:IsZip s.heap z ti to .none) (hi:IsPair s.heap ti (.ref i1) (.ref i2)) (ho:IsPair s.heap to a b)
  (p1:S1 k1 s.heap) (p2:S2 k2 s.heap) (l1:H1 xs s.heap) (l2:H2 ys s.heap) (hx:xs[k1]?=some x) (hy:ys[k2]?=some y)
  (hQ:∀ h',IsZip h' z ti to (rawInt s.heap.objs.size)->IsPair h' to x y->S1 (k1+1) h'->S2 (k2+1) h'->IsPair h' s.heap.objs.size x y->(∀ c o,c∉[z,to,i1,i2]->s.heap.get? c=some o->h'.get? c=some o)->Q (.ref s.heap.objs.size) { s with heap:=h' }) :
  wpAny (model P w) A (Builtin.«zip.__next__» ⟨[.ref z],[]⟩) (λfin s'=>∃ v,fin=.done (.ret v)/\Q v s') E s:=by
 have ne:=D.ne;simp only [List.nodup_cons,mem_cons,not_mem_nil,not_or,or_false] at ne;obtain ⟨⟨n1,n2,n3,n4⟩,⟨n5,n6,n7⟩,⟨n8,n9⟩,n10,_⟩:=ne;have a1:=D.a1;have a2:=D.a2;simp only [mem_cons,not_mem_nil,not_or,or_false] at a1 a2;obtain ⟨q1,q2,q3,q4⟩:=a1;obtain ⟨r1,r2,r3,r4⟩:=a2;refine x8 (m:=field (.ref z) 2) (wpAny_field hz rfl (x:=.bool false) rfl ?_);refine x8 (m:=field (.ref z) 3) (wpAny_field hz rfl (x:=.ref ti) rfl ?_);refine x8 (wpAny_seqItems hi rfl ?_);refine x8 (m:=Builtin.SmallTypes.ownedTupleIsFree (.ref z)) ?_;unfold Builtin.SmallTypes.ownedTupleIsFree;refine x8 (wpAny_field hz rfl (x:=Value.none) rfl (x9 ?_));simp only [if_true];refine x8 (wpAny_rule (x8 (wpAny_field hz rfl (x:=.ref to) rfl (x8 (wpAny_setField_rec hz (by simp) λg1 z1 s1=>?_)))))
 replace z1:IsZip g1 z ti to Value.ellipsis:=z1
 refine x8 ?_;simp only [List.zipIdx_cons,List.zipIdx_nil,List.forIn_cons,List.forIn_nil];refine x8 (x8 (wpAny_onRaise (x8 (m:=Builtin.SmallTypes.nextOf (.ref i1)) ?_)));refine R1.item (R1.keep p1 λo e=>s1.extBut _ _ (Ne.symm n3) e) (R1.hkeep l1 λo e=>s1.extBut _ _ q1 e) hx λg2 p12 s2=>x9 ?_;have t2:IsPair g2 to a b:=s2.extBut _ _ n8 (s1.extBut _ _ (Ne.symm n2) ho);refine x8 (wpAny_seqItems t2 rfl (x8 (wpAny_updateSeq_pair t2 λg3 t3 s3=>?_)))
 replace t3:IsPair g3 to x b:=t3
 refine x8 (wpAny_letGo (x9 (x8 (x8 (wpAny_onRaise (x8 (m:=Builtin.SmallTypes.nextOf (.ref i2)) ?_))))));refine R2.item (R2.keep p2 λo e=>s3.extBut _ _ (Ne.symm n9) (s2.extBut _ _ (Ne.symm n10) (s1.extBut _ _ (Ne.symm n4) e))) (R2.hkeep l2 λo e=>s3.extBut _ _ r2 (s2.extBut _ _ r3 (s1.extBut _ _ r1 e))) hy λg4 p24 s4=>x9 ?_;have t4:IsPair g4 to x b:=s4.extBut _ _ n9 t3;refine x8 (wpAny_seqItems t4 rfl (x8 (wpAny_updateSeq_pair t4 λg5 t5 s5=>?_)))
 replace t5:IsPair g5 to x y:=t5
 refine x8 (wpAny_letGo (x9 (x9 (x8 (wpAny_seqItems t5 rfl (x8 (wpAny_newTuple ?_)))))));have sz:g5.objs.size=s.heap.objs.size:=by rw [s5.1,s4.1,s3.1,s2.1,s1.1]
 have z5:IsZip g5 z ti to Value.ellipsis:=s5.extBut _ _ n2 (s4.extBut _ _ n4 (s3.extBut _ _ n2 (s2.extBut _ _ n3 z1)));have kk:∀ c o,c∉[z,to,i1,i2]->s.heap.get? c=some o->g5.get? c=some o:=λc o hc e=>by
  simp only [mem_cons,not_mem_nil,not_or,or_false] at hc;exact s5.extBut _ _ hc.2.1 (s4.extBut _ _ hc.2.2.2 (s3.extBut _ _ hc.2.1 (s2.extBut _ _ hc.2.2.1 (s1.extBut _ _ hc.1 e))))
 have p15:S1 (k1+1) g5:=R1.keep p12 λo e=>s5.extBut _ _ (Ne.symm n8) (s4.extBut _ _ n10 (s3.extBut _ _ (Ne.symm n8) e));have p25:S2 (k2+1) g5:=R2.keep p24 λo e=>s5.extBut _ _ (Ne.symm n9) e;have zlt:z<g5.objs.size:=y4 z5;refine x8 (m:=Builtin.SmallTypes.ownedTupleHandOut (.ref z) (.ref g5.objs.size)) ?_;unfold Builtin.SmallTypes.ownedTupleHandOut;have z6:IsZip (g5.push { cls:=.type "tuple",data:=.seq #[x,y] }) z ti to Value.ellipsis:=y2 _ z5;refine x8 (wpAny_setField_rec z6 (by simp) λg7 z7 s7=>?_)
 replace z7:IsZip g7 z ti to (rawInt g5.objs.size):=z7
 refine wpAny_setField_rec z7 (by simp) λg8 z8 s8=>?_
 replace z8:IsZip g8 z ti to (rawInt g5.objs.size):=z8
 have up:∀ c o,c≠z->g5.get? c=some o->g8.get? c=some o:=λc o hc e=>s8.extBut _ _ hc (s7.extBut _ _ hc (y2 _ e));have t8:IsPair g8 g5.objs.size x y:=s8.extBut _ _ (Nat.ne_of_gt zlt) (s7.extBut _ _ (Nat.ne_of_gt zlt) (y3 _ rfl));rw [sz] at z8 t8;refine x9 ⟨_,rfl,?_⟩;show Q (Value.ref g5.objs.size) _;rw [sz];exact hQ g8 z8 (up _ _ (Ne.symm n2) t5) (R1.keep p15 λo e=>up _ o (Ne.symm n3) e) (R2.keep p25 λo e=>up _ o (Ne.symm n4) e) t8 λc o hc e=>up c o (λq=>hc (by simp [q])) (kk c o hc e)
def qgD {Q:Fin->Shared->Prop} (hh:A.handled=none) (R1:Src P w i1 c1 S1 H1) (R2:Src P w i2 c2 S2 H2) (D:ZA z ti to i1 i2 c1 c2) (hz:IsZip s.heap z ti to .none) (hi:IsPair s.heap ti (.ref i1) (.ref i2)) (ho:IsPair s.heap to a b)
  (p1:S1 k1 s.heap) (p2:S2 k2 s.heap) (l1:H1 xs s.heap) (l2:H2 ys s.heap) (hend:xs[k1]?=none\/ys[k2]?=none)
  (hE:∀ h' e,(∀ c o,c∉[z,to,i1,i2]->s.heap.get? c=some o->h'.get? c=some o)->(∃ o,h'.get? e=some o/\o.cls=.type "StopIteration")->E (.ref e) { s with heap:=h' }) :
  wpAny (model P w) A (Builtin.«zip.__next__» ⟨[.ref z],[]⟩) Q E s:=by
 have ne:=D.ne;simp only [List.nodup_cons,mem_cons,not_mem_nil,not_or,or_false] at ne;obtain ⟨⟨n1,n2,n3,n4⟩,⟨n5,n6,n7⟩,⟨n8,n9⟩,n10,_⟩:=ne;have a1:=D.a1;have a2:=D.a2;simp only [mem_cons,not_mem_nil,not_or,or_false] at a1 a2;obtain ⟨q1,q2,q3,q4⟩:=a1;obtain ⟨r1,r2,r3,r4⟩:=a2;refine x8 (m:=field (.ref z) 2) (wpAny_field hz rfl (x:=.bool false) rfl ?_);refine x8 (m:=field (.ref z) 3) (wpAny_field hz rfl (x:=.ref ti) rfl ?_);refine x8 (wpAny_seqItems hi rfl ?_);refine x8 (m:=Builtin.SmallTypes.ownedTupleIsFree (.ref z)) ?_;unfold Builtin.SmallTypes.ownedTupleIsFree;refine x8 (wpAny_field hz rfl (x:=Value.none) rfl (x9 ?_));simp only [if_true];refine x8 (wpAny_rule (x8 (wpAny_field hz rfl (x:=.ref to) rfl (x8 (wpAny_setField_rec hz (by simp) λg1 z1 s1=>?_)))))
 replace z1:IsZip g1 z ti to Value.ellipsis:=z1
 refine x8 ?_;simp only [List.zipIdx_cons,List.zipIdx_nil,List.forIn_cons,List.forIn_nil];refine x8 (x8 (wpAny_onRaise (x8 (m:=Builtin.SmallTypes.nextOf (.ref i1)) ?_)));cases hx:xs[k1]? with
 |none=>
  refine R1.done hh (R1.keep p1 λo e=>s1.extBut _ _ (Ne.symm n3) e) (R1.hkeep l1 λo e=>s1.extBut _ _ q1 e) hx λg2 e s2 ⟨oe,he,ce⟩=>?_;have z2:IsZip g2 z ti to Value.ellipsis:=s2 _ _ n3 z1;have ez:e≠z:=λq=>by subst q;rw [z2] at he;cases he;simp at ce
  refine wpAny_setField_rec z2 (by simp) λg3 _ s3=>hE g3 e (λc o hc q=>?_) ⟨oe,s3.extBut _ _ ez he,ce⟩;simp only [mem_cons,not_mem_nil,not_or,or_false] at hc;exact s3.extBut _ _ hc.1 (s2 _ _ hc.2.2.1 (s1.extBut _ _ hc.1 q))
 |some x=>
  have hy:ys[k2]?=none:=by rcases hend with q|q;rw [hx] at q;cases q;exact q
  refine R1.item (R1.keep p1 λo e=>s1.extBut _ _ (Ne.symm n3) e) (R1.hkeep l1 λo e=>s1.extBut _ _ q1 e) hx λg2 p12 s2=>x9 ?_;have t2:IsPair g2 to a b:=s2.extBut _ _ n8 (s1.extBut _ _ (Ne.symm n2) ho);refine x8 (wpAny_seqItems t2 rfl (x8 (wpAny_updateSeq_pair t2 λg3 t3 s3=>?_)));refine x8 (wpAny_letGo (x9 (x8 (x8 (wpAny_onRaise (x8 (m:=Builtin.SmallTypes.nextOf (.ref i2)) ?_))))));refine R2.done hh (R2.keep p2 λo e=>s3.extBut _ _ (Ne.symm n9) (s2.extBut _ _ (Ne.symm n10) (s1.extBut _ _ (Ne.symm n4) e))) (R2.hkeep l2 λo e=>s3.extBut _ _ r2 (s2.extBut _ _ r3 (s1.extBut _ _ r1 e))) hy λg4 e s4 ⟨oe,he,ce⟩=>?_;have z4:IsZip g4 z ti to Value.ellipsis:=s4 _ _ n4 (s3.extBut _ _ n2 (s2.extBut _ _ n3 z1));have ez:e≠z:=λq=>by subst q;rw [z4] at he;cases he;simp at ce
  refine wpAny_setField_rec z4 (by simp) λg5 _ s5=>hE g5 e (λc o hc q=>?_) ⟨oe,s5.extBut _ _ ez he,ce⟩;simp only [mem_cons,not_mem_nil,not_or,or_false] at hc;exact s5.extBut _ _ hc.1 (s4 _ _ hc.2.2.2 (s3.extBut _ _ hc.2.1 (s2.extBut _ _ hc.2.2.1 (s1.extBut _ _ hc.1 q))))
end
abbrev qne (b:Bool):String:=if b then "list_iterator" else "tuple_iterator"
abbrev zk (b:Bool) (c:Addr):Obj:={ cls:=.type (qne b),data:=.fields #[.ref c,.int 0 0] }
def qdn (b:Bool) (it c:Addr) (k:Nat) (h:Heap):Prop:=match b with|true=>h.IsListIter it c k|false=>h.IsTupleIter it c k
def TC (b:Bool) (c:Addr) (xs:Array Value) (h:Heap):Prop:=match b with|true=>h.IsList c xs|false=>h.IsTuple c xs
def zn {P:Program} {w:World} (b:Bool) (it c:Addr):Src P w it c (qdn b it c) (TC b c):=by
 cases b
 ·exact qgA it c
 ·exact qds it c
def T2 {P:Program} {w:World} {A:Around} {s:Shared} {b:Bool} {c:Addr} {xs:Array Value} {Q:Value->Shared->Prop} {E:Value->Shared->Prop} (h:TC b c xs s.heap) (q:Q (.ref s.heap.objs.size) { s with heap:=s.heap.push (zk b c) }) :
  wpAny (model P w) A (pyIter (.ref c)) Q E s:=by
 cases b
 ·exact wpAny_pyIter_tuple (show s.heap.IsTuple c xs from h) q
 ·exact wpAny_pyIter_list (show s.heap.IsList c xs from h) q
def qaO {b:Bool} {c:Addr} {xs:Array Value} {h:Heap} {o:Obj} (q:TC b c xs h):TC b c xs (h.push o):=by
 cases b
 ·exact (show h.IsTuple c xs from q).at λ_ e=>y2 _ e
 ·exact (show h.IsList c xs from q).at λ_ e=>y2 _ e
abbrev zh1 (h:Heap) (o1:Obj):Heap:=h.push o1
abbrev zh2 (h:Heap) (o1 o2:Obj):Heap:=(zh1 h o1).push o2
abbrev zh3 (h:Heap) (o1 o2:Obj):Heap:=(zh2 h o1 o2).push { cls:=.type "tuple",data:=.seq #[.ref h.objs.size,.ref (zh1 h o1).objs.size] }
abbrev zh4 (h:Heap) (o1 o2:Obj):Heap:=(zh3 h o1 o2).push { cls:=.type "tuple",data:=.seq #[.none,.none] }
abbrev zh5 (h:Heap) (o1 o2:Obj):Heap:=(zh4 h o1 o2).push { cls:=.type "zip",data:=.fields #[.none,.bool false,.bool false,.ref (zh2 h o1 o2).objs.size,.ref (zh3 h o1 o2).objs.size] }
def qcq (c1 c2:Addr) (o1 o2:Obj) :
  Meets (Builtin.«zip.__new__» ⟨[.type "zip",.ref c1,.ref c2],[]⟩) (λ_ R s=>
   (∀ (P:Program) (w:World) (A:Around) (Q:Value->Shared->Prop) (E:Value->Shared->Prop),Q (.ref s.heap.objs.size) { s with heap:=zh1 s.heap o1 }->wpAny (model P w) A (pyIter (.ref c1)) Q E s) /\
   (∀ (P:Program) (w:World) (A:Around) (Q:Value->Shared->Prop) (E:Value->Shared->Prop),Q (.ref (zh1 s.heap o1).objs.size) { s with heap:=zh2 s.heap o1 o2 }->wpAny (model P w) A (pyIter (.ref c2)) Q E { s with heap:=zh1 s.heap o1 }) /\
   R (.ok (.ret (.ref (zh4 s.heap o1 o2).objs.size))) { s with heap:=zh5 s.heap o1 o2 }):=
 .of_wp λprog w A R s h=>by
  obtain ⟨hp,g,d,tk,os⟩:=s;obtain ⟨h1,h2,h⟩:=h;have hsub:=sub_zip;have k1:=λA Q E=>h1 prog w A Q E;have k2:=λA Q E=>h2 prog w A Q E
  wp_walk using k1 _ _ _,k2 _ _ _
  exact ⟨_,rfl,h⟩
def qdY (b1 b2:Bool) (z ti to i1 i2 c1 c2:Addr) (k:Nat) (h:Heap):Prop:=
 IsZip h z ti to .none/\IsPair h ti (.ref i1) (.ref i2)/\(∃ a b,IsPair h to a b)/\qdn b1 i1 c1 k h/\qdn b2 i2 c2 k h
section
variable {P:Program} {w:World} {A:Around} {s:Shared} {E:Value->Shared->Prop}
def qdo {b1 b2:Bool} {c1 c2:Addr} {xs ys:Array Value} {Q:Value->Shared->Prop} (h1:TC b1 c1 xs s.heap) (h2:TC b2 c2 ys s.heap)
  (q:∀ h',qdY b1 b2 (s.heap.objs.size+4) (s.heap.objs.size+2) (s.heap.objs.size+3) s.heap.objs.size (s.heap.objs.size+1) c1 c2 0 h'->(∀ c o,s.heap.get? c=some o->h'.get? c=some o)->Q (.ref (s.heap.objs.size+4)) { s with heap:=h' }) :
  wpAny (model P w) A (call (.type "zip") [.ref c1,.ref c2]) Q E s:=by
 refine callType_new F.called_zip (by decide) (F.typeCall_zip_2 _ _) (F.newCall_zip_2 _ _) (λobj=>F.args_object_init_3 obj _ _) F.entry_zip_new
  (qcq c1 c2 (zk b1 c1) (zk b2 c2)) ⟨λP w A Q E q=>T2 h1 q,λP w A Q E q=>T2 (s:={ s with heap:=zh1 s.heap (zk b1 c1) }) (qaO h2) q,?_⟩
 have e1:(zh1 s.heap (zk b1 c1)).objs.size=s.heap.objs.size+1:=Heap.size_push ..;have e2:(zh2 s.heap (zk b1 c1) (zk b2 c2)).objs.size=s.heap.objs.size+2:=by rw [Heap.size_push,e1]
 have e3:(zh3 s.heap (zk b1 c1) (zk b2 c2)).objs.size=s.heap.objs.size+3:=by rw [Heap.size_push,e2]
 have e4:(zh4 s.heap (zk b1 c1) (zk b2 c2)).objs.size=s.heap.objs.size+4:=by rw [Heap.size_push,e3]
 have g5:(zh5 s.heap (zk b1 c1) (zk b2 c2)).get? (zh4 s.heap (zk b1 c1) (zk b2 c2)).objs.size=some _:=y3 _ rfl;have g4:(zh5 s.heap (zk b1 c1) (zk b2 c2)).get? (zh3 s.heap (zk b1 c1) (zk b2 c2)).objs.size=some _:=y2 _ (y3 _ rfl);have g3:(zh5 s.heap (zk b1 c1) (zk b2 c2)).get? (zh2 s.heap (zk b1 c1) (zk b2 c2)).objs.size=some _:=y2 _ (y2 _ (y3 _ rfl));have g2:(zh5 s.heap (zk b1 c1) (zk b2 c2)).get? (zh1 s.heap (zk b1 c1)).objs.size=some (zk b2 c2):=y2 _ (y2 _ (y2 _ (y3 _ rfl)));have g1:(zh5 s.heap (zk b1 c1) (zk b2 c2)).get? s.heap.objs.size=some (zk b1 c1):=y2 _ (y2 _ (y2 _ (y2 _ (y3 _ rfl))));show _/\_;rw [e2,e3,e4] at g5;rw [e1,e2] at g3;rw [e3] at g4;rw [e1] at g2;rw [e4];refine ⟨⟨_,g5,rfl⟩,q _ ⟨g5,g3,⟨_,_,g4⟩,?_,?_⟩ λc o e=>y2 _ (y2 _ (y2 _ (y2 _ (y2 _ e))))⟩
 ·cases b1<;>exact ⟨_,g1,rfl,rfl⟩
 ·cases b2<;>exact ⟨_,g2,rfl,rfl⟩
def qdX {b1 b2:Bool} {z ti to i1 i2 c1 c2:Addr} {k:Nat} {xs ys:Array Value} {x y:Value} {Q:Option Value->Shared->Prop} (D:ZA z ti to i1 i2 c1 c2) (st:qdY b1 b2 z ti to i1 i2 c1 c2 k s.heap) (l1:TC b1 c1 xs s.heap) (l2:TC b2 c2 ys s.heap) (hx:xs[k]?=some x) (hy:ys[k]?=some y)
  (hQ:∀ h',IsZip h' z ti to (rawInt s.heap.objs.size)->IsPair h' ti (.ref i1) (.ref i2)->(∃ a b,IsPair h' to a b)->qdn b1 i1 c1 (k+1) h'->qdn b2 i2 c2 (k+1) h'->IsPair h' s.heap.objs.size x y->(∀ c o,c∉[z,to,i1,i2]->s.heap.get? c=some o->h'.get? c=some o)->Q (some (.ref s.heap.objs.size)) { s with heap:=h' }) :
  wpAny (model P w) A (pyNext (.ref z)) Q E s:=by
 obtain ⟨hz,hi,⟨a,b,ho⟩,p1,p2⟩:=st;have ty:s.TypeIs (.ref z) "zip" := ⟨_,hz,rfl⟩
 have nti:ti∉[z,to,i1,i2]:=by
  have ne:=D.ne;simp only [List.nodup_cons,mem_cons,not_mem_nil,not_or,or_false] at ne ⊢;exact ⟨Ne.symm ne.1.1,ne.2.1.1,ne.2.1.2.1,ne.2.1.2.2⟩
 unfold pyNext;exact x8 (wpAny_attempt (wpAny_callSpecial?_slot (name:=Str.ofString "__next__") ty F.slot_zip_next (wpAny_call_entry F.slot_zip_next ty F.entry_zip_next
  (qd9 (zn b1 i1 c1) (zn b2 i2 c2) D hz hi ho p1 p2 l1 l2 hx hy λh' u1 u2 u3 u4 u5 u6=>x9 (hQ h' u1 (u6 _ _ nti hi) ⟨_,_,u2⟩ u3 u4 u5 u6)) (F.args_zip_next_1 _))))
def SE {b1 b2:Bool} {z ti to i1 i2 c1 c2:Addr} {k:Nat} {xs ys:Array Value} {Q:Option Value->Shared->Prop} (hh:A.handled=none) (D:ZA z ti to i1 i2 c1 c2) (st:qdY b1 b2 z ti to i1 i2 c1 c2 k s.heap) (l1:TC b1 c1 xs s.heap) (l2:TC b2 c2 ys s.heap) (hend:xs[k]?=none\/ys[k]?=none)
  (hQ:∀ h',(∀ c o,c∉[z,to,i1,i2]->s.heap.get? c=some o->h'.get? c=some o)->Q none { s with heap:=h' }):wpAny (model P w) A (pyNext (.ref z)) Q E s:=by
 obtain ⟨hz,hi,⟨a,b,ho⟩,p1,p2⟩:=st;have ty:s.TypeIs (.ref z) "zip" := ⟨_,hz,rfl⟩
 unfold pyNext;refine x8 (wpAny_attempt (wpAny_callSpecial?_slot (name:=Str.ofString "__next__") ty F.slot_zip_next (wpAny_call_entry F.slot_zip_next ty F.entry_zip_next
  (qgD hh (zn b1 i1 c1) (zn b2 i2 c2) D hz hi ho p1 p2 l1 l2 hend λh' e hk ⟨o,q1,q2⟩=>?_) (F.args_zip_next_1 _))))
 exact x8 (wpAny_isInstance (T:="StopIteration") (b:=true) ⟨o,q1,q2⟩ isSubtype_stop (x9 (hQ _ hk)))
end
def SqB (K:Frg) (b:Bool) (H:Hp) (a:Addr) (xs:List V):Prop:=match b with|true=>SqL K H a xs|false=>SqT K H a xs
def SqB.get {X:Cx} {pins:List (Addr×Obj)} {σ:L2.St} {H:Hp} {s:Shared} {b:Bool} {a:Addr} {xs:List V} (I:Inv X pins σ H s) (h:SqB X.K b H a xs):∃ its:List Value,qY xs its/\TC b a its.toArray s.heap/\xs.length<=sizeLine:=by
 cases b
 ·obtain ⟨its,r,p,hz⟩:=I.tuple (show SqT X.K H a xs from h);exact ⟨its,r,(show s.heap.IsTuple a its.toArray from p),hz⟩
 ·obtain ⟨its,r,p,hz⟩:=I.list (show SqL X.K H a xs from h);exact ⟨its,r,p.isList,hz⟩
def SqB.inj {X:Cx} {pins:List (Addr×Obj)} {σ:L2.St} {H:Hp} {s:Shared} {b:Bool} {a:Addr} {xs ys:List V} (I:Inv X pins σ H s) (h:SqB X.K b H a xs) (h':SqB X.K b H a ys):xs=ys:=by
 cases b
 ·exact I.tuple_inj h h'
 ·exact I.list_inj h h'
def Itz (K:Frg) (b1 b2:Bool) (c1 c2:Addr):It:=
  ⟨λi H=>∃ xs ys x y,SqB K b1 H c1 xs/\SqB K b2 H c2 ys/\xs[i]?=some x/\ys[i]?=some y,
   λi H v H'=>∃ p x y,H p=none/\v=.ref p/\H'=upd H p (.tup [x,y])/\(∀ xs,SqB K b1 H c1 xs->xs[i]?=some x)/\(∀ ys,SqB K b2 H c2 ys->ys[i]?=some y),
   λi H=>∃ xs ys,SqB K b1 H c1 xs/\SqB K b2 H c2 ys/\(xs.length<=i\/ys.length<=i)⟩
def qgp {b:Bool} {c:Addr} {xs:Array Value} {h:Heap} (q:TC b c xs h):c<h.objs.size:=by
 cases b
 ·obtain ⟨o,e,_⟩:=(show h.IsTuple c xs from q);exact y4 e
 ·obtain ⟨o,e,_⟩:=(show h.IsList c xs from q);exact y4 e
def SS {X:Cx} {pins:List (Addr×Obj)} {σ:L2.St} {H:Hp} {s:Shared} (I:Inv X pins σ H s) {ch:List Addr} (hf:∀ b∈ch,KC X pins H b) {h2:Heap} {t2:Nat} {x y:V} {u1 u2:Value} (r1:zE x u1) (r2:zE y u2)
  (hp:h2.get? s.heap.objs.size=some { cls:=.type "tuple",data:=.seq #[u1,u2] }) (kk:∀ c o,c∉ch->s.heap.get? c=some o->h2.get? c=some o):Inv X pins σ (upd H s.heap.objs.size (.tup [x,y])) { s with heap:=h2,toks:=t2 }:=by
 have hfr:H s.heap.objs.size=none:=I.fresh;refine I.step (g':=s.gens) (d':=s.drawn) (t':=t2) (ch:=ch) (λb hb=>?_) (λb o _ _ hcb e _=>kk b o hcb e) (λb o _ _ hcb e _=>⟨o.slots,kk b o hcb e⟩) (λb o _ e n=>by rw [qo (u8 (y4 e))];exact n) (λb o hcb e=>⟨o,kk b o hcb e⟩)
  (λb _ e=>by rw [qo (qw e hfr)];exact e) (λb _ _ e=>by rw [qo (qw e hfr)];exact e) (λb ps e=>⟨#[],by rw [qo (qw e hfr),e];simp⟩) (λm hm=>?_) (λb u e=>?_) I.bare
 ·obtain ⟨f0,f1,f2,f3,f4,f5⟩:=hf b hb;exact ⟨f3,f1,f4,f5⟩
 ·obtain ⟨o,es',ep,ho',r⟩:=hm;exact ⟨o,es',ep,kk _ o (λq=>(hf _ q).2.1 rfl) ho',r⟩
 ·by_cases hb:b=s.heap.objs.size
  ·subst hb;rw [qH] at e;cases e;exact ⟨by show 2<=sizeLine;decide,[u1,u2],.cons r1 (.cons r2 .nil),⟨_,hp,rfl,_,rfl,rfl⟩⟩
  ·rw [qo hb] at e;refine (I.hok b u e).stay (λc v hcb q=>kk c v (λm=>?_) q) (λ_ q=>by rw [qo (qw q hfr)];exact q) λ_ _ q=>by rw [qo (qw q hfr)];exact q
   have hn:=(hf c m).1;rcases hcb with q|q
   ·rw [q] at hn;rw [hn] at e;cases e
   ·rw [hn] at q;cases q
def qeg {P:Program} {w:World} {K:Frg} {es:List Expr} {k1:Nat} {pt:Pos} {b1 b2:Bool} {z ti to i1 i2 c1 c2:Addr} (D:ZA z ti to i1 i2 c1 c2):Turn P w K (.Tuple es k1 pt) (Itz K b1 b2 c1 c2) [z,ti,to,i1,i2] z (qdY b1 b2 z ti to i1 i2 c1 c2) where
 mem:=by simp
 obj:=λi h ⟨hz,hi,⟨a,b,ho⟩,p1,p2⟩ c hc=>by
  simp only [mem_cons,not_mem_nil,or_false] at hc;rcases hc with rfl|rfl|rfl|rfl|rfl
  ·exact ⟨_,hz,λv q=>by cases q⟩
  ·exact ⟨_,hi,λv q=>by cases q⟩
  ·exact ⟨_,ho,λv q=>by cases q⟩
  ·exact (zn (P:=P) (w:=w) b1 c c1).obj p1
  ·exact (zn (P:=P) (w:=w) b2 c c2).obj p2
 keep:=λi h h' ⟨hz,hi,⟨a,b,ho⟩,p1,p2⟩ k=>
  ⟨k z (by simp) _ hz,k ti (by simp) _ hi,⟨a,b,k to (by simp) _ ho⟩,(zn (P:=P) (w:=w) b1 i1 c1).keep p1 λo e=>k i1 (by simp) o e,(zn (P:=P) (w:=w) b2 i2 c2).keep p2 λo e=>k i2 (by simp) o e⟩
 item:=by
  intro X hP hw hK hc i pins s σ H E I hf st hg;subst hP hw hK;obtain ⟨xs,ys,x,y,sq1,sq2,hx,hy⟩:=hg;obtain ⟨its1,rv1,l1,z1⟩:=sq1.get I;obtain ⟨its2,rv2,l2,z2⟩:=sq2.get I;obtain ⟨u1,hu1,ru1⟩:=rv1.get hx;obtain ⟨u2,hu2,ru2⟩:=rv2.get hy;refine qdX D st l1 l2 (x:=u1) (y:=u2) (by simpa using hu1) (by simpa using hu2) λh' hz hi ho p1 p2 hp hk=>?_;have hfr:H s.heap.objs.size=none:=I.fresh;have free:∀ b∈[z,ti,to,i1,i2],H b=none:=λb hb=>(hf b hb).1;refine ⟨_,rfl,wpAny_letOwnedTupleGo_zip hz λh2 hz2 s2=>?_⟩;have zlt:z<s.heap.objs.size:=y4 st.1;have hp2:IsPair h2 s.heap.objs.size u1 u2:=(s2.2 _ (Nat.ne_of_gt zlt)).trans hp;have ne:=D.ne;simp only [List.nodup_cons,mem_cons,not_mem_nil,not_or,or_false] at ne;have up:∀ c o,c≠z->h'.get? c=some o->h2.get? c=some o:=λc o hc e=>(s2.2 c hc).trans e;have kk:∀ c o,c∉[z,to,i1,i2]->s.heap.get? c=some o->h2.get? c=some o:=λc o hc e=>up c o (λq=>hc (by simp [q])) (hk c o hc e);have I3:Inv X pins σ (upd H s.heap.objs.size (.tup [x,y])) { s with heap:=h2 }:=SS (t2:=s.toks) I (ch:=[z,to,i1,i2]) (λb hb=>hf b (by simp only [mem_cons,not_mem_nil,or_false] at hb ⊢;rcases hb with q|q|q|q<;>simp [q])) ru1 ru2 hp2 kk;refine ⟨.ref s.heap.objs.size,_,I3,rfl,⟨_,x,y,hfr,rfl,rfl,λzs q=>by rw [q.inj I sq1];exact hx,λzs q=>by rw [q.inj I sq2];exact hy⟩,⟨hz2,up _ _ (Ne.symm ne.1.1) hi,let ⟨a,b,q⟩:=ho;⟨a,b,up _ _ (Ne.symm ne.1.2.1) q⟩,(zn (P:=X.prog) (w:=X.w) b1 i1 c1).keep p1 λo e=>up _ o (Ne.symm ne.1.2.2.1) e,(zn (P:=X.prog) (w:=X.w) b2 i2 c2).keep p2 λo e=>up _ o (Ne.symm ne.1.2.2.2) e⟩,λb hb=>?_⟩;rw [qo (λq=>?_)]
  ·exact free b hb
  ·subst q;obtain ⟨hz0,hi0,⟨a0,b0,ho0⟩,q1,q2⟩:=st;simp only [mem_cons,not_mem_nil,or_false] at hb;rcases hb with q|q|q|q|q
   ·exact absurd q (Nat.ne_of_gt zlt)
   ·exact absurd q (Nat.ne_of_gt (y4 hi0))
   ·exact absurd q (Nat.ne_of_gt (y4 ho0))
   ·obtain ⟨o,e,_⟩:=(zn (P:=X.prog) (w:=X.w) b1 i1 c1).obj q1;exact absurd q (Nat.ne_of_gt (y4 e))
   ·obtain ⟨o,e,_⟩:=(zn (P:=X.prog) (w:=X.w) b2 i2 c2).obj q2;exact absurd q (Nat.ne_of_gt (y4 e))
 done:=by
  intro X hP hw hK hc i pins s σ H E I hf st hg;subst hP hw hK;obtain ⟨xs,ys,sq1,sq2,hend⟩:=hg;obtain ⟨its1,rv1,l1,z1⟩:=sq1.get I;obtain ⟨its2,rv2,l2,z2⟩:=sq2.get I;have e1:=rv1.length;have e2:=rv2.length;refine SE (I.ok.hd hc) D st l1 l2 (by rcases hend with q|q;exact .inl (by simp;omega);exact .inr (by simp;omega)) λh' hk=>⟨rfl,?_⟩
  have free:∀ b∈[z,ti,to,i1,i2],H b=none:=λb hb=>(hf b hb).1;refine I.step (g':=s.gens) (d':=s.drawn) (t':=s.toks) (ch:=[z,to,i1,i2]) (λb hb=>?_) (λb o _ _ hcb e _=>hk b o hcb e) (λb o _ _ hcb e _=>⟨o.slots,hk b o hcb e⟩) (λ_ _ _ _ n=>n) (λb o hcb e=>⟨o,hk b o hcb e⟩) (λ_ _ e=>e) (λ_ _ _ e=>e) (λb ps e=>⟨#[],by rw [e];simp⟩) (λm hm=>?_) (λb u e=>?_) I.bare
  ·obtain ⟨f0,f1,f2,f3,f4,f5⟩:=hf b (by simp only [mem_cons,not_mem_nil,or_false] at hb ⊢;rcases hb with q|q|q|q<;>simp [q]);exact ⟨f3,f1,f4,f5⟩
  ·obtain ⟨o,es',ep,ho',r⟩:=hm;refine ⟨o,es',ep,hk _ o (λq=>?_) ho',r⟩;obtain ⟨f0,f1,_⟩:=hf X.env.locals (by simp only [mem_cons,not_mem_nil,or_false] at q ⊢;rcases q with q|q|q|q<;>simp [q]);exact f1 rfl
  ·refine (I.hok b u e).stay (λc v hcb q=>hk c v (λm=>?_) q) (λ_ q=>q) λ_ _ q=>q;have hn:=free c (by simp only [mem_cons,not_mem_nil,or_false] at m ⊢;rcases m with q|q|q|q<;>simp [q]);rcases hcb with q|q
   ·rw [q] at hn;rw [hn] at e;cases e
   ·rw [hn] at q;cases q
 self:=λA i s Q E st h=>wpAny_pyIter_zip st.1 h
def qkH {n c1 c2:Addr} (h1:c1<n) (h2:c2<n):ZA (n+4) (n+2) (n+3) n (n+1) c1 c2:=by
 have k:∀ n c:Nat,c<n->c≠n+4/\c≠n+3/\c≠n/\c≠n+1:=λn c h=>by omega
 have d:∀ n:Nat,(([n+4,n+2,n+3,n,n+1]:List Nat)).Nodup:=λn=>by
  simp only [List.nodup_cons,mem_cons,not_mem_nil,not_or,or_false,List.nodup_nil,and_true,not_false_eq_true];omega
 refine ⟨d n,?_,?_⟩
 ·simp only [mem_cons,not_mem_nil,not_or,or_false];exact k n c1 h1
 ·simp only [mem_cons,not_mem_nil,not_or,or_false];exact k n c2 h2
section
variable {X:Cx} {a b e l:Expr} {es:List Expr} {pos:Pos}
def qlh {p pt:Pos} {k1:Nat} {ta:TA} (hg:Gl X "zip") (hm:X.mg "zip" = none) (ha:PA X [a,b] ta) (hs:starEach [a,b] X.env=[(false,eval a X.env),(false,eval b X.env)]:=by rfl) (hs2:starEach [b] X.env=[(false,eval b X.env)]:=by rfl) :
  PI X (.Tuple es k1 pt) (.Call (.Name "zip" p) [a,b] [] pos) (λσ H R=>ta σ H λvs H1=>∃ b1 b2 c1 c2 xs ys,vs=[.ref c1,.ref c2]/\SqB X.K b1 H1 c1 xs/\SqB X.K b2 H1 c2 ys/\R (Itz X.K b1 b2 c1 c2) H1):=by
 intro pins s σ H R I h;refine Call_ (VB I hg hm PyProof.Rows.boot_zip (PyProof.Rows.callWith_type1 (thn (ha pos pins s σ H _ I h) λus s1 ⟨vs,H1,I1,r1,q1⟩=>?_) (by rw [hs,hs2]) (by rw [hs2];rfl)));obtain ⟨b1,b2,c1,c2,xs,ys,rfl,sq1,sq2,q⟩:=q1;obtain ⟨u1,u2,rfl,e1,e2⟩:=qcl r1;cases (show u1=Value.ref c1 from e1);cases (show u2=Value.ref c2 from e2);obtain ⟨its1,rv1,l1,z1⟩:=sq1.get I1;obtain ⟨its2,rv2,l2,z2⟩:=sq2.get I1;refine qdo l1 l2 λh' st hk=>wpAny_pyIter_zip st.1 ?_;refine ⟨s1.heap.objs.size+4,[s1.heap.objs.size+4,s1.heap.objs.size+2,s1.heap.objs.size+3,s1.heap.objs.size,s1.heap.objs.size+1],_,_,H1,rfl,I1.kept (t':=s1.toks) hk,qeg (qkH (qgp l1) (qgp l2)),st,λc hc=>?_,q⟩;have hle:s1.heap.objs.size<=c:=by
  simp only [mem_cons,not_mem_nil,or_false] at hc;rcases hc with rfl|rfl|rfl|rfl|rfl<;>first|exact v5 _|exact Nat.le_add_right _ _
 exact I1.fpOk hle (I1.hok.fresh hle)
end
def jm (G:Gp):T->Option (List T)
 |.tup xs=>some xs
 |.ref p=>getL G p
 |_=>none
def qbM {K:Frg} {G0:Gp} {H0:Hp} {x:T} {v:V} {us:List T} (hr0:HR K G0 H0) (rx:Rp K H0 x v) (h:jm G0 x=some us) :
  ∃ b c,v=.ref c/\∀ G H,HR K G H->Kp G0 H0 G H->jm G x=some us->∃ vs,SqB K b H c vs/\Rps K H us vs:=by
 cases rx with
 |tup hs rs=>
  cases h;exact ⟨false,_,rfl,λG H hr k _=>⟨_,(EG hr0 k hs:SqT K H _ _),rs.keep hr0 k⟩⟩
 |ref a=>exact ⟨true,a,rfl,λG H hr k hq=>let ⟨vs,h1,h2⟩:=zD hr (show getL G a=some us from hq);⟨vs,h1,h2⟩⟩
 |_=>cases h
def qcT (us vs:List T):List T:=(us.zip vs).map λp=>.tup [p.1,p.2]
def CQ {us vs:List T} {i:Nat} {x:T} (h:(qcT us vs)[i]?=some x):∃ a b,us[i]?=some a/\vs[i]?=some b/\x=.tup [a,b]:=by
 unfold qcT at h;rw [getElem?_map] at h;cases e:(us.zip vs)[i]? with
 |none=>rw [e] at h;cases h
 |some p=>
  rw [e] at h;have:=List.getElem?_zip_eq_some.mp e;exact ⟨p.1,p.2,this.1,this.2,by simpa using h.symm⟩
def qkk {K:Frg} {b1 b2:Bool} {c1 c2:Addr} {x y:T} {us vs:List T} {G0:Gp} {H0:Hp}
  (f1:∀ G H,HR K G H->Kp G0 H0 G H->jm G x=some us->∃ vs,SqB K b1 H c1 vs/\Rps K H us vs) (f2:∀ G H,HR K G H->Kp G0 H0 G H->jm G y=some vs->∃ ws,SqB K b2 H c2 ws/\Rps K H vs ws) :
  qhX K (Itz K b1 b2 c1 c2) (qcT us vs) (λG=>jm G x=some us/\jm G y=some vs) G0 H0:=by
 intro G H hr k ⟨h1,h2⟩;obtain ⟨p,sp,rp⟩:=f1 G H hr k h1;obtain ⟨q,sq,rq⟩:=f2 G H hr k h2;refine ⟨λi z hz=>?_,λi z v H' hz hy=>?_,⟨p,q,sp,sq,?_⟩⟩
 ·obtain ⟨a,b,ha,hb,_⟩:=CQ hz;obtain ⟨v,hv,_⟩:=rp.get ha;obtain ⟨w,hw,_⟩:=rq.get hb;exact ⟨p,q,v,w,sp,sq,hv,hw⟩
 ·obtain ⟨a,b,ha,hb,rfl⟩:=CQ hz;obtain ⟨t,v1,v2,ht,rfl,rfl,g1,g2⟩:=hy;obtain ⟨v,hv,rv⟩:=rp.get ha;obtain ⟨w,hw,rw'⟩:=rq.get hb;have e1:=(g1 p sp).symm.trans hv;have e2:=(g2 q sq).symm.trans hw;obtain rfl:v1=v:=Option.some.inj e1;obtain rfl:v2=w:=Option.some.inj e2;have kk:Kp G H G (upd H t (.tup [v1,v2])):=Kp.laid ht;exact ⟨.tup (SqT.of qH) (.cons (rv.keep hr kk) (.cons (rw'.keep hr kk) .nil)),hr.laid ht,kk⟩
 ·rw [← rp.length,← rq.length,show (qcT us vs).length=min us.length vs.length by simp [qcT]];omega
def qhm (ta:TA3):TI3:=λτ G r=>ta τ G λxs G1=>match xs with
 |[x,y]=>(match jm G1 x,jm G1 y with|some us,some vs=>r (qcT us vs) (λG=>jm G x=some us/\jm G y=some vs) G1|_,_=>False)
 |_=>False
section
variable {X:Cx} {a b e l:Expr} {es:List Expr} {pos:Pos} {t:TA3}
def qdR:List T->Gp->Q3->Prop:=λxs G q=>match xs with
 |[.ref p]=>(match getL G p with|some ys=>(match qfo ys with|some k=>q (.bl k) G|none=>False)|none=>False)
 |_=>False
theorem qaK {K:Frg} {H:Hp}:∀ {ys:List T} {vs:List V} {k:Bool},Rps K H ys vs->qfo ys=some k->∃ ks:List Bool,vs=ks.map V.bl/\ks.all id=k
 |_,_,_,.nil,h=>by cases h;exact ⟨[],rfl,rfl⟩
 |y::ys,_,k,.cons a b,h=>by
  unfold qfo at h;split at h
  ·rename_i e;cases e
  ·rename_i j r e;cases e;split at h
   ·rename_i i ei;obtain ⟨ks,rfl,hk⟩:=qaK b ei;cases a;cases h;exact ⟨j::ks,rfl,by rw [List.all_cons,hk];rfl⟩
   ·cases h
  ·cases h
def qbB {K:Frg}:qck K qdR (λxs H Q=>∃ (p:Addr) (ks:List Bool),xs=[.ref p]/\SqL K H p (ks.map V.bl)/\Q (.bl (ks.all id)) H):=λxs vs G H q Q hr rs h af=>by
 unfold qdR at h;split at h
 ·rename_i p;obtain ⟨v,rfl,r⟩:=T9 rs;cases r;split at h
  ·rename_i ys e0;split at h
   ·rename_i k e1;obtain ⟨us,hs,r2⟩:=zD hr e0;obtain ⟨ks,rfl,hk⟩:=qaK r2 e1;exact ⟨p,ks,rfl,hs,by rw [hk];exact af _ G h _ H (.bl _) hr Kp.refl⟩
   ·exact h.elim
  ·exact h.elim
 ·exact h.elim
end
def qmv:Value->Bool
 |.type t=>t == "list"
 |_=>false
def V8:List (Addr×Obj)->Bool
 |[]=>true
 |p::r=>if qmv p.2.cls then false else V8 r
theorem XA:∀ {K:List (Addr×Obj)} {a:Addr} {o:Obj},V8 K=true->K.lookup a=some o->o.cls≠.type "list"
 |[],_,_,_,e=>by simp at e
 | (b,x)::r,a,o,h,e=>by
  unfold V8 at h;split at h
  ·cases h
  ·rename_i hx;rw [List.lookup_cons] at e;split at e
   ·cases e;intro z;rw [z] at hx;exact hx rfl
   ·exact XA h e
def only (a:Addr) (ns:List Int):Gp:=λb=>if b=a then some (.frz (ns.map T.int)) else none
def qgQ {K:Frg} {H:Hp} {a:Addr} {ns:List Int} (h:∃ o,H a=some (.frz o (.lst (ns.map V.int)))) (t:qhY K H):HR K (only a ns) H:=⟨λb o e=>by
 unfold only at e;split at e
 ·rename_i hb;subst hb;cases e;exact ⟨_,h,Rps.ints ns⟩
 ·exact (nomatch e),t⟩
def RF:Sp3:=λts G q=>∃ (a:Addr) (ns:List Int),ts=[.ref a]/\G a=some (.frz (ns.map T.int))/\ns.length<=63/\∀ G',q (.bl true) G'
def qhN {P:Program} {w:World} {K:Frg} {mg:Str->Option Value} {base:Heap} {x qual:Str} {st:Stmt} {f:Addr} {fd:FuncData} {N ps:List Str} {k:Nat} {sp:Sp3} {t3:TS3} (F:Fun K x qual st f fd) (S:FnScope N ps (qg st))
  (body:∀ (cdv:Value) (A:Around) (outer:List Env) (s:Shared) (H:Hp) (E:XK),Room k (A.deeper (envOfC qual (qg st) s.heap.objs.size f cdv)) ->
   B3 (N9 CX0 P w K mg base N qual (qg st) f cdv A outer s H E).nox (zh st) t3)
  (read:∀ ts G q,sp ts G q->ts.length=ps.length/\t3 { nx:=λ_ G'=>q .non G',rt:=q } (qv N ts) G):FnOk P w K mg base CX0 (k+1) f fd ps (lSp K sp):=by
 refine F.ok S (λvs H Q E ⟨ts,G,q,h1,h2,h3,h4⟩=>by rw [← h2.length];exact (read ts G q h3).1) λcdv A outer s H vs Q E hr ⟨ts,G,q,h1,h2,h3,h4⟩=>?_;refine ⟨_,body cdv A outer s H E hr,qv N ts,G,_,DP h1 h2,(read ts G q h3).2,⟨λτ' G' h' σ' H' rl' k'=>h4 _ G' h' _ H' .non rl'.hp k',h4,λ_ _ z=>z.elim,λ_ _ z=>z.elim⟩⟩
abbrev eh1 (h:Heap) (o1:Obj):Heap:=h.push o1
abbrev eh2 (h:Heap) (o1:Obj):Heap:=(eh1 h o1).push { cls:=.type "enumerate",data:=.fields #[.none,.bool false,.ref h.objs.size,rawInt 0,.none,.none] }
def NU (c:Addr) (o1:Obj) (ob:Obj) :
  Meets (Builtin.«enumerate.__new__» ⟨[.type "enumerate",.ref c],[]⟩) (λ_ R s=>s.heap.get? c=some ob /\
   (∀ (P:Program) (w:World) (A:Around) (Q:Value->Shared->Prop) (E:Value->Shared->Prop),Q (.ref s.heap.objs.size) { s with heap:=eh1 s.heap o1 }->wpAny (model P w) A (pyIter (.ref c)) Q E s) /\
   R (.ok (.ret (.ref (eh1 s.heap o1).objs.size))) { s with heap:=eh2 s.heap o1 }):=
 .of_wp λprog w A R s h=>by
  obtain ⟨hp,g,d,tk,os⟩:=s;obtain ⟨hl,h1,h⟩:=h;have hsub:=sub_enumerate;have k1:=λA Q E=>h1 prog w A Q E
  wp_walk using wpAny_loadPart' hl
  refine wpAny_stack_any λst=>x9 ?_;split
  ·rename_i c _ _ _ _ _;cases (c==Value.type "enumerate")
   ·wp_walk using wpAny_loadPart' hl,k1 _ _ _
    exact ⟨_,rfl,h⟩
   ·wp_walk using wpAny_loadPart' hl,k1 _ _ _
    exact ⟨_,rfl,h⟩
  ·wp_walk using wpAny_loadPart' hl,k1 _ _ _
   exact ⟨_,rfl,h⟩
def qdN {b:Bool} {c:Addr} {xs:Array Value} {h:Heap} (q:TC b c xs h):∃ o,h.get? c=some o:=by
 cases b
 ·obtain ⟨o,e,_⟩:=(show h.IsTuple c xs from q);exact ⟨o,e⟩
 ·obtain ⟨o,e,_⟩:=(show h.IsList c xs from q);exact ⟨o,e⟩
section
variable {P:Program} {w:World} {A:Around} {s:Shared} {E:Value->Shared->Prop}
def qax {b:Bool} {c:Addr} {xs:Array Value} {Q:Value->Shared->Prop} (h1:TC b c xs s.heap)
  (q:∀ h',IsEnum h' (s.heap.objs.size+1) s.heap.objs.size 0 .none->qdn b s.heap.objs.size c 0 h'->(∀ c o,s.heap.get? c=some o->h'.get? c=some o)->Q (.ref (s.heap.objs.size+1)) { s with heap:=h' }) :
  wpAny (model P w) A (call (.type "enumerate") [.ref c]) Q E s:=by
 obtain ⟨ob,hob⟩:=qdN h1;refine callType_new F.called_enumerate (by decide) (F.typeCall_enumerate_1 _) (F.newCall_enumerate_1 _) (λobj=>F.args_object_init_2 obj _) F.entry_enumerate_new
  (NU c (zk b c) ob) ⟨hob,λP w A Q E q=>T2 h1 q,?_⟩
 have e1:(eh1 s.heap (zk b c)).objs.size=s.heap.objs.size+1:=Heap.size_push ..;have g2:(eh2 s.heap (zk b c)).get? (eh1 s.heap (zk b c)).objs.size=some _:=y3 _ rfl;have g1:(eh2 s.heap (zk b c)).get? s.heap.objs.size=some (zk b c):=y2 _ (y3 _ rfl);show _/\_;rw [e1] at g2 ⊢;refine ⟨⟨_,g2,rfl⟩,q _ g2 ?_ λc o e=>y2 _ (y2 _ e)⟩;cases b<;>exact ⟨_,g1,rfl,rfl⟩
end
def qej {P:Program} {w:World} {A:Around} (hh:A.handled=none) (b:Bool) (it c:Addr) (hne:c≠it) (xs:Array Value) :
  Draws P w A it [it,c] xs.size (λi v=>xs[i]?=some v) (λi h=>qdn b it c i h/\TC b c xs h) where
 live:=λi h st=>let ⟨o,e,_⟩:=(zn (P:=P) (w:=w) b it c).obj st.1;⟨o,e⟩
 frame:=λi h h' st hk=>⟨(zn (P:=P) (w:=w) b it c).keep st.1 λo e=>hk it (by simp) o e,(zn (P:=P) (w:=w) b it c).hkeep st.2 λo e=>hk c (by simp) o e⟩
 item:=λi s Q E hi st hQ=>by
  refine (zn (P:=P) (w:=w) b it c).item st.1 st.2 (x:=xs[i]) (by simp [hi]) λh' st' sb=>?_;exact hQ _ h' s.toks (by simp [hi]) ⟨st',(zn (P:=P) (w:=w) b it c).hkeep st.2 λo e=>(sb.2 c hne).trans e⟩ sb
 done:=λs Q E st hE=>(zn (P:=P) (w:=w) b it c).done hh st.1 st.2 (by simp) hE
def CZ {P:Program} {w:World} {A:Around} {s:Shared} {E:Value->Shared->Prop} {b:Bool} {e it c:Addr} {i:Nat} {xs:Array Value} {old:Value} {Q:Option Value->Shared->Prop} (hh:A.handled=none) (he:IsEnum s.heap e it i old) (p1:qdn b it c i s.heap) (l1:TC b c xs s.heap) (hx:xs[i]?=none)
  (hQ:∀ h',Heap.ExtBut it s.heap h'->Q none { s with heap:=h' }):wpAny (model P w) A (pyNext (.ref e)) Q E s:=by
 have hT:s.TypeIs (.ref e) "enumerate" := ⟨_,he,rfl⟩
 unfold pyNext;refine x8 (wpAny_attempt (wpAny_callSpecial?_slot (name:=Str.ofString "__next__") hT F.slot_enumerate_next
  (wpAny_call_entry F.slot_enumerate_next hT F.entry_enumerate_next ?_ (F.args_enumerate_next_1 _))))
 show wpAny _ _ (field (.ref e) 2 >>= _) _ _ _;refine x8 (wpAny_field he rfl (x:=.ref it) rfl ?_);refine x8 ((zn (P:=P) (w:=w) b it c).done (show A.in1.handled=none from hh) p1 l1 hx λh' x he' hx'=>?_);obtain ⟨o,ho,hc⟩:=hx';refine x8 (wpAny_isInstance (T:="StopIteration") (b:=true) ⟨o,ho,hc⟩ isSubtype_stop ?_);exact x9 (hQ _ he')
def Ite (K:Frg) (b:Bool) (c:Addr):It:=
  ⟨λi H=>∃ xs x,SqB K b H c xs/\xs[i]?=some x,
   λi H v H'=>∃ p x,H p=none/\v=.ref p/\H'=upd H p (.tup [.int i,x])/\(∀ xs,SqB K b H c xs->xs[i]?=some x),
   λi H=>∃ xs,SqB K b H c xs/\xs.length<=i⟩
def qlB (b:Bool) (e it c:Addr) (k:Nat) (h:Heap):Prop:=(∃ old,IsEnum h e it k old)/\qdn b it c k h
def qaV {P:Program} {w:World} {K:Frg} {es:List Expr} {k1:Nat} {pt:Pos} {b:Bool} {e it c:Addr} (n1:e≠it) (n2:c≠e) (n3:c≠it):Turn P w K (.Tuple es k1 pt) (Ite K b c) [e,it] e (qlB b e it c) where
 mem:=by simp
 obj:=λi h ⟨⟨old,he⟩,p1⟩ d hd=>by
  simp only [mem_cons,not_mem_nil,or_false] at hd;rcases hd with rfl|rfl
  ·exact ⟨_,he,λv q=>by cases q⟩
  ·exact (zn (P:=P) (w:=w) b d c).obj p1
 keep:=λi h h' ⟨⟨old,he⟩,p1⟩ k=>⟨⟨old,k e (by simp) _ he⟩,(zn (P:=P) (w:=w) b it c).keep p1 λo e=>k it (by simp) o e⟩
 item:=by
  intro X hP hw hK hc i pins s σ H E I hf st hg;subst hP hw hK;obtain ⟨xs,x,sq,hx⟩:=hg;obtain ⟨its,rv,l1,z1⟩:=sq.get I;obtain ⟨u,hu,ru⟩:=rv.get hx;obtain ⟨⟨old,he⟩,p1⟩:=st;have hil:i<its.toArray.size:=by have:=(za4 hu).1;simpa using this
  refine wpAny_pyNext_enum_itemD (qej (show X.A.in1.handled=none from I.ok.hd hc) b it c n3 its.toArray) he ⟨p1,l1⟩ hil n1 (by simp only [mem_cons,not_mem_nil,or_false,not_or];exact ⟨n1,Ne.symm n2⟩) λy h' tk hy ho st' ht hsz hk=>?_;have hy':y=u:=by
   have:its.toArray[i]?=some u:=by simpa using hu
   rw [this] at hy;exact (Option.some.inj hy).symm
  subst hy';have hfr:H s.heap.objs.size=none:=I.fresh;have free:∀ b∈[e,it],H b=none:=λb hb=>(hf b hb).1;refine ⟨_,rfl,wpAny_letOwnedTupleGo_enum ho λh2 hz2 s2=>?_⟩;have elt:e<s.heap.objs.size:=y4 he;have hp2:h2.get? s.heap.objs.size=some { cls:=.type "tuple",data:=.seq #[.int i tk,y] }:=(s2.2 _ (Nat.ne_of_gt elt)).trans ht;have up:∀ c o,c≠e->h'.get? c=some o->h2.get? c=some o:=λc o hc e=>(s2.2 c hc).trans e;have kk:∀ c o,c∉[e,it]->s.heap.get? c=some o->h2.get? c=some o:=λc o hc q=>by
   simp only [mem_cons,not_mem_nil,or_false,not_or] at hc;exact up c o hc.1 (hk c o hc.1 hc.2 q)
  have I3:Inv X pins σ (upd H s.heap.objs.size (.tup [.int i,x])) { s with heap:=h2,toks:=tk+1 }:=SS I hf ⟨tk,rfl⟩ ru hp2 kk;refine ⟨.ref s.heap.objs.size,_,I3,rfl,⟨_,x,hfr,rfl,rfl,λzs q=>by rw [q.inj I sq];exact hx⟩,⟨⟨_,by push_cast;exact hz2⟩,(zn (P:=X.prog) (w:=X.w) b it c).keep st'.1 λo e=>up _ o (Ne.symm n1) e⟩,λb hb=>?_⟩;rw [qo (λq=>?_)]
  ·exact free b hb
  ·subst q;simp only [mem_cons,not_mem_nil,or_false] at hb;rcases hb with q|q
   ·exact absurd q (Nat.ne_of_gt elt)
   ·obtain ⟨o,e,_⟩:=(zn (P:=X.prog) (w:=X.w) b it c).obj p1;exact absurd q (Nat.ne_of_gt (y4 e))
 done:=by
  intro X hP hw hK hc i pins s σ H E I hf st hg;subst hP hw hK;obtain ⟨xs,sq,hend⟩:=hg;obtain ⟨its,rv,l1,z1⟩:=sq.get I;obtain ⟨⟨old,he⟩,p1⟩:=st;have e1:=rv.length;have free:∀ b∈[e,it],H b=none:=λb hb=>(hf b hb).1;refine CZ (I.ok.hd hc) he p1 l1 (by simp;omega) λh' hk0=>⟨rfl,?_⟩
  have hk:∀ c o,c∉[e,it]->s.heap.get? c=some o->h'.get? c=some o:=λc o hcb q=>hk0 c o (by simp only [mem_cons,not_mem_nil,or_false,not_or] at hcb;exact hcb.2) q;refine I.step (g':=s.gens) (d':=s.drawn) (t':=s.toks) (ch:=[e,it]) (λb hb=>?_) (λb o _ _ hcb e _=>hk b o hcb e) (λb o _ _ hcb e _=>⟨o.slots,hk b o hcb e⟩) (λ_ _ _ _ n=>n) (λb o hcb e=>⟨o,hk b o hcb e⟩) (λ_ _ e=>e) (λ_ _ _ e=>e) (λb ps e=>⟨#[],by rw [e];simp⟩) (λm hm=>?_) (λb u e=>?_) I.bare
  ·obtain ⟨f0,f1,f2,f3,f4,f5⟩:=hf b hb;exact ⟨f3,f1,f4,f5⟩
  ·obtain ⟨o,es',ep,ho',r⟩:=hm;refine ⟨o,es',ep,hk _ o (λq=>?_) ho',r⟩;obtain ⟨f0,f1,_⟩:=hf X.env.locals q;exact f1 rfl
  ·refine (I.hok b u e).stay (λc v hcb q=>hk c v (λm=>?_) q) (λ_ q=>q) λ_ _ q=>q;have hn:=free c m;rcases hcb with q|q
   ·rw [q] at hn;rw [hn] at e;cases e
   ·rw [hn] at q;cases q
 self:=λA i s Q E st h=>let ⟨⟨old,he⟩,_⟩:=st;wpAny_pyIter_enum he h
section
variable {X:Cx} {a b e l:Expr} {es:List Expr} {pos:Pos}
def qgi {p pt:Pos} {k1:Nat} {ta:TA} (hg:Gl X "enumerate") (hm:X.mg "enumerate" = none) (ha:PA X [a] ta) (hs:starEach [a] X.env=[(false,eval a X.env)]:=by rfl) :
  PI X (.Tuple es k1 pt) (.Call (.Name "enumerate" p) [a] [] pos) (λσ H R=>ta σ H λvs H1=>∃ b1 c1 xs,vs=[.ref c1]/\SqB X.K b1 H1 c1 xs/\R (Ite X.K b1 c1) H1):=by
 intro pins s σ H R I h;refine Call_ (VB I hg hm PyProof.Rows.boot_enumerate (PyProof.Rows.callWith_type1 (thn (ha pos pins s σ H _ I h) λus s1 ⟨vs,H1,I1,r1,q1⟩=>?_) (by rw [hs];rfl) (by rfl)));obtain ⟨b1,c1,xs,rfl,sq1,q⟩:=q1;obtain ⟨u1,rfl,e1⟩:=XI r1;cases (show u1=Value.ref c1 from e1);obtain ⟨its1,rv1,l1,z1⟩:=sq1.get I1;refine qax l1 λh' he hit hk=>wpAny_pyIter_enum he ?_;have lt:=qgp l1;have ne3:∀ n c:Nat,c<n->n+1≠n/\c≠n+1/\c≠n:=λn c h=>by omega
 obtain ⟨m1,m2,m3⟩:=ne3 _ _ lt;refine ⟨s1.heap.objs.size+1,[s1.heap.objs.size+1,s1.heap.objs.size],_,_,H1,rfl,I1.kept (t':=s1.toks) hk,qaV m1 m2 m3,⟨⟨_,he⟩,hit⟩,λc hc=>?_,q⟩;have hle:s1.heap.objs.size<=c:=by
  simp only [mem_cons,not_mem_nil,or_false] at hc;rcases hc with rfl|rfl<;>first|exact v5 _|exact Nat.le_add_right _ _
 exact I1.fpOk hle (I1.hok.fresh hle)
end
def jB (k:Nat):List T->List T
 |[]=>[]
 |x::r=>.tup [.int (k:Int),x]::jB (k+1) r
def qdJ (us:List T):List T:=jB 0 us
theorem UN:∀ {us:List T} {k i:Nat} {x:T},(jB k us)[i]?=some x->∃ a,us[i]?=some a/\x=.tup [.int ((k+i:Nat):Int),a]
 |[],_,_,_,h=>by simp [jB] at h
 |u::us,k,0,x,h=>by simp [jB] at h;exact ⟨u,rfl,by simp [← h]⟩
 |u::us,k,i+1,x,h=>by
  simp [jB] at h;obtain ⟨a,ha,hx⟩:=UN h;exact ⟨a,by simpa using ha,by rw [hx];congr 4;omega⟩
theorem UU:∀ (us:List T) (k:Nat),(jB k us).length=us.length
 |[],_=>rfl
 |u::us,k=>by simp [jB,UU us]
def qbl (us:List T):(qdJ us).length=us.length:=UU us 0
def RN {us:List T} {i:Nat} {x:T} (h:(qdJ us)[i]?=some x):∃ a,us[i]?=some a/\x=.tup [.int (i:Int),a]:=by
 obtain ⟨a,ha,hx⟩:=UN h;exact ⟨a,ha,by rw [hx];congr 4;omega⟩
def qlt {K:Frg} {b1:Bool} {c1:Addr} {x:T} {us:List T} {G0:Gp} {H0:Hp}
  (f1:∀ G H,HR K G H->Kp G0 H0 G H->jm G x=some us->∃ vs,SqB K b1 H c1 vs/\Rps K H us vs) :
  qhX K (Ite K b1 c1) (qdJ us) (λG=>jm G x=some us) G0 H0:=by
 intro G H hr k h1;obtain ⟨p,sp,rp⟩:=f1 G H hr k h1;refine ⟨λi z hz=>?_,λi z v H' hz hy=>?_,⟨p,sp,?_⟩⟩
 ·obtain ⟨a,ha,_⟩:=RN hz;obtain ⟨v,hv,_⟩:=rp.get ha;exact ⟨p,v,sp,hv⟩
 ·obtain ⟨a,ha,rfl⟩:=RN hz;obtain ⟨t,v1,ht,rfl,rfl,g1⟩:=hy;obtain ⟨v,hv,rv⟩:=rp.get ha;have e1:=(g1 p sp).symm.trans hv;obtain rfl:v1=v:=Option.some.inj e1;have kk:Kp G H G (upd H t (.tup [.int i,v1])):=Kp.laid ht;exact ⟨.tup (SqT.of qH) (.cons (.int _) (.cons (rv.keep hr kk) .nil)),hr.laid ht,kk⟩
 ·rw [← rp.length,qbl];exact v5 _
def EW (ta:TA3):TI3:=λτ G r=>ta τ G λxs G1=>match xs with
 |[x]=>(match jm G1 x with|some us=>r (qdJ us) (λG=>jm G x=some us) G1|_=>False)
 |_=>False
section
variable {X:Cx} {a b e l:Expr} {es:List Expr} {pos:Pos} {t:TA3}
end
section
variable {X:Cx} {a b c e:Expr} {es:List Expr} {ta tb tc te:TE3} {t:TA3} {pos:Pos}
def qjK (i:Nat) (r:R3) (te:TE3):TS3:=λd τ G=>match τ[i]? with
 |some (some x)=>te τ G λy G1=>r x y G1 λz G2=>d.nx (τ.set i (some z)) G2
 |_=>False
def X4:List T->Option (List Int)
 |[]=>some []
 |.int i::r=>(match X4 r with|some ns=>some (i::ns)|none=>none)
 |_=>none
def EO (ns:List Int):X4 (ns.map T.int)=some ns:=by
 induction ns with
 |nil=>rfl
 |cons n r ih=>simp [X4,ih]
theorem U9:∀ {xs:List T} {ns:List Int},X4 xs=some ns->xs=ns.map T.int
 |[],_,h=>by simp [X4] at h;subst h;rfl
 |x::r,ns,h=>by
  unfold X4 at h;split at h
  ·rename_i e;cases e
  ·rename_i i r' e;cases e;split at h
   ·rename_i ms e2;cases h;rw [U9 e2];rfl
   ·cases h
  ·cases h
theorem EI {K:Frg} {H:Hp}:∀ {ns:List Int} {vs:List V},Rps K H (ns.map T.int) vs->vs=ns.map V.int
 |[],_,r=>by cases r;rfl
 |n::ns,_,r=>by
  cases r with
  |cons a b=>cases a;rw [EI b];rfl
end
section
variable {X:Cx}
def qdU {i:Nat} {y:Str} {py spos:Pos} {elt tg iter:Expr} {ifs:List Expr} {scope:Scope} {pos:Pos} {N':List Str} {m:List (Option Nat)} {wi:TI} {g:TG} {tif:TT} {te:TE} (hc:X.calm=true) (hN:X.N.Nodup) (hi:PI X tg iter wi)
  (hg:∀ s H fp,PG (qr X N' scope s H fp) tg g) (hf:∀ s H fp,PF (qr X N' scope s H fp) ifs tif) (he:∀ s H fp,PE (qr X N' scope s H fp) elt te)
  (hsc:qcM X.env.scope scope=true) (hcap:UF X.N N' scope m=true) (hs:∀ x,foldedSetIterable iter X.env x=pure x) (hiy:X.N[i]?=some y) (hl:X.env.scope.names.lookup y=some .local)
  (hsw:swapsWith (.ListComp elt [⟨tg,iter,ifs,0⟩] scope pos) (some (.Name y py)) spos.line X.env=pure true) :
  PS X (.Assign [.Name y py] (.ListComp elt [⟨tg,iter,ifs,0⟩] scope pos) spos) (qmH (tLG wi g tif (tAp te) m) (qgh i)):=by
 intro pins s σ H D I h;rw [exec_Assign_Name_used _ _ _ _ hsw];refine x8 (wpAny_standAt (x8 ?_));show wpAny _ X.A (do let _←comprehension (.ListComp elt [⟨tg,iter,ifs,0⟩] scope pos) scope X.env _ (newList []) false (eval iter X.env) (some (assign (.Name y py) X.env))) _ _ s;refine x8 (y0 (KH (gs:=[]) (bd:=apB elt) (use:=some (assign (.Name y py) X.env)) (QD:=λD' H'=>D.nx (σ.set i (some (.ref D'))) H') (Qc:=λ_ s'=>∃ σ' H',Inv X pins σ' H' s'/\D.nx σ' H') hc hi (λ_ _ _=>rfl) hg hf (λs H fp D kk=>qhl (λ_ _ z=>z) (he s H fp)) hsc hcap hs I h λD' s3 H3 fp s6 H6 σ6 r I3 f3 I6 q=>?_) (λ_ s' hq=>x9 (x9 hq)) λ_ _ e=>e);have I7:Inv X pins σ H6 s6:=W8 (h2:=s6.heap) I3 f3 I6 ⟨rfl,λ_ _=>rfl⟩;obtain ⟨mm,hn6,_⟩:=I6.loc;have hfC:KC X pins H6 s3.heap.objs.size:=I3.fpOk (v5 _) I6.free;obtain ⟨f0,f1,f2,f3',f4,f5⟩:=hfC;show wpAny _ X.A (assign (.Name y py) X.env (.ref D')) _ _ _;refine wpAny_assign_Name (RX I7 hN hiy (.inl hl) (v:=.ref D') rfl (λs8 I8 hch=>?_) (.inr hl));obtain ⟨a,sb,ha⟩:=hch;have hne:s3.heap.objs.size≠a:=by
  rcases ha with rfl|ha
  ·exact f1
  ·exact Ne.symm (f4 _ _ ha)
 refine ⟨mm,hn6.sameBut sb hne,λh' sb'=>⟨_,_,I8.turned (t':=s8.toks) (λb o hb e=>(sb'.2 b hb).trans e) f0 f1 f3' f4 f5,q⟩⟩
end
end L3
set_option autoImplicit true
namespace L3
open PySem PySem.Spec PyProof.Rows L2
structure jE3 (X:Cx) (e:Expr) (t:TE3):Prop where h:E3 X e t
structure jC3 (X:Cx) (e:Expr) (t:TT3):Prop where h:C3 X e t
structure jW3 (X:Cx) (e:Expr) (t:TT3):Prop where h:W3 X e t
structure jA3 (X:Cx) (e:List Expr) (t:TA3):Prop where h:A3 X e t
structure jP3 (X:Cx) (e:Option Expr) (t:TO3):Prop where h:P3 X e t
structure jS3 (X:Cx) (e:Stmt) (t:TS3):Prop where h:S3 X e t
structure jB3 (X:Cx) (e:List Stmt) (t:TS3):Prop where h:B3 X e t
structure jG3 (X:Cx) (e:Expr) (t:TG3):Prop where h:G3 X e t
structure jGs3 (X:Cx) (e:List Expr) (t:LM):Prop where h:Gs3 X e t
structure jI3 (X:Cx) (tg e:Expr) (t:TI3):Prop where h:I3 X tg e t
structure jF3 (X:Cx) (e:List Expr) (t:TT3):Prop where h:F3 X e t
def qc {X:Cx} (i:Nat) {x:Str} {pos:Pos} (hN:X.N[i]?=some x:=by rfl) (hv:Vis X.env.scope x:=by first|exact Or.inl rfl|exact Or.inr (Or.inl rfl)|exact Or.inr (Or.inr rfl)) (hd:(x==("__debug__" : Str))=false:=by decide)
  (hcd:(x==("__classdict__" : Str))=false:=by decide):jE3 X (.Name x pos) (v3 i):=⟨by
 refine WK (qix (i:=i) hN hv hd hcd) λσ H Q ⟨τ,G,q,r,h,af⟩=>?_;unfold v3 at h;split at h
 ·rename_i t e;obtain ⟨v,e2,rv⟩:=r.st i t e;exact ⟨v,e2,af t G h v H rv r.hp Kp.refl⟩
 ·exact h.elim⟩
def qi {X:Cx} {i:Int} {j pos}:jE3 X (.Constant (.int i) j pos) (c3 (.int i)):=⟨e_c qji λ_=>.int i⟩
def J5 {X:Cx} {b:Bool} {j pos}:jE3 X (.Constant (.bool b) j pos) (c3 (.bl b)):=⟨e_c qni λ_=>.bl b⟩
def JP {X:Cx} {j pos}:jE3 X (.Constant .none j pos) (c3 .non):=⟨e_c qiA λ_=>.non⟩
def UW {X:Cx} {x:Str} {j pos}:jE3 X (.Constant (.str x) j pos) (c3 (.str x)):=⟨e_c qky λ_=>.str x⟩
def QF {ta:TE3} {tb:TE3} {pos:Pos} {a:Expr} {b:Expr} {X:Cx} {op:CmpOp} {r3:R3} {r:R2} (ho:OpR X (compareOp op) r) (hr:XN X.K r3 r) (ha:jE3 X a ta) (hb:jE3 X b tb) (hm:behindInMarks op b=false):jE3 X (.Compare a [op] [b] pos) (o3 r3 ta tb):=⟨have ha:=ha.h;have hb:=hb.h;WK (qhF ho ha hb hm) λ_ _ _ h=>qbv hr h⟩
def qW {ta:TE3} {tb:TE3} {pos:Pos} {a:Expr} {b:Expr} {X:Cx} {op:CmpOp} {r3:R3} {r:R2} (ho:OpR X (compareOp op) r) (hr:XN X.K r3 r) (ha:jE3 X a ta) (hb:jE3 X b tb) (hm:behindInMarks op b=false):jC3 X (.Compare a [op] [b] pos) (tb3 (o3 r3 ta tb)):=⟨have ha:=ha.h;have hb:=hb.h;ql1 (qgE ho ha hb hm) λ_ _ _ h=>qhK (λ_ _ _=>qbv hr) h⟩
def LQ {ta:TE3} {tb:TE3} {tc:TE3} {pos:Pos} {a:Expr} {b:Expr} {c:Expr} {X:Cx} {op op':CmpOp} {r3 r3':R3} {r r':R2} (ho:OpR X (compareOp op) r) (hr:XN X.K r3 r) (ho':OpR X (compareOp op') r') (hr':XN X.K r3' r') (ha:jE3 X a ta) (hb:jE3 X b tb) (hc:jE3 X c tc)
  (hm:lastMarks [op,op'] [b,c]=false:=by with_unfolding_all rfl):jC3 X (.Compare a [op,op'] [b,c] pos) (tb3 (ch3 r3 r3' ta tb tc)):=⟨have ha:=ha.h;have hb:=hb.h;have hc:=hc.h;ql1 (qdk ho ho' ha hb hc hm) λ_ _ _ h=>qhK (λ_ _ _=>qmx hr hr') h⟩
def K7 {ta:TE3} {tb:TE3} {pos:Pos} {a:Expr} {b:Expr} {X:Cx} (ha:jE3 X a ta) (hb:jE3 X b tb):jE3 X (.BinOp a .Sub b pos) (o3 (iI (·-·)) ta tb):=⟨have ha:=ha.h;have hb:=hb.h;qcS qiu qaC ha hb⟩
def YR {ta:TE3} {tb:TE3} {pos:Pos} {a:Expr} {b:Expr} {X:Cx} (ha:jE3 X a ta) (hb:jE3 X b tb):jE3 X (.BinOp a .Mult b pos) (o3 (iC EF (·*·)) ta tb):=⟨have ha:=ha.h;have hb:=hb.h;qcS qkJ W1 ha hb⟩
def DF {ta:TE3} {tb:TE3} {pos:Pos} {a:Expr} {b:Expr} {X:Cx} (ha:jE3 X a ta) (hb:jE3 X b tb):jE3 X (.BinOp a .Mod b pos) (o3 (iC (λ_ j=>0<j) (·%·)) ta tb):=⟨have ha:=ha.h;have hb:=hb.h;qcS qlq W1 ha hb⟩
def MN {ta:TE3} {tb:TE3} {pos:Pos} {a:Expr} {b:Expr} {X:Cx} (ha:jE3 X a ta) (hb:jE3 X b tb):jE3 X (.BinOp a .FloorDiv b pos) (o3 (iC qdA (·/·)) ta tb):=⟨have ha:=ha.h;have hb:=hb.h;qcS qhz W1 ha hb⟩
def qjr {ta:TE3} {tb:TE3} {pos:Pos} {a:Expr} {b:Expr} {X:Cx} (ha:jE3 X a ta) (hb:jE3 X b tb):jE3 X (.BinOp a .Pow b pos) (o3 (iC qbo (λi j=>i ^ j.toNat)) ta tb):=⟨have ha:=ha.h;have hb:=hb.h;qcS qk7 W1 ha hb⟩
def K4 {ta:TE3} {tb:TE3} {pos:Pos} {a:Expr} {b:Expr} {X:Cx} (ha:jE3 X a ta) (hb:jE3 X b tb):jE3 X (.BinOp a .BitXor b pos) (o3 (iI Builtin.bitXor) ta tb):=⟨have ha:=ha.h;have hb:=hb.h;qcS qjU qaC ha hb⟩
def qgS {ta:TE3} {tb:TE3} {pos:Pos} {a:Expr} {b:Expr} {X:Cx} (ha:jE3 X a ta) (hb:jE3 X b tb):jE3 X (.BinOp a .BitAnd b pos) (o3 (iI Builtin.bitAnd) ta tb):=⟨have ha:=ha.h;have hb:=hb.h;qcS qk5 qaC ha hb⟩
def qeR {ta:TE3} {tb:TE3} {pos:Pos} {a:Expr} {b:Expr} {X:Cx} (ha:jE3 X a ta) (hb:jE3 X b tb):jE3 X (.BinOp a .LShift b pos) (o3 (iC qbo (λi j=>i*2 ^ j.toNat)) ta tb):=⟨have ha:=ha.h;have hb:=hb.h;qcS qkB W1 ha hb⟩
def qjZ {ta:TE3} {tb:TE3} {pos:Pos} {a:Expr} {b:Expr} {X:Cx} (ha:jE3 X a ta) (hb:jE3 X b tb):jE3 X (.BinOp a .RShift b pos) (o3 (iC (λ_ j=>0<=j) (λi j=>i/2 ^ j.toNat)) ta tb):=⟨have ha:=ha.h;have hb:=hb.h;qcS qlr W1 ha hb⟩
def qhr {tA:TT3} {pos:Pos} {a:Expr} {X:Cx} (ha:jC3 X a tA):jW3 X (.BoolOp .And [a] pos) tA:=⟨have ha:=ha.h;qg1 ha⟩
def UO {tA:TT3} {pos:Pos} {a:Expr} {X:Cx} (ha:jC3 X a tA):jW3 X (.BoolOp .Or [a] pos) tA:=⟨have ha:=ha.h;qlH ha⟩
def qke {JD:List Expr} {tA:TT3} {tB:TT3} {pos:Pos} {a:Expr} {X:Cx} (ha:jC3 X a tA) (hb:jW3 X (.BoolOp .And (b::JD) pos) tB):jW3 X (.BoolOp .And (a::b::JD) pos) (qmf tA tB):=⟨have ha:=ha.h;have hb:=hb.h;qoo (qlx ha hb) λ_ _ _ ⟨τ,G,q,rl,h,af⟩=>XC rl h λk G1 h1 H1 hr1 k1 rl1=>by
  cases k with
  |true=>rw [if_pos rfl] at h1 ⊢;exact ⟨τ,G1,q,rl1,h1,af.back k1⟩
  |false=>rw [if_neg y6] at h1 ⊢;exact af _ G1 h1 H1 hr1 k1⟩
def DX {JD:List Expr} {tA:TT3} {tB:TT3} {pos:Pos} {a:Expr} {X:Cx} (ha:jC3 X a tA) (hb:jW3 X (.BoolOp .Or (b::JD) pos) tB):jW3 X (.BoolOp .Or (a::b::JD) pos) (or3 tA tB):=⟨have ha:=ha.h;have hb:=hb.h;qoo (qnF ha hb) λ_ _ _ ⟨τ,G,q,rl,h,af⟩=>XC rl h λk G1 h1 H1 hr1 k1 rl1=>by
  cases k with
  |true=>rw [if_pos rfl] at h1 ⊢;exact af _ G1 h1 H1 hr1 k1
  |false=>rw [if_neg y6] at h1 ⊢;exact ⟨τ,G1,q,rl1,h1,af.back k1⟩⟩
def ZW {tA:TT3} {pos:Pos} {a:Expr} {X:Cx} (ha:jC3 X a tA):jC3 X (.UnaryOp .Not a pos) (TB tA):=⟨have ha:=ha.h;ql1 (qlI ha) λ_ _ _ ⟨τ,G,q,rl,h,af⟩=>XC rl h λk G1 h1 H1 hr1 k1 rl1=>af _ G1 h1 H1 hr1 k1⟩
def jG {X:Cx} {e:Expr} {t:TE3} (h:jE3 X e t) (he:∀ whole,isTrue e X.env whole=(do let v←whole;standAt e.pos;holding [v] (truthy v)):=by intro _;rfl):jC3 X e (tb3 t):=⟨have h:=h.h;ql1 (qj8 h he) λ_ _ _ h=>qhK (λ_ _ _ h=>h) h⟩
def DZ {ta:TE3} {pos:Pos} {a:Expr} {X:Cx} {op} (h:jE3 X a ta):jE3 X (.BoolOp op [a] pos) ta:=⟨have h:=h.h;qla h⟩
def JS {JD:List Expr} {ta:TE3} {tb:TE3} {pos:Pos} {a:Expr} {X:Cx} (ha:jE3 X a ta) (hb:jE3 X (.BoolOp .And (b::JD) pos) tb):jE3 X (.BoolOp .And (a::b::JD) pos) (VQ ta tb):=⟨have ha:=ha.h;have hb:=hb.h;WK (qih ha hb) λ_ _ _ ⟨τ,G,q,rl,h,af⟩=>zf rl h λx G1 h1 v H1 rx hr1 k1 rl1=>by
  cases x with
  |bl k=>
   cases rx;refine ⟨k,rfl,?_⟩;cases k with
   |true=>rw [if_pos rfl];exact ⟨τ,G1,q,rl1,(show tb τ G1 q from by simpa using h1),af.back k1⟩
   |false=>rw [if_neg y6];exact af _ G1 (by simpa using h1) _ H1 (.bl false) hr1 k1
  |_=>exact h1.elim⟩
def qbq {ta:TE3} {pos:Pos} {a:Expr} {X:Cx} (ha:jE3 X a ta):jE3 X (.UnaryOp .Not a pos) (qcY ta):=⟨have ha:=ha.h;WK (qj2 ha) λ_ _ _ ⟨τ,G,q,rl,h,af⟩=>zf rl h λx G1 h1 v H1 rx hr1 k1 rl1=>by
  cases x with
  |bl k=>cases rx;exact ⟨k,rfl,af _ G1 h1 _ H1 (.bl _) hr1 k1⟩
  |_=>exact h1.elim⟩
def qhh {tA:TT3} {ta:TE3} {tb:TE3} {pos:Pos} {a:Expr} {b:Expr} {X:Cx} {c:Expr} (hc:jC3 X c tA) (ha:jE3 X a ta) (hb:jE3 X b tb):jE3 X (.IfExp c a b pos) (if3 tA ta tb):=⟨have hc:=hc.h;have ha:=ha.h;have hb:=hb.h;WK (qdC hc ha hb) λ_ _ _ ⟨τ,G,q,rl,h,af⟩=>XC rl h λk G1 h1 H1 hr1 k1 rl1=>by
  cases k with
  |true=>rw [if_pos rfl] at h1 ⊢;exact ⟨τ,G1,q,rl1,h1,af.back k1⟩
  |false=>rw [if_neg y6] at h1 ⊢;exact ⟨τ,G1,q,rl1,h1,af.back k1⟩⟩
def qe {X:Cx} :jA3 X [] ql:=⟨qnV L6 λ_ H _ ⟨τ,G,q,rl,h,af⟩=>af _ G h _ H .nil rl.hp Kp.refl⟩
def qb {te:TE3} {t:TA3} {es:List Expr} {X:Cx} (ha:jE3 X e te) (hr:jA3 X es t) (hs:starEach (e::es) X.env=(false,eval e X.env)::starEach es X.env:=by rfl):jA3 X (e::es) (qd te t):=⟨have ha:=ha.h;have hr:=hr.h;qnV (j6 ha hr hs) λ_ _ _ ⟨τ,G,q,rl,h,af⟩=>zf rl h λx G1 h1 v H1 rx hr1 k1 rl1=>ZK rl1 h1 λxs G2 h2 vs H2 rs hr2 k2 rl2=>
  af _ G2 h2 _ H2 (.cons (rx.keep hr1 k2) rs) hr2 (k1.trans k2)⟩
def DM {t:TA3} {pos:Pos} {es:List Expr} {X:Cx} {x1} (h:jA3 X es t):jE3 X (.Tuple es x1 pos) (qcW t):=⟨have h:=h.h;WK (qfv h) λ_ _ _ ⟨τ,G,q,rl,h,af⟩=>ZK rl h λxs G1 h1 vs H1 rs hr1 k1 rl1=>⟨by rw [← rs.length];exact h1.1,λp hp=>
  af _ G1 h1.2 _ _ (.tup (SqT.of qH) (rs.keep hr1 (Kp.laid hp))) (hr1.laid hp) (k1.trans (Kp.laid hp))⟩⟩
def zo {t:TA3} {pos:Pos} {es:List Expr} {X:Cx} (h:jA3 X es t):jE3 X (.List es pos) (UM t):=⟨have h:=h.h;WK (qk6 h) λ_ _ _ ⟨τ,G,q,rl,h,af⟩=>ZK rl h λxs G1 h1 vs H1 rs hr1 k1 rl1=>⟨by rw [← rs.length];exact h1.1,λp hp=>
  af _ _ (h1.2 p (hr1.free hp)) _ _ (.ref p) (hr1.newL hp rs) (k1.trans (Kp.newL hp))⟩⟩
def qA {t:TA3} {pos:Pos} {es:List Expr} {X:Cx} {x:Str} {p:Pos} {id:String} {r3:List T->Gp->Q3->Prop} {r:List V->Hp->VK->Prop} (hc:JX X (.builtin id) r) (hr:qck X.K r3 r) (hg:Gl X x) (hm:X.mg x=none) (hv:bootBuiltins x=some (.builtin id)) (ha:jA3 X (e::es) t) (hn:x≠"__name__" := by decide) (hdb:(x==("__debug__" : Str))=false:=by decide)
  (he:starEach (e::es) X.env=(false,eval e X.env)::starEach es X.env:=by rfl) (hpl:(backTo pos (starEach es X.env)).any (·.1)=false:=by rfl):jE3 X (.Call (.Name x p) (e::es) [] pos) (cb3 r3 t):=⟨have ha:=ha.h;WK (CA hc hg hm hv ha hn hdb he hpl) λ_ _ _ h=>qkr hr h⟩
def YN {t:TA3} {pos:Pos} {es:List Expr} {X:Cx} {x:Str} {p:Pos} {ty:String} {r3:List T->Gp->Q3->Prop} {r:List V->Hp->VK->Prop} (hc:JX X (.type ty) r) (hr:qck X.K r3 r) (hg:Gl X x) (hm:X.mg x=none) (hv:bootBuiltins x=some (.type ty)) (ha:jA3 X (e::es) t) (hn:x≠"__name__" := by decide) (hdb:(x==("__debug__" : Str))=false:=by decide)
  (he:starEach (e::es) X.env=(false,eval e X.env)::starEach es X.env:=by rfl) (hpl:(backTo pos (starEach es X.env)).any (·.1)=false:=by rfl):jE3 X (.Call (.Name x p) (e::es) [] pos) (cb3 r3 t):=⟨have ha:=ha.h;WK (qaA hc hg hm hv ha hn hdb he hpl) λ_ _ _ h=>qkr hr h⟩
def ZT {ta:TE3} {tb:TE3} {pos:Pos} {a:Expr} {b:Expr} {X:Cx} (ha:jE3 X a ta) (hb:jE3 X b tb) (hs:qcB b:=by intro _ _;rfl):jE3 X (.Subscript a b pos) (o3 ix3 ta tb):=⟨have ha:=ha.h;have hb:=hb.h;WK (qnp qiF ha hb hs) λ_ _ _ h=>qbv qjW h⟩
def T4 {X:Cx} :jP3 X none np3:=⟨qoq qhf λ_ H _ ⟨τ,G,q,rl,h,af⟩=>af none G h H rl.hp Kp.refl⟩
def KN {te:TE3} {e:Expr} {X:Cx} (h:jE3 X e te):jP3 X (some e) (sp3 te):=⟨have h:=h.h;qoq (qgt h) λ_ _ _ ⟨τ,G,q,rl,h,af⟩=>zf rl h λx G1 h1 v H1 rx hr1 k1 rl1=>by
 cases x<;>try exact h1.elim
 cases rx;exact ⟨_,rfl,af _ G1 h1 H1 hr1 k1⟩⟩
def C5 {te:TE3} {pos:Pos} {e:Expr} {X:Cx} {lo hi:Option Expr} {tl th:TO3} {p2:Pos} (he:jE3 X e te) (hl:jP3 X lo tl) (hu:jP3 X hi th):jE3 X (.Subscript e (.Slice lo hi none p2) pos) (qh4 te tl th):=⟨have he:=he.h;have hl:=hl.h;have hu:=hu.h;WK (qdy (qjO.or qhy) he hl hu) λ_ _ _ ⟨τ,G,q,rl,h,af⟩=>zf rl h λx G1 h1 v H1 rx hr1 k1 rl1=>
  ⟨τ,G1,_,rl1,h1,λl G2 h2 H2 hr2 k2=>⟨τ,G2,_,rl1.next hr2 k2,h2,λu G3 h3 H3 hr3 k3=>by
   have kk:=(k1.trans k2).trans k3;have rx3:=(rx.keep hr1 k2).keep hr2 k3;cases x<;>try exact h3.elim
   case tup xs=>
    cases rx3 with
    |tup hs rs=>
     refine .inl ⟨_,_,rfl,hs,by rw [← rs.length];exact h3.1,λp hp=>?_⟩;exact af _ G3 h3.2 _ _ (.tup (SqT.of qH) ((rs.cut _ _).keep hr3 (Kp.laid hp))) (hr3.laid hp) (kk.trans (Kp.laid hp))
   case ref p=>
    unfold sl3 at h3;simp only at h3;split at h3
    ·rename_i xs e0;cases rx3;obtain ⟨vs,hs,rs⟩:=zD hr3 e0;refine .inr ⟨p,vs,rfl,hs,λa ha=>?_⟩;exact af _ _ (h3 a (hr3.free ha)) _ _ (.ref a) (hr3.newL ha (rs.cut _ _)) (kk.trans (Kp.newL ha))
    ·exact h3.elim⟩⟩⟩
def zb {ta:TE3} {tb:TE3} {pos:Pos} {a:Expr} {b:Expr} {X:Cx} (ha:jE3 X a ta) (hb:jE3 X b tb):jE3 X (.BinOp a .Add b pos) (o3 Z3 ta tb):=⟨have ha:=ha.h;have hb:=hb.h;qcS ((qkd.or qgL).or qiw) qhP ha hb⟩
def Z4 {t:TA3} {e:Expr} {X:Cx} {o:Expr} {to:TE3} {apos cpos:Pos} (ho:jE3 X o to) (ha:jA3 X [e] t)
  (hbase:attributeBase o "append" X.env (eval o X.env)=eval o X.env:=by rfl)
  (hfew:((backTo cpos (starEach [e] X.env)).all (λx=>!x.1)&&(backToKw cpos (keywordEach [] X.env)).all (λx=>x.1.isSome)
   && decide (([e]:List Expr).length+([]:List Keyword).length+(if ([]:List Keyword).isEmpty then 0 else 1)<30))=true:=by rfl)
  (hline:(apos.endLine==cpos.line)=true:=by rfl) (hs:starEach [e] X.env=(false,eval e X.env)::starEach [] X.env:=by rfl) (hplain:(backTo cpos (starEach [] X.env)).any (·.1)=false:=by rfl):jE3 X (.Call (.Attribute o "append" apos) [e] [] cpos) (bm3 TQ to t):=⟨have ho:=ho.h;have ha:=ha.h;qnN PySem.F.slot_list_append PySem.F.type_list_append SR qhB ho ha hbase hfew hline hs hplain⟩
def RU {t:TA3} {e:Expr} {X:Cx} {o:Expr} {to:TE3} {apos cpos:Pos} (ho:jE3 X o to) (ha:jA3 X [e] t)
  (hbase:attributeBase o "extend" X.env (eval o X.env)=eval o X.env:=by rfl)
  (hfew:((backTo cpos (starEach [e] X.env)).all (λx=>!x.1)&&(backToKw cpos (keywordEach [] X.env)).all (λx=>x.1.isSome)
   && decide (([e]:List Expr).length+([]:List Keyword).length+(if ([]:List Keyword).isEmpty then 0 else 1)<30))=true:=by rfl)
  (hline:(apos.endLine==cpos.line)=true:=by rfl) (hs:starEach [e] X.env=(false,eval e X.env)::starEach [] X.env:=by rfl) (hplain:(backTo cpos (starEach [] X.env)).any (·.1)=false:=by rfl):jE3 X (.Call (.Attribute o "extend" apos) [e] [] cpos) (bm3 qgB to t):=⟨have ho:=ho.h;have ha:=ha.h;qnN PySem.F.slot_list_extend PySem.F.type_list_extend qbi qgG ho ha hbase hfew hline hs hplain⟩
def ju {te:TE3} {pos:Pos} {e:Expr} {X:Cx} {tn:Str} {ty:String} {p p2:Pos} (he:jE3 X e te) (hg:Gl X "isinstance") (hm:X.mg "isinstance" = none) (hg2:Gl X tn) (hm2:X.mg tn=none) (hv:bootBuiltins tn=some (.type ty)) (hmem:ty∈Z0:=by decide) (hn:tn≠"__name__" := by decide) (hdb:(tn==("__debug__" : Str))=false:=by decide)
  (hs:starEach [e,.Name tn p2] X.env=(false,eval e X.env)::starEach [.Name tn p2] X.env:=by rfl) (hs2:starEach [.Name tn p2] X.env=(false,eval (.Name tn p2) X.env)::starEach [] X.env:=by rfl) (hpl:(backTo pos (starEach [.Name tn p2] X.env)).any (·.1)=false:=by rfl):jE3 X (.Call (.Name "isinstance" p) [e,.Name tn p2] [] pos) (WJ (λt=>jN t ty) te):=⟨have he:=he.h;WK (CA qd1 hg hm PyProof.Rows.boot_isinstance (j6 he (j6 (KA (v:=.ty ty) hg2 hm2 hv rfl hn hdb) L6 hs2) hs) (by decide) (by decide) hs hpl)
  λ_ _ _ ⟨τ,G,q,rl,h,af⟩=>zf rl h λx G1 h1 v H1 rx hr1 k1 rl1=>by
   split at h1
   ·rename_i t e1;exact ⟨_,t,ty,rfl,qfX hr1 rx e1,hmem,af _ G1 h1 _ H1 (.bl _) hr1 k1⟩
   ·exact h1.elim⟩
def qbb {te:TE3} {pos:Pos} {e:Expr} {X:Cx} {tn tn':Str} {ty ty':String} {p p2 p3 p4:Pos} {x1} (he:jE3 X e te) (hg:Gl X "isinstance") (hm:X.mg "isinstance" = none) (hg2:Gl X tn) (hm2:X.mg tn=none) (hv:bootBuiltins tn=some (.type ty)) (hg3:Gl X tn') (hm3:X.mg tn'=none) (hv3:bootBuiltins tn'=some (.type ty'))
  (hmem:ty∈Z0:=by decide) (hn:tn≠"__name__" := by decide) (hdb:(tn==("__debug__" : Str))=false:=by decide) (hmem3:ty'∈Z0:=by decide) (hn3:tn'≠"__name__" := by decide) (hdb3:(tn'==("__debug__" : Str))=false:=by decide)
  (hs:starEach [e,.Tuple [.Name tn p2,.Name tn' p3] x1 p4] X.env=(false,eval e X.env)::starEach [.Tuple [.Name tn p2,.Name tn' p3] x1 p4] X.env:=by rfl) (hs2:starEach [.Tuple [.Name tn p2,.Name tn' p3] x1 p4] X.env=(false,eval (.Tuple [.Name tn p2,.Name tn' p3] x1 p4) X.env)::starEach [] X.env:=by rfl)
  (hs3:starEach [.Name tn p2,.Name tn' p3] X.env=(false,eval (.Name tn p2) X.env)::starEach [.Name tn' p3] X.env:=by rfl) (hs4:starEach [.Name tn' p3] X.env=(false,eval (.Name tn' p3) X.env)::starEach [] X.env:=by rfl)
  (hpl:(backTo pos (starEach [.Tuple [.Name tn p2,.Name tn' p3] x1 p4] X.env)).any (·.1)=false:=by rfl):jE3 X (.Call (.Name "isinstance" p) [e,.Tuple [.Name tn p2,.Name tn' p3] x1 p4] [] pos) (WJ (λt=>jN t ty||jN t ty') te):=⟨have he:=he.h;WK (CA qaG hg hm PyProof.Rows.boot_isinstance (j6 he (j6 (qfv (j6 (KA (v:=.ty ty) hg2 hm2 hv rfl hn hdb) (j6 (KA (v:=.ty ty') hg3 hm3 hv3 rfl hn3 hdb3) L6 hs4) hs3)) L6 hs2) hs) (by decide) (by decide) hs hpl)
  λ_ _ _ ⟨τ,G,q,rl,h,af⟩=>zf rl h λx G1 h1 v H1 rx hr1 k1 rl1=>by
   refine ⟨by show 2<=sizeLine;decide,λpp hp=>?_⟩;split at h1
   ·rename_i t e1;have hr2:=hr1.laid (ho:=.tup [.ty ty,.ty ty']) hp;have kk:Kp G1 H1 G1 (upd H1 pp (.tup [.ty ty,.ty ty'])):=Kp.laid hp;exact ⟨_,t,ty,ty',pp,rfl,qH,qfX hr2 (rx.keep hr1 kk) e1,hmem,hmem3,af _ G1 h1 _ _ (.bl _) hr2 (k1.trans kk)⟩
   ·exact h1.elim⟩
def zl {X:Cx} :jB3 X [] zp:=⟨qh7 qgT λ_ σ H ⟨τ,G,d,rl,h,af⟩=>af.nx τ G h σ H rl Kp.refl⟩
def qh {JD:List Stmt} {st:Stmt} {t1:TS3} {t2:TS3} {X:Cx} (h1:jS3 X st t1) (h2:jB3 X JD t2):jB3 X (st::JD) (qM t1 t2):=⟨have h1:=h1.h;have h2:=h2.h;qh7 (qdL h1 h2) λD σ H ⟨τ,G,d,rl,h,af⟩=>
 ⟨τ,G,{ d with nx:=t2 d },rl,h,⟨λτ' G' h' σ' H' rl' k'=>⟨τ',G',d,rl',h',af.back k'⟩,af.rt,af.bk,af.ct⟩⟩⟩
def qj {st:Stmt} {t1:TS3} {X:Cx} (h1:jS3 X st t1):jB3 X [st] t1:=⟨have h1:=h1.h;qgN h1⟩
def J4 {te:TE3} {pos:Pos} {e:Expr} {X:Cx} (he:jE3 X e te) (hs:swapsWith e none pos.line X.env=pure false:=by rfl):jS3 X (.Expr e pos) (ZZ te):=⟨have he:=he.h;qcU (qhH he hs) λ_ σ H ⟨τ,G,d,rl,h,af⟩=>
 zf rl h λx G1 h1 v H1 rx hr1 k1 rl1=>af.nx τ G1 h1 σ H1 rl1 k1⟩
def qp {te:TE3} {pos:Pos} {e:Expr} {X:Cx} (he:jE3 X e te):jS3 X (.Return (some e) pos) (zt te):=⟨have he:=he.h;qcU (qiW he) λ_ σ H ⟨τ,G,d,rl,h,af⟩=>⟨τ,G,d.rt,rl,h,af.rt⟩⟩
def js {tA:TT3} {t1:TS3} {t2:TS3} {pos:Pos} {X:Cx} {c:Expr} {ba bb:List Stmt} (hc:jC3 X c tA) (ha:jB3 X ba t1) (hb:jB3 X bb t2):jS3 X (.If c ba bb pos) (ZO tA t1 t2):=⟨have hc:=hc.h;have ha:=ha.h;have hb:=hb.h;qcU (ql6 hc ha hb) λ_ σ H ⟨τ,G,d,rl,h,af⟩=>
 XC rl h λk G1 h1 H1 hr1 k1 rl1=>by
  cases k with
  |true=>rw [if_pos rfl] at h1 ⊢;exact ⟨τ,G1,d,rl1,h1,af.back k1⟩
  |false=>rw [if_neg y6] at h1 ⊢;exact ⟨τ,G1,d,rl1,h1,af.back k1⟩⟩
def qx {pos:Pos} {X:Cx} {i:Nat} {x:Str} (hN:X.N.Nodup) (hi:X.N[i]?=some x:=by rfl) (hx:Loc X.env.scope x:=by first|exact Or.inl rfl|exact Or.inr rfl) (hf:X.fn x=true\/X.env.scope.names.lookup x=some .local:=by first|exact .inl rfl|exact .inr rfl):jG3 X (.Name x pos) (gn3 i):=⟨qmt (qhE hN hi hx hf) λv σ H Q ⟨x,τ,G,q,rx,rl,h,af⟩=>af _ G h _ H (rl.set i rx) Kp.refl⟩
def YV {X:Cx} :jGs3 X [] YT:=⟨qjh qgn λv σ H Q ⟨x,τ,G,q,rx,rl,h,af⟩=>by
 cases rx with
 |nil=>exact ⟨rfl,af _ G h _ H rl Kp.refl⟩
 |cons _ _=>exact h.elim⟩
def zc {es:List Expr} {X:Cx} {tg:TG3} {tgs:LM} (h1:jG3 X e tg) (h2:jGs3 X es tgs) (hs:(assignEach (e::es) X.env).map (·.2)=assign e X.env::(assignEach es X.env).map (·.2):=by rfl):jGs3 X (e::es) (qV tg tgs):=⟨have h1:=h1.h;have h2:=h2.h;qjh (qdb h1 h2 hs) λv σ H Q ⟨x,τ,G,q,rx,rl,h,af⟩=>by
 cases rx with
 |nil=>exact h.elim
 |cons r rs=>exact ⟨_,_,rfl,_,τ,G,_,r,rl,h,λτ' G' h' σ' H' rl' k'=>⟨_,τ',G',q,rs.keep rl.hp k',rl',h',af.back k'⟩⟩⟩
def VM {pos:Pos} {es:List Expr} {X:Cx} {k:Nat} {tgs:LM} {n:Nat} (hc:X.calm=true) (h:jGs3 X es tgs) (hn:(assignEach es X.env).length=n:=by rfl) (hst:(assignEach es X.env).findIdx? (·.1)=none:=by rfl):jG3 X (.Tuple es k pos) (YW n tgs):=⟨have h:=h.h;qmt (qkZ hc h hn hst) λv σ H Q ⟨x,τ,G,q,rx,rl,h,af⟩=>by
  cases x<;>try exact h.elim
  case tup xs=>
   cases rx with
   |tup hs rs=>exact ⟨_,_,rfl,hs,by rw [← rs.length];exact h.1,_,τ,G,q,rs,rl,h.2,af⟩⟩
def qex {pos : Pos} {X : Cx} {o i : Expr} {to ti : TE3} (ho : jE3 X o to) (hi : jE3 X i ti) (ha : ∀ v,assign (.Subscript o i pos) X.env v = (do
      let ov←holding [v] (eval o X.env)
      let iv←holding [v,ov] (eval i X.env)
      standAt pos
      holding [v,ov,iv] (setItem ov iv v)
      release [v,ov,iv] []):=by intro _;rfl):jG3 X (.Subscript o i pos) (SG to ti):=⟨have ho:=ho.h;have hi:=hi.h;qmt (qiz ho hi qda ha) λv σ H Q ⟨x,τ,G,q,rx,rl,h,af⟩=>zf rl h λy G1 h1 u H1 ry hr1 k1 rl1=>zf rl1 h1 λz G2 h2 w H2 rz hr2 k2 rl2=>by
    have rx2:=(rx.keep rl.hp k1).keep hr1 k2;have ry2:=ry.keep hr1 k2;unfold qgX at h2;split at h2
    · rename_i p k;split at h2
      · rename_i xs e;split at h2
        · rename_i j ej;cases ry2;cases rz;obtain ⟨vs,g1,r1⟩:=hr2.lst e;have kk:Kp G2 H2 (gu G2 p (.lst (xs.set j x))) (upd H2 p (.lst (vs.set j v))):=Kp.wr e;exact ⟨p,vs,k,j,rfl,rfl,g1,by rw [← r1.length];exact ej,af τ _ h2 σ _ (rl2.next (hr2.wr e (r1.set rx2 j)) kk) ((k1.trans k2).trans kk)⟩
        · exact h2.elim
      · exact h2.elim
    · exact h2.elim⟩
def RW {te:TE3} {pos:Pos} {X:Cx} {tg e:Expr} {g:TG3} (he:jE3 X e te) (hg:jG3 X tg g) (hs:swapsWithSole [tg] e pos.line X.env=pure false:=by rfl) (hw:swappedStores [tg] e X.env=pure none:=by rfl)
  (h1:(assignEach [tg] X.env).map (·.2)=[assign tg X.env]:=by rfl):jS3 X (.Assign [tg] e pos) (zr te g):=⟨have he:=he.h;have hg:=hg.h;qcU (qkW he hg hs hw h1) λ_ σ H ⟨τ,G,d,rl,h,af⟩=>
 zf rl h λx G1 h1 v H1 rx hr1 k1 rl1=>⟨x,τ,G1,d.nx,rx,rl1,h1,af.nx.back k1⟩⟩
def qu {te:TE3} {pos:Pos} {X:Cx} (i:Nat) {x:Str} {e:Expr} {pos':Pos} (hN:X.N.Nodup) (he:jE3 X e te) (hi:X.N[i]?=some x:=by rfl) (hx:Loc X.env.scope x:=by first|exact Or.inl rfl|exact Or.inr rfl) (hs:swapsWith e (some (.Name x pos')) pos.line X.env=pure false:=by rfl) (hf:X.fn x=true\/X.env.scope.names.lookup x=some .local:=by first|exact .inl rfl|exact .inr rfl):jS3 X (.Assign [.Name x pos'] e pos) (zr te (gn3 i)):=⟨have he:=he.h;qcU (qkj hN hi hx he hs hf) λ_ σ H ⟨τ,G,d,rl,h,af⟩=>
 zf rl h λx G1 h1 v H1 rx hr1 k1 rl1=>af.nx _ G1 h1 _ H1 (rl1.set i rx) k1⟩
def qlz {pos:Pos} {X:Cx} {i j:Nat} {x y:Str} {a b:Expr} {tt:TA3} {px py pt:Pos} {kt k2 pt2} (hc:X.calm=true) (hN:X.N.Nodup) (hi:X.N[i]?=some x) (hj:X.N[j]?=some y) (hij:i≠j)
  (hx:X.env.scope.names.lookup x=some .local) (hy:X.env.scope.names.lookup y=some .local) (ha:jA3 X [a,b] tt)
  (hw:swappedStores [.Tuple [.Name x px,.Name y py] kt pt] (.Tuple [a,b] k2 pt2) X.env=pure (some [x,y]):=by rfl)
  (hs:swapsWithSole [.Tuple [.Name x px,.Name y py] kt pt] (.Tuple [a,b] k2 pt2) pos.line X.env=pure false:=by rfl):jS3 X (.Assign [.Tuple [.Name x px,.Name y py] kt pt] (.Tuple [a,b] k2 pt2) pos) (qlZ i j tt):=⟨have ha:=ha.h;qcU (qiM hc hN hi hj hij hx hy ha hw hs) λ_ σ H ⟨τ,G,d,rl,h,af⟩=>
 ZK rl h λxs G1 h1 vs H1 rs hr1 k1 rl1=>by
  split at h1
  ·obtain ⟨v,u,rfl,r,r'⟩:=qm7 rs;exact ⟨v,u,rfl,af.nx _ G1 h1 _ H1 ((rl1.set i r).set j r') k1⟩
  ·exact h1.elim⟩
def ZI {te:TE3} {X:Cx} {tg:Expr} {l:Expr} (hl:jE3 X l te):jI3 X tg l (VN te):=⟨have hl:=hl.h;qlS (qlv hl) λσ H R ⟨τ,G,r,rl,h,af⟩=>zf rl h λx G1 h1 v H1 rx hr1 k1 rl1=>by
 cases x<;>try exact h1.elim
 case tup xs=>
  cases rx with
  |tup hs rs=>exact ⟨_,rfl,.inr ⟨⟨_,hs⟩,af _ _ G1 h1 _ H1 hr1 k1 (qig hr1 hs rs)⟩⟩
 case ref p=>
  simp only at h1;split at h1
  ·rename_i xs e0;cases rx;obtain ⟨vs,hs,rs⟩:=zD hr1 e0;exact ⟨_,rfl,.inl ⟨⟨_,hs⟩,af _ _ G1 h1 _ H1 hr1 k1 qje⟩⟩
  ·exact h1.elim⟩
def zT {t:TA3} {pos:Pos} {a:Expr} {X:Cx} {tg:Expr} {p:Pos} (hg:Gl X "range") (hm:X.mg "range" = none) (ha:jA3 X [a] t) (hs:starEach [a] X.env=[(false,eval a X.env)]:=by rfl) (h1:∀ τ G q,t τ G q->t τ G λxs G=>q xs G/\xs.length=1):jI3 X tg (.Call (.Name "range" p) [a] [] pos) (J7 t):=⟨have ha:=ha.h;qlS (qcG hg hm ha hs) λσ H R ⟨τ,G,r,rl,h,af⟩=>ZK rl (h1 _ _ _ h) λxs G1 h1 vs H1 rs hr1 k1 rl1=>by
  obtain ⟨h1,hl⟩:=h1;simp only at h1;split at h1
  ·obtain ⟨v,rfl,r1⟩:=T9 rs;cases r1;exact ⟨_,rfl,h1.1.1,h1.1.2,af _ _ G1 h1.2 _ H1 hr1 k1 qkb⟩
  ·simp at hl
  ·exact h1.elim⟩
def jk {pos:Pos} {X:Cx} {tg:Expr} {iter:Expr} {body:List Stmt} {wi:TI3} {g:TG3} {tb:TS3} (hp:PassesOwn (model X.prog X.w) X.A X.env X.xe) (hc:X.calm=true) (hi:jI3 X tg iter wi) (hg:jG3 X tg g) (hb:jB3 X body tb)
  (hs:∀ x,foldedSetIterable iter X.env x=pure x:=by intro _;rfl):jS3 X (.For tg iter body [] pos) (ET wi g tb):=⟨have hi:=hi.h;have hg:=hg.h;have hb:=hb.h;qcU (qlj hp hc hi hg hb hs) λD σ H ⟨τ,G,d,rl,h,af⟩=>by
  refine ⟨τ,G,_,rl,h,λitems stay G1 h1 J H1 hr1 k1 ok=>?_⟩;refine ⟨λi m σ' H'=>m=items.length-i/\i<=items.length/\∃ τ' G',Rel X.K τ' G' σ' H'/\Kp G1 H1 G' H'/\X7 stay g tb d (items.drop i) τ' G',⟨_,rfl,Nat.zero_le _,τ,G1,rl.next hr1 k1,Kp.refl,by simpa using h1⟩,?_⟩;rintro i m σ' H' ⟨rfl,hi,τ',G',rl',k',h'⟩;by_cases hlt:i<items.length
  ·rw [List.drop_eq_getElem_cons hlt] at h';obtain ⟨hst,h'⟩:=h';obtain ⟨go,yld,_⟩:=ok G' H' rl'.hp k' hst;have hx:items[i]?=some items[i]:=y9 hlt;refine .inr ⟨go i _ hx,λσ2 H2=>∃ τ2 G2,Rel X.K τ2 G2 σ2 H2/\Kp G1 H1 G2 H2/\X7 stay g tb d (items.drop (i+1)) τ2 G2,λσ2 H2 h2=>⟨_,by omega,rfl,hlt,h2⟩,λv H2 y=>?_⟩;obtain ⟨rv,hr2,k2⟩:=yld i _ v H2 hx y;have k3:Kp G1 H1 G' H2:=k'.trans k2;refine ⟨_,τ',G',_,rv,rl'.next hr2 k2,h',λτ3 G3 h3 σ3 H3 rl3 k4=>?_⟩;have k5:Kp G H G3 H3:=(k1.trans k3).trans k4;refine ⟨τ3,G3,_,rl3,h3,⟨λτ4 G4 h4 σ4 H4 rl4 k6=>⟨τ4,G4,rl4,(k3.trans k4).trans k6,h4⟩,af.rt.back k5,af.nx.back k5,λτ4 G4 h4 σ4 H4 rl4 k6=>⟨τ4,G4,rl4,(k3.trans k4).trans k6,h4⟩⟩⟩
  ·have e:i=items.length:=by omega
   subst e;rw [List.drop_length] at h';obtain ⟨_,_,stop⟩:=ok G' H' rl'.hp k' h'.1;exact .inl ⟨stop,af.nx τ' G' h'.2 σ' H' rl' (k1.trans k')⟩⟩
def MD {pos:Pos} {X:Cx} {c:Expr} {body:List Stmt} {tc:TT3} {tb:TS3} (hp:PassesOwn (model X.prog X.w) X.A X.env X.xe) (hc:jC3 X c tc) (hb:jB3 X body tb):jS3 X (.While c body [] pos) (XD tc tb):=⟨have hc:=hc.h;have hb:=hb.h;qcU (qc0 hp hc hb) λD σ H ⟨τ,G,d,rl,⟨W,⟨m0,w0⟩,turn⟩,af⟩=>by
  refine ⟨λm σ' H'=>∃ τ' G',Rel X.K τ' G' σ' H'/\Kp G H G' H'/\W m τ' G',⟨m0,τ,G,rl,Kp.refl,w0⟩,?_⟩;rintro m σ' H' ⟨τ',G',rl',k',w'⟩;refine XC rl' (turn m τ' G' w') λb G1 h1 H1 hr1 k1 rl1=>?_;cases b with
  |true=>
   rw [if_pos rfl] at h1 ⊢;obtain ⟨N,hN,h1⟩:=h1;refine ⟨λσ2 H2=>∃ τ2 G2,Rel X.K τ2 G2 σ2 H2/\Kp G H G2 H2/\N τ2 G2,λσ2 H2 ⟨τ2,G2,r2,k2,n2⟩=>?_,τ',G1,_,rl1,h1,⟨λτ2 G2 h2 σ2 H2 r2 k2=>⟨τ2,G2,r2,(k'.trans k1).trans k2,h2⟩,af.rt.back (k'.trans k1),af.nx.back (k'.trans k1),λτ2 G2 h2 σ2 H2 r2 k2=>⟨τ2,G2,r2,(k'.trans k1).trans k2,h2⟩⟩⟩;obtain ⟨m',hm,w2⟩:=hN τ2 G2 n2;exact ⟨m',hm,τ2,G2,r2,k2,w2⟩
  |false=>
   rw [if_neg y6] at h1 ⊢;exact af.nx τ' G1 h1 σ' H1 rl1 (k'.trans k1)⟩
def qk {t:TA3} {pos:Pos} {es:List Expr} {X:Cx} {k:Nat} {x:Str} {p:Pos} {sp:Sp3} (F:Fn3 X.prog X.w X.K X.mg X.base k x sp) (hr:Room k X.A) (hg:Gl X x) (ha:jA3 X (e::es) t) (hdb:(x==("__debug__" : Str))=false:=by decide)
  (he:starEach (e::es) X.env=(false,eval e X.env)::starEach es X.env:=by rfl) (hpl:(backTo pos (starEach es X.env)).any (·.1)=false:=by rfl):jE3 X (.Call (.Name x p) (e::es) [] pos) (cb3 sp t):=⟨by
 have ha:=ha.h;obtain ⟨f,fd,ps,F,b,kp,m⟩:=F;refine WK (qgm F hr hg m kp b .nil qkN ha hdb he hpl) λσ H Q ⟨τ,G,q,rl,h,af⟩=>ZK rl h λxs G1 h1 vs H1 rs hr1 k1 rl1=>?_;rw [List.append_nil];exact ⟨xs,G1,q,hr1,rs,h1,af.back k1⟩⟩
def TJ {X:Cx} {elt tg iter:Expr} {ifs:List Expr} {scope:Scope} {pos:Pos} (N':List Str) (m:List (Option Nat)) {wi:TI3} {g:TG3} {tif:TT3} {te:TE3} (hc:X.calm=true) (hi:jI3 X tg iter wi)
  (hg:∀ s H fp,jG3 (qr X N' scope s H fp) tg g) (hf:∀ s H fp,jF3 (qr X N' scope s H fp) ifs tif) (he:∀ s H fp,jE3 (qr X N' scope s H fp) elt te)
  (hsc:qcM X.env.scope scope=true) (hcap:UF X.N N' scope m=true) (hs:∀ x,foldedSetIterable iter X.env x=pure x:=by intro _;rfl):jE3 X (.ListComp elt [⟨tg,iter,ifs,0⟩] scope pos) (lc3 wi g tif te m):=⟨have hi:=hi.h;have hg:=(λs H fp=>(hg s H fp).h);have hf:=(λs H fp=>(hf s H fp).h);have he:=(λs H fp=>(he s H fp).h);WK (qmu (g:=lG X.K g) (tif:=lT X.K tif) (te:=lE X.K te) hc hi hg hf he hsc hcap hs) λσ H Q hh=>qjT hh⟩
def UR {X:Cx}:jF3 X [] tt3:=⟨λpins s σ H Q I ⟨τ,G,q,rl,h,af⟩=>qle pins s σ H Q I (af true G h H rl.hp Kp.refl)⟩
def qfB {X:Cx} {c:Expr} {t:TT3} (h:jC3 X c t):jF3 X [c] t:=⟨have h:=h.h;qjd h⟩
def qjG {t:TA3} {pos:Pos} {es:List Expr} {a:Expr} {b:Expr} {X:Cx} {p pt:Pos} {k1:Nat} (hg:Gl X "zip") (hm:X.mg "zip" = none) (ha:jA3 X [a,b] t) (hs:starEach [a,b] X.env=[(false,eval a X.env),(false,eval b X.env)]:=by rfl) (hs2:starEach [b] X.env=[(false,eval b X.env)]:=by rfl):jI3 X (.Tuple es k1 pt) (.Call (.Name "zip" p) [a,b] [] pos) (qhm t):=⟨have ha:=ha.h;qlS (qlh hg hm ha hs hs2) λσ H R ⟨τ,G,r,rl,h,af⟩=>ZK rl h λxs G1 h1 vs H1 rs hr1 k1 rl1=>by
  split at h1
  ·rename_i x y;split at h1
   ·rename_i us ws e1 e2;obtain ⟨v,u,rfl,r1,r2⟩:=qm7 rs;obtain ⟨b1,c1,rfl,f1⟩:=qbM hr1 r1 e1;obtain ⟨b2,c2,rfl,f2⟩:=qbM hr1 r2 e2;obtain ⟨p,sp,_⟩:=f1 G1 H1 hr1 Kp.refl e1;obtain ⟨q,sq,_⟩:=f2 G1 H1 hr1 Kp.refl e2;exact ⟨b1,b2,c1,c2,p,q,rfl,sp,sq,af _ _ G1 h1 _ H1 hr1 k1 (qkk f1 f2)⟩
   ·exact h1.elim
  ·exact h1.elim⟩
def EV {t:TA3} {pos:Pos} {es:List Expr} {a:Expr} {X:Cx} {p pt:Pos} {k1:Nat} (hg:Gl X "enumerate") (hm:X.mg "enumerate" = none) (ha:jA3 X [a] t) (hs:starEach [a] X.env=[(false,eval a X.env)]:=by rfl):jI3 X (.Tuple es k1 pt) (.Call (.Name "enumerate" p) [a] [] pos) (EW t):=⟨have ha:=ha.h;qlS (qgi hg hm ha hs) λσ H R ⟨τ,G,r,rl,h,af⟩=>ZK rl h λxs G1 h1 vs H1 rs hr1 k1 rl1=>by
  split at h1
  ·rename_i x;split at h1
   ·rename_i us e1;obtain ⟨v,rfl,r1⟩:=T9 rs;obtain ⟨b1,c1,rfl,f1⟩:=qbM hr1 r1 e1;obtain ⟨p,sp,_⟩:=f1 G1 H1 hr1 Kp.refl e1;exact ⟨b1,c1,p,rfl,sp,af _ _ G1 h1 _ H1 hr1 k1 (qlt f1)⟩
   ·exact h1.elim
  ·exact h1.elim⟩
def qbO {te:TE3} {pos:Pos} {e:Expr} {X:Cx} (i:Nat) {x:Str} {pos':Pos} (hN:X.N.Nodup) (he:jE3 X e te) (hi:X.N[i]?=some x:=by rfl) (hx:Loc X.env.scope x:=by first|exact Or.inl rfl|exact Or.inr rfl) (hf:X.fn x=true\/X.env.scope.names.lookup x=some .local:=by first|exact .inl rfl|exact .inr rfl):jS3 X (.AugAssign (.Name x pos') .Add e pos) (qjK i (iI (·+·)) te):=⟨have he:=he.h;qcU (qld (i:=i) hN hi hx he qk2 hf) λD σ H ⟨τ,G,d,rl,h,af⟩=>by
  unfold qjK at h;split at h
  ·rename_i x e1;obtain ⟨v,e2,rv⟩:=rl.st i x e1;refine ⟨v,e2,zf rl h λy G1 h1 u H1 ry hr1 k1 rl1=>?_⟩;have rv1:=rv.keep rl.hp k1;cases x<;>try exact h1.elim
   cases y<;>try exact h1.elim
   cases rv1;cases ry;exact ⟨_,_,rfl,rfl,af.nx _ G1 h1 _ H1 (rl1.set i (.int _)) k1⟩
  ·exact h.elim⟩
def qdH {X:Cx} {py spos:Pos} {elt tg iter:Expr} {ifs:List Expr} {scope:Scope} {pos:Pos} {y:Str} (i:Nat) (N':List Str) (m:List (Option Nat)) {wi:TI3} {g:TG3} {tif:TT3} {te:TE3} (hc:X.calm=true) (hN:X.N.Nodup) (hi:jI3 X tg iter wi)
  (hg:∀ s H fp,jG3 (qr X N' scope s H fp) tg g) (hf:∀ s H fp,jF3 (qr X N' scope s H fp) ifs tif) (he:∀ s H fp,jE3 (qr X N' scope s H fp) elt te)
  (hsc:qcM X.env.scope scope=true) (hcap:UF X.N N' scope m=true) (hl:X.env.scope.names.lookup y=some .local) (hsw:swapsWith (.ListComp elt [⟨tg,iter,ifs,0⟩] scope pos) (some (.Name y py)) spos.line X.env=pure true) (hiy:X.N[i]?=some y:=by rfl) (hs:∀ x,foldedSetIterable iter X.env x=pure x:=by intro _;rfl):jS3 X (.Assign [.Name y py] (.ListComp elt [⟨tg,iter,ifs,0⟩] scope pos) spos) (zr (lc3 wi g tif te m) (gn3 i)):=⟨have hi:=hi.h;have hg:=(λs H fp=>(hg s H fp).h);have hf:=(λs H fp=>(hf s H fp).h);have he:=(λs H fp=>(he s H fp).h);qcU (qdU (g:=lG X.K g) (tif:=lT X.K tif) (te:=lE X.K te) hc hN hi hg hf he hsc hcap hs hiy hl hsw) λ_ σ H ⟨τ,G,d,rl,h,af⟩=>
  qjT ⟨τ,G,_,rl,h,λx G1 h1 v H1 rx hr1 k1=>af.nx _ G1 h1 _ H1 ((rl.next hr1 k1).set i rx) k1⟩⟩
def jpt {X:Cx} {e:Expr} {t:TT3} (h:jW3 X e t):jC3 X e t:=⟨PW.pt h.h⟩
def qgR {P:Program} {w:World} {K:Frg} {mg:Str->Option Value} {base:Heap} {x qual:Str} {st:Stmt} {f:Addr} {fd:FuncData} {N ps:List Str} {k:Nat} {sp:Sp3} {t3:TS3} (F:Fun K x qual st f fd) (S:FnScope N ps (qg st)) (bd:EQ K fd ps []) (hm:mg x=some (.ref f))
  (body:∀ (cdv:Value) (A:Around) (outer:List Env) (s:Shared) (H:Hp) (E:XK),Room k (A.deeper (envOfC qual (qg st) s.heap.objs.size f cdv)) ->
   jB3 (N9 CX0 P w K mg base N qual (qg st) f cdv A outer s H E).nox (zh st) t3)
  (read:∀ ts G q,sp ts G q->ts.length=ps.length/\t3 { nx:=λ_ G'=>q .non G',rt:=q } (qv N ts) G):Fn3 P w K mg base (k+1) x sp:=
 qkC F S bd hm (λcdv A outer s H E hr=>(body cdv A outer s H E hr).h) read
def qeb {P:Program} {w:World} {K:Frg} {mg:Str->Option Value} {base:Heap} {x qual:Str} {st:Stmt} {f:Addr} {fd:FuncData} {N ps:List Str} {k:Nat} {sp:Sp3} {t3:TS3} (F:Fun K x qual st f fd) (S:FnScope N ps (qg st))
  (body:∀ (cdv:Value) (A:Around) (outer:List Env) (s:Shared) (H:Hp) (E:XK),Room k (A.deeper (envOfC qual (qg st) s.heap.objs.size f cdv)) ->
   jB3 (N9 CX0 P w K mg base N qual (qg st) f cdv A outer s H E).nox (zh st) t3)
  (read:∀ ts G q,sp ts G q->ts.length=ps.length/\t3 { nx:=λ_ G'=>q .non G',rt:=q } (qv N ts) G):FnOk P w K mg base CX0 (k+1) f fd ps (lSp K sp):=
 qhN F S (λcdv A outer s H E hr=>(body cdv A outer s H E hr).h) read
open PySem.SeqAt
def Ex (G G':Gp):Prop:=∀ b o,G b=some o->G' b=some o
def Ex.refl {G:Gp}:Ex G G:=λ_ _ e=>e
def Ex.trans {G G1 G2:Gp} (a:Ex G G1) (b:Ex G1 G2):Ex G G2:=λx o e=>b x o (a x o e)
def QC {G:Gp} {p:Addr} {o:O} (hp:G p=none):Ex G (gu G p o):=λb ob e=>by
 rw [zX (by rintro rfl;rw [hp] at e;cases e)];exact e
mutual
inductive Dp (G:Gp):T->PyData->Prop
 |non:Dp G .non .none
 |bl (b:Bool):Dp G (.bl b) (.bool b)
 |int (i:Int):Dp G (.int i) (.int i)
 |str (x:Str):Dp G (.str x) (.str x)
 |tup {xs:List T} {ds:List PyData}:Dps G xs ds->Dp G (.tup xs) (.tuple ds)
 |lst {p:Addr} {xs:List T} {ds:List PyData}:getL G p=some xs->Dps G xs ds->Dp G (.ref p) (.list ds)
inductive Dps (G:Gp):List T->List PyData->Prop
 |nil:Dps G [] []
 |cons {x:T} {d:PyData} {xs:List T} {ds:List PyData}:Dp G x d->Dps G xs ds->Dps G (x::xs) (d::ds)
end
theorem Ex.getL {G G':Gp} (e:Ex G G') {p:Addr} {xs:List T} (h:getL G p=some xs):getL G' p=some xs:=by
 unfold L3.getL at h ⊢;split at h
 ·rename_i ys g;cases h;rw [e _ _ g]
 ·rename_i ys g;cases h;rw [e _ _ g]
 ·cases h
mutual
theorem Dp.up {G G':Gp} (e:Ex G G'):∀ {x:T} {d:PyData},Dp G x d->Dp G' x d
 |_,_,.non=>.non
 |_,_,.bl b=>.bl b
 |_,_,.int i=>.int i
 |_,_,.str x=>.str x
 |_,_,.tup h=>.tup (Dps.up e h)
 |_,_,.lst h1 h2=>.lst (e.getL h1) (Dps.up e h2)
theorem Dps.up {G G':Gp} (e:Ex G G'):∀ {x:List T} {d:List PyData},Dps G x d->Dps G' x d
 |_,_,.nil=>.nil
 |_,_,.cons a b=>.cons (Dp.up e a) (Dps.up e b)
end
theorem Dps.length {G:Gp}:∀ {xs:List T} {ds:List PyData},Dps G xs ds->xs.length=ds.length
 |_,_,.nil=>rfl
 |_,_,.cons _ b=>by simp [Dps.length b]
theorem Dps.get {G:Gp}:∀ {xs:List T} {ds:List PyData} {i:Nat} {x:T},Dps G xs ds->xs[i]?=some x->∃ d,ds[i]?=some d/\Dp G x d
 |_,_,_,_,.nil,e=>by simp at e
 |_,_,0,_,.cons r _,e=>by simp at e;subst e;exact ⟨_,rfl,r⟩
 |_,_,i+1,x,.cons _ t,e=>by
  obtain ⟨u,h1,h2⟩:=Dps.get (i:=i) (x:=x) t (by simpa using e);exact ⟨u,by simpa using h1,h2⟩
mutual
inductive DV (K:Frg) (H:Hp):V->PyData->Prop
 |non:DV K H .non .none
 |bl (b:Bool):DV K H (.bl b) (.bool b)
 |int (i:Int):DV K H (.int i) (.int i)
 |str (x:Str):DV K H (.str x) (.str x)
 |tup {a:Addr} {vs:List V} {ds:List PyData}:SqT K H a vs->DVs K H vs ds->DV K H (.ref a) (.tuple ds)
 |lst {a:Addr} {vs:List V} {ds:List PyData}:SqL K H a vs->DVs K H vs ds->DV K H (.ref a) (.list ds)
inductive DVs (K:Frg) (H:Hp):List V->List PyData->Prop
 |nil:DVs K H [] []
 |cons {x:V} {d:PyData} {xs:List V} {ds:List PyData}:DV K H x d->DVs K H xs ds->DVs K H (x::xs) (d::ds)
end
mutual
theorem Dp.dv {K:Frg} {G:Gp} {H:Hp} (hr:HR K G H):∀ {x:T} {d:PyData} {v:V},Dp G x d->Rp K H x v->DV K H v d
 |_,_,_,.non,.non=>.non
 |_,_,_,.bl b,.bl _=>.bl b
 |_,_,_,.int i,.int _=>.int i
 |_,_,_,.str x,.str _=>.str x
 |_,_,_,.tup h,.tup hs rs=>.tup hs (Dps.dv hr h rs)
 |_,_,_,.lst g h,r=>by
  cases r;obtain ⟨_,hs,rs⟩:=zD hr g;exact .lst hs (Dps.dv hr h rs)
theorem Dps.dv {K:Frg} {G:Gp} {H:Hp} (hr:HR K G H):∀ {x:List T} {d:List PyData} {v:List V},Dps G x d->Rps K H x v->DVs K H v d
 |_,_,_,.nil,.nil=>.nil
 |_,_,_,.cons a b,.cons c d=>.cons (Dp.dv hr a c) (Dps.dv hr b d)
end
mutual
def jQ:PyData->PyData->Option Bool
 |.none,.none=>some true
 |.bool a,.bool b=>some (a==b)
 |.int a,.int b=>some (a==b)
 |.str a,.str b=>some (a==b)
 |.list xs,.list ys=>J6 xs ys
 |.tuple xs,.tuple ys=>J6 xs ys
 |.int _,.none=>some false
 |.none,.int _=>some false
 |_,_=>none
def J6:List PyData->List PyData->Option Bool
 |[],[]=>some true
 |x::xs,y::ys=>match jQ x y,J6 xs ys with|some a,some b=>some (a&&b)|_,_=>none
 |_,_=>some false
end
mutual
def dpt:PyData->Nat
 |.list xs=>NZ xs+1
 |.tuple xs=>NZ xs+1
 |.dict _=>1000
 |_=>0
def NZ:List PyData->Nat
 |[]=>0
 |x::xs=>max (dpt x) (NZ xs)
end
section
variable {X:Cx} {pins:List (Addr×Obj)} {σ:L2.St} {H:Hp} {s:Shared}
mutual
theorem DV.inj (I:Inv X pins σ H s):∀ {v:V} {d e:PyData},DV X.K H v d->DV X.K H v e->d=e
 |_,_,_,.non,.non=>rfl
 |_,_,_,.bl _,.bl _=>rfl
 |_,_,_,.int _,.int _=>rfl
 |_,_,_,.str _,.str _=>rfl
 |_,_,_,.tup h hs,.tup k ks=>by
  have:=I.tuple_inj h k;subst this;rw [DVs.inj I hs ks]
 |_,_,_,.lst h hs,.lst k ks=>by
  have:=I.list_inj h k;subst this;rw [DVs.inj I hs ks]
 |_,_,_,.tup h hs,.lst k ks=>by
  obtain ⟨i1,_,p1,_⟩:=I.tuple h;obtain ⟨i2,_,p2,_⟩:=I.list k;exact absurd rfl (ne_of_list_tuple p2.isList (show s.heap.IsTuple _ i1.toArray from p1))
 |_,_,_,.lst k ks,.tup h hs=>by
  obtain ⟨i1,_,p1,_⟩:=I.tuple h;obtain ⟨i2,_,p2,_⟩:=I.list k;exact absurd rfl (ne_of_list_tuple p2.isList (show s.heap.IsTuple _ i1.toArray from p1))
theorem DVs.inj (I:Inv X pins σ H s):∀ {v:List V} {d e:List PyData},DVs X.K H v d->DVs X.K H v e->d=e
 |_,_,_,.nil,.nil=>rfl
 |_,_,_,.cons a b,.cons c d=>by rw [DV.inj I a c,DVs.inj I b d]
end
mutual
theorem R0:∀ {d:PyData} {b:Bool},jQ d d=some b->b=true
 |.none,_,h=>by simp [jQ] at h;exact h
 |.bool _,_,h=>by simp [jQ] at h;exact h
 |.int _,_,h=>by simp [jQ] at h;exact h
 |.str _,_,h=>by simp [jQ] at h;exact h
 |.list xs,_,h=>by simp only [jQ] at h;exact UK h
 |.tuple xs,_,h=>by simp only [jQ] at h;exact UK h
 |.dict _,_,h=>by simp [jQ] at h
theorem UK:∀ {d:List PyData} {b:Bool},J6 d d=some b->b=true
 |[],_,h=>by simp [J6] at h;exact h
 |x::xs,b,h=>by
  simp only [J6] at h;split at h
  ·rename_i a c e1 e2;rw [R0 e1,UK e2] at h;simpa using h.symm
  ·cases h
end
theorem R6:∀ {xs ys:List PyData} {b:Bool},J6 xs ys=some b->xs.length=ys.length->∃ e:Nat->Bool,(∀ (j:Nat) x y,xs[j]?=some x->ys[j]?=some y->jQ x y=some (e j))/\b=(List.range xs.length).all e
 |[],[],b,h,_=>by simp [J6] at h;exact ⟨λ_=>true,by simp,by simp [h]⟩
 |x::xs,y::ys,b,h,hl=>by
  simp only [J6] at h;split at h
  ·rename_i a c e1 e2;obtain ⟨e,h1,h2⟩:=R6 e2 (by simpa using hl);refine ⟨λj=>match j with|0=>a|j+1=>e j,λj u v hu hv=>?_,?_⟩
   ·cases j with
    |zero=>simp at hu hv;subst hu;subst hv;exact e1
    |succ j=>exact h1 j u v (by simpa using hu) (by simpa using hv)
   ·rw [length_cons,List.range_succ_eq_map,List.all_cons,List.all_map];cases h;rw [h2];rfl
  ·cases h
 |[],_::_,_,_,hl=>by simp at hl
 |_::_,[],_,_,hl=>by simp at hl
theorem R9:∀ {xs ys:List PyData} {b:Bool},J6 xs ys=some b->xs.length≠ys.length->b=false/\∃ e:Nat->Bool,∀ (j:Nat) x y,xs[j]?=some x->ys[j]?=some y->jQ x y=some (e j)
 |[],[],_,_,hl=>by simp at hl
 |[],_::_,b,h,_=>by simp [J6] at h;exact ⟨h,λ_=>true,by simp⟩
 |_::_,[],b,h,_=>by simp [J6] at h;exact ⟨h,λ_=>true,by simp⟩
 |x::xs,y::ys,b,h,hl=>by
  simp only [J6] at h;split at h
  ·rename_i a c e1 e2;obtain ⟨h0,e,h1⟩:=R9 e2 (by simpa using hl);subst h0;refine ⟨by simpa using h.symm,λj=>match j with|0=>a|j+1=>e j,λj u v hu hv=>?_⟩;cases j with
   |zero=>simp at hu hv;subst hu;subst hv;exact e1
   |succ j=>exact h1 j u v (by simpa using hu) (by simpa using hv)
  ·cases h
theorem MH:∀ {xs:List PyData} {x:PyData},x∈xs->dpt x<=NZ xs
 |[],_,h=>by simp at h
 |y::ys,x,h=>by
  simp only [NZ];rcases mem_cons.mp h with e|e
  ·subst e;omega
  ·have:=MH e;omega
theorem DVs.get {K:Frg} {H:Hp}:∀ {xs:List V} {ds:List PyData} {i:Nat} {x:V},DVs K H xs ds->xs[i]?=some x->∃ d,ds[i]?=some d/\DV K H x d
 |_,_,_,_,.nil,e=>by simp at e
 |_,_,0,_,.cons r _,e=>by simp at e;subst e;exact ⟨_,rfl,r⟩
 |_,_,i+1,x,.cons _ t,e=>by
  obtain ⟨u,h1,h2⟩:=DVs.get (i:=i) (x:=x) t (by simpa using e);exact ⟨u,by simpa using h1,h2⟩
theorem DVs.length {K:Frg} {H:Hp}:∀ {xs:List V} {ds:List PyData},DVs K H xs ds->xs.length=ds.length
 |_,_,.nil=>rfl
 |_,_,.cons _ b=>by simp [DVs.length b]
def qar {vs:List V} {us:List Value} (r:qY vs us) {j:Nat} (h:j<us.toArray.size):∃ v,vs[j]?=some v/\zE v us.toArray[j]:=by
 have hj:j<vs.length:=by rw [r.length];simpa using h
 obtain ⟨u,hu,ru⟩:=r.get (y9 hj);refine ⟨vs[j],y9 hj,?_⟩;have hj2:j<us.length:=by simpa using h
 rw [y9 hj2] at hu;have:us[j]=u:=Option.some.inj hu;simpa [this] using ru
def qad {v u:V} {d e:PyData} {b:Bool} {x y:Value} {A:Around} (hv:DV X.K H v d) (hu:DV X.K H u e) (h:jQ d e=some b) (h0:dpt d=0) (rx:zE v x) (ry:zE u y):RcAt A s x y b/\EqAt A s x y b:=by
 cases hv with
 |non=>
  cases hu with
  |non=>simp [jQ] at h;subst h;cases (show x=Value.none from rx);cases (show y=Value.none from ry);exact ⟨RcAt.none_none,EqAt.same _⟩
  |int c=>simp [jQ] at h;subst h;cases (show x=Value.none from rx);obtain ⟨t',rfl⟩:=(show ∃ t,y=Value.int _ t from ry);exact ⟨RcAt.none_int _ _,EqAt.none_int _ _⟩
  |bl _=>simp [jQ] at h
  |str _=>simp [jQ] at h
  |tup _ _=>simp [jQ] at h
  |lst _ _=>simp [jQ] at h
 |bl a=>cases hu<;>simp [jQ] at h;subst h;cases (show x=Value.bool _ from rx);cases (show y=Value.bool _ from ry);exact ⟨RcAt.bool_bool _ _,EqAt.bool_bool _ _⟩
 |int a=>
  cases hu with
  |int c=>simp [jQ] at h;subst h;obtain ⟨t,rfl⟩:=(show ∃ t,x=Value.int _ t from rx);obtain ⟨t',rfl⟩:=(show ∃ t,y=Value.int _ t from ry);exact ⟨RcAt.int_int _ _ _ _,EqAt.int_int _ _ _ _⟩
  |non=>simp [jQ] at h;subst h;obtain ⟨t,rfl⟩:=(show ∃ t,x=Value.int _ t from rx);cases (show y=Value.none from ry);exact ⟨RcAt.int_none _ _,EqAt.int_none _ _⟩
  |bl _=>simp [jQ] at h
  |str _=>simp [jQ] at h
  |tup _ _=>simp [jQ] at h
  |lst _ _=>simp [jQ] at h
 |str a=>cases hu<;>simp [jQ] at h;subst h;obtain ⟨t,rfl⟩:=(show ∃ t,x=Value.str _ t from rx);obtain ⟨t',rfl⟩:=(show ∃ t,y=Value.str _ t from ry);exact ⟨RcAt.str_str _ _ _ _,EqAt.str_str _ _ _ _⟩
 |tup=>simp [dpt] at h0
 |lst=>simp [dpt] at h0
def X9 {n:Nat} {vs1 vs2:List V} {ds1 ds2:List PyData} {i1 i2:List Value} {b:Bool} {A:Around} (ih:∀ {v u:V} {d e:PyData} {b:Bool} {x y:Value},DV X.K H v d->DV X.K H u e->jQ d e=some b->dpt d<=n->zE v x->zE u y->EqAt A s x y b)
  (hs:DVs X.K H vs1 ds1) (ks:DVs X.K H vs2 ds2) (r1:qY vs1 i1) (r2:qY vs2 i2) (h:J6 ds1 ds2=some b) (hd:NZ ds1<=n) :
  ∃ e:Nat->Bool,(∀ j (h1:j<i1.toArray.size) (h2:j<i2.toArray.size),EqAt A s i1.toArray[j] i2.toArray[j] (e j))/\(i1.toArray.size=i2.toArray.size/\b=(List.range i1.toArray.size).all e\/i1.toArray.size≠i2.toArray.size/\b=false):=by
 have l1:=hs.length;have l2:=ks.length;have m1:=r1.length;have m2:=r2.length;have e1:i1.toArray.size=ds1.length:=by rw [size_toArray];omega
 have e2:i2.toArray.size=ds2.length:=by rw [size_toArray];omega
 have el:∀ (e:Nat->Bool),(∀ (j:Nat) x y,ds1[j]?=some x->ds2[j]?=some y->jQ x y=some (e j))->∀ j (h1:j<i1.toArray.size) (h2:j<i2.toArray.size),EqAt A s i1.toArray[j] i2.toArray[j] (e j):=λe he j h1 h2=>by
  obtain ⟨w1,g1,q1⟩:=qar r1 h1;obtain ⟨w2,g2,q2⟩:=qar r2 h2;obtain ⟨d1,f1,dv1⟩:=hs.get g1;obtain ⟨d2,f2,dv2⟩:=ks.get g2;have:=MH (v9 f1);exact ih dv1 dv2 (he j d1 d2 f1 f2) (by omega) q1 q2
 by_cases hl:ds1.length=ds2.length
 ·obtain ⟨e,he,hb⟩:=R6 h hl;exact ⟨e,el e he,.inl ⟨by omega,by rw [e1];exact hb⟩⟩
 ·obtain ⟨hb,e,he⟩:=R9 h hl;exact ⟨e,el e he,.inr ⟨by omega,hb⟩⟩
def qbA (I:Inv X pins σ H s):∀ (n:Nat) {v u:V} {d e:PyData} {b:Bool} {x y:Value} {A:Around},DV X.K H v d->DV X.K H u e->jQ d e=some b->dpt d<=n->A.units+n<cLine->zE v x->zE u y ->
  RcAt A s x y b/\EqAt A s x y b:=by
 intro n;induction n with
 |zero=>intro v u d e b x y A hv hu h hd hn rx ry;exact qad hv hu h (by omega) rx ry
 |succ n ih=>
  intro v u d e b x y A hv hu h hd hn rx ry;by_cases h0:dpt d=0
  ·exact qad hv hu h h0 rx ry
  have fin:∀ {l l':Addr},x=.ref l->y=.ref l'->v=.ref l->u=.ref l'->RcAt A s x y b->RcAt A s x y b/\EqAt A s x y b:=by
   rintro l l' rfl rfl rfl rfl rc;refine ⟨rc,?_⟩;by_cases hll:l=l'
   ·subst hll;have:=DV.inj I hv hu;subst this;rw [R0 h];exact EqAt.same _
   ·exact EqAt.of_refs hll rc
  have ih':∀ {v u:V} {d e:PyData} {b:Bool} {x y:Value},DV X.K H v d->DV X.K H u e->jQ d e=some b->dpt d<=n->zE v x->zE u y->EqAt A.in1 s x y b:=λa b c d e f=>(ih a b c d (show A.units+1+n<cLine by omega) e f).2;cases hv with
  |tup hq hs=>
   cases hu with
   |tup kq ks=>
    simp only [jQ] at h;simp only [dpt] at hd;obtain ⟨i1,r1,p1,z1⟩:=I.tuple hq;obtain ⟨i2,r2,p2,z2⟩:=I.tuple kq;obtain ⟨e,el,hb⟩:=X9 ih' hs ks r1 r2 h (by omega);have rc:=RcAt.tuples (A:=A) (show s.heap.IsTuple _ i1.toArray from p1) (show s.heap.IsTuple _ i2.toArray from p2) (by omega) el;refine fin rx ry rfl rfl ?_;cases (show x=Value.ref _ from rx);cases (show y=Value.ref _ from ry);rcases hb with ⟨e1,hb⟩|⟨e1,hb⟩
    ·rw [← e1] at rc;rw [hb];simpa using rc
    ·rw [beq_eq_false_iff_ne.mpr e1,Bool.and_false] at rc;rw [hb];exact rc
   |_=>simp [jQ] at h
  |lst hq hs=>
   cases hu with
   |lst kq ks=>
    simp only [jQ] at h;simp only [dpt] at hd;obtain ⟨i1,r1,p1,z1⟩:=I.list hq;obtain ⟨i2,r2,p2,z2⟩:=I.list kq;obtain ⟨e,el,hb⟩:=X9 ih' hs ks r1 r2 h (by omega);refine fin rx ry rfl rfl ?_;cases (show x=Value.ref _ from rx);cases (show y=Value.ref _ from ry);rcases hb with ⟨e1,hb⟩|⟨e1,hb⟩
    ·rw [hb];exact RcAt.lists p1.isList p2.isList e1 (by omega) el
    ·rw [hb];exact RcAt.lists_lengths p1.isList p2.isList (by simpa using e1) (by omega)
   |_=>simp [jQ] at h
  |_=>exact (h0 rfl).elim
def qhR (I:Inv X pins σ H s) {n:Nat} {v u:V} {d e:PyData} {b:Bool} {x y:Value} {A:Around} (hv:DV X.K H v d) (hu:DV X.K H u e) (h:jQ d e=some b) (hd:dpt d<=n+1) (hn:A.units+(n+1)<cLine) (rx:zE v x) (ry:zE u y) (hs:dpt d≠0):RcNeAt A s x y (!b):=by
 have ih':∀ {v u:V} {d e:PyData} {b:Bool} {x y:Value},DV X.K H v d->DV X.K H u e->jQ d e=some b->dpt d<=n->zE v x->zE u y->EqAt A.in1 s x y b:=λa b c d e f=>(qbA I n a b c d (show A.units+1+n<cLine by omega) e f).2;cases hv with
 |tup hq hs'=>
  cases hu with
  |tup kq ks=>
   simp only [jQ] at h;simp only [dpt] at hd;obtain ⟨i1,r1,p1,z1⟩:=I.tuple hq;obtain ⟨i2,r2,p2,z2⟩:=I.tuple kq;obtain ⟨e,el,hb⟩:=X9 ih' hs' ks r1 r2 h (by omega);have rc:=RcNeAt.tuples (A:=A) (show s.heap.IsTuple _ i1.toArray from p1) (show s.heap.IsTuple _ i2.toArray from p2) (by omega) el;cases (show x=Value.ref _ from rx);cases (show y=Value.ref _ from ry);rcases hb with ⟨e1,hb⟩|⟨e1,hb⟩
   ·rw [← e1] at rc;rw [hb];simpa using rc
   ·rw [beq_eq_false_iff_ne.mpr e1] at rc;rw [hb];simpa using rc
  |_=>simp [jQ] at h
 |lst hq hs'=>
  cases hu with
  |lst kq ks=>
   simp only [jQ] at h;simp only [dpt] at hd;obtain ⟨i1,r1,p1,z1⟩:=I.list hq;obtain ⟨i2,r2,p2,z2⟩:=I.list kq;obtain ⟨e,el,hb⟩:=X9 ih' hs' ks r1 r2 h (by omega);cases (show x=Value.ref _ from rx);cases (show y=Value.ref _ from ry);rcases hb with ⟨e1,hb⟩|⟨e1,hb⟩
   ·rw [hb];exact RcNeAt.lists p1.isList p2.isList (A:=A) e1 (by omega) el
   ·rw [hb];exact RcNeAt.lists_lengths p1.isList p2.isList (by simpa using e1) (by omega)
  |_=>simp [jQ] at h
 |_=>exact (hs rfl).elim
def qh0 (K:Frg) (neg:Bool):R2:=λx y H Q=>∃ d e b,DV K H x d/\DV K H y e/\jQ d e=some b/\dpt d<=40/\dpt d≠0/\Q (.bl (if neg then !b else b)) H
def qiZ (hu:X.A.units+64<cLine):OpR X (compareOp .Eq) (qh0 X.K false):=by
 intro pins s σ H x y v u Q I rx ry h;obtain ⟨d,e,b,hx,hy,hb,hd,_,q⟩:=h;exact (qbA I 40 hx hy hb hd (by omega) rx ry).1 X.prog X.w X.xe _ ⟨.bl b,H,I,rfl,q⟩
def qls (hu:X.A.units+64<cLine):OpR X (compareOp .NotEq) (qh0 X.K true):=by
 intro pins s σ H x y v u Q I rx ry h;obtain ⟨d,e,b,hx,hy,hb,hd,hs,q⟩:=h;exact qhR I (n:=40) hx hy hb (by omega) (by omega) rx ry hs X.prog X.w X.xe _ ⟨.bl (!b),H,I,rfl,q⟩
end
def ZM (neg:Bool):R3:=λx y G q=>match U8 x y with
 |some k=>q (.bl (if neg then !k else k)) G
 |none=>∃ d e b,Dp G x d/\Dp G y e/\jQ d e=some b/\dpt d<=40/\dpt d≠0/\q (.bl (if neg then !b else b)) G
def zN {K:Frg}:XN K (ZM false) (λx y H Q=>rEq x y H Q\/qh0 K false x y H Q):=λx y v u G H q Q hr rx ry h af=>by
 unfold ZM at h;split at h
 ·rename_i k e;obtain ⟨h1,h2⟩:=MK rx ry e;refine .inl ⟨h1,?_⟩;rw [h2];exact af _ G h _ H (.bl _) hr Kp.refl
 ·obtain ⟨d,e,b,h1,h2,h3,h4,h5,h6⟩:=h;exact .inr ⟨d,e,b,h1.dv hr rx,h2.dv hr ry,h3,h4,h5,af _ G h6 _ H (.bl _) hr Kp.refl⟩
def ZD {K:Frg}:XN K (ZM true) (λx y H Q=>rNe x y H Q\/qh0 K true x y H Q):=λx y v u G H q Q hr rx ry h af=>by
 unfold ZM at h;split at h
 ·rename_i k e;obtain ⟨h1,h2⟩:=MK rx ry e;refine .inl ⟨h1,?_⟩;rw [h2];exact af _ G h _ H (.bl _) hr Kp.refl
 ·obtain ⟨d,e,b,h1,h2,h3,h4,h5,h6⟩:=h;exact .inr ⟨d,e,b,h1.dv hr rx,h2.dv hr ry,h3,h4,h5,af _ G h6 _ H (.bl _) hr Kp.refl⟩
def jD {X:Cx} (hu:X.A.units+64<cLine):OpR X (compareOp .Eq) (λx y H Q=>rEq x y H Q\/qh0 X.K false x y H Q):=qmi.or (qiZ hu)
def YQ {X:Cx} (hu:X.A.units+64<cLine):OpR X (compareOp .NotEq) (λx y H Q=>rNe x y H Q\/qh0 X.K true x y H Q):=qmE.or (qls hu)
end L3
namespace L3
open PySem PySem.Spec PyProof.Rows L2
section
variable {X:Cx} {pins:List (Addr×Obj)} {σ:L2.St} {H:Hp} {s:Shared}
mutual
theorem DV.reads (I:Inv X pins σ H s):∀ {v:V} {d:PyData} {x:Value},DV X.K H v d->zE v x->∃ as,Reads s.heap x d as
 |_,_,x,.non,r=>by cases (show x=Value.none from r);exact ⟨_,.none⟩
 |_,_,x,.bl b,r=>by cases (show x=Value.bool b from r);exact ⟨_,.bool b⟩
 |_,_,x,.int i,r=>by obtain ⟨t,rfl⟩:=(show ∃ t,x=Value.int i t from r);exact ⟨_,.int i t⟩
 |_,_,x,.str y,r=>by obtain ⟨t,rfl⟩:=(show ∃ t,x=Value.str y t from r);exact ⟨_,.str y t⟩
 |_,_,x,.tup (a:=a) h hs,r=>by
  cases (show x=Value.ref a from r);obtain ⟨its,rv,⟨o,h1,h2,n,h3⟩,_⟩:=I.tuple h;obtain ⟨as,ra⟩:=DVs.reads I hs rv;exact ⟨as,.tuple h1 h2 h3 (by simpa using ra)⟩
 |_,_,x,.lst (a:=a) h hs,r=>by
  cases (show x=Value.ref a from r);obtain ⟨its,rv,p,_⟩:=I.list h;obtain ⟨o,h1,h2,n,h3⟩:=p.isList;obtain ⟨as,ra⟩:=DVs.reads I hs rv;exact ⟨a::as,.list h1 h2 h3 (by simpa using ra)⟩
theorem DVs.reads (I:Inv X pins σ H s):∀ {v:List V} {d:List PyData} {x:List Value},DVs X.K H v d->qY v x->∃ as,ReadsAll s.heap x d as
 |_,_,_,.nil,.nil=>⟨_,.nil⟩
 |_,_,_,.cons a b,.cons c d=>by
  obtain ⟨as,r1⟩:=DV.reads I a c;obtain ⟨bs,r2⟩:=DVs.reads I b d;exact ⟨_,.cons r1 r2⟩
end
structure ShOk (d:PyData):Prop where
 sh:d.showable=true
 nd:d.hasDict=false
 dp:d.depth<=40
 lv:d.leavesShort 13=true
 bk:d.bulk<=2 ^ 20
end
section
variable {X:Cx}
def qg6:V->List V->Hp->VK->Prop:=λx vs H Q=>∃ i,x=.int i/\vs=[]/\Q (.int (Builtin.Int.intBits i)) H
def qcr:MtR X "int.bit_length" qg6:=by
 intro pins s σ H x vs v us Q I rx rv h;obtain ⟨i,rfl,rfl,q⟩:=h;obtain ⟨t,rfl⟩:=rx;have hus:=rv.zero;subst hus;exact call_int_bit_length ⟨.int _,_,I.tok _,⟨_,rfl⟩,q⟩
def bl3 (to:TE3):TE3:=λτ G q=>to τ G λx G1=>match x with|.int i=>q (.int (Builtin.Int.intBits i)) G1|_=>False
def RB {o:Expr} {to:TE3} {apos cpos:Pos} (ho:jE3 X o to) (hbase:attributeBase o "bit_length" X.env (eval o X.env)=eval o X.env:=by rfl) (hline:(apos.endLine==cpos.line)=true:=by rfl) :
  jE3 X (.Call (.Attribute o "bit_length" apos) [] [] cpos) (bl3 to):=
 ⟨WK (qj5 PySem.F.plainAttrs_int PySem.F.slot_int_bit_length PySem.F.type_int_bit_length qcr ho.h hbase hline) λ_ _ _ ⟨τ,G,q,rl,h,af⟩=>zf rl h λx G1 h1 v H1 rx hr1 k1 rl1=>by
  cases x<;>try exact h1.elim
  case int i=>
   cases rx;exact ⟨rfl,i,rfl,rfl,af.back k1 _ _ h1 _ _ (.int _) hr1 Kp.refl⟩⟩
end
section
variable {prog:Program} {w:World} {A:Around} {R:Result->Shared->Prop} {s:Shared}
def ZN {elt t1 i1 t2 i2:Expr} {f1 f2:List Expr} {scope:Scope} {pos:Pos} {it acc:Value} {env:Env}
  (h0:codeAny (model prog w) A (.compLoop (.ListComp elt [⟨t1,i1,f1,0⟩,⟨t2,i2,f2,0⟩] scope pos) 1 it acc env) R s)
  (h:wpAny (model prog w) A (pyIter it) (λit' s'=>codeAny (model prog w) A (.compLoop (.ListComp elt [⟨t1,i1,f1,0⟩,⟨t2,i2,f2,0⟩] scope pos) 1 it' acc env) R s')
   (notedBy (model prog w) A env λx s'=>R (.error x) s') s) :
  codeAny (model prog w) A (.compStart (.ListComp elt [⟨t1,i1,f1,0⟩,⟨t2,i2,f2,0⟩] scope pos) 1 it acc env) R s:=by
 refine codeAny_of_tree ?_;show wpAny _ _ ((compStart (.ListComp elt [⟨t1,i1,f1,0⟩,⟨t2,i2,f2,0⟩] scope pos) 1 it acc env).onRaise (λx=>do noteFrame x env;standAt theWindowsPlace)) _ _ s;refine wpAny_notedAt ?_;unfold compStart;show wpAny _ _ (ask >>= _) _ _ s;refine x8 (wpAny_askSetting (wpAny_ite ?_));split
 ·first
   |exact x8 (x9 (x9 (And.intro rfl h0)))
   |exact x9 (And.intro rfl h0)
 ·first
   |exact x8 (wpAny_rule (x8 (wpAny_standAt (x8 (y0 h (λit' s' h'=>x9 (And.intro rfl h')) λ_ _ x=>x)))))
   | (refine x8 (wpAny_rule ?_);show wpAny _ _ (standAt i2.pos >>= _) _ _ s;exact x8 (wpAny_standAt (x8 (y0 h (λit' s' h'=>x9 (And.intro rfl h')) λ_ _ x=>x))))
end
def tIn (wi:TI) (g:TG) (tif:TT) (te:TE) (D:Addr) (N:L2.St->Hp->Prop) (σ:L2.St) (H:Hp):Prop:=wi σ H λJ H1=>
 ∃ W:Nat->Nat->L2.St->Hp->Prop,(∃ n,W 0 n σ H1)/\qdc J g tif (tAp te D) N W
def inB (elt t1 i1:Expr) (f1:List Expr) (t2 i2:Expr) (f2:List Expr) (scope:Scope) (pos:Pos) (D:Addr) (env:Env) (kk:Sem Fin):Sem Fin:=do
 let x←eval i2 env
 standAt i2.pos
 let x←foldedSetIterable i2 env x
 let _←runOwn (.compStart (.ListComp elt [⟨t1,i1,f1,0⟩,⟨t2,i2,f2,0⟩] scope pos) 1 (← holding [x] (pyIter x)) (.ref D) env) env
 kk
section
variable {X:Cx}
def qnB {elt t1 i1 t2 i2:Expr} {f1 f2:List Expr} {scope:Scope} {pos:Pos} {wi:TI} {g:TG} {tif:TT} {te:TE} {D:Addr} {kk:Sem Fin} (hc:X.calm=true) (hx:∀ v s,¬ X.xe v s) (hi:PI X t2 i2 wi) (hg:PG X t2 g) (hf:PF X f2 tif) (he:PE X elt te)
  (hs:∀ x,foldedSetIterable i2 X.env x=pure x) (hA:∀ it,X.A.under (.compLoop (.ListComp elt [⟨t1,i1,f1,0⟩,⟨t2,i2,f2,0⟩] scope pos) 1 (.ref it) (.ref D) X.env)=X.A):∀ pins s σ H N Q E,Inv X pins σ H s->tIn wi g tif te D N σ H->(∀ s' σ' H',Inv X pins σ' H' s'->N σ' H'->wpAny (model X.prog X.w) X.A kk Q E s')->wpAny (model X.prog X.w) X.A (inB elt t1 i1 f1 t2 i2 f2 scope pos D X.env kk) Q E s:=λpins s σ H N Q E I h hk=>by
 refine x8 (y0 (hi pins s σ H _ I h) (λv s1 h1=>?_) λ_ _ z=>(hx _ _ z).elim);refine x8 (wpAny_standAt (x8 (wpAny_of_eq (hs v) ?_)));refine x8 (wpAny_holding (y0 h1 (λitv s2 h2=>?_) λ_ _ z=>(hx _ _ z).elim));obtain ⟨it,fp,tn,J,H2,rfl,I2,T,st2,f2',W,⟨n0,w0⟩,turn⟩:=h2;have loop:=TM (ce:=.ListComp elt [⟨t1,i1,f1,0⟩,⟨t2,i2,f2,0⟩] scope pos) (kx:=1) (ip:=i2.pos) (Post:=λr s'=>match r with
   |.ok f=>wpAny (model X.prog X.w) X.A kk Q E s'
   |.error e=>cameBackBy (model X.prog X.w) X.A X.env E e s') hc hx rfl (hA it) rfl T hg hf (qhl hx he) (λ_ hn b hb=>⟨hn b hb,(f2' b hb).2⟩) turn (λs σ H I q=>hk _ _ _ I q) I2 st2 (λb hb=>(f2' b hb).1) w0
 exact x8 (wpAny_runOwn (ZN loop (T.self X.A 0 _ _ _ st2 loop)))
def qjq {elt tg iter t2 i2:Expr} {ifs f2:List Expr} {scope:Scope} {pos:Pos} {N':List Str} {m:List (Option Nat)} {wi:TI} {g:TG} {tif:TT} {wi2:TI} {g2:TG} {tif2:TT} {te:TE} (hc:X.calm=true) (hi:PI X tg iter wi)
  (hg:∀ s H fp,PG (qr X N' scope s H fp) tg g) (hf:∀ s H fp,PF (qr X N' scope s H fp) ifs tif) (hi2:∀ s H fp,PI (qr X N' scope s H fp) t2 i2 wi2) (hg2:∀ s H fp,PG (qr X N' scope s H fp) t2 g2) (hf2:∀ s H fp,PF (qr X N' scope s H fp) f2 tif2) (he:∀ s H fp,PE (qr X N' scope s H fp) elt te)
  (hsc:qcM X.env.scope scope=true) (hcap:UF X.N N' scope m=true) (hs:∀ x,foldedSetIterable iter X.env x=pure x:=by intro _;rfl) (hs2:∀ s H fp x,foldedSetIterable i2 (qr X N' scope s H fp).env x=pure x:=by intro _ _ _ _;rfl) :
  PE X (.ListComp elt [⟨tg,iter,ifs,0⟩,⟨t2,i2,f2,0⟩] scope pos) (tLG wi g tif (tIn wi2 g2 tif2 te) m):=by
 intro pins s σ H Q I h;rw [eval_ListComp];exact KH (use:=none) (bd:=inB elt tg iter ifs t2 i2 f2 scope pos) hc hi (λ_ _ _=>rfl) hg hf (λs H fp D kk=>qnB rfl (λ_ _ z=>z) (hi2 s H fp) (hg2 s H fp) (hf2 s H fp) (he s H fp) (hs2 s H fp) λ_=>rfl) hsc hcap hs I h qfg
end
def qh3 (D:Addr) (stay:Gp->Prop) (g:TG3) (tif:TT3) (te:TE3) (N:St3->Gp->Prop):List T->St3->Gp->Prop
 |[],τ,G=>stay G/\N τ G
 |x::r,τ,G=>stay G/\g x τ G λτ2 G2=>tif τ2 G2 λk G3=>
  if k=true then te τ2 G3 λy G4=>(match G4 D with|some (.lst ys)=>ys.length<sizeLine/\qh3 D stay g tif te N r τ2 (gu G4 D (.lst (ys++[y])))|_=>False) else qh3 D stay g tif te N r τ2 G3
def qag (D:Addr) (stay:Gp->Prop) (g:TG3) (tif:TT3) (wi2:TI3) (g2:TG3) (tif2:TT3) (te:TE3) (q:Q3):List T->St3->Gp->Prop
 |[],_,G=>stay G/\q (.ref D) G
 |x::r,τ,G=>stay G/\g x τ G λτ2 G2=>tif τ2 G2 λk G3=>
  if k=true then wi2 τ2 G3 λitems2 stay2 G4=>qh3 D stay2 g2 tif2 te (λτ' G'=>qag D stay g tif wi2 g2 tif2 te q r τ' G') items2 τ2 G4 else qag D stay g tif wi2 g2 tif2 te q r τ2 G3
def qjz (wi:TI3) (g:TG3) (tif:TT3) (wi2:TI3) (g2:TG3) (tif2:TT3) (te:TE3) (m:List (Option Nat)):TE3:=λτ G q=>wi τ G λitems stay G1=>∀ D,G1 D=none->qag D stay g tif wi2 g2 tif2 te q items (cap m τ) (gu G1 D (.lst []))
section
variable {K:Frg}
def qho {wi2:TI3} {g2:TG3} {tif2:TT3} {te:TE3} {D:Addr} {N3:St3->Gp->Prop} {N:L2.St->Hp->Prop} {τ:St3} {G:Gp} {σ:L2.St} {H:Hp} {Gb:Gp} {Hb:Hp} (rl:Rel K τ G σ H) (kb:Kp Gb Hb G H) (h:wi2 τ G λitems stay G1=>qh3 D stay g2 tif2 te N3 items τ G1)
  (hN:∀ τ' G' σ' H',Rel K τ' G' σ' H'->Kp Gb Hb G' H'->N3 τ' G'->N σ' H'):tIn (lI K wi2) (lG K g2) (lT K tif2) (lE K te) D N σ H:=by
 refine ⟨τ,G,_,rl,h,λitems stay G1 h1 J H1 hr1 k1 ok=>?_⟩;refine ⟨λi n σ' H'=>n=items.length-i/\i<=items.length/\∃ τ' G',Rel K τ' G' σ' H'/\Kp G1 H1 G' H'/\qh3 D stay g2 tif2 te N3 (items.drop i) τ' G',⟨_,rfl,Nat.zero_le _,τ,G1,rl.next hr1 k1,Kp.refl,by simpa using h1⟩,?_⟩;rintro i n σ' H' ⟨rfl,hi,τ',G',rl',k',h'⟩;by_cases hlt:i<items.length
 ·rw [List.drop_eq_getElem_cons hlt] at h';obtain ⟨hst,h'⟩:=h';obtain ⟨go,yld,_⟩:=ok G' H' rl'.hp k' hst;have hx:items[i]?=some items[i]:=y9 hlt;refine .inr ⟨go i _ hx,λv H2 y=>?_⟩;obtain ⟨rv,hr2,k2⟩:=yld i _ v H2 hx y;refine ⟨_,τ',G',_,rv,rl'.next hr2 k2,h',λτ3 G3 h3 σ3 H3 rl3 k3=>⟨τ3,G3,_,rl3,h3,λk G4 h4 H4 hr4 k4=>?_⟩⟩;have kk:=(k2.trans k3).trans k4;cases k with
  |false=>
   rw [if_neg y6] at h4;refine qmn ?_;exact ⟨_,by omega,rfl,hlt,τ3,G4,rl3.next hr4 k4,k'.trans kk,h4⟩
  |true=>
   rw [if_pos rfl] at h4;refine qmX ?_;refine ⟨τ3,G4,_,rl3.next hr4 k4,h4,λz G5 h5 w H5 rw5 hr5 k5=>?_⟩;split at h5
   ·rename_i ys e1;obtain ⟨vs,g1,r1⟩:=hr5.lst e1;exact ⟨vs,g1,by rw [← r1.length];exact h5.1,_,by omega,rfl,hlt,τ3,_,((rl3.next hr4 k4).next hr5 k5).next (hr5.wr e1 (r1.append (.cons rw5 .nil))) (Kp.wr e1),((k'.trans kk).trans k5).trans (Kp.wr e1),h5.2⟩
   ·exact h5.elim
 ·have e:i=items.length:=by omega
  subst e;rw [List.drop_length] at h';obtain ⟨_,_,stop⟩:=ok G' H' rl'.hp k' h'.1;exact .inl ⟨stop,hN _ _ _ _ rl' ((kb.trans k1).trans k') h'.2⟩
end
def qit {K:Frg} {m:List (Option Nat)} {wi:TI3} {g:TG3} {tif:TT3} {wi2:TI3} {g2:TG3} {tif2:TT3} {te:TE3} {σ:L2.St} {H:Hp} {Q:VK} (hh:lE K (qjz wi g tif wi2 g2 tif2 te m) σ H Q):tLG (lI K wi) (lG K g) (lT K tif) (tIn (lI K wi2) (lG K g2) (lT K tif2) (lE K te)) m σ H Q:=by
  obtain ⟨τ,G,q,rl,h,af⟩:=hh;refine ⟨τ,G,_,rl,h,λitems stay G1 h1 J H1 hr1 k1 ok D hD=>?_⟩;have gD:G1 D=none:=hr1.free hD;have h1:=h1 D gD;have hr1':HR K (gu G1 D (.lst [])) (upd H1 D (.lst [])):=HR.newL hr1 hD .nil;have k1':Kp G1 H1 (gu G1 D (.lst [])) (upd H1 D (.lst [])):=Kp.newL hD;refine ⟨λi n σ' H'=>n=items.length-i/\i<=items.length/\∃ τ' G',Rel K τ' G' σ' H'/\Kp G1 H1 G' H'/\qag D stay g tif wi2 g2 tif2 te q (items.drop i) τ' G',
   ⟨_,rfl,Nat.zero_le _,cap m τ,_,((rl.next hr1 k1).cap m).next hr1' k1',k1',by simpa using h1⟩,?_⟩
  rintro i n σ' H' ⟨rfl,hi,τ',G',rl',k',h'⟩;by_cases hlt:i<items.length
  ·rw [List.drop_eq_getElem_cons hlt] at h';obtain ⟨hst,h'⟩:=h';obtain ⟨go,yld,_⟩:=ok G' H' rl'.hp k' hst;have hx:items[i]?=some items[i]:=y9 hlt;refine .inr ⟨go i _ hx,λv H2 y=>?_⟩;obtain ⟨rv,hr2,k2⟩:=yld i _ v H2 hx y;refine ⟨_,τ',G',_,rv,rl'.next hr2 k2,h',λτ3 G3 h3 σ3 H3 rl3 k3=>⟨τ3,G3,_,rl3,h3,λk G4 h4 H4 hr4 k4=>?_⟩⟩;have kk:=(k2.trans k3).trans k4;cases k with
   |false=>
    rw [if_neg y6] at h4;refine qmn ?_;exact ⟨_,by omega,rfl,hlt,τ3,G4,rl3.next hr4 k4,k'.trans kk,h4⟩
   |true=>
    rw [if_pos rfl] at h4;refine qmX ?_;exact qho (rl3.next hr4 k4) (k'.trans kk) h4 λτ5 G5 σ5 H5 rl5 k5 h5=>⟨_,by omega,rfl,hlt,τ5,G5,rl5,k5,h5⟩
  ·have e:i=items.length:=by omega
   subst e;rw [List.drop_length] at h';obtain ⟨_,_,stop⟩:=ok G' H' rl'.hp k' h'.1;exact .inl ⟨stop,af _ _ h'.2 _ H' (.ref D) rl'.hp (k1.trans k')⟩
section
variable {X:Cx}
def qmW {elt tg iter t2 i2:Expr} {ifs f2:List Expr} {scope:Scope} {pos:Pos} (N':List Str) (m:List (Option Nat)) {wi:TI3} {g:TG3} {tif:TT3} {wi2:TI3} {g2:TG3} {tif2:TT3} {te:TE3} (hc:X.calm=true) (hi:I3 X tg iter wi)
  (hg:∀ s H fp,G3 (qr X N' scope s H fp) tg g) (hf:∀ s H fp,F3 (qr X N' scope s H fp) ifs tif) (hi2:∀ s H fp,I3 (qr X N' scope s H fp) t2 i2 wi2) (hg2:∀ s H fp,G3 (qr X N' scope s H fp) t2 g2) (hf2:∀ s H fp,F3 (qr X N' scope s H fp) f2 tif2) (he:∀ s H fp,E3 (qr X N' scope s H fp) elt te)
  (hsc:qcM X.env.scope scope=true) (hcap:UF X.N N' scope m=true) (hs:∀ x,foldedSetIterable iter X.env x=pure x:=by intro _;rfl) (hs2:∀ s H fp x,foldedSetIterable i2 (qr X N' scope s H fp).env x=pure x:=by intro _ _ _ _;rfl) :
  E3 X (.ListComp elt [⟨tg,iter,ifs,0⟩,⟨t2,i2,f2,0⟩] scope pos) (qjz wi g tif wi2 g2 tif2 te m):=
 WK (qjq (g:=lG X.K g) (tif:=lT X.K tif) (wi2:=lI X.K wi2) (g2:=lG X.K g2) (tif2:=lT X.K tif2) (te:=lE X.K te) hc hi hg hf hi2 hg2 hf2 he hsc hcap hs hs2) λσ H Q hh=>qit hh
def qiI {elt tg iter t2 i2:Expr} {ifs f2:List Expr} {scope:Scope} {pos:Pos} (N':List Str) (m:List (Option Nat)) {wi:TI3} {g:TG3} {tif:TT3} {wi2:TI3} {g2:TG3} {tif2:TT3} {te:TE3} (hc:X.calm=true) (hi:jI3 X tg iter wi)
  (hg:∀ s H fp,jG3 (qr X N' scope s H fp) tg g) (hf:∀ s H fp,jF3 (qr X N' scope s H fp) ifs tif) (hi2:∀ s H fp,jI3 (qr X N' scope s H fp) t2 i2 wi2) (hg2:∀ s H fp,jG3 (qr X N' scope s H fp) t2 g2) (hf2:∀ s H fp,jF3 (qr X N' scope s H fp) f2 tif2) (he:∀ s H fp,jE3 (qr X N' scope s H fp) elt te)
  (hsc:qcM X.env.scope scope=true) (hcap:UF X.N N' scope m=true) (hs:∀ x,foldedSetIterable iter X.env x=pure x:=by intro _;rfl) (hs2:∀ s H fp x,foldedSetIterable i2 (qr X N' scope s H fp).env x=pure x:=by intro _ _ _ _;rfl) :
  jE3 X (.ListComp elt [⟨tg,iter,ifs,0⟩,⟨t2,i2,f2,0⟩] scope pos) (qjz wi g tif wi2 g2 tif2 te m):=
 ⟨qmW N' m hc hi.h (λs H fp=>(hg s H fp).h) (λs H fp=>(hf s H fp).h) (λs H fp=>(hi2 s H fp).h) (λs H fp=>(hg2 s H fp).h) (λs H fp=>(hf2 s H fp).h) (λs H fp=>(he s H fp).h) hsc hcap hs hs2⟩
end
section
variable {X:Cx}
theorem UH:∀ {its:List Value} {ns:List Int},qY (ns.map V.int) its->IntsAre its ns
 |_,[],h=>by cases h;exact .nil
 |_,n::ns,h=>by
  cases h with
  |cons r t=>
   obtain ⟨k,rfl⟩:=r;exact .cons n k (UH t)
theorem qaS:∀ {its:List Value} {ns:List Int},IntsAre its ns->qY (ns.map V.int) its
 |_,_,.nil=>.nil
 |_,_,.cons n t h=>.cons ⟨t,rfl⟩ (qaS h)
theorem K5 {K:Frg} {H:Hp}:∀ (ns:List Int),Rps K H (ns.map T.int) (ns.map V.int)
 |[]=>.nil
 |n::ns=>.cons (.int n) (K5 ns)
end
section
variable {X:Cx} {tg a b c:Expr} {pos:Pos}
end
section
variable {X:Cx}
end
section
variable {X:Cx} {a b:Expr} {ta tb:TE3} {pos:Pos}
def qj9:OpR X (compareOp .Is) (λx y H Q=>∃ i j,x=.bl i/\y=.bl j/\Q (.bl (i==j)) H):=by
 intro pins s σ H x y v u Q I rx ry h;obtain ⟨i,j,rfl,rfl,q⟩:=h;cases rx;cases ry;exact is_bool (qJ I q rfl)
def qm6 (neg:Bool):R3:=λx y G q=>match x,y with|.bl i,.bl j=>q (.bl (if neg then i != j else i==j)) G|_,_=>False
def qhV {K:Frg}:XN K (qm6 false) (λx y H Q=>∃ i j,x=.bl i/\y=.bl j/\Q (.bl (i==j)) H):=λx y v u G H q Q hr rx ry h af=>by
 cases x<;>try exact h.elim
 cases y<;>try exact h.elim
 cases rx;cases ry;exact ⟨_,_,rfl,rfl,af _ G h _ H (.bl _) hr Kp.refl⟩
structure ShW (d:PyData):Prop where
 sh:d.showable=true
 nd:d.hasDict=false
 dp:d.depth<=40
 fit:d.shown.length<=sizeLine
def ShOk.w {d:PyData} (h:ShOk d):ShW d:=⟨h.sh,h.nd,h.dp,PyData.shown_fits_bulk (by decide) (by decide) h.lv h.bk⟩
def qbc (hg:X.A.guards=some []) (hu:X.A.units+64<cLine):JX X (.type "str") (λxs H Q=>∃ a d,xs=[.ref a]/\DV X.K H (.ref a) d/\ShW d/\Q (.str d.shown) H):=by
 intro pins s σ H xs us Q I r h;obtain ⟨a,d,rfl,dv,ok,q⟩:=h;obtain ⟨u,rfl,rp⟩:=XI r;cases (show u=Value.ref a from rp);obtain ⟨as,rd⟩:=dv.reads I (show zE (.ref a) (.ref a) from rfl);refine str_of_reads rd ok.sh (PyData.noDict_hsm ok.nd) hg (by have:=ok.dp;omega) (λ_ _ e=>e) (λh' u tk hk=>?_) ok.fit;exact ⟨.str _,H,I.kept (h':=h') (t':=tk) hk,⟨_,rfl⟩,q⟩
def shV (st:Bool):V->Hp->(Str->Prop)->Prop:=λv H q=>match v with
 |.non=>q (Str.ofString "None")
 |.bl b=>q (if b=true then Str.ofString "True" else Str.ofString "False")
 |.int i=>i.natAbs.log2<1920/\q (Str.ofString (toString i))
 |.str x=>if st then q x else (reprText x).length<=sizeLine/\q (reprText x)
 |.ref a=>∃ d,DV X.K H (.ref a) d/\ShW d/\q d.shown
 |_=>False
def DL (hg:X.A.guards=some []) (hu:X.A.units+64<cLine):JX X (.type "str") (λxs H Q=>∃ v,xs=[v]/\shV (X:=X) true v H λx=>Q (.str x) H):=by
 intro pins s σ H xs us Q I r h;obtain ⟨v,rfl,h⟩:=h;obtain ⟨u,rfl,rp⟩:=XI r;cases v with
 |non=>cases (show u=Value.none from rp);exact P.str_of_none ⟨.str _,H,I.tok _,⟨_,rfl⟩,h⟩
 |bl b=>cases (show u=Value.bool b from rp);exact P.str_of_bool ⟨.str _,H,I.tok _,⟨_,rfl⟩,h⟩
 |int i=>obtain ⟨t,rfl⟩:=(show ∃ t,u=Value.int i t from rp);exact P.str_of_int h.1 ⟨.str _,H,I.tok _,⟨_,rfl⟩,h.2⟩
 |str x=>obtain ⟨t,rfl⟩:=(show ∃ t,u=Value.str x t from rp);exact P.str_of_str ⟨.str _,H,I,⟨_,rfl⟩,h⟩
 |ref a=>
  obtain ⟨d,dv,ok,q⟩:=h;exact qbc hg hu _ _ _ _ _ _ _ I r ⟨a,d,rfl,dv,ok,q⟩
 |_=>exact h.elim
def shT (st:Bool):T->Gp->(Str->Prop)->Prop:=λx G q=>match x with
 |.non=>q (Str.ofString "None")
 |.bl b=>q (if b=true then Str.ofString "True" else Str.ofString "False")
 |.int i=>i.natAbs.log2<1920/\q (Str.ofString (toString i))
 |.str x=>if st then q x else (reprText x).length<=sizeLine/\q (reprText x)
 |.tup _=>∃ d,Dp G x d/\ShW d/\q d.shown
 |.ref _=>∃ d,Dp G x d/\ShW d/\q d.shown
def T8 (st:Bool):List T->Gp->Q3->Prop:=λxs G q=>match xs with
 |[x]=>shT st x G λy=>q (.str y) G
 |_=>False
def MJ {st:Bool}:qck X.K (T8 st) (λxs H Q=>∃ v,xs=[v]/\shV (X:=X) st v H λx=>Q (.str x) H):=λxs vs G H q Q hr rs h af=>by
 unfold T8 at h;split at h
 ·rename_i x;obtain ⟨v,rfl,r⟩:=T9 rs;refine ⟨v,rfl,?_⟩;cases r with
  |non=>exact af _ G h _ H (.str _) hr Kp.refl
  |bl b=>exact af _ G h _ H (.str _) hr Kp.refl
  |int i=>exact ⟨h.1,af _ G h.2 _ H (.str _) hr Kp.refl⟩
  |str x=>
   cases st with
   |true=>exact af _ G h _ H (.str _) hr Kp.refl
   |false=>exact ⟨h.1,af _ G h.2 _ H (.str _) hr Kp.refl⟩
  |tup hs r2=>
   obtain ⟨d,h1,h2,h3⟩:=h;exact ⟨d,h1.dv hr (.tup hs r2),h2,af _ G h3 _ H (.str _) hr Kp.refl⟩
  |ref a=>
   obtain ⟨d,h1,h2,h3⟩:=h;exact ⟨d,h1.dv hr (.ref a),h2,af _ G h3 _ H (.str _) hr Kp.refl⟩
 ·exact h.elim
end
section
variable {X:Cx} {K:Frg} {w:World} {mg:Str->Option Value}
def qct (hc:X.calm=true):JX X (.builtin "max") (λxs H Q=>∃ (p:Addr) (ns:List Int),xs=[.ref p]/\SqL X.K H p (ns.map V.int)/\ns≠[]/\∀ m∈ns,(∀ a∈ns,a<=m)->Q (.int m) H):=by
 intro pins s σ H xs us Q I r h;obtain ⟨p,ns,rfl,hq,hne,q⟩:=h;obtain ⟨u,rfl,rp⟩:=XI r;cases (show u=Value.ref p from rp);obtain ⟨its,rv,pl,hz⟩:=I.list hq;have hlen:its.length=ns.length:=by have:=rv.length;simp at this;omega
 have hpos:0<ns.length:=List.length_pos_iff.mpr hne;have hp:p<s.heap.objs.size:=by obtain ⟨o,n,e,_⟩:=pl;exact y4 e
 have vals:∀ (i:Nat) (v:Value),its.toArray[i]?=some v->∃ t,v=Value.int (ns.getD i 0) t:=λi v hv=>by
  have hv':its[i]?=some v:=by simpa using hv
  obtain ⟨hi,_⟩:=za4 hv';have hi':i<ns.length:=by omega
  obtain ⟨u,hu,ru⟩:=rv.get (i:=i) (show (ns.map V.int)[i]?=some (V.int (ns[i])) by simp [hi']);rw [hv'] at hu;cases hu;obtain ⟨t,rfl⟩:=ru;exact ⟨t,by show Value.int ns[i] t=Value.int (ns.getD i 0) t;rw [getD_eq_getElem?_getD,y9 hi'];rfl⟩
 refine call_max_walk (wpAny_pyIter_list pl.isList ⟨s.heap.objs.size,_,_,_,_,_,_,rfl,Walks.list (A:=X.A.in1) (show X.A.in1.handled=none from I.ok.hd hc) s.heap.objs.size p (u8 hp) its.toArray,⟨⟨_,y3 _ rfl,rfl,rfl⟩,?_⟩,λb hb=>?_,by rw [size_toArray];omega,CmpOf.ints_gt (λi=>ns.getD i 0) vals,λv h' tk hP hk=>?_⟩)
 ·obtain ⟨o,n,e,c,_,d⟩:=pl;exact ⟨o,y2 _ e,c,n,d⟩
 ·have lt1:∀ n c:Nat,c<n->c<n+1:=λn c h=>by omega
  rw [show (({ s with heap:=s.heap.push _ }:Shared).heap.objs.size)=s.heap.objs.size+1 from Heap.size_push ..];simp only [mem_cons,not_mem_nil,or_false] at hb;rcases hb with rfl|rfl
  ·exact Nat.lt_succ_self _
  ·exact lt1 _ _ hp
 ·obtain ⟨b1,b2⟩:=argBest_gt (λi=>ns.getD i 0) (its.toArray.size-1);obtain ⟨t,rfl⟩:=vals _ _ hP;rw [size_toArray] at b1 b2 ⊢;have gd:∀ j,j<ns.length->ns.getD j 0∈ns:=λj hj=>by rw [getD_eq_getElem?_getD,y9 hj];exact List.getElem_mem hj
  refine ⟨.int _,H,I.kept (h':=h') (t':=tk) λb o e=>hk b o (by simp;exact u8 (y4 e)) (y2 _ e),⟨_,rfl⟩,q _ (gd _ (by omega)) λa ha=>?_⟩;obtain ⟨j,hj,rfl⟩:=List.mem_iff_getElem.mp ha;have:=b2 j (by omega);have e:ns.getD j 0=ns[j]:=by rw [getD_eq_getElem?_getD,y9 hj];rfl
  rw [e] at this;exact this
def qae:List T->Gp->Q3->Prop:=λxs G q=>match xs with
 |[.ref p]=>(match getL G p with|some ys=>(match X4 ys with|some ns=>ns≠[]/\∀ m∈ns,(∀ a∈ns,a<=m)->q (.int m) G|none=>False)|none=>False)
 |_=>False
def qdB {K:Frg}:qck K qae (λxs H Q=>∃ (p:Addr) (ns:List Int),xs=[.ref p]/\SqL K H p (ns.map V.int)/\ns≠[]/\∀ m∈ns,(∀ a∈ns,a<=m)->Q (.int m) H):=λxs vs G H q Q hr rs h af=>by
 unfold qae at h;split at h
 ·rename_i p;obtain ⟨v,rfl,r⟩:=T9 rs;cases r;split at h
  ·rename_i ys e0;split at h
   ·rename_i ns e1;obtain ⟨us,hs,r2⟩:=zD hr e0;have:=U9 e1;subst this;have:=EI r2;subst this;exact ⟨p,ns,rfl,hs,h.1,λm hm ha=>af _ _ (h.2 m hm ha) _ _ (.int _) hr Kp.refl⟩
   ·exact h.elim
  ·exact h.elim
 ·exact h.elim
end
section
variable {X:Cx}
end
open PySem.SeqAt
section
variable {X:Cx} {pins:List (Addr×Obj)} {σ:L2.St} {H:Hp} {s:Shared}
end
end L3
namespace HT
open PySem PySem.Spec PyProof.Rows L2
section
open PySem.SeqAt
open PySem.MeetsSeq PySem.MeetsSeq2 PySem.MeetsSeq3
end
section
variable {prog:Program} {w:World} {A:Around} {E:Value->Shared->Prop} {s:Shared}
end
end HT
namespace L3
open PySem PySem.Spec PyProof.Rows L2
section
variable {X:Cx}
end
end L3
namespace Pu
open PySem L2 L3
def cif {α:Type} (P:Prop) (a b:α):α:=@ite α P (Classical.propDecidable P) a b
def qT {α:Type} {P:Prop} {a b:α} (h:P):cif P a b=a:=@if_pos P (Classical.propDecidable P) h α a b
def qcD {α:Type} {P:Prop} {a b:α} (h:¬ P):cif P a b=b:=@if_neg P (Classical.propDecidable P) h α a b
structure Tru (b:Bool):Prop where
 h:b=true
mutual
inductive Dq (G:Gp):T->PyData->Prop
 |non:Dq G .non .none
 |bl (b:Bool):Dq G (.bl b) (.bool b)
 |int (i:Int):Dq G (.int i) (.int i)
 |str (x:Str):Dq G (.str x) (.str x)
 |tup {xs:List T} {ds:List PyData}:Dqs G xs ds->Dq G (.tup xs) (.tuple ds)
 |lst {p:Addr} {xs:List T} {ds:List PyData}:G p=some (.lst xs)->Dqs G xs ds->Dq G (.ref p) (.list ds)
 |clo {p:Addr} {i:Nat} {xs:List T} {ds:List PyData}:G p=some (.clo i xs)->Dqs G xs ds->Dq G (.ref p) (.dict [(.int (i:Int),.tuple ds)])
inductive Dqs (G:Gp):List T->List PyData->Prop
 |nil:Dqs G [] []
 |cons {x:T} {d:PyData} {xs:List T} {ds:List PyData}:Dq G x d->Dqs G xs ds->Dqs G (x::xs) (d::ds)
end
mutual
theorem Dq.up {G G':Gp} (e:Ex G G'):∀ {x:T} {d:PyData},Dq G x d->Dq G' x d
 |_,_,.non=>.non
 |_,_,.bl b=>.bl b
 |_,_,.int i=>.int i
 |_,_,.str x=>.str x
 |_,_,.tup h=>.tup (Dqs.up e h)
 |_,_,.lst h1 h2=>.lst (e _ _ h1) (Dqs.up e h2)
 |_,_,.clo h1 h2=>.clo (e _ _ h1) (Dqs.up e h2)
theorem Dqs.up {G G':Gp} (e:Ex G G'):∀ {x:List T} {d:List PyData},Dqs G x d->Dqs G' x d
 |_,_,.nil=>.nil
 |_,_,.cons a b=>.cons (Dq.up e a) (Dqs.up e b)
end
def ze {G:Gp} {p:Addr} {xs:List T} (h:G p=some (.lst xs)):getL G p=some xs:=by unfold getL;rw [h]
mutual
def noC:PyData->Bool
 |.list xs=>EN xs
 |.tuple xs=>EN xs
 |.dict _=>false
 |_=>true
def EN:List PyData->Bool
 |[]=>true
 |x::xs=>noC x&&EN xs
end
theorem YK:∀ {ds:List PyData},EN ds=true↔∀ d∈ds,noC d=true
 |[]=>by simp [EN]
 |d::ds=>by simp [EN,YK (ds:=ds)]
mutual
theorem qhC:∀ {d:PyData},dpt d<=40->noC d=true
 |.none,_=>rfl
 |.bool _,_=>rfl
 |.int _,_=>rfl
 |.str _,_=>rfl
 |.list xs,h=>by unfold noC;exact qaZ (by unfold dpt at h;omega)
 |.tuple xs,h=>by unfold noC;exact qaZ (by unfold dpt at h;omega)
 |.dict _,h=>by unfold dpt at h;omega
theorem qaZ:∀ {ds:List PyData},NZ ds<=40->EN ds=true
 |[],_=>rfl
 |x::xs,h=>by
  unfold NZ at h;unfold EN;rw [qhC (by omega),qaZ (by omega)];rfl
end
mutual
theorem qg3:∀ {d:PyData},d.hasDict=false->noC d=true
 |.none,_=>rfl
 |.bool _,_=>rfl
 |.int _,_=>rfl
 |.str _,_=>rfl
 |.list xs,h=>by unfold noC;exact qbT (by simpa [PyData.hasDict] using h)
 |.tuple xs,h=>by unfold noC;exact qbT (by simpa [PyData.hasDict] using h)
 |.dict _,h=>by simp [PyData.hasDict] at h
theorem qbT:∀ {ds:List PyData},PyData.hasDictAll ds=false->EN ds=true
 |[],_=>rfl
 |x::xs,h=>by
  simp only [PyData.hasDictAll,Bool.or_eq_false_iff] at h;unfold EN;rw [qg3 h.1,qbT h.2];rfl
end
mutual
theorem Dq.dp {G:Gp}:∀ {x:T} {d:PyData},Dq G x d->noC d=true->Dp G x d
 |_,_,.non,_=>.non
 |_,_,.bl b,_=>.bl b
 |_,_,.int i,_=>.int i
 |_,_,.str x,_=>.str x
 |_,_,.tup h,n=>.tup (Dqs.dp h (by unfold noC at n;exact n))
 |_,_,.lst h1 h2,n=>.lst (ze h1) (Dqs.dp h2 (by unfold noC at n;exact n))
 |_,_,.clo _ _,n=>by unfold noC at n;cases n
theorem Dqs.dp {G:Gp}:∀ {x:List T} {d:List PyData},Dqs G x d->EN d=true->Dps G x d
 |_,_,.nil,_=>.nil
 |_,_,.cons a b,n=>by
  unfold EN at n;have:=Bool.and_eq_true_iff.mp n;exact .cons (Dq.dp a this.1) (Dqs.dp b this.2)
end
theorem Dqs.length {G:Gp}:∀ {xs:List T} {ds:List PyData},Dqs G xs ds->xs.length=ds.length
 |_,_,.nil=>rfl
 |_,_,.cons _ b=>by simp [Dqs.length b]
theorem Dqs.get {G:Gp}:∀ {xs:List T} {ds:List PyData} {i:Nat} {d:PyData},Dqs G xs ds->ds[i]?=some d->∃ x,xs[i]?=some x/\Dq G x d
 |_,_,_,_,.nil,e=>by simp at e
 |_,_,0,_,.cons r _,e=>by simp at e;subst e;exact ⟨_,rfl,r⟩
 |_,_,i+1,d,.cons _ t,e=>by
  obtain ⟨u,h1,h2⟩:=Dqs.get (i:=i) (d:=d) t (by simpa using e);exact ⟨u,by simpa using h1,h2⟩
theorem Dqs.append {G:Gp}:∀ {xs:List T} {ds:List PyData} {ys:List T} {es:List PyData},Dqs G xs ds->Dqs G ys es->Dqs G (xs++ys) (ds++es)
 |_,_,_,_,.nil,h=>h
 |_,_,_,_,.cons a b,h=>.cons a (Dqs.append b h)
theorem Dqs.drop {G:Gp}:∀ {xs:List T} {ds:List PyData} (n:Nat),Dqs G xs ds->Dqs G (xs.drop n) (ds.drop n)
 |_,_,0,h=>h
 |_,_,_+1,.nil=>.nil
 |_,_,n+1,.cons _ b=>Dqs.drop n b
theorem Dqs.take {G:Gp}:∀ {xs:List T} {ds:List PyData} (n:Nat),Dqs G xs ds->Dqs G (xs.take n) (ds.take n)
 |_,_,0,h=>by simp;exact .nil
 |_,_,_+1,.nil=>.nil
 |_,_,n+1,.cons a b=>.cons a (Dqs.take n b)
theorem Dqs.ints {G:Gp}:∀ {ns:List Int} {xs:List T},Dqs G xs (ns.map PyData.int)->xs=ns.map T.int
 |[],_,.nil=>rfl
 |n::ns,_,.cons a b=>by cases a;rw [Dqs.ints b];rfl
theorem Dqs.ofInts {G:Gp}:∀ (ns:List Int),Dqs G (ns.map T.int) (ns.map PyData.int)
 |[]=>.nil
 |n::r=>.cons (.int n) (Dqs.ofInts r)
def rs (D:Addr->Prop) (G:Gp):Gp:=λb=>cif (D b) none (G b)
def qm {D:Addr->Prop} {G:Gp} {b:Addr} {o:O} (h:rs D G b=some o):¬ D b/\G b=some o:=by
 unfold rs cif at h;split at h
 ·cases h
 ·rename_i n;exact ⟨n,h⟩
def zx {D:Addr->Prop} {G:Gp} {b:Addr} (n:¬ D b):rs D G b=G b:=by unfold rs;exact qcD n
def JN {D:Addr->Prop} {G:Gp}:Ex (rs D G) G:=λb o h=>(qm h).2
def jb {D:Addr->Prop} {G G':Gp} (e:Ex G G'):Ex (rs D G) (rs D G'):=λb o h=>by
 obtain ⟨n,h⟩:=qm h;rw [zx n];exact e _ _ h
def zC {D D':Addr->Prop} {G:Gp} (h:∀ b,D' b->D b):Ex (rs D G) (rs D' G):=λb o e=>by
 obtain ⟨n,e⟩:=qm e;rw [zx λz=>n (h b z)];exact e
def Dom (D:Addr->Prop) (G:Gp):Prop:=∀ b,D b->G b≠none
def Dom.up {D:Addr->Prop} {G G':Gp} (h:Dom D G) (e:Ex G G'):Dom D G':=λb d z=>by
 cases g:G b with
 |none=>exact h b d g
 |some o=>rw [e _ _ g] at z;cases z
def qi6 {D:Addr->Prop} {G:Gp} {p:Addr} {o:O} (hd:Dom D G) (hp:G p=none):rs D (gu G p o) p=some o:=by
 rw [zx λz=>hd p z hp,qD]
inductive Sl where
 |un|sh (d:PyData)|ow (ds:List PyData)|dc (kvs:List (Int×PyData))|on (dss:List (List PyData))|rg (d:PyData)
abbrev Rho:=List Sl
def Sl.d:Sl->Option PyData
 |.un=>none|.sh d=>some d|.ow ds=>some (.list ds)|.dc _=>none|.on dss=>some (.list (dss.map PyData.list))|.rg d=>some d
def vw (ρ:Rho) (i:Nat):Option PyData:=(ρ[i]?).bind Sl.d
def WR (fv:List Nat) (D:Addr->Prop) (G:Gp) (τ:St3) (ρ:Rho):Prop:=∀ i∈fv,∀ d,vw ρ i=some d->∃ t,τ[i]?=some (some t)/\Dq (rs D G) t d
theorem WR.up {fv:List Nat} {D:Addr->Prop} {G G':Gp} {τ:St3} {ρ:Rho} (h:WR fv D G τ ρ) (e:Ex G G'):WR fv D G' τ ρ:=λi hi d hd=>
 let ⟨t,a,b⟩:=h i hi d hd;⟨t,a,b.up (jb e)⟩
def WR.l {fv gv:List Nat} {D:Addr->Prop} {G:Gp} {τ:St3} {ρ:Rho} (h:WR (fv++gv) D G τ ρ):WR fv D G τ ρ:=λi hi=>h i (by simp [hi])
def WR.r {fv gv:List Nat} {D:Addr->Prop} {G:Gp} {τ:St3} {ρ:Rho} (h:WR (fv++gv) D G τ ρ):WR gv D G τ ρ:=λi hi=>h i (by simp [hi])
def EH:PyData->Bool
 |.none=>true|.bool _=>true|.int _=>true|.str _=>true|_=>false
def Nw (D:Addr->Prop) (G G':Gp) (x:T) (d:PyData):Prop:=EH d=true\/∃ p xs ds,x=.ref p/\d=.list ds/\G p=none/\G' p=some (.lst xs)/\Dqs (rs (λb=>D b\/b=p) G') xs ds
def Nw.back {D:Addr->Prop} {G0 G G':Gp} {x:T} {d:PyData} (h:Nw D G G' x d) (e:Ex G0 G):Nw D G0 G' x d:=by
 rcases h with h|⟨p,xs,ds,a,b,c,r⟩
 ·exact .inl h
 refine .inr ⟨p,xs,ds,a,b,?_,r⟩;cases z:G0 p with
 |none=>rfl
 |some o=>rw [e _ _ z] at c;cases c
structure PuE (t:TE3) where
 f:Rho->Option PyData
 fv:List Nat
 nw:Bool
 ok:∀ {D τ ρ G} {q:Q3} {d},WR fv D G τ ρ->Dom D G->f ρ=some d->(∀ x G',Ex G G'->Dq (rs D G') x d->(nw=true->Nw D G G' x d)->q x G')->t τ G q
structure PuC (t:TT3) where
 f:Rho->Option Bool
 fv:List Nat
 ok:∀ {D τ ρ G} {q:Bool->Gp->Prop} {k},WR fv D G τ ρ->Dom D G->f ρ=some k->(∀ G',Ex G G'->q k G')->t τ G q
structure PuA (t:TA3) where
 f:Rho->Option (List PyData)
 fv:List Nat
 n:Nat
 ln:∀ {ρ d},f ρ=some d->d.length=n
 ok:∀ {D τ ρ G} {q:List T->Gp->Prop} {d},WR fv D G τ ρ->Dom D G->f ρ=some d->(∀ x G',Ex G G'->Dqs (rs D G') x d->q x G')->t τ G q
structure PuO (t:TO3) where
 f:Rho->Option (Option Int)
 fv:List Nat
 ok:∀ {D τ ρ G} {q:Option Int->Gp->Prop} {k},WR fv D G τ ρ->Dom D G->f ρ=some k->(∀ G',Ex G G'->q k G')->t τ G q
structure PuI (t:TI3) where
 f:Rho->Option (List PyData)
 fv:List Nat
 /-- numbers alone -/
 nm:Bool
 ok:∀ {D τ ρ G} {r:List T->(Gp->Prop)->Gp->Prop} {ds},WR fv D G τ ρ->Dom D G->f ρ=some ds ->
  (∀ items stay G',Ex G G'->Dqs (rs D G') items ds->(∀ G'',(nm=true\/Ex (rs D G') G'')->stay G'')->(nm=true->∃ ns:List Int,ds=ns.map PyData.int)->r items stay G')->t τ G r
structure OpD (r:R3) where
 f:PyData->PyData->Option PyData
 nw:Bool
 ok:∀ {D G x y d e v} {q:Q3},Dq (rs D G) x d->Dq (rs D G) y e->Dom D G->f d e=some v->(∀ z G',Ex G G'->Dq (rs D G') z v->(nw=true->Nw D G G' z v)->q z G')->r x y G q
structure FnD (r:List T->Gp->Q3->Prop) where
 f:List PyData->Option PyData
 nw:Bool
 ok:∀ {D G xs ds v} {q:Q3},Dqs (rs D G) xs ds->Dom D G->f ds=some v->(∀ z G',Ex G G'->Dq (rs D G') z v->(nw=true->Nw D G G' z v)->q z G')->r xs G q
def bV (i:Nat):PuE (v3 i):=⟨λρ=>vw ρ i,[i],false,λhv hd hf k=>by
 obtain ⟨t,e,h⟩:=hv i (by simp) _ hf;unfold v3;rw [e];exact k t _ Ex.refl h (λz=>by cases z)⟩
def zj (i:Int):PuE (c3 (.int i)):=⟨λ_=>some (.int i),[],false,λhv hd hf k=>by cases hf;exact k _ _ Ex.refl (.int i) (λz=>by cases z)⟩
def bBl (i:Bool):PuE (c3 (.bl i)):=⟨λ_=>some (.bool i),[],false,λhv hd hf k=>by cases hf;exact k _ _ Ex.refl (.bl i) (λz=>by cases z)⟩
def qd7 (i:Str):PuE (c3 (.str i)):=⟨λ_=>some (.str i),[],false,λhv hd hf k=>by cases hf;exact k _ _ Ex.refl (.str i) (λz=>by cases z)⟩
def qdQ:PuE (c3 .non):=⟨λ_=>some .none,[],false,λhv hd hf k=>by cases hf;exact k _ _ Ex.refl .non (λz=>by cases z)⟩
def bO {r:R3} {ta tb:TE3} (R:OpD r) (a:PuE ta) (b:PuE tb):PuE (o3 r ta tb):=
 ⟨λρ=>(a.f ρ).bind λx=>(b.f ρ).bind λy=>R.f x y,a.fv++b.fv,R.nw,λhv hd hf k=>by
  obtain ⟨x,e1,hf⟩:=obb hf;obtain ⟨y,e2,hf⟩:=obb hf;exact a.ok hv.l hd e1 λx' G1 E1 D1 _=>b.ok (hv.r.up E1) (hd.up E1) e2 λy' G2 E2 D2 _=>R.ok (D1.up (jb E2)) D2 ((hd.up E1).up E2) hf λz G3 E3 D3 N3=>k z G3 ((E1.trans E2).trans E3) D3 λh=>(N3 h).back (E1.trans E2)⟩
def qy:PuA ql:=⟨λ_=>some [],[],0,(λh=>by cases h;rfl),λhv hd hf k=>by cases hf;exact k _ _ Ex.refl .nil⟩
def qf {ta:TE3} {tr:TA3} (a:PuE ta) (r:PuA tr):PuA (qd ta tr):=
 ⟨λρ=>(a.f ρ).bind λx=>(r.f ρ).bind λxs=>some (x::xs),a.fv++r.fv,r.n+1,(λhf=>by
  obtain ⟨x,e1,hf⟩:=obb hf;obtain ⟨xs,e2,hf⟩:=obb hf;cases hf;simp [r.ln e2]),λhv hd hf k=>by
  obtain ⟨x,e1,hf⟩:=obb hf;obtain ⟨xs,e2,hf⟩:=obb hf;cases hf;exact a.ok hv.l hd e1 λx' G1 E1 D1 _=>r.ok (hv.r.up E1) (hd.up E1) e2 λy' G2 E2 D2=>k _ G2 (E1.trans E2) (.cons (D1.up (jb E2)) D2)⟩
def few {n:Nat} (h:Tru (Nat.ble n 1000)):n<=sizeLine:=u7 (Nat.le_of_ble_eq_true h.h) (by rw [y8];omega)
def qc4 {t:TA3} (a:PuA t) (hn:Tru (Nat.ble a.n 1000)):PuE (qcW t):=⟨λρ=>(a.f ρ).map .tuple,a.fv,false,λhv hd hf k=>by
 obtain ⟨xs,e1,rfl⟩:=za3 hf;exact a.ok hv hd e1 λx G1 E1 D1=>⟨by rw [D1.length,a.ln e1];exact few hn,k _ _ E1 (.tup D1) (λz=>by cases z)⟩⟩
def WW {D:Addr->Prop} {G:Gp} {p:Addr} {xs:List T} {ds:List PyData} (hp:G p=none) (h:Dqs (rs D G) xs ds):Nw D G (gu G p (.lst xs)) (.ref p) (.list ds):=
 .inr ⟨p,xs,ds,rfl,rfl,hp,qD,h.up λb o e=>by
  obtain ⟨n,e⟩:=qm e;have:b≠p:=by rintro rfl;rw [hp] at e;cases e
  rw [zx (by rintro (z|z);exact n z;exact this z),zX this];exact e⟩
def UY {D:Addr->Prop} {G:Gp} {p:Addr} {xs:List T} {ds:List PyData} (hd:Dom D G) (hp:G p=none) (h:Dqs (rs D G) xs ds):Dq (rs D (gu G p (.lst xs))) (.ref p) (.list ds):=
 .lst (qi6 hd hp) (h.up (jb (QC hp)))
def ED {t:TA3} (a:PuA t) (hn:Tru (Nat.ble a.n 1000)):PuE (UM t):=⟨λρ=>(a.f ρ).map .list,a.fv,true,λhv hd hf k=>by
 obtain ⟨xs,e1,rfl⟩:=za3 hf;exact a.ok hv hd e1 λx G1 E1 D1=>⟨by rw [D1.length,a.ln e1];exact few hn,λp hp=>k _ _ (E1.trans (QC hp)) (UY (hd.up E1) hp D1) λ_=>(WW hp D1).back E1⟩⟩
def qz {r:List T->Gp->Q3->Prop} {t:TA3} (R:FnD r) (a:PuA t):PuE (cb3 r t):=
 ⟨λρ=>(a.f ρ).bind R.f,a.fv,R.nw,λhv hd hf k=>by
  obtain ⟨x,e1,hf⟩:=obb hf;exact a.ok hv hd e1 λx' G1 E1 D1=>R.ok D1 (hd.up E1) hf λz G3 E3 D3 N3=>k z G3 (E1.trans E3) D3 λh=>(N3 h).back E1⟩
def asB:PyData->Option Bool
 |.bool b=>some b
 |_=>none
def asI:PyData->Option Int
 |.int b=>some b
 |_=>none
def MA {d:PyData} {b:Bool} (h:asB d=some b):d=.bool b:=by cases d<;>simp [asB] at h;subst h;rfl
def LF {d:PyData} {b:Int} (h:asI d=some b):d=.int b:=by cases d<;>simp [asI] at h;subst h;rfl
def bTb {t:TE3} (a:PuE t):PuC (tb3 t):=⟨λρ=>(a.f ρ).bind asB,a.fv,λhv hd hf k=>by
 obtain ⟨x,e1,hf⟩:=obb hf;have:=MA hf;subst this;exact a.ok hv hd e1 λx' G1 E1 D1 _=>by cases D1;exact k G1 E1⟩
def qnS {t u:TT3} (a:PuC t) (b:PuC u):PuC (qmf t u):=⟨λρ=>(a.f ρ).bind λk=>if k then b.f ρ else some false,a.fv++b.fv,λhv hd hf k=>by
 obtain ⟨x,e1,hf⟩:=obb hf;refine a.ok hv.l hd e1 λG1 E1=>?_;cases x with
 |true=>exact b.ok (hv.r.up E1) (hd.up E1) hf λG2 E2=>k G2 (E1.trans E2)
 |false=>cases hf;exact k G1 E1⟩
def bOr {t u:TT3} (a:PuC t) (b:PuC u):PuC (or3 t u):=⟨λρ=>(a.f ρ).bind λk=>if k then some true else b.f ρ,a.fv++b.fv,λhv hd hf k=>by
 obtain ⟨x,e1,hf⟩:=obb hf;refine a.ok hv.l hd e1 λG1 E1=>?_;cases x with
 |false=>exact b.ok (hv.r.up E1) (hd.up E1) hf λG2 E2=>k G2 (E1.trans E2)
 |true=>cases hf;exact k G1 E1⟩
def qaa {t:TT3} (a:PuC t):PuC (TB t):=⟨λρ=>(a.f ρ).map (! ·),a.fv,λhv hd hf k=>by
 obtain ⟨x,e1,hf⟩:=za3 hf;subst hf;exact a.ok hv hd e1 λG1 E1=>k G1 E1⟩
def bTt:PuC tt3:=⟨λ_=>some true,[],λhv hd hf k=>by cases hf;exact k _ Ex.refl⟩
def TR {ta tb:TE3} (a:PuE ta) (b:PuE tb):PuE (VQ ta tb):=⟨λρ=>((a.f ρ).bind asB).bind λk=>if k then b.f ρ else some (.bool false),a.fv++b.fv,false,λhv hd hf k=>by
 obtain ⟨x,e1,hf⟩:=obb hf;obtain ⟨y,e1,e2⟩:=obb e1;have:=MA e2;subst this;refine a.ok hv.l hd e1 λx' G1 E1 D1 _=>?_;cases D1;cases x with
 |true=>exact b.ok (hv.r.up E1) (hd.up E1) hf λz G2 E2 D2 _=>k z G2 (E1.trans E2) D2 (λz=>by cases z)
 |false=>cases hf;exact k _ G1 E1 (.bl false) (λz=>by cases z)⟩
def qg2 {ta:TE3} (a:PuE ta):PuE (qcY ta):=⟨λρ=>((a.f ρ).bind asB).map λk=>.bool (!k),a.fv,false,λhv hd hf k=>by
 obtain ⟨x,e1,hf⟩:=za3 hf;obtain ⟨y,e1,e2⟩:=obb e1;have:=MA e2;subst this;subst hf;refine a.ok hv hd e1 λx' G1 E1 D1 _=>?_;cases D1;exact k _ G1 E1 (.bl _) (λz=>by cases z)⟩
def bIf {t:TT3} {ta tb:TE3} (c:PuC t) (a:PuE ta) (b:PuE tb):PuE (if3 t ta tb):=⟨λρ=>(c.f ρ).bind λk=>if k then a.f ρ else b.f ρ,c.fv++(a.fv++b.fv),false,λhv hd hf k=>by
 obtain ⟨x,e1,hf⟩:=obb hf;refine c.ok hv.l hd e1 λG1 E1=>?_;cases x with
 |true=>exact a.ok (hv.r.l.up E1) (hd.up E1) hf λz G2 E2 D2 _=>k z G2 (E1.trans E2) D2 (λz=>by cases z)
 |false=>exact b.ok (hv.r.r.up E1) (hd.up E1) hf λz G2 E2 D2 _=>k z G2 (E1.trans E2) D2 (λz=>by cases z)⟩
def bCh {r r':R3} {ta tb tc:TE3} (R:OpD r) (R':OpD r') (a:PuE ta) (b:PuE tb) (c:PuE tc):PuE (ch3 r r' ta tb tc):=
 ⟨λρ=>(a.f ρ).bind λx=>(b.f ρ).bind λy=>((R.f x y).bind asB).bind λk=>if k then (c.f ρ).bind λz=>R'.f y z else some (.bool false),a.fv++(b.fv++c.fv),false,λ{D τ ρ G q d} hv hd hf k=>by
  obtain ⟨x,e1,hf⟩:=obb hf;obtain ⟨y,e2,hf⟩:=obb hf;obtain ⟨j,e3,hf⟩:=obb hf;obtain ⟨v,e3,e4⟩:=obb e3;have:=MA e4;subst this;refine a.ok hv.l hd e1 λx' G1 E1 D1 _=>b.ok (hv.r.l.up E1) (hd.up E1) e2 λy' G2 E2 D2 _=>R.ok (D1.up (jb E2)) D2 ((hd.up E1).up E2) e3 λz G3 E3 D3 _=>?_;cases D3;have E:=(E1.trans E2).trans E3;cases j with
  |true=>
   obtain ⟨w,e5,hf⟩:=obb hf;exact c.ok (hv.r.r.up E) (hd.up E) e5 λw' G4 E4 D4 _=>R'.ok ((D2.up (jb E3)).up (jb E4)) D4 ((hd.up E).up E4) hf λu G5 E5 D5 _=>k u G5 ((E.trans E4).trans E5) D5 (λz=>by cases z)
  |false=>cases hf;exact k _ G3 E (.bl false) (λz=>by cases z)⟩
def qna {ta:TE3} (a:PuE ta):PuE (bl3 ta):=⟨λρ=>((a.f ρ).bind asI).map λi=>.int (Builtin.Int.intBits i),a.fv,false,λhv hd hf k=>by
 obtain ⟨x,e1,hf⟩:=za3 hf;obtain ⟨y,e1,e2⟩:=obb e1;have:=LF e2;subst this;subst hf;refine a.ok hv hd e1 λx' G1 E1 D1 _=>?_;cases D1;exact k _ G1 E1 (.int _) (λz=>by cases z)⟩
def tyD:PyData->Option String
 |.none=>some "NoneType" |.bool _=>some "bool" |.int _=>some "int" |.str _=>some "str" |.tuple _=>some "tuple" |.list _=>some "list" |.dict _=>none
def qdF {ta:TE3} (g:String->Bool) (a:PuE ta):PuE (WJ g ta):=⟨λρ=>(a.f ρ).bind λd=>(tyD d).map λt=>.bool (g t),a.fv,false,λhv hd hf k=>by
 obtain ⟨x,e1,hf⟩:=obb hf;obtain ⟨y,e2,hf⟩:=za3 hf;subst hf;refine a.ok hv hd e1 λx' G1 E1 D1 _=>?_;have:tyT G1 x'=some y:=by
  cases D1 with
  |lst h _=>have g:=ze (qm h).2;simp [tyT,g];simpa [tyD] using e2
  |_=>simpa [tyT,tyD] using e2
 simp only [this];exact k _ G1 E1 (.bl _) (λz=>by cases z)⟩
def bNp:PuO np3:=⟨λ_=>some none,[],λhv hd hf k=>by cases hf;exact k _ Ex.refl⟩
def bSp {t:TE3} (a:PuE t):PuO (sp3 t):=⟨λρ=>((a.f ρ).bind asI).map some,a.fv,λhv hd hf k=>by
 obtain ⟨x,e1,hf⟩:=za3 hf;obtain ⟨y,e1,e2⟩:=obb e1;have:=LF e2;subst this;subst hf;refine a.ok hv hd e1 λx' G1 E1 D1 _=>?_;cases D1;exact k G1 E1⟩
def Dqs.cut {G:Gp} {xs:List T} {ds:List PyData} (h:Dqs G xs ds) (lo hi:Option Int):Dqs G (NM xs lo hi) (NM ds lo hi):=by
 unfold NM;rw [h.length];exact (h.drop _).take _
def slD (d:PyData) (lo hi:Option Int):Option PyData:=match d with
 |.tuple xs=>cif (HT.sIx xs.length 0 lo=0/\HT.sIx xs.length xs.length hi=xs.length) none (some (.tuple (NM xs lo hi)))
 |.list xs=>some (.list (NM xs lo hi))
 |_=>none
def bSl {te:TE3} {tl th:TO3} (a:PuE te) (l:PuO tl) (h:PuO th):PuE (qh4 te tl th):=⟨λρ=>(a.f ρ).bind λd=>(l.f ρ).bind λlo=>(h.f ρ).bind λhi=>slD d lo hi,a.fv++(l.fv++h.fv),false,λhv hd hf k=>by
 obtain ⟨d,e1,hf⟩:=obb hf;obtain ⟨lo,e2,hf⟩:=obb hf;obtain ⟨hi,e3,hf⟩:=obb hf;refine a.ok hv.l hd e1 λx' G1 E1 D1 _=>l.ok (hv.r.l.up E1) (hd.up E1) e2 λG2 E2=>h.ok (hv.r.r.up (E1.trans E2)) (hd.up (E1.trans E2)) e3 λG3 E3=>?_;have E:=(E1.trans E2).trans E3;have D3:=(D1.up (jb E2)).up (jb E3);unfold slD at hf;cases D3 with
 |tup hs=>
  simp only [cif] at hf;split at hf
  ·cases hf
  ·rename_i n;cases hf;exact ⟨by rw [hs.length];exact n,k _ _ E (.tup (hs.cut _ _)) (λz=>by cases z)⟩
 |lst g hs=>
  simp only at hf;cases hf;simp only [sl3,ze (qm g).2];intro p hp;exact k _ _ (E.trans (QC hp)) (UY (hd.up E) hp (hs.cut _ _)) (λz=>by cases z)
 |_=>simp at hf⟩
def YB:List PyData->Option (List Int)
 |[]=>some []
 |.int i::r=>(YB r).map (i::·)
 |_=>none
def DO (ns:List Int):YB (ns.map PyData.int)=some ns:=by
 induction ns with
 |nil=>rfl
 |cons n r ih=>simp [YB,ih]
theorem EB:∀ {xs:List PyData} {ns:List Int},YB xs=some ns->xs=ns.map PyData.int
 |[],_,h=>by simp [YB] at h;subst h;rfl
 |.int i::r,ns,h=>by
  simp only [YB] at h;obtain ⟨ms,e,rfl⟩:=za3 h;rw [EB e];rfl
 |.none::r,ns,h=>by simp [YB] at h
 |.bool _::r,ns,h=>by simp [YB] at h
 |.str _::r,ns,h=>by simp [YB] at h
 |.list _::r,ns,h=>by simp [YB] at h
 |.tuple _::r,ns,h=>by simp [YB] at h
 |.dict _::r,ns,h=>by simp [YB] at h
def opI (g:Int->Int->Int):OpD (iI g):=⟨λd e=>match d,e with|.int i,.int j=>some (.int (g i j))|_,_=>none,false,λ{D G x y d e v q} hx hy hd hf k=>by
 cases hx<;>try (simp at hf;done)
 cases hy<;>try (simp at hf;done)
 cases hf;exact k _ _ Ex.refl (.int _) (λz=>by cases z)⟩
def cI (C:Int->Int->Prop) (g:Int->Int->Int) (d e:PyData):Option PyData:=match d,e with|.int i,.int j=>cif (C i j) (some (.int (g i j))) none|_,_=>none
def opC (C:Int->Int->Prop) (g:Int->Int->Int):OpD (iC C g):=⟨cI C g,false,λ{D G x y d e v q} hx hy hd hf k=>by
 unfold cI at hf;cases hx<;>try (simp at hf;done)
 cases hy<;>try (simp at hf;done)
 simp only [cif] at hf;split at hf
 ·rename_i c;cases hf;exact ⟨c,k _ _ Ex.refl (.int _) (λz=>by cases z)⟩
 ·cases hf⟩
def opB (g:Int->Int->Bool):OpD (iB g):=⟨λd e=>match d,e with|.int i,.int j=>some (.bool (g i j))|_,_=>none,false,λ{D G x y d e v q} hx hy hd hf k=>by
 cases hx<;>try (simp at hf;done)
 cases hy<;>try (simp at hf;done)
 cases hf;exact k _ _ Ex.refl (.bl _) (λz=>by cases z)⟩
def qef:PyData->PyData->Option Bool
 |.none,.none=>some true|.none,.int _=>some false|.int _,.none=>some false|.none,.bool _=>some false|.bool _,.none=>some false|.none,.str _=>some false|.str _,.none=>some false
 |.int i,.int j=>some (decide (i=j))|.bool i,.bool j=>some (decide (i=j))|.str i,.str j=>some (decide (i=j))
 |.int _,.str _=>some false|.str _,.int _=>some false|.bool _,.str _=>some false|.str _,.bool _=>some false
 |_,_=>none
def qbN {G:Gp} {x y:T} {d e:PyData} (hx:Dq G x d) (hy:Dq G y e):U8 x y=qef d e:=by
 cases hx<;>cases hy<;>rfl
def eqD (neg:Bool) (d e:PyData):Option PyData:=match qef d e with
 |some k=>some (.bool (if neg then !k else k))
 |none=>cif ((dpt d<=40/\dpt e<=40)/\dpt d≠0) ((jQ d e).map λb=>.bool (if neg then !b else b)) none
def C7 (neg:Bool):OpD (ZM neg):=⟨eqD neg,false,λ{D G x y d e v q} hx hy hd hf k=>by
 unfold ZM;rw [qbN hx hy];unfold eqD at hf;cases h:qef d e with
 |some b=>rw [h] at hf;cases hf;exact k _ _ Ex.refl (.bl _) (λz=>by cases z)
 |none=>
  rw [h] at hf;simp only [cif] at hf ⊢;split at hf
  ·rename_i c;obtain ⟨b,e1,rfl⟩:=za3 hf;exact ⟨d,e,b,(hx.up JN).dp (qhC c.1.1),(hy.up JN).dp (qhC c.1.2),e1,c.1.1,c.2,k _ _ Ex.refl (.bl _) (λz=>by cases z)⟩
  ·cases hf⟩
def qdT (neg:Bool) (d e:PyData):Option PyData:=match e with|.none=>some (.bool (match d with|.none=>!neg|_=>neg))|_=>none
def qay (neg:Bool):OpD (qcV neg):=⟨qdT neg,false,λ{D G x y d e v q} hx hy hd hf k=>by
 unfold qdT at hf;cases hy<;>try (simp at hf;done)
 cases hf;unfold qcV;cases hx<;>exact k _ _ Ex.refl (.bl _) (λz=>by cases z)⟩
def qlL (neg:Bool) (d e:PyData):Option PyData:=match d,e with|.bool i,.bool j=>some (.bool (if neg then i != j else i==j))|_,_=>none
def qgH (neg:Bool):OpD (qm6 neg):=⟨qlL neg,false,λ{D G x y d e v q} hx hy hd hf k=>by
 unfold qlL at hf;cases hx<;>try (simp at hf;done)
 cases hy<;>try (simp at hf;done)
 cases hf;exact k _ _ Ex.refl (.bl _) (λz=>by cases z)⟩
def ixD (d e:PyData):Option PyData:=match d,e with
 |.tuple xs,.int i=>atI xs i
 |.list xs,.int i=>atI xs i
 |_,_=>none
theorem Dqs.atI {G:Gp} {xs:List T} {ds:List PyData} {i:Int} {d:PyData} (h:Dqs G xs ds) (e:L2.atI ds i=some d):∃ x,L2.atI xs i=some x/\Dq G x d:=by
 unfold L2.atI at e ⊢;rw [h.length];obtain ⟨j,e1,e2⟩:=obb e;obtain ⟨x,hx,r⟩:=h.get e2;exact ⟨x,by rw [e1];exact hx,r⟩
def qcb:OpD ix3:=⟨ixD,false,λ{D G x y d e v q} hx hy hd hf k=>by
 unfold ixD at hf;cases hx with
 |tup hs=>
  cases hy<;>try (simp at hf;done)
  obtain ⟨x,e1,r⟩:=hs.atI hf;simp only [ix3,e1];exact k _ _ Ex.refl r (λz=>by cases z)
 |lst g hs=>
  cases hy<;>try (simp at hf;done)
  obtain ⟨x,e1,r⟩:=hs.atI hf;simp only [ix3,ze (qm g).2,e1];exact k _ _ Ex.refl r (λz=>by cases z)
 |_=>simp at hf⟩
def qlK (d e:PyData):Option PyData:=match d,e with
 |.tuple xs,.tuple ys=>cif (xs≠[]/\xs.length+ys.length<=sizeLine) (some (.tuple (xs++ys))) none
 |.list xs,.list ys=>cif (xs.length+ys.length<=sizeLine) (some (.list (xs++ys))) none
 |.int i,.int j=>some (.int (i+j))
 |_,_=>none
def C4:OpD Z3:=⟨qlK,false,λ{D G x y d e v q} hx hy hd hf k=>by
  unfold qlK at hf;cases hx with
  | int i => cases hy <;> try (simp at hf;done)
             cases hf;exact k _ _ Ex.refl (.int _) (λz=>by cases z)
  |tup hs=>
    cases hy<;>try (simp at hf;done)
    rename_i hs2;simp only [cif] at hf;split at hf
    · rename_i c;cases hf;refine ⟨?_,by rw [hs.length,hs2.length];exact c.2,k _ _ Ex.refl (.tup (hs.append hs2)) (λz=>by cases z)⟩;rintro rfl;cases hs;exact c.1 rfl
    · cases hf
  |lst g hs=>
    cases hy<;>try (simp at hf;done)
    rename_i g2 hs2;simp only [cif] at hf;split at hf
    · rename_i c;cases hf;simp only [Z3,(qm g).2,(qm g2).2];exact ⟨by rw [hs.length,hs2.length];exact c,λp hp=>k _ _ (QC hp) (UY hd hp (hs.append hs2)) (λz=>by cases z)⟩
    · cases hf
  |_=>simp at hf⟩
def qaX (d e:PyData):Option PyData:=match d,e with
 |.list xs,.list ys=>cif (xs.length+ys.length<=sizeLine) (some (.list (xs++ys))) none
 |_,_=>none
def US:OpD Z3:=⟨qaX,true,λ{D G x y d e v q} hx hy hd hf k=>by
 unfold qaX at hf;cases hx with
 |lst g hs=>
  cases hy<;>try (simp at hf;done)
  rename_i g2 hs2;simp only [cif] at hf;split at hf
  ·rename_i c;cases hf;simp only [Z3,(qm g).2,(qm g2).2];exact ⟨by rw [hs.length,hs2.length];exact c,λp hp=>k _ _ (QC hp) (UY hd hp (hs.append hs2)) λ_=>WW hp (hs.append hs2)⟩
  ·cases hf
 |_=>simp at hf⟩
def KM:PyData->Bool
 |.none=>true|.bool _=>true|.int _=>true|.str _=>true|_=>false
def qh2:PyData->PyData->Bool
 |.none,.none=>true
 |.bool a,.bool b=>a==b
 |.bool a,.int b=>(if a then 1 else 0)==b
 |.int a,.bool b=>a==(if b then 1 else 0)
 |.int a,.int b=>a==b
 |.str a,.str b=>a==b
 |_,_=>false
def D8 {G:Gp} {x:T} {d:PyData} (h:Dq G x d):D6 x=KM d:=by cases h<;>rfl
theorem UI {G:Gp}:∀ {x:List T} {d:List PyData},Dqs G x d->x.all D6=d.all KM
 |_,_,.nil=>rfl
 |_,_,.cons a b=>by rw [List.all_cons,List.all_cons,D8 a,UI b]
def qdr {G:Gp} {x y:T} {d e:PyData} (h:Dq G x d) (h':Dq G y e):eqF x y=qh2 d e:=by cases h<;>cases h'<;>rfl
theorem WE {G:Gp} {x:T} {d:PyData} (h:Dq G x d):∀ {ys:List T} {es:List PyData},Dqs G ys es->(ys.any λy=>eqF y x)=es.any λy=>qh2 y d
 |_,_,.nil=>rfl
 |_,_,.cons a b=>by rw [List.any_cons,List.any_cons,qdr a h,WE h b]
def inD (neg:Bool) (d e:PyData):Option PyData:=match e with
 |.tuple ys=>cif (KM d=true/\ys.all KM=true) (some (.bool (if neg then !(ys.any λy=>qh2 y d) else (ys.any λy=>qh2 y d)))) none
 |.list ys=>cif (KM d=true/\ys.all KM=true) (some (.bool (if neg then !(ys.any λy=>qh2 y d) else (ys.any λy=>qh2 y d)))) none
 |_=>none
def qh5 (neg:Bool):OpD (in3 neg):=⟨inD neg,false,λ{D G x y d e v q} hx hy hd hf k=>by
 unfold inD at hf;cases hy with
 |tup hs=>
  simp only [cif] at hf;split at hf
  ·rename_i c;cases hf;refine ⟨by rw [D8 hx];exact c.1,by rw [UI hs];exact c.2,?_⟩;rw [WE hx hs];exact k _ _ Ex.refl (.bl _) (λz=>by cases z)
  ·cases hf
 |lst g hs=>
  simp only [cif] at hf;split at hf
  ·rename_i c;cases hf;refine ⟨by rw [D8 hx];exact c.1,?_⟩;simp only [ze (qm g).2];refine ⟨by rw [UI hs];exact c.2,?_⟩;rw [WE hx hs];exact k _ _ Ex.refl (.bl _) (λz=>by cases z)
  ·cases hf
 |_=>simp at hf⟩
def qhZ:List PyData->Option PyData
 |[.tuple xs]=>some (.int xs.length)
 |[.list xs]=>some (.int xs.length)
 |_=>none
def N8:FnD U1:=⟨qhZ,false,λ{D G xs ds v q} hx hd hf k=>by
 unfold qhZ at hf;split at hf
 ·cases hx with
  |cons a b=>cases b;cases a;rename_i hs;cases hf;simp only [U1];rw [hs.length];exact k _ _ Ex.refl (.int _) (λz=>by cases z)
 ·cases hx with
  |cons a b=>cases b;cases a;rename_i g hs;cases hf;simp only [U1,ze (qm g).2];rw [hs.length];exact k _ _ Ex.refl (.int _) (λz=>by cases z)
 ·cases hf⟩
def qlV:List PyData->Option PyData
 |[.int i,.int j]=>some (.int (if j<i then j else i))
 |_=>none
def ql2:FnD qfL:=⟨qlV,false,λ{D G xs ds v q} hx hd hf k=>by
 unfold qlV at hf;split at hf
 ·cases hx with
  |cons a b=>cases b with
   |cons b c=>cases c;cases a;cases b;cases hf;exact k _ _ Ex.refl (.int _) (λz=>by cases z)
 ·cases hf⟩
def qlO:List PyData->Option PyData
 |[.tuple xs]=>some (.tuple xs)
 |[.list xs]=>some (.tuple xs)
 |_=>none
def qnW:FnD SN:=⟨qlO,false,λ{D G xs ds v q} hx hd hf k=>by
 unfold qlO at hf;split at hf
 ·cases hx with
  |cons a b=>cases b;cases a;rename_i hs;cases hf;exact k _ _ Ex.refl (.tup hs) (λz=>by cases z)
 ·cases hx with
  |cons a b=>cases b;cases a;rename_i g hs;cases hf;simp only [SN,ze (qm g).2];exact k _ _ Ex.refl (.tup hs) (λz=>by cases z)
 ·cases hf⟩
def qlP:List PyData->Option PyData
 |[.tuple xs]=>some (.list xs)
 |[.list xs]=>some (.list xs)
 |_=>none
def qop:FnD M2:=⟨qlP,true,λ{D G xs ds v q} hx hd hf k=>by
 unfold qlP at hf;split at hf
 ·cases hx with
  |cons a b=>cases b;cases a;rename_i hs;cases hf;exact λp hp=>k _ _ (QC hp) (UY hd hp hs) λ_=>WW hp hs
 ·cases hx with
  |cons a b=>cases b;cases a;rename_i g hs;cases hf;simp only [M2,ze (qm g).2];exact λp hp=>k _ _ (QC hp) (UY hd hp hs) λ_=>WW hp hs
 ·cases hf⟩
def NC:List PyData->Option (List Bool)
 |[]=>some []
 |.bool i::r=>(NC r).map (i::·)
 |_=>none
def qek (ns:List Bool):NC (ns.map PyData.bool)=some ns:=by
 induction ns with
 |nil=>rfl
 |cons n r ih=>simp [NC,ih]
theorem qaN {G:Gp}:∀ {xs:List T} {ds:List PyData} {ns:List Bool},Dqs G xs ds->NC ds=some ns->qfo xs=some (ns.all id)/\qmI xs=some (ns.any id)
 |_,_,_,.nil,h=>by simp [NC] at h;subst h;exact ⟨rfl,rfl⟩
 |_,.bool i::r,ns,.cons a b,h=>by
  simp only [NC] at h;obtain ⟨ms,e,rfl⟩:=za3 h;obtain ⟨h1,h2⟩:=qaN b e;cases a;simp [qfo,qmI,h1,h2]
 |_,.int _::r,ns,_,h=>by simp [NC] at h
 |_,.none::r,ns,_,h=>by simp [NC] at h
 |_,.str _::r,ns,_,h=>by simp [NC] at h
 |_,.list _::r,ns,_,h=>by simp [NC] at h
 |_,.tuple _::r,ns,_,h=>by simp [NC] at h
 |_,.dict _::r,ns,_,h=>by simp [NC] at h
def qjL:List PyData->Option PyData
 |[.list xs]=>(NC xs).map λns=>.bool (ns.all id)
 |_=>none
def qmZ:FnD qdR:=⟨qjL,false,λ{D G xs ds v q} hx hd hf k=>by
 unfold qjL at hf;split at hf
 ·obtain ⟨ns,e,rfl⟩:=za3 hf;cases hx with
  |cons a b=>cases b;cases a;rename_i g hs;simp only [qdR,ze (qm g).2,(qaN hs e).1];exact k _ _ Ex.refl (.bl _) (λz=>by cases z)
 ·cases hf⟩
def mx:List Int->Int
 |[]=>0|[a]=>a|a::b::r=>max a (mx (b::r))
theorem TL:∀ {ns:List Int} {m:Int},m∈ns->m<=mx ns
 |[a],m,h=>by simp at h;subst h;exact Int.le_refl _
 |a::b::r,m,h=>by
  unfold mx;rcases mem_cons.mp h with rfl|h
  ·omega
  ·have:=TL h;omega
theorem WA:∀ {ns:List Int},ns≠[]->mx ns∈ns
 |[a],_=>by simp [mx]
 |a::b::r,_=>by
  unfold mx;have:=WA (ns:=b::r) (by simp);rcases Int.le_total a (mx (b::r)) with h|h
  ·rw [Int.max_eq_right h];exact v6 _ this
  ·rw [Int.max_eq_left h];simp
def mxD:List PyData->Option PyData
 |[.list xs]=>(YB xs).bind λns=>cif (ns≠[]) (some (.int (mx ns))) none
 |_=>none
def qin:FnD qae:=⟨mxD,false,λ{D G xs ds v q} hx hd hf k=>by
 unfold mxD at hf;split at hf
 ·obtain ⟨ns,e,hf⟩:=obb hf;unfold cif at hf;split at hf
  ·rename_i c;cases hf;cases hx with
   |cons a b=>
    cases b;cases a;rename_i g hs;have:=EB e;subst this;have:=hs.ints;subst this;simp only [qae,ze (qm g).2,EO];refine ⟨c,λm hm hl=>?_⟩;have:m=mx ns:=Int.le_antisymm (TL hm) (hl _ (WA c));subst this;exact k _ _ Ex.refl (.int _) (λz=>by cases z)
  ·cases hf
 ·cases hf⟩
theorem LL:∀ {a b:List Int},a.Perm b->a.Pairwise (·<=·)->b.Pairwise (·<=·)->a=b
 |[],b,h,_,_=>h.nil_eq
 |x::a,[],h,_,_=>by simp at h
 |x::a,y::b,h,h1,h2=>by
  rw [List.pairwise_cons] at h1 h2;have hx:x∈y::b:=h.subset (by simp);have hy:y∈x::a:=h.symm.subset (by simp);have l1:y<=x:=by
   rcases mem_cons.mp hx with rfl|z
   ·exact Int.le_refl _
   ·exact h2.1 _ z
  have l2:x<=y:=by
   rcases mem_cons.mp hy with rfl|z
   ·exact Int.le_refl _
   ·exact h1.1 _ z
  have:x=y:=Int.le_antisymm l2 l1;subst this;rw [LL h.cons_inv h1.2 h2.2]
def srt (ns:List Int):List Int:=ns.mergeSort
def CG (ns:List Int):(srt ns).Perm ns:=List.mergeSort_perm ns _
def qiC (ns:List Int):(srt ns).Pairwise (·<=·):=by
 have:=List.pairwise_mergeSort (le:=λ(a b:Int)=>decide (a<=b)) (λa b c h1 h2=>by simp at *;omega) (λa b=>by simp;omega) ns;exact this.imp (by simp)
def PSp (F:List PyData->Option PyData) (fr:Bool):Sp3:=λts G q=>∃ (D:Addr->Prop) (ds:List PyData) (d:PyData),Dqs (rs D G) ts ds/\Dom D G/\F ds=some d/\∀ x G',Ex G G'->Dq (rs D G') x d->(fr=true->Nw D G G' x d)->q x G'
def qX (F:List PyData->Option PyData) (fr:Bool):FnD (PSp F fr):=⟨F,fr,λ{D G xs ds v q} hx hd hf k=>⟨D,ds,v,hx,hd,hf,k⟩⟩
def qcL:PyData->Option (List PyData)
 |.tuple xs=>some xs
 |.list xs=>some xs
 |_=>none
def LP {t:TE3} (a:PuE t):PuI (VN t):=⟨λρ=>(a.f ρ).bind qcL,a.fv,false,λ{D τ ρ G r ds} hv hd hf k=>by
 obtain ⟨d,e1,hf⟩:=obb hf;refine a.ok hv hd e1 λx G1 E1 D1 _=>?_;unfold qcL at hf;cases D1 with
 |tup hs=>cases hf;exact k _ _ _ E1 hs (λ_ _=>trivial) (λz=>by cases z)
 |lst g hs=>
  cases hf;simp only [ze (qm g).2];refine k _ _ _ E1 hs (λG2 h=>?_) (λz=>by cases z);rcases h with h|h
  ·cases h
  ·exact ze (h _ _ g)
 |_=>simp at hf⟩
def WH (lo:Int) (n:Nat):List Int:=(List.range n).map λ(i:Nat)=>lo+(i:Int)
def L9 (lo:Int) (n:Nat):qas lo n=(WH lo n).map T.int:=by simp [qas,WH,map_map,Function.comp_def]
def qf0:List PyData->Option (List PyData)
 |[.int j]=>cif (-(2 ^ 62)<=j/\j<2 ^ 62) (some ((WH 0 j.toNat).map PyData.int)) none
 |[.int i,.int j]=>cif (-(2 ^ 62)<=i/\i<2 ^ 62/\-(2 ^ 62)<=j/\j<2 ^ 62) (some ((WH i (j-i).toNat).map PyData.int)) none
 |_=>none
def qeE {t:TA3} (a:PuA t):PuI (J7 t):=⟨λρ=>(a.f ρ).bind qf0,a.fv,true,λ{D τ ρ G r ds} hv hd hf k=>by
 obtain ⟨d,e1,hf⟩:=obb hf;refine a.ok hv hd e1 λx G1 E1 D1=>?_;unfold qf0 at hf;split at hf
 ·unfold cif at hf;split at hf
  ·rename_i c;cases hf;cases D1 with
   |cons a b=>cases b;cases a;simp only;rw [L9];exact ⟨c,k _ _ _ E1 (Dqs.ofInts _) (λ_ _=>trivial) λ_=>⟨_,rfl⟩⟩
  ·cases hf
 ·unfold cif at hf;split at hf
  ·rename_i c;cases hf;cases D1 with
   |cons a b=>cases b with
    |cons b c'=>cases c';cases a;cases b;simp only;rw [L9];exact ⟨c,k _ _ _ E1 (Dqs.ofInts _) (λ_ _=>trivial) λ_=>⟨_,rfl⟩⟩
  ·cases hf
 ·cases hf⟩
def qnm (us vs:List PyData):List PyData:=(us.zip vs).map λp=>.tuple [p.1,p.2]
theorem Dqs.zip {G:Gp}:∀ {xs:List T} {ds:List PyData} {ys:List T} {es:List PyData},Dqs G xs ds->Dqs G ys es->Dqs G (qcT xs ys) (qnm ds es)
 |_,_,_,_,.nil,_=>by simp [qcT,qnm];exact .nil
 |_,_,_,_,.cons _ _,.nil=>by simp [qcT,qnm];exact .nil
 |_,_,_,_,.cons a b,.cons c d=>.cons (.tup (.cons a (.cons c .nil))) (Dqs.zip b d)
def qdx {G:Gp} {x:T} {d:PyData} {ds:List PyData} (h:Dq G x d) (e:qcL d=some ds):∃ us,jm G x=some us/\Dqs G us ds:=by
 unfold qcL at e;cases h with
 |tup hs=>cases e;exact ⟨_,rfl,hs⟩
 |lst g hs=>cases e;exact ⟨_,ze g,hs⟩
 |_=>simp at e
def qe9 {G G':Gp} {x:T} {us:List T} (e:Ex G G') (h:jm G x=some us):jm G' x=some us:=by
 cases x with
 |tup xs=>exact h
 |ref p=>exact e.getL h
 |_=>cases h
def enD (k:Nat):List PyData->List PyData
 |[]=>[]
 |x::r=>.tuple [.int (k:Int),x]::enD (k+1) r
theorem Dqs.enum {G:Gp}:∀ {xs:List T} {ds:List PyData} (k:Nat),Dqs G xs ds->Dqs G (jB k xs) (enD k ds)
 |_,_,_,.nil=>.nil
 |_,_,k,.cons a b=>.cons (.tup (.cons (.int _) (.cons a .nil))) (Dqs.enum (k+1) b)
def KW {t:TA3} (a:PuA t):PuI (EW t):=⟨λρ=>(a.f ρ).bind λds=>match ds with|[d]=>(qcL d).map λus=>enD 0 us|_=>none,a.fv,false,λ{D τ ρ G r ds} hv hd hf k=>by
 obtain ⟨d,e1,hf⟩:=obb hf;refine a.ok hv hd e1 λx G1 E1 D1=>?_;split at hf
 ·obtain ⟨us,e2,rfl⟩:=za3 hf;cases D1 with
  |cons a b=>
   cases b;obtain ⟨us',h1,h2⟩:=qdx a e2;simp only [qe9 JN h1];refine k _ _ _ E1 (h2.enum 0) (λG2 h=>?_) (λz=>by cases z);rcases h with h|h
   ·cases h
   ·exact qe9 h h1
 ·cases hf⟩
inductive Bd (H:Gp):List (Nat×T)->List (Nat×PyData)->Prop
 |nil:Bd H [] []
 |cons {i:Nat} {x:T} {d:PyData} {ts:List (Nat×T)} {bs:List (Nat×PyData)}:Dq H x d->Bd H ts bs->Bd H ((i,x)::ts) ((i,d)::bs)
theorem Bd.append {H:Gp}:∀ {ts:List (Nat×T)} {bs:List (Nat×PyData)} {us:List (Nat×T)} {cs:List (Nat×PyData)},Bd H ts bs->Bd H us cs->Bd H (ts++us) (bs++cs)
 |_,_,_,_,.nil,h=>h
 |_,_,_,_,.cons a b,h=>.cons a (Bd.append b h)
theorem Bd.up {H H':Gp} (e:Ex H H'):∀ {ts:List (Nat×T)} {bs:List (Nat×PyData)},Bd H ts bs->Bd H' ts bs
 |_,_,.nil=>.nil
 |_,_,.cons a b=>.cons (a.up e) (Bd.up e b)
def sets:St3->List (Nat×T)->St3
 |τ,[]=>τ
 |τ,p::r=>sets (τ.set p.1 (some p.2)) r
def jM:Rho->List (Nat×PyData)->Rho
 |ρ,[]=>ρ
 |ρ,p::r=>jM (ρ.set p.1 (.sh p.2)) r
theorem ME:∀ (τ:St3) (a b:List (Nat×T)),sets τ (a++b)=sets (sets τ a) b
 |τ,[],b=>rfl
 |τ,p::a,b=>by simp only [cons_append,sets];exact ME _ a b
structure PuG (g:TG3) where
 f:PyData->Option (List (Nat×PyData))
 tg:List Nat
 at':∀ {d bs},f d=some bs->∀ p∈bs,p.1∈tg
 ok:∀ {H x d bs},Dq H x d->f d=some bs->∃ ts,Bd H ts bs/\∀ τ G (q:St3->Gp->Prop),q (sets τ ts) G->g x τ G q
structure PuGs (g:LM) where
 f:List PyData->Option (List (Nat×PyData))
 tg:List Nat
 at':∀ {d bs},f d=some bs->∀ p∈bs,p.1∈tg
 ok:∀ {H x d bs},Dqs H x d->f d=some bs->∃ ts,Bd H ts bs/\∀ τ G (q:St3->Gp->Prop),q (sets τ ts) G->g x τ G q
def gN (i:Nat):PuG (gn3 i):=⟨λd=>some [(i,d)],[i],λh p hp=>by cases h;simp at hp;subst hp;simp,λhx h=>by cases h;exact ⟨_,.cons hx .nil,λτ G q hq=>hq⟩⟩
def qaq:PuGs YT:=⟨λds=>match ds with|[]=>some []|_=>none,[],(λh p hp=>by split at h;cases h;cases hp;cases h),λhx h=>by
 split at h
 ·cases h;cases hx;exact ⟨[],.nil,λτ G q hq=>hq⟩
 ·cases h⟩
def QM {t:TG3} {u:LM} (a:PuG t) (b:PuGs u):PuGs (qV t u):=⟨λds=>match ds with|d::r=>(a.f d).bind λx=>(b.f r).map λy=>x++y|[]=>none,a.tg++b.tg,(λh p hp=>by
 split at h
 ·obtain ⟨x,e1,h⟩:=obb h;obtain ⟨y,e2,rfl⟩:=za3 h;rcases List.mem_append.mp hp with z|z
  ·exact List.mem_append.mpr (.inl (a.at' e1 p z))
  ·exact List.mem_append.mpr (.inr (b.at' e2 p z))
 ·cases h),λhx h=>by
 split at h
 ·obtain ⟨x,e1,h⟩:=obb h;obtain ⟨y,e2,rfl⟩:=za3 h;cases hx with
  |cons hx hr=>
   obtain ⟨ts,b1,k1⟩:=a.ok hx e1;obtain ⟨us,b2,k2⟩:=b.ok hr e2;refine ⟨ts++us,b1.append b2,λτ G q hq=>k1 τ G _ (k2 _ G q ?_)⟩;rw [← ME];exact hq
 ·cases h⟩
def qby {u:LM} (n:Nat) (b:PuGs u):PuG (YW n u):=⟨λd=>match d with|.tuple ds=>if ds.length=n then b.f ds else none|_=>none,b.tg,(λh p hp=>by
 split at h
 ·split at h
  ·exact b.at' h p hp
  ·cases h
 ·cases h),λhx h=>by
 split at h
 ·split at h
  ·rename_i c;cases hx with
   |tup hs=>
    obtain ⟨ts,b1,k1⟩:=b.ok hs h;exact ⟨ts,b1,λτ G q hq=>⟨by rw [hs.length];exact c,k1 τ G q hq⟩⟩
  ·cases h
 ·cases h⟩
structure VA (D:Addr->Prop) (G:Gp) (τ:St3) (ρ:Rho):Prop where
 len:ρ.length=τ.length
 vw:∀ i d,vw ρ i=some d->∃ t,τ[i]?=some (some t)/\Dq (rs D G) t d
def VA.view {D:Addr->Prop} {G:Gp} {τ:St3} {ρ:Rho} (h:VA D G τ ρ) (fv:List Nat):WR fv D G τ ρ:=λi _ d e=>h.vw i d e
def VA.upx {D:Addr->Prop} {G G':Gp} {τ:St3} {ρ:Rho} (h:VA D G τ ρ) (e:Ex (rs D G) (rs D G')):VA D G' τ ρ:=⟨h.len,λi d hd=>let ⟨t,a,b⟩:=h.vw i d hd;⟨t,a,b.up e⟩⟩
def VA.up {D:Addr->Prop} {G G':Gp} {τ:St3} {ρ:Rho} (h:VA D G τ ρ) (e:Ex G G'):VA D G' τ ρ:=h.upx (jb e)
def qe8 {ρ:Rho} {i j:Nat} {s:Sl}:vw (ρ.set i s) j=if i=j then (if i<ρ.length then s.d else none) else vw ρ j:=by
 unfold vw;rw [getElem?_set];split
 ·subst j;split
  ·rfl
  ·rfl
 ·rfl
theorem VA.set {D:Addr->Prop} {G:Gp} {τ:St3} {ρ:Rho} (h:VA D G τ ρ) {i:Nat} {x:T} {d:PyData} (hx:Dq (rs D G) x d):VA D G (τ.set i (some x)) (ρ.set i (.sh d)):=by
 refine ⟨by simp [h.len],λj e he=>?_⟩;rw [qe8] at he;split at he
 ·subst j;split at he
  ·rename_i l;cases he;refine ⟨x,?_,hx⟩;rw [getElem?_set,if_pos rfl,if_pos (by rw [← h.len];exact l)]
  ·cases he
 ·rename_i n;obtain ⟨t,a,b⟩:=h.vw j e he;exact ⟨t,by rw [getElem?_set,if_neg n];exact a,b⟩
theorem VA.sets {D:Addr->Prop} {G:Gp}:∀ {ts:List (Nat×T)} {bs:List (Nat×PyData)} {τ:St3} {ρ:Rho},VA D G τ ρ->Bd (rs D G) ts bs->VA D G (Pu.sets τ ts) (jM ρ bs)
 |_,_,_,_,h,.nil=>h
 |_,_,_,_,h,.cons a b=>by unfold Pu.sets jM;exact VA.sets (h.set a) b
theorem VA.keep {D:Addr->Prop} {G:Gp} {ρ:Rho}:∀ {ts:List (Nat×T)} {τ:St3},VA D G τ ρ->(∀ p∈ts,Pu.vw ρ p.1=none)->VA D G (Pu.sets τ ts) ρ
 |[],_,h,_=>h
 |p::r,τ,h,hn=>VA.keep (ts:=r) ⟨by rw [List.length_set];exact h.len,λj d hd=>by
   have:p.1≠j:=by rintro rfl;rw [hn p (by simp)] at hd;cases hd
   obtain ⟨t,a,b⟩:=h.vw j d hd;exact ⟨t,by rw [getElem?_set,if_neg this];exact a,b⟩⟩ λq hq=>hn q (by simp [hq])
def S8 (m:List (Option Nat)) (ρ:Rho):Rho:=m.map λo=>match o with|some j=>(match vw ρ j with|some d=>.sh d|none=>.un)|none=>.un
theorem VA.cap {m:List (Option Nat)} {D:Addr->Prop} {G:Gp} {τ:St3} {ρ:Rho} (h:WR (m.filterMap id) D G τ ρ):VA D G (L3.cap m τ) (S8 m ρ):=by
 refine ⟨by simp [S8,L3.cap],λi d hd=>?_⟩;unfold Pu.vw S8 at hd;rw [getElem?_map] at hd;cases e:m[i]? with
 |none=>rw [e] at hd;cases hd
 |some o=>
  rw [e] at hd;cases o with
  |none=>cases hd
  |some j=>
   simp only [Option.map_some,Option.bind_some] at hd;cases e2:Pu.vw ρ j with
   |none=>rw [e2] at hd;cases hd
   |some d'=>
    rw [e2] at hd;have hd':d'=d:=by simpa [Sl.d] using hd
    subst hd';obtain ⟨t,a,b⟩:=h j (List.mem_filterMap.mpr ⟨some j,v9 e,rfl⟩) d' e2;refine ⟨t,?_,b⟩;unfold L3.cap;rw [getElem?_map,e];simp [a]
def T5 {m:List (Option Nat)} {ρ:Rho} {i:Nat} (h:m[i]?=some none):vw (S8 m ρ) i=none:=by
 unfold vw S8;rw [getElem?_map,h];rfl
def lcP (h:PyData->Option (Option PyData)):List PyData->Option (List PyData)
 |[]=>some []
 |d::r=>(h d).bind λo=>(lcP h r).bind λys=>some (match o with|some y=>y::ys|none=>ys)
def lcH (gf:PyData->Option (List (Nat×PyData))) (cf:Rho->Option Bool) (ef:Rho->Option PyData) (ρ:Rho) (d:PyData):Option (Option PyData):=
 (gf d).bind λbs=>(cf (jM ρ bs)).bind λk=>if k then (ef (jM ρ bs)).map some else some none
def V5 {h:PyData->Option (Option PyData)} {α:Type} {g:α->PyData} {k:α->PyData} {xs:List α} (hh:∀ a∈xs,h (g a)=some (some (k a))):lcP h (xs.map g)=some (xs.map k):=by
 induction xs with
 |nil=>rfl
 |cons a r ih=>simp only [map_cons,lcP,hh a (by simp),Option.bind_some,ih λb hb=>hh b (by simp [hb])]
def WZ {h:PyData->Option (Option PyData)} {α:Type} {g:α->PyData} {k:α->PyData} {c:α->Bool} {xs:List α} (hh:∀ a∈xs,h (g a)=some (if c a then some (k a) else none)):lcP h (xs.map g)=some ((xs.filter c).map k):=by
 induction xs with
 |nil=>rfl
 |cons a r ih=>
  simp only [map_cons,lcP,hh a (by simp),Option.bind_some,ih λb hb=>hh b (by simp [hb])];cases e:c a with
  |true=>simp [e]
  |false=>simp [e]
theorem qcZ {H:Gp}:∀ {ts:List (Nat×T)} {bs:List (Nat×PyData)},Bd H ts bs->∀ p∈ts,∃ q∈bs,q.1=p.1
 |_,_,.nil,p,hp=>by cases hp
 |_,_,.cons a b,p,hp=>by
  rcases mem_cons.mp hp with rfl|hp
  ·exact ⟨_,za0,rfl⟩
  ·obtain ⟨q,hq,e⟩:=qcZ b p hp;exact ⟨q,by simp [hq],e⟩
theorem qhO {stay:Gp->Prop} {g:TG3} {tif:TT3} {te:TE3} {q:Q3} (pg:PuG g) (pc:PuC tif) (pe:PuE te) {D:Addr->Prop} {ρ0:Rho} {G0:Gp} (hs:∀ G,Ex G0 G->stay G) (hm:∀ i∈pg.tg,vw ρ0 i=none) (fin:List PyData) (hfin:fin.length<=sizeLine)
  (k:∀ G ys,Ex G0 G->Dqs (rs D G) ys fin->∀ p,G p=none->q (.ref p) (gu G p (.lst ys))) :
  ∀ (ds:List PyData) (items ys:List T) (es fs:List PyData) (τ:St3) (G:Gp),Dqs (rs D G0) items ds->VA D G τ ρ0->Ex G0 G->Dom D G->Dqs (rs D G) ys es->lcP (lcH pg.f pc.f pe.f ρ0) ds=some fs->es++fs=fin->qcP stay g tif te q items ys τ G
 |_,_,ys,es,fs,τ,G,.nil,va,E,hd,hy,hf,hl=>by
  cases hf;rw [List.append_nil] at hl;subst hl;exact ⟨hs G E,k G ys E hy⟩
 |d::ds,x::items,ys,es,fs,τ,G,.cons hx hr,va,E,hd,hy,hf,hl=>by
  unfold lcP at hf;obtain ⟨o,e1,hf⟩:=obb hf;obtain ⟨JD,e2,hf⟩:=obb hf;unfold lcH at e1;obtain ⟨bs,e3,e1⟩:=obb e1;obtain ⟨c,e4,e1⟩:=obb e1;obtain ⟨ts,bd,kg⟩:=pg.ok (hx.up (jb E)) e3;refine ⟨hs G E,kg τ G _ ?_⟩;have va1:=va.sets bd;have va2:=va.keep (ts:=ts) λp hp=>by
   obtain ⟨q,hq,e⟩:=qcZ bd p hp;rw [← e];exact hm _ (pg.at' e3 q hq)
  refine pc.ok (va1.view _) hd e4 λG1 E1=>?_;cases c with
  |true=>
   rw [if_pos rfl];rw [if_pos rfl] at e1;obtain ⟨y,e5,rfl⟩:=za3 e1;simp only [Option.some.injEq] at hf;subst hf;refine pe.ok ((va1.up E1).view _) (hd.up E1) e5 λz G2 E2 D2 _=>⟨?_,?_⟩
   ·rw [hy.length];rw [← hl] at hfin;simp at hfin;omega
   ·refine qhO pg pc pe hs hm fin hfin k ds items (ys++[z]) (es++[y]) JD _ G2 hr ((va2.up E1).up E2) (E.trans (E1.trans E2)) ((hd.up E1).up E2) (((hy.up (jb E1)).up (jb E2)).append (.cons D2 .nil)) e2 ?_;rw [← hl];simp
  |false=>
   rw [if_neg y6];simp at e1;subst e1;simp only [Option.some.injEq] at hf;subst hf;exact qhO pg pc pe hs hm fin hfin k ds items ys es JD _ G1 hr (va2.up E1) (E.trans E1) (hd.up E1) (hy.up (jb E1)) e2 hl
def lcF (pi:Rho->Option (List PyData)) (h:Rho->PyData->Option (Option PyData)) (m:List (Option Nat)) (ρ:Rho):Option PyData:=
 (pi ρ).bind λds=>(lcP (h (S8 m ρ)) ds).bind λfs=>cif (fs.length<=sizeLine) (some (.list fs)) none
def bLc {wi:TI3} {g:TG3} {tif:TT3} {te:TE3} (pi:PuI wi) (pg:PuG g) (pc:PuC tif) (pe:PuE te) (m:List (Option Nat)) (hm:Tru (pg.tg.all λi=>m[i]?==some none)):PuE (lc3 wi g tif te m):=
 ⟨lcF pi.f (lcH pg.f pc.f pe.f) m,pi.fv++m.filterMap id,true,λ{D τ ρ G q d} hv hd hf k=>by
  unfold lcF at hf;obtain ⟨ds,e1,hf⟩:=obb hf;obtain ⟨fs,e2,hf⟩:=obb hf;unfold cif at hf;split at hf
  ·rename_i hl;cases hf;refine pi.ok hv.l hd e1 λitems stay G1 E1 D1 hs _=>?_;have va:=(VA.cap (m:=m) hv.r).up E1;refine qhO pg pc pe (D:=D) (ρ0:=S8 m ρ) (G0:=G1) (λG2 E2=>hs G2 (.inr (JN.trans E2))) (λi hi=>T5 ?_) fs hl (λG2 ys E2 D2 p hp=>?_) ds items [] [] fs _ G1 D1 va Ex.refl (hd.up E1) .nil e2 (by simp)
   ·have:=List.all_eq_true.mp hm.h i hi;simpa using this
   ·exact k _ _ ((E1.trans E2).trans (QC hp)) (UY ((hd.up E1).up E2) hp D2) λ_=>(WW hp D2).back (E1.trans E2)
  ·cases hf⟩
def E0 (p:Addr) (G G':Gp):Prop:=∀ b o,b≠p->G b=some o->G' b=some o
def E0.refl {p:Addr} {G:Gp}:E0 p G G:=λ_ _ _ e=>e
def E0.trans {p:Addr} {G G1 G2:Gp} (a:E0 p G G1) (b:E0 p G1 G2):E0 p G G2:=λx o n e=>b x o n (a x o n e)
def E0.of {p:Addr} {G G1:Gp} (a:Ex G G1):E0 p G G1:=λx o _ e=>a x o e
def E0.wr {p:Addr} {G:Gp} {o:O}:E0 p G (gu G p o):=λb ob n e=>by rw [zX n];exact e
theorem E0.rs {p:Addr} {D:Addr->Prop} {G G1:Gp} (a:E0 p G G1):Ex (rs (λb=>D b\/b=p) G) (rs (λb=>D b\/b=p) G1):=λb o h=>by
 obtain ⟨n,h⟩:=qm h;rw [zx n];exact a b o (λz=>n (.inr z)) h
def qjQ {D:Addr->Prop} {G:Gp} {p:Addr} {o:O} (h:Dom D G):Dom D (gu G p o):=λb d z=>by
 by_cases e:b=p
 ·subst e;rw [qD] at z;cases z
 ·rw [zX e] at z;exact h b d z
theorem qgw {p:Addr} {stay:Gp->Prop} {g:TG3} {tif:TT3} {te:TE3} {N:St3->Gp->Prop} (pg:PuG g) (pc:PuC tif) (pe:PuE te) {D:Addr->Prop} {ρ0:Rho} {G0:Gp} (hs:∀ G,Ex (rs (λb=>D b\/b=p) G0) G->stay G) (hm:∀ i∈pg.tg,vw ρ0 i=none) (fin:List PyData) (hfin:fin.length<=sizeLine)
  (k:∀ τ G ys,VA (λb=>D b\/b=p) G τ ρ0->E0 p G0 G->Dom (λb=>D b\/b=p) G->G p=some (.lst ys)->Dqs (rs (λb=>D b\/b=p) G) ys fin->N τ G) :
  ∀ (ds:List PyData) (items ys:List T) (es fs:List PyData) (τ:St3) (G:Gp),Dqs (rs (λb=>D b\/b=p) G0) items ds->VA (λb=>D b\/b=p) G τ ρ0->E0 p G0 G->Dom (λb=>D b\/b=p) G->G p=some (.lst ys)->Dqs (rs (λb=>D b\/b=p) G) ys es->lcP (lcH pg.f pc.f pe.f ρ0) ds=some fs->es++fs=fin->qh3 p stay g tif te N items τ G
 |_,_,ys,es,fs,τ,G,.nil,va,E,hd,gp,hy,hf,hl=>by
  cases hf;rw [List.append_nil] at hl;subst hl;exact ⟨hs G (E.rs.trans JN),k τ G ys va E hd gp hy⟩
 |d::ds,x::items,ys,es,fs,τ,G,.cons hx hr,va,E,hd,gp,hy,hf,hl=>by
  unfold lcP at hf;obtain ⟨o,e1,hf⟩:=obb hf;obtain ⟨JD,e2,hf⟩:=obb hf;unfold lcH at e1;obtain ⟨bs,e3,e1⟩:=obb e1;obtain ⟨c,e4,e1⟩:=obb e1;obtain ⟨ts,bd,kg⟩:=pg.ok (hx.up E.rs) e3;refine ⟨hs G (E.rs.trans JN),kg τ G _ ?_⟩;have va1:=va.sets bd;have va2:=va.keep (ts:=ts) λp hp=>by
   obtain ⟨q,hq,e⟩:=qcZ bd p hp;rw [← e];exact hm _ (pg.at' e3 q hq)
  refine pc.ok (va1.view _) hd e4 λG1 E1=>?_;cases c with
  |true=>
   rw [if_pos rfl];rw [if_pos rfl] at e1;obtain ⟨y,e5,rfl⟩:=za3 e1;simp only [Option.some.injEq] at hf;subst hf;refine pe.ok ((va1.up E1).view _) (hd.up E1) e5 λz G2 E2 D2 _=>?_;simp only [E2 _ _ (E1 _ _ gp)];have W:E0 p G2 (gu G2 p (.lst (ys++[z]))):=E0.wr;refine ⟨?_,?_⟩
   ·rw [hy.length];rw [← hl] at hfin;simp at hfin;omega
   ·refine qgw pg pc pe hs hm fin hfin k ds items (ys++[z]) (es++[y]) JD _ _ hr (((va2.up E1).up E2).upx W.rs) ((E.trans (E0.of (E1.trans E2))).trans W) (qjQ ((hd.up E1).up E2)) qD ((((hy.up (jb E1)).up (jb E2)).append (.cons D2 .nil)).up W.rs) e2 ?_;rw [← hl];simp
  |false=>
   rw [if_neg y6];simp at e1;subst e1;simp only [Option.some.injEq] at hf;subst hf;exact qgw pg pc pe hs hm fin hfin k ds items ys es JD _ G1 hr (va2.up E1) (E.trans (E0.of E1)) (hd.up E1) (E1 _ _ gp) (hy.up (jb E1)) e2 hl
def qgj (h:PyData->Option (Option (List PyData))):List PyData->Option (List PyData)
 |[]=>some []
 |d::r=>(h d).bind λo=>(qgj h r).bind λys=>some (match o with|some y=>y++ys|none=>ys)
def qkK (gf:PyData->Option (List (Nat×PyData))) (cf:Rho->Option Bool) (it:Rho->Option (List PyData)) (h:Rho->PyData->Option (Option PyData)) (ρ:Rho) (d:PyData):Option (Option (List PyData)):=
 (gf d).bind λbs=>(cf (jM ρ bs)).bind λk=>if k then ((it (jM ρ bs)).bind λds=>lcP (h (jM ρ bs)) ds).map some else some none
theorem KJ:∀ {bs:List (Nat×PyData)} {ρ:Rho} {i:Nat},(∀ p∈bs,p.1≠i)->vw (jM ρ bs) i=vw ρ i
 |[],_,_,_=>rfl
 |p::r,ρ,i,h=>by
  unfold jM;rw [KJ (λq hq=>h q (by simp [hq])),qe8,if_neg (h p (by simp))]
theorem LR:∀ (bs:List (Nat×PyData)) (ρ:Rho),(jM ρ bs).length=ρ.length
 |[],τ=>rfl
 |p::r,τ=>by unfold jM;rw [LR r];simp
theorem qal {p:Addr} {stay:Gp->Prop} {g g2:TG3} {tif tif2:TT3} {wi2:TI3} {te:TE3} {q:Q3} (pg:PuG g) (pc:PuC tif) (pi2:PuI wi2) (pg2:PuG g2) (pc2:PuC tif2) (pe:PuE te) {D:Addr->Prop} {ρ0:Rho} {G0:Gp} (hs:∀ G,Ex (rs (λb=>D b\/b=p) G0) G->stay G) (hm:∀ i∈pg.tg,vw ρ0 i=none) (hm2:∀ i∈pg2.tg,vw ρ0 i=none) (hdj:∀ i∈pg2.tg,i∉pg.tg) (fin:List PyData) (hfin:fin.length<=sizeLine)
  (k:∀ G ys,E0 p G0 G->G p=some (.lst ys)->Dqs (rs (λb=>D b\/b=p) G) ys fin->q (.ref p) G) :
  ∀ (ds:List PyData) (items ys:List T) (es fs:List PyData) (τ:St3) (G:Gp),Dqs (rs (λb=>D b\/b=p) G0) items ds->VA (λb=>D b\/b=p) G τ ρ0->E0 p G0 G->Dom (λb=>D b\/b=p) G->G p=some (.lst ys)->Dqs (rs (λb=>D b\/b=p) G) ys es->qgj (qkK pg.f pc.f pi2.f (lcH pg2.f pc2.f pe.f) ρ0) ds=some fs->es++fs=fin->qag p stay g tif wi2 g2 tif2 te q items τ G
 |_,_,ys,es,fs,τ,G,.nil,va,E,hd,gp,hy,hf,hl=>by
  cases hf;rw [List.append_nil] at hl;subst hl;exact ⟨hs G (E.rs.trans JN),k G ys E gp hy⟩
 |d::ds,x::items,ys,es,fs,τ,G,.cons hx hr,va,E,hd,gp,hy,hf,hl=>by
  unfold qgj at hf;obtain ⟨o,e1,hf⟩:=obb hf;obtain ⟨JD,e2,hf⟩:=obb hf;unfold qkK at e1;obtain ⟨bs,e3,e1⟩:=obb e1;obtain ⟨c,e4,e1⟩:=obb e1;obtain ⟨ts,bd,kg⟩:=pg.ok (hx.up E.rs) e3;refine ⟨hs G (E.rs.trans JN),kg τ G _ ?_⟩;have va1:=va.sets bd;have va2:=va.keep (ts:=ts) λp hp=>by
   obtain ⟨q,hq,e⟩:=qcZ bd p hp;rw [← e];exact hm _ (pg.at' e3 q hq)
  refine pc.ok (va1.view _) hd e4 λG1 E1=>?_;cases c with
  |true=>
   rw [if_pos rfl];rw [if_pos rfl] at e1;obtain ⟨y,e5,rfl⟩:=za3 e1;obtain ⟨ds2,e6,e5⟩:=obb e5;simp only [Option.some.injEq] at hf;subst hf;refine pi2.ok ((va1.up E1).view _) (hd.up E1) e6 λitems2 stay2 G2 E2 D2 hs2 _=>?_;have l2:(es++y).length<=sizeLine:=by
    rw [← hl] at hfin;simp at hfin ⊢;omega
   refine qgw pg2 pc2 pe (ρ0:=jM ρ0 bs) (G0:=G2) (λG3 E3=>hs2 G3 (.inr E3)) (λi hi=>?_) (es++y) l2 (λτ3 G3 zs va3 E3 hd3 gp3 hz=>?_) ds2 items2 ys es y _ G2 D2 ((va1.up E1).up E2) E0.refl ((hd.up E1).up E2) (E2 _ _ (E1 _ _ gp)) ((hy.up (jb E1)).up (jb E2)) e5 rfl
   ·rw [KJ λq hq e=>hdj i hi (by rw [← e];exact pg.at' e3 q hq)];exact hm2 i hi
   ·have E4:E0 p G G3:=(E0.of (E1.trans E2)).trans E3;have va4:VA (λb=>D b\/b=p) G3 τ3 ρ0:=⟨by rw [← va3.len,LR],λi d' hd'=>va3.vw i d' (by
     rw [KJ λq hq e=>?_];exact hd';rw [← e,hm _ (pg.at' e3 q hq)] at hd';cases hd')⟩
    exact qal pg pc pi2 pg2 pc2 pe hs hm hm2 hdj fin hfin k ds items zs (es++y) JD τ3 G3 hr va4 (E.trans E4) hd3 gp3 hz e2 (by rw [← hl];simp)
  |false=>
   rw [if_neg y6];simp at e1;subst e1;simp only [Option.some.injEq] at hf;subst hf;exact qal pg pc pi2 pg2 pc2 pe hs hm hm2 hdj fin hfin k ds items ys es JD _ G1 hr (va2.up E1) (E.trans (E0.of E1)) (hd.up E1) (E1 _ _ gp) (hy.up (jb E1)) e2 hl
def qlJ (pi:Rho->Option (List PyData)) (h:Rho->PyData->Option (Option (List PyData))) (m:List (Option Nat)) (ρ:Rho):Option PyData:=
 (pi ρ).bind λds=>(qgj (h (S8 m ρ)) ds).bind λfs=>cif (fs.length<=sizeLine) (some (.list fs)) none
def qcX {h:PyData->Option (Option (List PyData))} {α:Type} {g:α->PyData} {k:α->List PyData} {xs:List α} (hh:∀ a∈xs,h (g a)=some (some (k a))):qgj h (xs.map g)=some (xs.flatMap k):=by
 induction xs with
 |nil=>rfl
 |cons a r ih=>simp only [map_cons,qgj,hh a (by simp),Option.bind_some,ih λb hb=>hh b (by simp [hb]),List.flatMap_cons]
def qnb {wi wi2:TI3} {g g2:TG3} {tif tif2:TT3} {te:TE3} (pi:PuI wi) (pg:PuG g) (pc:PuC tif) (pi2:PuI wi2) (pg2:PuG g2) (pc2:PuC tif2) (pe:PuE te) (m:List (Option Nat)) (hm:Tru (pg.tg.all λi=>m[i]?==some none)) (hm2:Tru (pg2.tg.all λi=>m[i]?==some none)) (hdj:Tru (pg2.tg.all λi=>!pg.tg.contains i)):PuE (qjz wi g tif wi2 g2 tif2 te m):=
 ⟨qlJ pi.f (qkK pg.f pc.f pi2.f (lcH pg2.f pc2.f pe.f)) m,pi.fv++m.filterMap id,true,λ{D τ ρ G q d} hv hd hf k=>by
  unfold qlJ at hf;obtain ⟨ds,e1,hf⟩:=obb hf;obtain ⟨fs,e2,hf⟩:=obb hf;unfold cif at hf;split at hf
  ·rename_i hl;cases hf;refine pi.ok hv.l hd e1 λitems stay G1 E1 D1 hs _ p hp=>?_;have va:=(VA.cap (m:=m) hv.r).up E1;have np:∀ {b o},G1 b=some o->b≠p:=λe=>by rintro rfl;rw [hp] at e;cases e
   have X1:Ex (rs D G1) (rs (λb=>D b\/b=p) (gu G1 p (.lst []))):=λb o e=>by
    obtain ⟨n,e⟩:=qm e;rw [zx (by rintro (z|z);exact n z;exact np e z),zX (np e)];exact e
   refine qal pg pc pi2 pg2 pc2 pe (D:=D) (ρ0:=S8 m ρ) (G0:=gu G1 p (.lst [])) (p:=p) (λG2 E2=>hs G2 (.inr (X1.trans E2))) (λi hi=>T5 ?_) (λi hi=>T5 ?_) (λi hi hj=>?_) fs hl (λG2 ys E2 gp D2=>?_) ds items [] [] fs _ _ (D1.up X1) ⟨va.len,λi d hd=>let ⟨t,a,b⟩:=va.vw i d hd;⟨t,a,b.up X1⟩⟩ E0.refl ?_ qD .nil e2 (by simp)
   ·simpa using List.all_eq_true.mp hm.h i hi
   ·simpa using List.all_eq_true.mp hm2.h i hi
   ·have:=List.all_eq_true.mp hdj.h i hi;simp at this;exact this hj
   ·have EE:Ex G1 G2:=λb o e=>E2 b o (np e) (by rw [zX (np e)];exact e);have hdp:¬ D p:=λz=>(hd.up E1) p z hp;refine k _ _ (E1.trans EE) (.lst (by rw [zx hdp];exact gp) (D2.up (zC λb z=>.inl z))) λ_=>Nw.back (.inr ⟨p,ys,fs,rfl,rfl,hp,gp,D2⟩) E1
   ·intro b hb z;by_cases e:b=p
    ·subst e;rw [qD] at z;cases z
    ·rw [zX e] at z;rcases hb with hb|hb
     ·exact (hd.up E1) b hb z
     ·exact e hb
  ·cases hf⟩
def AD (D:Addr->Prop) (A:Nat->Addr->Prop) (b:Addr):Prop:=D b\/∃ i,A i b
def Ons (R G:Gp) (B:Addr->Prop) (qs:List Addr) (dss:List (List PyData)):Prop:=qs.length=dss.length/\∀ (j:Nat) (q:Addr) (ds:List PyData),qs[j]?=some q->dss[j]?=some ds->B q/\∃ ys,G q=some (.lst ys)/\Dqs R ys ds
def SlR (R G:Gp) (B:Addr->Prop) (t:Option (Option T)):Sl->Prop
 |.un=>True
 |.sh d=>∃ x,t=some (some x)/\Dq R x d
 |.ow ds=>∃ p xs,B p/\t=some (some (.ref p))/\G p=some (.lst xs)/\Dqs R xs ds
 |.dc kvs=>∃ p ks,B p/\t=some (some (.ref p))/\G p=some (.dct ks)/\ks.map (λq=>q.1)=kvs.map (λq=>q.1)/\Dqs R (ks.map λq=>q.2) (kvs.map λq=>q.2)
 |.on dss=>∃ p qs,B p/\t=some (some (.ref p))/\G p=some (.lst (qs.map T.ref))/\(p::qs).Nodup/\Ons R G B qs dss
 |.rg d=>∃ x,t=some (some x)/\Dq (rs (λb=>¬ B b) G) x d
section
variable {R R' G G':Gp} {B B':Addr->Prop} {t:Option (Option T)} {s:Sl}
def Ons.mono {qs:List Addr} {dss:List (List PyData)} (h:Ons R G B qs dss) (hr:Ex R R') (hg:∀ q∈qs,∀ o,B q->G q=some o->G' q=some o) (hb:∀ p,B p->B' p):Ons R' G' B' qs dss:=
 ⟨h.1,λj q ds a b=>let ⟨c,ys,d,e⟩:=h.2 j q ds a b;⟨hb _ c,ys,hg _ (v9 a) _ c d,e.up hr⟩⟩
theorem SlR.mono (h:SlR R G B t s) (hr:Ex R R') (hg:s≠.un->∀ p o,B p->G p=some o->G' p=some o) (hb:∀ p,B p->B' p):SlR R' G' B' t s:=by
 by_cases n:s=.un
 ·subst n;trivial
 replace hg:=hg n
 cases s with
 |un=>trivial
 |sh d=>obtain ⟨x,a,b⟩:=h;exact ⟨x,a,b.up hr⟩
 |ow ds=>obtain ⟨p,xs,a,b,c,d⟩:=h;exact ⟨p,xs,hb _ a,b,hg _ _ a c,d.up hr⟩
 |dc ds=>obtain ⟨p,xs,a,b,c,d,e⟩:=h;exact ⟨p,xs,hb _ a,b,hg _ _ a c,d,e.up hr⟩
 |on ds=>obtain ⟨p,xs,a,b,c,d,e⟩:=h;exact ⟨p,xs,hb _ a,b,hg _ _ a c,d,e.mono hr (λq _=>hg q) hb⟩
 |rg d=>obtain ⟨x,a,b⟩:=h;exact ⟨x,a,b.up λq o e=>by
   obtain ⟨n,e⟩:=qm e;rw [zx λz=>n λy=>z (hb q y)];exact hg q o (Classical.not_not.mp n) e⟩
theorem Ons.dqs:∀ {qs:List Addr} {dss:List (List PyData)},Ons R G B qs dss->Ex R R'->(∀ p o,B p->G p=some o->R' p=some o)->Dqs R' (qs.map T.ref) (dss.map PyData.list)
 |[],[],_,_,_=>.nil
 |q::qs,ds::dss,h,hr,hg=>by
  obtain ⟨a,ys,b,c⟩:=h.2 0 q ds rfl rfl;exact .cons (.lst (hg _ _ a b) (c.up hr)) (Ons.dqs ⟨by simpa using h.1,λj q ds x y=>h.2 (j+1) q ds x y⟩ hr hg)
 |[],_::_,h,_,_=>by cases h.1
 |_::_,[],h,_,_=>by cases h.1
def SlR.vis (h:SlR R G B t s) {d:PyData} (hs:s.d=some d) (hr:Ex R R') (hg:∀ p o,B p->G p=some o->R' p=some o):∃ x,t=some (some x)/\Dq R' x d:=by
 cases s with
 |un=>cases hs
 |sh d=>cases hs;obtain ⟨x,a,b⟩:=h;exact ⟨x,a,b.up hr⟩
 |ow ds=>cases hs;obtain ⟨p,xs,a,b,c,d⟩:=h;exact ⟨_,b,.lst (hg _ _ a c) (d.up hr)⟩
 |dc ds=>cases hs
 |on ds=>cases hs;obtain ⟨p,xs,a,b,c,d,e⟩:=h;exact ⟨_,b,.lst (hg _ _ a c) (e.dqs hr hg)⟩
 |rg d=>cases hs;obtain ⟨x,a,b⟩:=h;exact ⟨x,a,b.up λq o e=>by
   obtain ⟨n,e⟩:=qm e;exact hg q o (Classical.not_not.mp n) e⟩
end
structure RS (D:Addr->Prop) (G0:Gp) (A:Nat->Addr->Prop) (τ:St3) (ρ:Rho) (G:Gp):Prop where
 ex:Ex G0 G
 dm:Dom D G0
 fr:∀ i p,A i p->G0 p=none
 da:∀ i p,A i p->G p≠none
 inj:∀ i j p,A i p->A j p->i=j
 len:ρ.length=τ.length
 sl:∀ (i:Nat) (s:Sl),ρ[i]?=some s->SlR (rs (AD D A) G) G (A i) τ[i]? s
section
variable {D:Addr->Prop} {G0 G G':Gp} {A A':Nat->Addr->Prop} {τ:St3} {ρ:Rho}
theorem RS.sh (h:RS D G0 A τ ρ G) (i:Nat) (d:PyData) (e:ρ[i]?=some (Sl.sh d)):∃ t,τ[i]?=some (some t)/\Dq (rs (AD D A) G) t d:=h.sl i _ e
theorem RS.ow (h:RS D G0 A τ ρ G) (i:Nat) (ds:List PyData) (e:ρ[i]?=some (Sl.ow ds)):∃ p xs,A i p/\τ[i]?=some (some (.ref p))/\G p=some (.lst xs)/\Dqs (rs (AD D A) G) xs ds:=h.sl i _ e
def RS.nd (h:RS D G0 A τ ρ G) {i:Nat} {p:Addr} (e:A i p):¬ D p:=λz=>h.dm p z (h.fr i p e)
def RS.dom (h:RS D G0 A τ ρ G):Dom (AD D A) G:=λb hb=>by
 rcases hb with hb|⟨i,hi⟩
 ·exact (h.dm.up h.ex) b hb
 ·exact h.da i b hi
def RS.domD (h:RS D G0 A τ ρ G):Dom D G:=h.dm.up h.ex
def RS.keep (h:RS D G0 A τ ρ G) {W:Addr->Prop} (hg:∀ b o,¬ W b->G b=some o->G' b=some o) (hW:∀ b,W b->∃ j,A j b/\ρ[j]?=some Sl.un/\G' b≠none):RS D G0 A τ ρ G':=by
 have out:∀ b,W b->AD D A b:=λb z=>let ⟨j,a,_⟩:=hW b z;.inr ⟨j,a⟩
 have X:Ex (rs (AD D A) G) (rs (AD D A) G'):=λb o e=>by
  obtain ⟨n,e⟩:=qm e;rw [zx n];exact hg b o (λz=>n (out b z)) e
 refine ⟨λb o e=>hg b o (λz=>?_) (h.ex b o e),h.dm,h.fr,λi p a z=>?_,h.inj,h.len,λi s e=>(h.sl i s e).mono X (λnu p o a g=>hg p o (λz=>?_) g) λ_ z=>z⟩
 ·obtain ⟨j,a,_⟩:=hW b z;rw [h.fr j b a] at e;cases e
 ·by_cases c:W p
  ·obtain ⟨j,_,_,n⟩:=hW p c;exact n z
  ·cases g:G p with
   |none=>exact h.da i p a g
   |some o=>rw [hg p o c g] at z;cases z
 ·obtain ⟨j,b,u,_⟩:=hW p z;have:=h.inj i j p a b;subst this;rw [u] at e;cases e;exact nu rfl
def RS.up (h:RS D G0 A τ ρ G) (e:Ex G G'):RS D G0 A τ ρ G':=h.keep (W:=λ_=>False) (λb o _ z=>e b o z) λ_ z=>z.elim
def RS.viewAll (h:RS D G0 A τ ρ G) (fv:List Nat):WR fv D G τ ρ:=λi _ d hd=>by
 unfold vw at hd;obtain ⟨s,e,hd⟩:=obb hd;exact (h.sl i s e).vis hd (zC λb z=>.inl z) λp o a g=>by rw [zx (h.nd a)];exact g
def RS.view (h:RS D G0 A τ ρ G) {fv:List Nat} (hn:∀ i∈fv,∀ p,¬ A i p):WR fv (AD D A) G τ ρ:=λi hi d hd=>by
 unfold vw at hd;obtain ⟨s,e,hd⟩:=obb hd;exact (h.sl i s e).vis hd (λ_ _ z=>z) λp o a=>(hn i hi p a).elim
def Sl.dem:Sl->Sl
 |.ow ds=>.sh (.list ds)
 |.dc _=>.un
 |.on dss=>.sh (.list (dss.map PyData.list))
 |.rg d=>.sh d
 |s=>s
def dm:List Bool->Rho->Rho
 |b::m,s::r=>(match b with|true=>s.dem|false=>s)::dm m r
 |_,r=>r
def mkb (m:List Bool) (i:Nat):Bool:=(m[i]?).getD false
theorem qd3:∀ (m:List Bool) (ρ:Rho) (i:Nat),(dm m ρ)[i]?=(ρ[i]?).map λs=>if mkb m i=true then s.dem else s
 |[],ρ,i=>by simp [dm,mkb]
 |b::m,[],i=>by simp [dm]
 |b::m,s::r,0=>by cases b<;>simp [dm,mkb]
 |b::m,s::r,i+1=>by
  have:=qd3 m r i;simp only [dm,getElem?_cons_succ,mkb] at this ⊢;exact this
def qmh (s:Sl):s.dem.d=s.d:=by cases s<;>rfl
def qnz (m:List Bool) (ρ:Rho) (i:Nat):vw (dm m ρ) i=vw ρ i:=by
 unfold vw;rw [qd3];cases ρ[i]? with
 |none=>rfl
 |some s=>
  simp only [Option.map_some,Option.bind_some];split
  ·exact qmh s
  ·rfl
theorem qe3:∀ (m:List Bool) (ρ:Rho),(dm m ρ).length=ρ.length
 |[],ρ=>rfl
 |b::m,[]=>rfl
 |b::m,s::r=>by simp [dm,qe3 m r]
def Ad (m:List Bool) (A:Nat->Addr->Prop):Nat->Addr->Prop:=λi p=>A i p/\mkb m i=false
def qja (s:Sl):s.dem=.un\/∃ d,s.dem=.sh d/\s.d=some d:=by cases s<;>simp [Sl.dem,Sl.d]
def RS.dem (h:RS D G0 A τ ρ G) (m:List Bool):RS D G0 (Ad m A) τ (Pu.dm m ρ) G:=by
 have less:Ex (rs (AD D A) G) (rs (AD D (Ad m A)) G):=zC λb z=>by
  rcases z with z|⟨i,z⟩
  ·exact .inl z
  ·exact .inr ⟨i,z.1⟩
 refine ⟨h.ex,h.dm,λi p e=>h.fr i p e.1,λi p e=>h.da i p e.1,λi j p a b=>h.inj i j p a.1 b.1,by rw [qe3];exact h.len,λi s e=>?_⟩;rw [qd3] at e;obtain ⟨s',e1,rfl⟩:=za3 e;have q:=h.sl i s' e1;split
 ·rename_i hm;rcases qja s' with z|⟨d,z,hd⟩<;>rw [z]
  ·trivial
  ·refine q.vis hd less λp o a g=>?_;rw [zx]
   ·exact g
   ·rintro (z|⟨j,z⟩)
    ·exact h.nd a z
    ·have:=h.inj i j p a z.1;subst this;rw [z.2] at hm;cases hm
 ·rename_i hm;exact q.mono less (λ_ _ _ _ z=>z) λp z=>⟨z,by simpa using hm⟩
def RS.viewD (h:RS D G0 A τ ρ G) {m:List Bool} {fv:List Nat} (hm:Tru (fv.all (mkb m))):WR fv (AD D (Ad m A)) G τ ρ:=by
 have:=(h.dem m).view (fv:=fv) λi hi p z=>by have q:=List.all_eq_true.mp hm.h i hi;rw [z.2] at q;cases q
 intro i hi d hd;exact this i hi d (by rw [qnz];exact hd)
def Rg (A:Nat->Addr->Prop) (i:Nat) (B:Addr->Prop):Nat->Addr->Prop:=λj p=>(j=i/\B p)\/(j≠i/\A j p)
def RS.upd (h:RS D G0 A τ ρ G) (i:Nat) {x:T} {s:Sl} {B W:Addr->Prop} (hg:∀ b o,¬ W b->G b=some o->G' b=some o) (hW:∀ b,W b->∃ j,A j b/\(j=i\/(ρ[j]?=some Sl.un/\G' b≠none))) (hB:∀ b,B b->(A i b\/G b=none)/\G' b≠none)
  (hs:Ex (rs (AD D A) G) (rs (AD D (Rg A i B)) G')->SlR (rs (AD D (Rg A i B)) G') G' B (some (some x)) s):RS D G0 (Rg A i B) (τ.set i (some x)) (ρ.set i s) G':=by
 have X:Ex (rs (AD D A) G) (rs (AD D (Rg A i B)) G'):=λb o e=>by
  obtain ⟨n,e⟩:=qm e;rw [zx]
  ·exact hg b o (λz=>let ⟨j,a,_⟩:=hW b z;n (.inr ⟨j,a⟩)) e
  ·rintro (z|⟨j,⟨rfl,z⟩|⟨_,z⟩⟩)
   ·exact n (.inl z)
   ·rcases (hB b z).1 with z|z
    ·exact n (.inr ⟨j,z⟩)
    ·rw [z] at e;cases e
   ·exact n (.inr ⟨j,z⟩)
 have ng:∀ p,G p=none->G0 p=none:=λp g=>by
  cases z:G0 p with
  |none=>rfl
  |some o=>rw [h.ex _ _ z] at g;cases g
 refine ⟨λb o e=>hg b o (λz=>?_) (h.ex b o e),h.dm,λj p e=>?_,λj p e=>?_,λj k p a b=>?_,by simp [h.len],λj s' e=>?_⟩
 ·obtain ⟨j,a,_⟩:=hW b z;rw [h.fr j b a] at e;cases e
 ·rcases e with ⟨rfl,z⟩|⟨_,z⟩
  ·rcases (hB p z).1 with z|z
   ·exact h.fr j p z
   ·exact ng p z
  ·exact h.fr j p z
 ·rcases e with ⟨rfl,z⟩|⟨n,z⟩
  ·exact (hB p z).2
  ·intro g;by_cases c:W p
   ·obtain ⟨k,a,b|⟨_,b⟩⟩:=hW p c
    ·exact n ((h.inj j k p z a).trans b)
    ·exact b g
   ·cases g':G p with
    |none=>exact h.da j p z g'
    |some o=>rw [hg p o c g'] at g;cases g
 ·rcases a with ⟨rfl,a⟩|⟨n,a⟩<;>rcases b with ⟨rfl,b⟩|⟨n',b⟩
  ·rfl
  ·rcases (hB p a).1 with z|z
   ·exact h.inj _ _ p z b
   ·exact absurd z (h.da k p b)
  ·rcases (hB p b).1 with z|z
   ·exact h.inj _ _ p a z
   ·exact absurd z (h.da j p a)
  ·exact h.inj j k p a b
 ·rw [getElem?_set] at e ⊢;split at e
  ·rename_i hj;subst hj;split at e
   ·rename_i hl;cases e;rw [if_pos rfl,if_pos (by rw [← h.len];exact hl)];exact (hs X).mono (λ_ _ z=>z) (λ_ _ _ _ z=>z) λp z=>.inl ⟨rfl,z⟩
   ·cases e
  ·rename_i hj;rw [if_neg hj];refine (h.sl j s' e).mono X (λnu p o a g=>hg p o (λz=>?_) g) λp z=>.inr ⟨λy=>hj y.symm,z⟩;obtain ⟨k,b,y|⟨y,_⟩⟩:=hW p z
   ·exact hj ((h.inj j k p a b).trans y).symm
   ·have:=h.inj j k p a b;subst this;rw [e] at y;cases y;exact nu rfl
abbrev Er (A:Nat->Addr->Prop) (i:Nat):Nat->Addr->Prop:=Rg A i λ_=>False
def qeJ {i j:Nat} {p:Addr} (h:Er A i j p):A j p/\j≠i:=by
 rcases h with ⟨_,z⟩|⟨n,z⟩
 ·exact z.elim
 ·exact ⟨z,n⟩
def RS.put (h:RS D G0 A τ ρ G) (i:Nat) {x:T} {d:PyData} (hx:Dq (rs (AD D A) G) x d):RS D G0 (Er A i) (τ.set i (some x)) (ρ.set i (.sh d)) G:=
 h.upd i (W:=λ_=>False) (λ_ _ _ z=>z) (λ_ z=>z.elim) (λ_ z=>z.elim) λX=>⟨x,rfl,hx.up X⟩
theorem RS.puts:∀ {ts:List (Nat×T)} {bs:List (Nat×PyData)} {A:Nat->Addr->Prop} {τ:St3} {ρ:Rho},RS D G0 A τ ρ G->Bd (rs (AD D A) G) ts bs->∃ A',RS D G0 A' (sets τ ts) (jM ρ bs) G
 |_,_,A,_,_,h,.nil=>⟨A,h⟩
 |_,_,A,_,_,h,.cons (i:=i) a b=>by
  unfold sets jM;exact RS.puts (h.put i a) (b.up (zC λb z=>by
   rcases z with z|⟨j,z⟩
   ·exact .inl z
   ·exact .inr ⟨j,(qeJ z).1⟩))
def RS.putN (h:RS D G0 A τ ρ G) (i:Nat) {x:T} {d:PyData} {ds:List PyData} (hd:d=.list ds) (E:Ex G G') (hx:Nw (AD D A) G G' x d):RS D G0 (Rg A i λb=>x=.ref b) (τ.set i (some x)) (ρ.set i (.ow ds)) G':=by
 rcases hx with hx|⟨p,xs,ds',rfl,e',gp,gp',hs⟩
 ·rw [hd] at hx;cases hx
 rw [hd] at e';cases e';refine h.upd i (W:=λ_=>False) (λb o _ z=>E b o z) (λ_ z=>z.elim) (λb z=>by cases z;exact ⟨.inr gp,by rw [gp'];simp⟩) λ_=>⟨p,xs,rfl,rfl,gp',hs.up (zC λb z=>?_)⟩
 rcases z with z|⟨j,⟨_,z⟩|⟨_,z⟩⟩
 ·exact .inl (.inl z)
 ·cases z;exact .inr rfl
 ·exact .inl (.inr ⟨j,z⟩)
def qen {i:Nat} {t:Option T} (h:τ[i]?=some t):τ.set i t=τ:=by
 apply List.ext_getElem?;intro j;rw [getElem?_set];split
 ·rename_i e;subst e;split
  ·exact h.symm
  ·rename_i n;rw [List.getElem?_eq_none (by omega)] at h;cases h
 ·rfl
def qhS {i:Nat}:Rg A i (A i)=A:=funext λj=>funext λp=>propext ⟨λz=>by
 rcases z with ⟨rfl,z⟩|⟨_,z⟩<;>exact z,λz=>by
 by_cases c:j=i
 ·subst c;exact .inl ⟨rfl,z⟩
 ·exact .inr ⟨c,z⟩⟩
def RS.wr (h:RS D G0 A τ ρ G) {i:Nat} {p:Addr} {xs:List T} {ds:List PyData} (hi:A i p) (ht:τ[i]?=some (some (.ref p))) (hs:Dqs (rs (AD D A) G) xs ds):RS D G0 A τ (ρ.set i (.ow ds)) (gu G p (.lst xs)):=by
 have:=h.upd i (G':=gu G p (.lst xs)) (x:=.ref p) (s:=.ow ds) (B:=A i) (W:=λb=>b=p) (λb o n z=>by rw [zX n];exact z) (λb z=>⟨i,by rw [z];exact hi,.inl rfl⟩) (λb z=>⟨.inl z,by
  by_cases c:b=p
  ·rw [c,qD];simp
  ·rw [zX c];exact h.da i b z⟩) λX=>⟨p,xs,hi,rfl,qD,hs.up X⟩
 rw [qen ht,qhS] at this;exact this
def RS.base {Gb:Gp} (h:RS D Gb A τ ρ G) (e:Ex G0 Gb) (hd:Dom D G0):RS D G0 A τ ρ G:=
 ⟨e.trans h.ex,hd,(λi p a=>by
  cases z:G0 p with
  |none=>rfl
  |some o=>have:=h.fr i p a;rw [e _ _ z] at this;cases this),h.da,h.inj,h.len,h.sl⟩
end
inductive Ot where
 |nx (ρ:Rho)|bk (ρ:Rho)|ct (ρ:Rho)|rt (d:PyData) (fr:Bool)
def Post (D:Addr->Prop) (G0:Gp) (e:Ends3):Ot->Prop
 |.nx ρ=>∀ A τ G,RS D G0 A τ ρ G->e.nx τ G
 |.bk ρ=>∀ A τ G,RS D G0 A τ ρ G->e.bk τ G
 |.ct ρ=>∀ A τ G,RS D G0 A τ ρ G->e.ct τ G
 |.rt d fr=>∀ x G,Ex G0 G->Dq (rs D G) x d->(fr=true->Nw D G0 G x d)->e.rt x G
theorem Post.base {D:Addr->Prop} {G0 Gb:Gp} {e:Ends3} {o:Ot} (h:Post D G0 e o) (x:Ex G0 Gb) (hd:Dom D G0):Post D Gb e o:=by
 cases o with
 |nx ρ=>exact λA τ G r=>h A τ G (r.base x hd)
 |bk ρ=>exact λA τ G r=>h A τ G (r.base x hd)
 |ct ρ=>exact λA τ G r=>h A τ G (r.base x hd)
 |rt d fr=>exact λy G a b c=>h y G (x.trans a) b λz=>(c z).back x
structure PuS (t:TS3) where
 f:Nat->Rho->Option Ot
 ok:∀ {D G0 A τ ρ G n o} {e:Ends3},RS D G0 A τ ρ G->f n ρ=some o->Post D G0 e o->t e τ G
def JO:PuS zp:=⟨λ_ ρ=>some (.nx ρ),λh hf k=>by cases hf;exact k _ _ _ h⟩
def qh1 (a b:Nat->Rho->Option Ot) (n:Nat) (ρ:Rho):Option Ot:=(a n ρ).bind λo=>match o with|.nx ρ'=>b n ρ'|o=>some o
def jX {t u:TS3} (a:PuS t) (b:PuS u):PuS (qM t u):=⟨qh1 a.f b.f,λ{D G0 A τ ρ G n o e} h hf k=>by
 unfold qh1 at hf;obtain ⟨o1,e1,hf⟩:=obb hf;refine a.ok h e1 ?_;cases o1 with
 |nx ρ'=>exact λA' τ' G' h'=>b.ok h' hf k
 |bk ρ'=>cases hf;exact k
 |ct ρ'=>cases hf;exact k
 |rt d fr=>cases hf;exact k⟩
def sIf {c:TT3} {t u:TS3} (pc:PuC c) (a:PuS t) (b:PuS u):PuS (ZO c t u):=⟨λn ρ=>(pc.f ρ).bind λk=>if k then a.f n ρ else b.f n ρ,λh hf k=>by
 obtain ⟨o1,e1,hf⟩:=obb hf;refine pc.ok (h.viewAll _) h.domD e1 λG1 E1=>?_;cases o1 with
 |true=>exact a.ok (h.up E1) hf k
 |false=>exact b.ok (h.up E1) hf k⟩
def JT {t:TE3} (a:PuE t):PuS (zt t):=⟨λ_ ρ=>(a.f ρ).map λd=>.rt d a.nw,λh hf k=>by
 obtain ⟨d,e1,rfl⟩:=za3 hf;exact a.ok (h.viewAll _) h.domD e1 λx G1 E1 D1 N1=>k x G1 (h.ex.trans E1) D1 λz=>(N1 z).back h.ex⟩
def qcR (ρ:Rho) (i:Nat):Option Ot:=match ρ[i]? with|some (.ow ds)=>some (.rt (.list ds) true)|some (.sh d)=>some (.rt d false)|_=>none
def M6 (i:Nat):PuS (zt (v3 i)):=⟨λ_ ρ=>qcR ρ i,λh hf k=>by
 unfold qcR at hf;split at hf
 ·rename_i ds e;cases hf;obtain ⟨p,xs,b,c,g,f⟩:=h.ow i _ e;simp only [zt,v3,c];refine k _ _ h.ex (.lst (by rw [zx (h.nd b)];exact g) (f.up (zC λb z=>.inl z))) λ_=>.inr ⟨p,xs,ds,rfl,rfl,h.fr i p b,g,f.up (zC λq z=>?_)⟩;rcases z with z|z
  ·exact .inl z
  ·subst z;exact .inr ⟨i,b⟩
 ·rename_i d e;cases hf;obtain ⟨t,b,c⟩:=h.sh i _ e;simp only [zt,v3,b];exact k _ _ h.ex (c.up (zC λb z=>.inl z)) (λz=>by cases z)
 ·cases hf⟩
def ZL {H H':Gp} {x:T} {d:PyData} (h:Dq H x d) (s:EH d=true):Dq H' x d:=by
 cases h<;>first|(constructor;done)|(simp [EH] at s;done)
def qow:PyData->Sl
 |.list ds=>.ow ds
 |d=>.sh d
def LD (m:List Bool) (nw:Bool) (i:Nat) (d:PyData) (ρ:Rho):Rho:=if EH d then ρ.set i (.sh d) else (dm m ρ).set i (if nw then qow d else .sh d)
def YG {t:TE3} (a:PuE t) (i:Nat) (m:List Bool) (hm:Tru (a.fv.all (mkb m))):PuS (zr t (gn3 i)):=⟨λ_ ρ=>(a.f ρ).map λd=>.nx (LD m a.nw i d ρ),λ{D G0 A τ ρ G n o e} h hf k=>by
 obtain ⟨d,e1,rfl⟩:=za3 hf;refine a.ok (h.viewD hm) (h.dem m).dom e1 λx G1 E1 D1 N1=>?_;unfold LD at k;show e.nx (τ.set i (some x)) G1;split at k
 ·rename_i hs;exact k _ _ _ ((h.up E1).put i (ZL D1 hs))
 ·split at k
  ·rename_i hn;have N:=N1 hn;rcases id N with h2|⟨p,xs,ds,h1,h2,_⟩
   ·exact absurd h2 (by assumption)
   subst h2;exact k _ _ _ ((h.dem m).putN i rfl E1 N)
  ·exact k _ _ _ (((h.dem m).up E1).put i D1)⟩
def qgq {t:TE3} {g:TG3} (a:PuE t) (pg:PuG g) (m:List Bool) (hm:Tru (a.fv.all (mkb m))):PuS (zr t g):=⟨λ_ ρ=>(a.f ρ).bind λd=>(pg.f d).map λbs=>.nx (jM (dm m ρ) bs),λ{D G0 A τ ρ G n o e} h hf k=>by
 obtain ⟨d,e1,hf⟩:=obb hf;obtain ⟨bs,e2,rfl⟩:=za3 hf;refine a.ok (h.viewD hm) (h.dem m).dom e1 λx G1 E1 D1 N1=>?_;obtain ⟨ts,bd,kg⟩:=pg.ok D1 e2;refine kg _ _ _ ?_;obtain ⟨A',h'⟩:=((h.dem m).up E1).puts bd;exact k _ _ _ h'⟩
def qlR (i j:Nat) (m:List Bool) (ds:List PyData) (ρ:Rho):Option Ot:=match ds with
 |[d,e]=>if EH d&&EH e then some (.nx ((ρ.set i (.sh d)).set j (.sh e))) else some (.nx (((dm m ρ).set i (.sh d)).set j (.sh e)))
 |_=>none
def qjc {D:Addr->Prop} {A:Nat->Addr->Prop} {G:Gp} {i:Nat}:Ex (rs (AD D A) G) (rs (AD D (Er A i)) G):=zC λb z=>by
 rcases z with z|⟨j,z⟩
 ·exact .inl z
 ·exact .inr ⟨j,(qeJ z).1⟩
def qlF (i:Nat) (d:PyData) (ρ:Rho):Option Ot:=match (vw ρ i).bind asI,asI d with|some x,some y=>some (.nx (ρ.set i (.sh (.int (x+y)))))|_,_=>none
def qn3 {t:TE3} (a:PuE t) (i:Nat):PuS (qjK i (iI (·+·)) t):=⟨λ_ ρ=>(a.f ρ).bind λd=>qlF i d ρ,λ{D G0 A τ ρ G n o e} h hf k=>by
 obtain ⟨d,e1,hf⟩:=obb hf;unfold qlF at hf;split at hf
 ·rename_i u v hu hv;cases hf;obtain ⟨w,e2,hu⟩:=obb hu;have:=LF hu;subst this;have:=LF hv;subst this;obtain ⟨t,b,c⟩:=h.viewAll [i] i (by simp) _ e2;cases c;simp only [qjK,b];refine a.ok (h.viewAll _) h.domD e1 λy G1 E1 D1 _=>?_;cases D1;exact k _ _ _ ((h.up E1).put i (.int _))
 ·cases hf⟩
def slot (ρ:Rho) (i:Nat):Option (List PyData):=match ρ[i]? with|some (.ow ds)=>some ds|_=>none
def DI {ρ:Rho} {i:Nat} {ds:List PyData} (h:slot ρ i=some ds):ρ[i]?=some (.ow ds):=by
 unfold slot at h;split at h
 ·rename_i e;cases h;exact e
 ·cases h
def dmS (m:List Bool) (d:PyData) (ρ:Rho):Rho:=if EH d then ρ else dm m ρ
def RS.evalS {D:Addr->Prop} {G0 G:Gp} {A:Nat->Addr->Prop} {τ:St3} {ρ:Rho} (h:RS D G0 A τ ρ G) {t:TE3} (a:PuE t) (m:List Bool) (hm:Tru (a.fv.all (mkb m))) {d:PyData} (hf:a.f ρ=some d):∃ A1,RS D G0 A1 τ (dmS m d ρ) G/\∀ q:Q3,(∀ x G',Ex G G'->Dq (rs (AD D A1) G') x d->q x G')->t τ G q:=by
 unfold dmS;by_cases hs:EH d=true
 ·rw [if_pos hs];exact ⟨A,h,λq k=>a.ok (h.viewAll _) h.domD hf λx G1 E1 D1 _=>k x G1 E1 (ZL D1 hs)⟩
 ·rw [if_neg hs];exact ⟨Ad m A,h.dem m,λq k=>a.ok (h.viewD hm) (h.dem m).dom hf λx G1 E1 D1 _=>k x G1 E1 D1⟩
def qkD (i:Nat) (d:PyData) (ρ:Rho):Option Ot:=(slot ρ i).bind λds=>cif (ds.length<sizeLine) (some (.nx (ρ.set i (.ow (ds++[d]))))) none
def qnf {t:TE3} (a:PuE t) (i:Nat) (m:List Bool) (hm:Tru (a.fv.all (mkb m))):PuS (ZZ (bm3 TQ (v3 i) (qd t ql))):=⟨λ_ ρ=>(a.f ρ).bind λd=>qkD i d (dmS m d ρ),λ{D G0 A τ ρ G n o e} h hf k=>by
 obtain ⟨d,e1,hf⟩:=obb hf;obtain ⟨A1,h1,ev⟩:=h.evalS a m hm e1;unfold qkD at hf;obtain ⟨ds,e2,hf⟩:=obb hf;unfold cif at hf;split at hf
 ·rename_i hl;cases hf;obtain ⟨p,xs,b,c,g,f⟩:=h1.ow i _ (DI e2);simp only [ZZ,bm3,v3,c,ze g];refine ⟨rfl,ev _ λx G1 E1 D1=>?_⟩;simp only [ql,TQ,E1 _ _ g];exact ⟨by rw [f.length];exact hl,k _ _ _ ((h1.up E1).wr b c ((f.up (jb E1)).append (.cons D1 .nil)))⟩
 ·cases hf⟩
def qjg (i:Nat) (d:PyData) (ρ:Rho):Option Ot:=match d with|.list es=>(slot ρ i).bind λds=>cif (ds.length+es.length<=sizeLine) (some (.nx (ρ.set i (.ow (ds++es))))) none|_=>none
def qnE {t:TE3} (a:PuE t) (i:Nat) (m:List Bool) (hm:Tru (a.fv.all (mkb m))):PuS (ZZ (bm3 qgB (v3 i) (qd t ql))):=⟨λ_ ρ=>(a.f ρ).bind λd=>qjg i d (dmS m d ρ),λ{D G0 A τ ρ G n o e} h hf k=>by
 obtain ⟨d,e1,hf⟩:=obb hf;obtain ⟨A1,h1,ev⟩:=h.evalS a m hm e1;unfold qjg at hf;split at hf
 ·obtain ⟨ds,e2,hf⟩:=obb hf;unfold cif at hf;split at hf
  ·rename_i hl;cases hf;obtain ⟨p,xs,b,c,g,f⟩:=h1.ow i _ (DI e2);simp only [ZZ,bm3,v3,c,ze g];refine ⟨rfl,ev _ λx G1 E1 D1=>?_⟩;cases D1 with
   |lst g2 hs2=>
    simp only [ql,qgB,E1 _ _ g,(qm g2).2];exact ⟨by rw [f.length,hs2.length];exact hl,k _ _ _ ((h1.up E1).wr b c ((f.up (jb E1)).append hs2))⟩
  ·cases hf
 ·cases hf⟩
def CK (gf:PyData->Option (List (Nat×PyData))) (bf:Rho->Option Ot):List PyData->Rho->Option Ot
 |[],ρ=>some (.nx ρ)
 |d::r,ρ=>(gf d).bind λbs=>(bf (jM ρ bs)).bind λo=>match o with
  |.nx ρ'=>CK gf bf r ρ'
  |.ct ρ'=>CK gf bf r ρ'
  |.bk ρ'=>some (.nx ρ')
  |.rt d b=>some (.rt d b)
theorem LU {stay:Gp->Prop} {g:TG3} {tb:TS3} {e:Ends3} (pg:PuG g) (pb:PuS tb) {D:Addr->Prop} {G0:Gp} {n:Nat} {o:Ot} {items0:List T} (hs:∀ A τ ρ G,RS D G0 A τ ρ G->stay G) (k:Post D G0 e o) :
  ∀ (ds:List PyData) (items:List T),(∀ A τ ρ G,RS D G0 A τ ρ G->Dqs (rs (AD D A) G) items ds)->∀ A τ ρ G,RS D G0 A τ ρ G->CK pg.f (pb.f n) ds ρ=some o->X7 stay g tb e items τ G
 |[],items,hi,A,τ,ρ,G,h,hf=>by
  cases hf;have:=hi _ _ _ _ h;cases this;exact ⟨hs _ _ _ _ h,k _ _ _ h⟩
 |d::ds,items,hi,A,τ,ρ,G,h,hf=>by
  have hh:=hi _ _ _ _ h;cases hh with
  |cons hx hr=>
   rename_i x items;unfold CK at hf;obtain ⟨bs,e1,hf⟩:=obb hf;obtain ⟨o1,e2,hf⟩:=obb hf;obtain ⟨ts,bd,kg⟩:=pg.ok hx e1;refine ⟨hs _ _ _ _ h,kg _ _ _ ?_⟩;obtain ⟨A',h'⟩:=h.puts bd;refine pb.ok h' e2 ?_;have hi':∀ A τ ρ G,RS D G0 A τ ρ G->Dqs (rs (AD D A) G) items ds:=λA τ ρ G h=>by
    have:=hi _ _ _ _ h;cases this with
    |cons a b=>exact b
   cases o1 with
   |nx ρ'=>exact λA2 τ2 G2 h2=>LU (items0:=items0) pg pb hs k ds items hi' _ _ _ _ h2 hf
   |ct ρ'=>exact λA2 τ2 G2 h2=>LU (items0:=items0) pg pb hs k ds items hi' _ _ _ _ h2 hf
   |bk ρ'=>cases hf;exact k
   |rt d fr=>cases hf;exact k
def qjo (pi:Rho->Option (List PyData)) (nm:Bool) (m:List Bool) (gf:PyData->Option (List (Nat×PyData))) (bf:Nat->Rho->Option Ot) (n:Nat) (ρ:Rho):Option Ot:=(pi ρ).bind λds=>CK gf (bf n) ds (if nm then ρ else dm m ρ)
def LK {wi:TI3} {g:TG3} {tb:TS3} (pi:PuI wi) (pg:PuG g) (pb:PuS tb) (m:List Bool) (hm:Tru (pi.fv.all (mkb m))):PuS (ET wi g tb):=⟨qjo pi.f pi.nm m pg.f pb.f,λ{D G0 A τ ρ G n o e} h hf k=>by
 unfold qjo at hf;obtain ⟨ds,e1,hf⟩:=obb hf;refine pi.ok (h.viewD hm) (h.dem m).dom e1 λitems stay G1 E1 D1 hs hnm=>?_;cases hb:pi.nm with
 |true=>
  rw [hb,if_pos rfl] at hf;obtain ⟨ns,rfl⟩:=hnm hb;have:=D1.ints;subst this;exact LU (items0:=[]) pg pb (λ_ _ _ _ _=>hs _ (.inl hb)) k _ _ (λA τ ρ G _=>Dqs.ofInts _) _ _ _ _ (h.up E1) hf
 |false=>
  rw [hb,if_neg y6] at hf;have h1:=(h.dem m).up E1;have b1:Ex G0 (rs (λb=>∃ i,Ad m A i b) G1):=λb o e=>by
   rw [zx]
   ·exact h1.ex _ _ e
   ·rintro ⟨i,z⟩;rw [h1.fr i _ z] at e;cases e
  have h2:RS D (rs (λb=>∃ i,Ad m A i b) G1) (Ad m A) τ (dm m ρ) G1:=⟨JN,h.dm.up b1,λi p z=>by unfold rs;exact qT ⟨i,z⟩,h1.da,h1.inj,h1.len,h1.sl⟩
  have X:∀ A2 τ2 ρ2 G2,RS D (rs (λb=>∃ i,Ad m A i b) G1) A2 τ2 ρ2 G2->Ex (rs (AD D (Ad m A)) G1) (rs (AD D A2) G2):=λA2 τ2 ρ2 G2 r b o e=>by
   obtain ⟨n1,e⟩:=qm e;have eb:rs (λb=>∃ i,Ad m A i b) G1 b=some o:=by rw [zx (λz=>n1 (.inr z))];exact e
   rw [zx]
   ·exact r.ex _ _ eb
   ·rintro (z|⟨i,z⟩)
    ·exact n1 (.inl z)
    ·rw [r.fr i _ z] at eb;cases eb
  exact LU (items0:=[]) pg pb (λA2 τ2 ρ2 G2 r=>hs _ (.inr ((X _ _ _ _ r).trans JN))) (k.base b1 h.dm) _ _ (λA2 τ2 ρ2 G2 r=>D1.up (X _ _ _ _ r)) _ _ _ _ h2 hf⟩
def whP (cf:Rho->Option Bool) (bf:Rho->Option Ot):Nat->Rho->Option Ot
 |0,_=>none
 |n+1,ρ=>(cf ρ).bind λk=>if k then (bf ρ).bind λo=>match o with
   |.nx ρ'=>whP cf bf n ρ'
   |.ct ρ'=>whP cf bf n ρ'
   |.bk ρ'=>some (.nx ρ')
   |.rt d b=>some (.rt d b)
  else some (.nx ρ)
def sWh {c:TT3} {tb:TS3} (pc:PuC c) (pb:PuS tb):PuS (XD c tb):=⟨λn ρ=>whP pc.f (pb.f n) n ρ,λ{D G0 A τ ρ G n o e} h hf k=>by
 refine ⟨λm τ G=>∃ A ρ,RS D G0 A τ ρ G/\whP pc.f (pb.f n) m ρ=some o,⟨n,A,ρ,h,hf⟩,?_⟩;rintro m τ G ⟨A,ρ,h,hf⟩;cases m with
 |zero=>cases hf
 |succ m=>
  unfold whP at hf;obtain ⟨b,e1,hf⟩:=obb hf;refine pc.ok (h.viewAll _) h.domD e1 λG1 E1=>?_;cases b with
  |true=>
   rw [if_pos rfl] at hf ⊢;obtain ⟨o1,e2,hf⟩:=obb hf;cases o1 with
   |nx ρ'=>exact ⟨λτ' G'=>∃ A',RS D G0 A' τ' ρ' G',λτ' G' ⟨A',h'⟩=>⟨m,by omega,A',ρ',h',hf⟩,pb.ok (h.up E1) e2 λA' τ' G' h'=>⟨A',h'⟩⟩
   |ct ρ'=>exact ⟨λτ' G'=>∃ A',RS D G0 A' τ' ρ' G',λτ' G' ⟨A',h'⟩=>⟨m,by omega,A',ρ',h',hf⟩,pb.ok (h.up E1) e2 λA' τ' G' h'=>⟨A',h'⟩⟩
   |bk ρ'=>cases hf;exact ⟨λ_ _=>False,λ_ _ z=>z.elim,pb.ok (h.up E1) e2 k⟩
   |rt d fr=>cases hf;exact ⟨λ_ _=>False,λ_ _ z=>z.elim,pb.ok (h.up E1) e2 k⟩
  |false=>
   cases hf;rw [if_neg y6];exact k _ _ _ (h.up E1)⟩
def Q4 (fr:Bool):Option Ot->Option PyData
 |some (.rt d b)=>if fr=true/\b=false then (match d with|.none=>some .none|_=>none) else some d
 |some (.nx _)=>if fr then none else some .none
 |_=>none
def st (ds:List PyData) (N:Nat):Rho:=ds.map Sl.sh++List.replicate (N-ds.length) .un
def qkm {D:Addr->Prop} {G:Gp} {ts:List T} {ds:List PyData} (N:List Str) (hs:Dqs (rs D G) ts ds) (hd:Dom D G):RS D G (λ_ _=>False) (qv N ts) (st ds N.length) G:=by
 refine ⟨Ex.refl,hd,(λi p e=>e.elim),(λi p e=>e.elim),(λi j p e=>e.elim),(by simp [st,qv,hs.length]),λi s e=>?_⟩;unfold st at e;unfold qv;by_cases hi:i<ds.length
 ·rw [List.getElem?_append_left (by simpa using hi),getElem?_map] at e;obtain ⟨d2,e3,rfl⟩:=za3 e;obtain ⟨x,e5,hx⟩:=hs.get e3;refine ⟨x,?_,hx.up (zC λb z=>?_)⟩
  ·rw [List.getElem?_append_left (by simp [hs.length];exact hi),getElem?_map,e5];rfl
  ·rcases z with z|⟨i,z⟩
   ·exact z
   ·exact z.elim
 ·rw [List.getElem?_append_right (by simpa using hi),List.getElem?_replicate] at e;split at e<;>cases e
  trivial
def run (f:Nat->Rho->Option Ot) (k N n:Nat) (fr:Bool) (ds:List PyData):Option PyData:=if ds.length=k then Q4 fr (f n (st ds N)) else none
def qR {t:TS3} (b:PuS t) (N:List Str) (k n:Nat) (fr:Bool):∀ ts G q,PSp (run b.f k N.length n fr) fr ts G q->ts.length=k/\t { nx:=λ_ G'=>q .non G',rt:=q } (qv N ts) G:=by
 rintro ts G q ⟨D,ds,d,hs,hd,hf,h⟩;unfold run at hf;split at hf
 ·rename_i hk;refine ⟨by rw [hs.length];exact hk,?_⟩;have r:=qkm N hs hd;unfold Q4 at hf;split at hf
  ·rename_i d' b' e;split at hf
   ·split at hf
    ·cases hf;exact b.ok r e λx G' a c z=>h x G' a c λ_=>.inl rfl
    ·cases hf
   ·rename_i hb;cases hf;exact b.ok r e λx G' a c z=>h x G' a c λw=>z (by
     cases b' with
     |true=>rfl
     |false=>exact absurd ⟨w,rfl⟩ hb)
  ·rename_i ρ' e;split at hf
   ·cases hf
   ·rename_i hb;cases hf;exact b.ok r e λA τ G' r'=>h .non G' r'.ex .non λw=>absurd w hb
  ·cases hf
 ·cases hf
def qdw {fr:Bool}:∀ ts G q,PSp (λ_=>none) fr ts G q->False:=λts G q ⟨_,_,_,_,_,h,_⟩=>by cases h
def Fn3.pz {P:Program} {w:World} {K:Frg} {mg:Str->Option Value} {base:Heap} {k:Nat} {x:Str} {sp:Sp3} (F:Fn3 P w K mg base k x sp) (fr:Bool):Fn3 P w K mg base k x (PSp (λ_=>none) fr):=F.imp λts G q h=>(qdw ts G q h).elim
def qoj {i:Nat}:(bV i).f=λρ=>vw ρ i:=id rfl
def qfM {i:Int}:(zj i).f=λ_=>some (.int i):=id rfl
def qi4 {i:Bool}:(bBl i).f=λ_=>some (.bool i):=id rfl
def qer {i:Str}:(qd7 i).f=λ_=>some (.str i):=id rfl
def qf1:qdQ.f=λ_=>some .none:=id rfl
def qon {r:R3} {ta tb:TE3} {R:OpD r} {a:PuE ta} {b:PuE tb}:(bO R a b).f=λρ=>(a.f ρ).bind λx=>(b.f ρ).bind λy=>R.f x y:=id rfl
def qfE:qy.f=λ_=>some []:=id rfl
def qcf {ta:TE3} {tr:TA3} {a:PuE ta} {r:PuA tr}:(qf a r).f=λρ=>(a.f ρ).bind λx=>(r.f ρ).bind λxs=>some (x::xs):=id rfl
def qfx {t:TA3} {a:PuA t} {hn:Tru (Nat.ble a.n 1000)}:(qc4 a hn).f=λρ=>(a.f ρ).map .tuple:=id rfl
def qfV {t:TA3} {a:PuA t} {hn:Tru (Nat.ble a.n 1000)}:(ED a hn).f=λρ=>(a.f ρ).map .list:=id rfl
def qaM {r:List T->Gp->Q3->Prop} {t:TA3} {R:FnD r} {a:PuA t}:(qz R a).f=λρ=>(a.f ρ).bind R.f:=id rfl
def qll {t:TE3} {a:PuE t}:(bTb a).f=λρ=>(a.f ρ).bind asB:=id rfl
def qeN {t u:TT3} {a:PuC t} {b:PuC u}:(qnS a b).f=λρ=>(a.f ρ).bind λk=>if k then b.f ρ else some false:=id rfl
def qlG {t u:TT3} {a:PuC t} {b:PuC u}:(bOr a b).f=λρ=>(a.f ρ).bind λk=>if k then some true else b.f ρ:=id rfl
def qet {t:TT3} {a:PuC t}:(qaa a).f=λρ=>(a.f ρ).map (! ·):=id rfl
def qjw:bTt.f=λ_=>some true:=id rfl
def qcs {ta tb:TE3} {a:PuE ta} {b:PuE tb}:(TR a b).f=λρ=>((a.f ρ).bind asB).bind λk=>if k then b.f ρ else some (.bool false):=id rfl
def qbu {ta:TE3} {a:PuE ta}:(qg2 a).f=λρ=>((a.f ρ).bind asB).map λk=>.bool (!k):=id rfl
def qie {t:TT3} {ta tb:TE3} {c:PuC t} {a:PuE ta} {b:PuE tb}:(bIf c a b).f=λρ=>(c.f ρ).bind λk=>if k then a.f ρ else b.f ρ:=id rfl
def qkz {r r':R3} {ta tb tc:TE3} {R:OpD r} {R':OpD r'} {a:PuE ta} {b:PuE tb} {c:PuE tc}:(bCh R R' a b c).f=λρ=>(a.f ρ).bind λx=>(b.f ρ).bind λy=>((R.f x y).bind asB).bind λk=>if k then (c.f ρ).bind λz=>R'.f y z else some (.bool false):=id rfl
def qfq {ta:TE3} {a:PuE ta}:(qna a).f=λρ=>((a.f ρ).bind asI).map λi=>.int (Builtin.Int.intBits i):=id rfl
def qe1 {ta:TE3} {g:String->Bool} {a:PuE ta}:(qdF g a).f=λρ=>(a.f ρ).bind λd=>(tyD d).map λt=>.bool (g t):=id rfl
def qk4:bNp.f=λ_=>some none:=id rfl
def qlf {t:TE3} {a:PuE t}:(bSp a).f=λρ=>((a.f ρ).bind asI).map some:=id rfl
def qjb {te:TE3} {tl th:TO3} {a:PuE te} {l:PuO tl} {h:PuO th}:(bSl a l h).f=λρ=>(a.f ρ).bind λd=>(l.f ρ).bind λlo=>(h.f ρ).bind λhi=>slD d lo hi:=id rfl
def qjf {wi:TI3} {g:TG3} {tif:TT3} {te:TE3} {pi:PuI wi} {pg:PuG g} {pc:PuC tif} {pe:PuE te} {m:List (Option Nat)} {hm:Tru (pg.tg.all λi=>m[i]?==some none)}:(bLc pi pg pc pe m hm).f=lcF pi.f (lcH pg.f pc.f pe.f) m:=id rfl
def qeI {wi wi2:TI3} {g g2:TG3} {tif tif2:TT3} {te:TE3} {pi:PuI wi} {pg:PuG g} {pc:PuC tif} {pi2:PuI wi2} {pg2:PuG g2} {pc2:PuC tif2} {pe:PuE te} {m:List (Option Nat)} {hm:Tru (pg.tg.all λi=>m[i]?==some none)} {hm2:Tru (pg2.tg.all λi=>m[i]?==some none)} {hdj:Tru (pg2.tg.all λi=>!pg.tg.contains i)}:(qnb pi pg pc pi2 pg2 pc2 pe m hm hm2 hdj).f=qlJ pi.f (qkK pg.f pc.f pi2.f (lcH pg2.f pc2.f pe.f)) m:=id rfl
def qeK:N8.f=qhZ:=id rfl
def qft:ql2.f=qlV:=id rfl
def qfP:qnW.f=qlO:=id rfl
def qe6:qop.f=qlP:=id rfl
def qfK:qmZ.f=qjL:=id rfl
def qav:qin.f=mxD:=id rfl
def qaD {F:List PyData->Option PyData} {fr:Bool}:(qX F fr).f=F:=id rfl
def qj6 {g:Int->Int->Int} {i j:Int}:(opI g).f (.int i) (.int j)=some (.int (g i j)):=id rfl
def qi9 {g:Int->Int->Bool} {i j:Int}:(opB g).f (.int i) (.int j)=some (.bool (g i j)):=id rfl
def qh8 {C:Int->Int->Prop} {g:Int->Int->Int}:(opC C g).f=cI C g:=id rfl
def qeG {n:Bool}:(C7 n).f=eqD n:=id rfl
def qaP {n:Bool}:(qay n).f=qdT n:=id rfl
def qaw {n:Bool}:(qgH n).f=qlL n:=id rfl
def qe2 {n:Bool}:(qh5 n).f=inD n:=id rfl
def qfa:qcb.f=ixD:=id rfl
def qbx:C4.f=qlK:=id rfl
def MR:US.f=qaX:=id rfl
def qeU {t:TE3} {a:PuE t}:(LP a).f=λρ=>(a.f ρ).bind qcL:=id rfl
def qe4 {t:TA3} {a:PuA t}:(qeE a).f=λρ=>(a.f ρ).bind qf0:=id rfl
def qbP {t:TA3} {a:PuA t}:(KW a).f=λρ=>(a.f ρ).bind λds=>match ds with|[d]=>(qcL d).map λus=>enD 0 us|_=>none:=id rfl
def qam {t:TE3} {a:PuE t}:(LP a).nm=false:=id rfl
def L7 {t:TA3} {a:PuA t}:(KW a).nm=false:=id rfl
def qbI {t:TA3} {a:PuA t}:(qeE a).nm=true:=id rfl
def qnM {i:Nat}:(gN i).f=λd=>some [(i,d)]:=id rfl
def qfu:qaq.f []=some []:=id rfl
def qce {t:TG3} {u:LM} {a:PuG t} {b:PuGs u} {d:PyData} {r:List PyData}:(QM a b).f (d::r)=(a.f d).bind λx=>(b.f r).map λy=>x++y:=id rfl
def qe7 {u:LM} {n:Nat} {b:PuGs u} {ds:List PyData}:(qby n b).f (.tuple ds)=if ds.length=n then b.f ds else none:=id rfl
def qbh:JO.f=λ_ ρ=>some (.nx ρ):=id rfl
def qga {t u:TS3} {a:PuS t} {b:PuS u}:(jX a b).f=qh1 a.f b.f:=id rfl
def qiQ {c:TT3} {t u:TS3} {pc:PuC c} {a:PuS t} {b:PuS u}:(sIf pc a b).f=λn ρ=>(pc.f ρ).bind λk=>if k then a.f n ρ else b.f n ρ:=id rfl
def qep {t:TE3} {a:PuE t}:(JT a).f=λ_ ρ=>(a.f ρ).map λd=>.rt d a.nw:=id rfl
def qcE {i:Nat}:(M6 i).f=λ_ ρ=>qcR ρ i:=id rfl
def qeQ {t:TE3} {a:PuE t} {i:Nat} {m:List Bool} {hm:Tru (a.fv.all (mkb m))}:(YG a i m hm).f=λ_ ρ=>(a.f ρ).map λd=>.nx (LD m a.nw i d ρ):=id rfl
def qbt {t:TE3} {g:TG3} {a:PuE t} {pg:PuG g} {m:List Bool} {hm:Tru (a.fv.all (mkb m))}:(qgq a pg m hm).f=λ_ ρ=>(a.f ρ).bind λd=>(pg.f d).map λbs=>.nx (jM (dm m ρ) bs):=id rfl
def qeS {t:TE3} {a:PuE t} {i:Nat}:(qn3 a i).f=λ_ ρ=>(a.f ρ).bind λd=>qlF i d ρ:=id rfl
def qeL {t:TE3} {a:PuE t} {i:Nat} {m:List Bool} {hm:Tru (a.fv.all (mkb m))}:(qnf a i m hm).f=λ_ ρ=>(a.f ρ).bind λd=>qkD i d (dmS m d ρ):=id rfl
def qfn {t:TE3} {a:PuE t} {i:Nat} {m:List Bool} {hm:Tru (a.fv.all (mkb m))}:(qnE a i m hm).f=λ_ ρ=>(a.f ρ).bind λd=>qjg i d (dmS m d ρ):=id rfl
def qeP {wi:TI3} {g:TG3} {tb:TS3} {pi:PuI wi} {pg:PuG g} {pb:PuS tb} {m:List Bool} {hm:Tru (pi.fv.all (mkb m))}:(LK pi pg pb m hm).f=qjo pi.f pi.nm m pg.f pb.f:=id rfl
def qio {c:TT3} {tb:TS3} {pc:PuC c} {pb:PuS tb}:(sWh pc pb).f=λn ρ=>whP pc.f (pb.f n) n ρ:=id rfl
def qjR {i:Nat}:(bV i).nw=false:=id rfl
def qbk {i:Int}:(zj i).nw=false:=id rfl
def qfD {i:Bool}:(bBl i).nw=false:=id rfl
def qcz:qdQ.nw=false:=id rfl
def qk1 {r:R3} {ta tb:TE3} {R:OpD r} {a:PuE ta} {b:PuE tb}:(bO R a b).nw=R.nw:=id rfl
def qbC {t:TA3} {a:PuA t} {hn:Tru (Nat.ble a.n 1000)}:(qc4 a hn).nw=false:=id rfl
def qaU {t:TA3} {a:PuA t} {hn:Tru (Nat.ble a.n 1000)}:(ED a hn).nw=true:=id rfl
def MS {r:List T->Gp->Q3->Prop} {t:TA3} {R:FnD r} {a:PuA t}:(qz R a).nw=R.nw:=id rfl
def LO {F:List PyData->Option PyData} {fr:Bool}:(qX F fr).nw=fr:=id rfl
def K2 {ta tb:TE3} {a:PuE ta} {b:PuE tb}:(TR a b).nw=false:=id rfl
def qfO {t:TT3} {ta tb:TE3} {c:PuC t} {a:PuE ta} {b:PuE tb}:(bIf c a b).nw=false:=id rfl
def qey {wi:TI3} {g:TG3} {tif:TT3} {te:TE3} {pi:PuI wi} {pg:PuG g} {pc:PuC tif} {pe:PuE te} {m:List (Option Nat)} {hm:Tru (pg.tg.all λi=>m[i]?==some none)}:(bLc pi pg pc pe m hm).nw=true:=id rfl
def qak {wi wi2:TI3} {g g2:TG3} {tif tif2:TT3} {te:TE3} {pi:PuI wi} {pg:PuG g} {pc:PuC tif} {pi2:PuI wi2} {pg2:PuG g2} {pc2:PuC tif2} {pe:PuE te} {m:List (Option Nat)} {hm:Tru (pg.tg.all λi=>m[i]?==some none)} {hm2:Tru (pg2.tg.all λi=>m[i]?==some none)} {hdj:Tru (pg2.tg.all λi=>!pg.tg.contains i)}:(qnb pi pg pc pi2 pg2 pc2 pe m hm hm2 hdj).nw=true:=id rfl
def qan:ql2.nw=false:=id rfl
def qbj:qmZ.nw=false:=id rfl
def qaT:qcb.nw=false:=id rfl
def LZ:C4.nw=false:=id rfl
def RR:US.nw=true:=id rfl
def MQ {n:Bool}:(qay n).nw=false:=id rfl
def LX {n:Bool}:(qgH n).nw=false:=id rfl
def qeT {g:Int->Int->Int}:(opI g).nw=false:=id rfl
def qf5 {C:Int->Int->Prop} {g:Int->Int->Int}:(opC C g).nw=false:=id rfl
def qn5 {s:Sl} {r:Rho}:vw (s::r) 0=s.d:=id rfl
def qok {s:Sl} {r:Rho} {i:Nat}:vw (s::r) (i+1)=vw r i:=id rfl
def qjj {d:PyData}:(Sl.sh d).d=some d:=id rfl
def qk3 {ds:List PyData}:(Sl.ow ds).d=some (.list ds):=id rfl
def qaz {r:Rho} {ds:List PyData}:slot (.ow ds::r) 0=some ds:=id rfl
def qfh {s:Sl} {r:Rho} {i:Nat}:slot (s::r) (i+1)=slot r i:=id rfl
def qbp {r:Rho} {ds:List PyData}:qcR (.ow ds::r) 0=some (.rt (.list ds) true):=id rfl
def qa7 {r:Rho} {d:PyData}:qcR (.sh d::r) 0=some (.rt d false):=id rfl
def qe0 {s:Sl} {r:Rho} {i:Nat}:qcR (s::r) (i+1)=qcR r i:=id rfl
def qkl {xs:List PyData} {i:Int}:ixD (.tuple xs) (.int i)=L2.atI xs i:=id rfl
def qkx {xs:List PyData} {i:Int}:ixD (.list xs) (.int i)=L2.atI xs i:=id rfl
def at0 {α:Type} {a:α} {r:List α}:L2.atI (a::r) 0=some a:=by simp [L2.atI,ixN]
def at1 {α:Type} {a b:α} {r:List α}:L2.atI (a::b::r) 1=some b:=by
 have h:ixN (a::b::r).length 1=some 1:=by unfold ixN;rw [if_pos (by omega),if_pos (by simp;omega)];rfl
 unfold L2.atI;rw [h];rfl
def at2 {α:Type} {a b c:α} {r:List α}:L2.atI (a::b::c::r) 2=some c:=by
 have h:ixN (a::b::c::r).length 2=some 2:=by unfold ixN;rw [if_pos (by omega),if_pos (by simp;omega)];rfl
 unfold L2.atI;rw [h];rfl
def eqS {n:Bool} {a b:Str}:eqD n (.str a) (.str b)=some (.bool (if n then !decide (a=b) else decide (a=b))):=id rfl
def eqI {n:Bool} {a b:Int}:eqD n (.int a) (.int b)=some (.bool (if n then !decide (a=b) else decide (a=b))):=id rfl
def qjm {n:Bool} {xs:List PyData}:qdT n (.tuple xs) .none=some (.bool n):=id rfl
def qac {C:Int->Int->Prop} {g:Int->Int->Int} {i j:Int} (h:C i j):cI C g (.int i) (.int j)=some (.int (g i j)):=by simp only [cI];exact qT h
def LG {i j:Int} (h:-1000000<j/\j<1000000):cI EF (·*·) (.int i) (.int j)=some (.int (i*j)):=qac (.inr ⟨by omega,by omega⟩)
def qeq {i j:Int} (h:0<j):cI (λ_ j=>0<j) (·%·) (.int i) (.int j)=some (.int (i%j)):=qac h
def qfR {i j:Int} (h:0<j/\j<1073741824):cI qdA (·/·) (.int i) (.int j)=some (.int (i/j)):=qac h
def qiv {i j:Int} (h:0<=j/\j<=1000000/\i.natAbs<2 ^ 64):cI qbo (λi j=>i*2 ^ j.toNat) (.int i) (.int j)=some (.int (i*2 ^ j.toNat)):=qac h
def qiX {i j:Int} (h:0<=j):cI (λ_ j=>0<=j) (λi j=>i/2 ^ j.toNat) (.int i) (.int j)=some (.int (i/2 ^ j.toNat)):=qac h
def qnX {i j:Int}:qlK (.int i) (.int j)=some (.int (i+j)):=id rfl
def qiL {xs ys:List PyData} (h:xs.length+ys.length<=16777216):qaX (.list xs) (.list ys)=some (.list (xs++ys)):=by simp only [qaX];exact qT h
def qfe {j:Int} (h:-1000000000<=j/\j<1000000000):qf0 [.int j]=some ((WH 0 j.toNat).map PyData.int):=by simp only [qf0];exact qT ⟨by omega,by omega⟩
def DY {pi:Rho->Option (List PyData)} {h:Rho->PyData->Option (Option PyData)} {m:List (Option Nat)} {ρ:Rho} {ds fs:List PyData} (h1:pi ρ=some ds) (h2:lcP (h (S8 m ρ)) ds=some fs) (h3:fs.length<=16777216):lcF pi h m ρ=some (.list fs):=by unfold lcF;rw [h1];simp only [Option.bind_some,h2];exact qT h3
def qgy {pi:Rho->Option (List PyData)} {h:Rho->PyData->Option (Option (List PyData))} {m:List (Option Nat)} {ρ:Rho} {ds fs:List PyData} (h1:pi ρ=some ds) (h2:qgj (h (S8 m ρ)) ds=some fs) (h3:fs.length<=16777216):qlJ pi h m ρ=some (.list fs):=by unfold qlJ;rw [h1];simp only [Option.bind_some,h2];exact qT h3
def DG {i:Nat} {d:PyData} {ρ:Rho} {ds:List PyData} (h:slot ρ i=some ds) (hl:ds.length<16777216):qkD i d ρ=some (.nx (ρ.set i (.ow (ds++[d])))):=by unfold qkD;rw [h];simp only [Option.bind_some];exact qT hl
def qem {gf:PyData->Option (List (Nat×PyData))} {bf:Rho->Option Ot} {α:Type} {g:α->PyData} (xs:List α) (I:Nat->Rho->Prop) {ρ:Rho} (h0:I 0 ρ)
  (hs:∀ i x ρ,xs[i]?=some x->I i ρ->∃ bs ρ',gf (g x)=some bs/\(bf (jM ρ bs)=some (.nx ρ')\/bf (jM ρ bs)=some (.ct ρ'))/\I (i+1) ρ'):∃ ρ',CK gf bf (xs.map g) ρ=some (.nx ρ')/\I xs.length ρ':=by
 have key:∀ (r:List α) (i:Nat) (ρ:Rho),xs.drop i=r->i<=xs.length->I i ρ->∃ ρ',CK gf bf (r.map g) ρ=some (.nx ρ')/\I xs.length ρ':=by
  intro r;induction r with
  |nil=>
   intro i ρ e hi h;have:i=xs.length:=by
    have:=congrArg List.length e;simp at this;omega
   subst this;exact ⟨ρ,rfl,h⟩
  |cons x r ih=>
   intro i ρ e hi h;have hl:i<xs.length:=by
    have:=congrArg List.length e;simp at this;omega
   have e':=List.drop_eq_getElem_cons hl;rw [e] at e';injection e' with e1 e2;obtain ⟨bs,ρ',h1,h2,h3⟩:=hs i x ρ (by rw [y9 hl,e1]) h;obtain ⟨ρ2,h4,h5⟩:=ih (i+1) ρ' e2.symm hl h3;refine ⟨ρ2,?_,h5⟩;simp only [map_cons,CK,h1,Option.bind_some];rcases h2 with h2|h2<;>(rw [h2];exact h4)
 exact key xs 0 ρ (by simp) (Nat.zero_le _) h0
def qa6 {gf:PyData->Option (List (Nat×PyData))} {bf:Rho->Option Ot} {α:Type} {g:α->PyData} (xs:List α) (n:Nat) (x:α) (hn:xs[n]?=some x) (I:Nat->Rho->Prop) {ρ:Rho} {o:Ot} (h0:I 0 ρ)
  (hs:∀ i x ρ,i<n->xs[i]?=some x->I i ρ->∃ bs ρ',gf (g x)=some bs/\(bf (jM ρ bs)=some (.nx ρ')\/bf (jM ρ bs)=some (.ct ρ'))/\I (i+1) ρ')
  (he:∀ ρ,I n ρ->∃ bs,gf (g x)=some bs/\((∃ d b,o=.rt d b/\bf (jM ρ bs)=some (.rt d b))\/∃ ρ',o=.nx ρ'/\bf (jM ρ bs)=some (.bk ρ'))):CK gf bf (xs.map g) ρ=some o:=by
 have hl:=(za4 hn).1;have key:∀ (k i:Nat) (ρ:Rho),i+k=n->I i ρ->CK gf bf ((xs.drop i).map g) ρ=some o:=by
  intro k;induction k with
  |zero=>
   intro i ρ e h;have:i=n:=by omega
   subst this;obtain ⟨bs,h1,h2⟩:=he ρ h;rw [List.drop_eq_getElem_cons hl];have ex:xs[i]=x:=by
    rw [y9 hl] at hn;exact Option.some.inj hn
   rw [ex];simp only [map_cons,CK,h1,Option.bind_some];rcases h2 with ⟨d,b,rfl,h2⟩|⟨ρ',rfl,h2⟩<;>(rw [h2];rfl)
  |succ k ih=>
   intro i ρ e h;have hi:i<xs.length:=by omega
   obtain ⟨bs,ρ',h1,h2,h3⟩:=hs i xs[i] ρ (by omega) (y9 hi) h;rw [List.drop_eq_getElem_cons hi];simp only [map_cons,CK,h1,Option.bind_some];rcases h2 with h2|h2<;>(rw [h2];exact ih (i+1) ρ' (by omega) h3)
 exact key n 0 ρ (by omega) h0
def qgC {cf:Rho->Option Bool} {bf:Rho->Option Ot} {N:Nat} (n:Nat) (hn:n<N) (I:Nat->Rho->Prop) {ρ:Rho} (h0:I 0 ρ)
  (hs:∀ i ρ,i<n->I i ρ->cf ρ=some true/\∃ ρ',bf ρ=some (.nx ρ')/\I (i+1) ρ') (he:∀ ρ,I n ρ->cf ρ=some false):∃ ρ',whP cf bf N ρ=some (.nx ρ')/\I n ρ':=by
 have key:∀ (k i M:Nat) (ρ:Rho),i+k=n->k<M->I i ρ->∃ ρ',whP cf bf M ρ=some (.nx ρ')/\I n ρ':=by
  intro k;induction k with
  |zero=>
   intro i M ρ e hM h;have:i=n:=by omega
   subst this;cases M with
   |zero=>omega
   |succ M=>exact ⟨ρ,by unfold whP;rw [he ρ h];rfl,h⟩
  |succ k ih=>
   intro i M ρ e hM h;cases M with
   |zero=>omega
   |succ M=>
    obtain ⟨h1,ρ',h2,h3⟩:=hs i ρ (by omega) h;obtain ⟨ρ2,h4,h5⟩:=ih (i+1) M ρ' (by omega) (by omega) h3;refine ⟨ρ2,?_,h5⟩;unfold whP;rw [h1];simp only [Option.bind_some,if_pos,h2];exact h4
 exact key n 0 N ρ (by omega) hn h0
def sqk (b:Nat->Rho->Option Ot) (n:Nat) (o:Ot):Option Ot:=match o with|.nx ρ'=>b n ρ'|o=>some o
def qgd {a b:Nat->Rho->Option Ot} {n:Nat} {ρ:Rho}:qh1 a b n ρ=(a n ρ).bind (sqk b n):=id rfl
def qfs {b:Nat->Rho->Option Ot} {n:Nat} {ρ:Rho}:sqk b n (.nx ρ)=b n ρ:=id rfl
def qgf {b:Nat->Rho->Option Ot} {n:Nat} {d:PyData} {f:Bool}:sqk b n (.rt d f)=some (.rt d f):=id rfl
def qai {d:PyData}:Q4 true (some (.rt d true))=some d:=id rfl
def qes {d:PyData} {b:Bool}:Q4 false (some (.rt d b))=some d:=by simp [Q4]
def qjX {b:Bool}:asB (.bool b)=some b:=id rfl
def qkT {b:Int}:asI (.int b)=some b:=id rfl
def qfz {xs:List PyData}:qhZ [.tuple xs]=some (.int xs.length):=id rfl
def qge {xs:List PyData}:qhZ [.list xs]=some (.int xs.length):=id rfl
def qfk {i j:Int}:qlV [.int i,.int j]=some (.int (if j<i then j else i)):=id rfl
def qeY {xs:List PyData}:qlO [.list xs]=some (.tuple xs):=id rfl
def qfj {xs:List PyData}:qlP [.tuple xs]=some (.list xs):=id rfl
def qcc {xs:List Bool}:qjL [.list (xs.map PyData.bool)]=some (.bool (xs.all id)):=by simp only [qjL,qek,Option.map_some]
def qmO {xs:List Int} (h:xs≠[]):mxD [.list (xs.map PyData.int)]=some (.int (mx xs)):=by simp only [mxD,DO,Option.bind_some];exact qT h
def qfb {xs:List PyData}:qcL (.tuple xs)=some xs:=id rfl
def qfF {xs:List PyData}:qcL (.list xs)=some xs:=id rfl
def qir {i:Int}:tyD (.int i)=some "int" := id rfl
def qid {i:List PyData}:tyD (.tuple i)=some "tuple" := id rfl
def qf9 {n a b:Bool}:qlL n (.bool a) (.bool b)=some (.bool (if n then a != b else a==b)):=id rfl
def qjH {m:List Bool} {nw:Bool} {i:Nat} {v:Int} {ρ:Rho}:LD m nw i (.int v) ρ=ρ.set i (.sh (.int v)):=id rfl
def qiJ {m:List Bool} {nw:Bool} {i:Nat} {ρ:Rho}:LD m nw i .none ρ=ρ.set i (.sh .none):=id rfl
def qfp {m:List Bool} {i:Nat} {v:List PyData} {ρ:Rho}:LD m true i (.list v) ρ=(dm m ρ).set i (.ow v):=id rfl
def qfU {m:List Bool} {i:Nat} {v:List PyData} {ρ:Rho}:LD m false i (.list v) ρ=(dm m ρ).set i (.sh (.list v)):=id rfl
def qlg {m:List Bool} {v:Int} {ρ:Rho}:dmS m (.int v) ρ=ρ:=id rfl
def qkP {m:List Bool} {v:List PyData} {ρ:Rho}:dmS m (.list v) ρ=dm m ρ:=id rfl
def qoa {ρ:Rho}:dm [] ρ=ρ:=id rfl
def qnO {m:List Bool} {s:Sl} {ρ:Rho}:dm (true::m) (s::ρ)=s.dem::dm m ρ:=id rfl
def qog {m:List Bool} {s:Sl} {ρ:Rho}:dm (false::m) (s::ρ)=s::dm m ρ:=id rfl
def qjJ {ds:List PyData}:(Sl.ow ds).dem=.sh (.list ds):=id rfl
def qlD {d:PyData}:(Sl.sh d).dem=.sh d:=id rfl
def qjs {ρ:Rho}:S8 [] ρ=[]:=id rfl
def qjp {m:List (Option Nat)} {ρ:Rho}:S8 (none::m) ρ=.un::S8 m ρ:=id rfl
def cp (o:Option PyData):Sl:=match o with|some d=>.sh d|none=>.un
def qkc {m:List (Option Nat)} {j:Nat} {ρ:Rho}:S8 (some j::m) ρ=cp (vw ρ j)::S8 m ρ:=id rfl
def qnK {d:PyData}:cp (some d)=.sh d:=id rfl
def qeu {pi:Rho->Option (List PyData)} {m:List Bool} {gf:PyData->Option (List (Nat×PyData))} {bf:Nat->Rho->Option Ot} {n:Nat} {ρ:Rho}:qjo pi true m gf bf n ρ=(pi ρ).bind λds=>CK gf (bf n) ds ρ:=id rfl
def qgc {pi:Rho->Option (List PyData)} {m:List Bool} {gf:PyData->Option (List (Nat×PyData))} {bf:Nat->Rho->Option Ot} {n:Nat} {ρ:Rho}:qjo pi false m gf bf n ρ=(pi ρ).bind λds=>CK gf (bf n) ds (dm m ρ):=id rfl
def qfG {ρ:Rho}:jM ρ []=ρ:=id rfl
def qeA {ρ:Rho} {i:Nat} {d:PyData} {r:List (Nat×PyData)}:jM ρ ((i,d)::r)=jM (ρ.set i (.sh d)) r:=id rfl
def S0 {gf:PyData->Option (List (Nat×PyData))} {cf:Rho->Option Bool} {ef:Rho->Option PyData} {ρ:Rho} {d:PyData}:lcH gf cf ef ρ d=(gf d).bind λbs=>(cf (jM ρ bs)).bind λk=>if k then (ef (jM ρ bs)).map some else some none:=id rfl
def qjA {gf:PyData->Option (List (Nat×PyData))} {cf:Rho->Option Bool} {it:Rho->Option (List PyData)} {h:Rho->PyData->Option (Option PyData)} {ρ:Rho} {d:PyData}:qkK gf cf it h ρ d=(gf d).bind λbs=>(cf (jM ρ bs)).bind λk=>if k then ((it (jM ρ bs)).bind λds=>lcP (h (jM ρ bs)) ds).map some else some none:=id rfl
def Nx (o:Option Ot) (P:Rho->Prop):Prop:=match o with|some (.nx ρ)=>P ρ|some (.ct ρ)=>P ρ|_=>False
def qjB {ρ:Rho} {P:Rho->Prop}:Nx (some (.nx ρ)) P=P ρ:=id rfl
def qkS {o:Option Ot} {P:Rho->Prop} (h:Nx o P):∃ ρ,(o=some (.nx ρ)\/o=some (.ct ρ))/\P ρ:=by
 unfold Nx at h;split at h
 ·exact ⟨_,.inl rfl,h⟩
 ·exact ⟨_,.inr rfl,h⟩
 ·exact h.elim
section
variable {gf:PyData->Option (List (Nat×PyData))} {bf:Rho->Option Ot} {α:Type} {g:α->PyData} {ρ:Rho} {Q:Option Ot->Prop} {F:Ot->Option Ot}
def qeh (xs:List α) (I:Nat->Rho->Prop) (h0:I 0 ρ) (hs:∀ i x ρ,xs[i]?=some x->I i ρ->Nx ((gf (g x)).bind λbs=>bf (jM ρ bs)) (I (i+1))) (k:∀ ρ',I xs.length ρ'->Q (some (.nx ρ'))):Q (CK gf bf (xs.map g) ρ):=by
 obtain ⟨ρ',e,h⟩:=qem (gf:=gf) (bf:=bf) (g:=g) xs I h0 λi x ρ hx hi=>by
  obtain ⟨ρ2,e,h⟩:=qkS (hs i x ρ hx hi);cases e1:gf (g x) with
  |none=>rw [e1] at e;rcases e with e|e<;>cases e
  |some bs=>rw [e1] at e;exact ⟨bs,ρ2,rfl,e,h⟩
 rw [e];exact k ρ' h
def jt (xs:List α) (I:Nat->Rho->Prop) (h0:I 0 ρ) (hs:∀ i x ρ,xs[i]?=some x->I i ρ->Nx ((gf (g x)).bind λbs=>bf (jM ρ bs)) (I (i+1))) (k:∀ ρ',I xs.length ρ'->Q (F (.nx ρ'))):Q ((CK gf bf (xs.map g) ρ).bind F):=
 qeh (Q:=λo=>Q (o.bind F)) xs I h0 hs k
def SW (xs:List α) (n:Nat) (x:α) (d:PyData) (b:Bool) (hn:xs[n]?=some x) (I:Nat->Rho->Prop) (h0:I 0 ρ) (hs:∀ i x ρ,i<n->xs[i]?=some x->I i ρ->Nx ((gf (g x)).bind λbs=>bf (jM ρ bs)) (I (i+1))) (he:∀ ρ,I n ρ->((gf (g x)).bind λbs=>bf (jM ρ bs))=some (.rt d b)) (k:Q (some (.rt d b))):Q (CK gf bf (xs.map g) ρ):=by
 rw [qa6 (gf:=gf) (bf:=bf) (g:=g) xs n x hn I h0 (λi x ρ hi hx hI=>by
  obtain ⟨ρ2,e,h⟩:=qkS (hs i x ρ hi hx hI);cases e1:gf (g x) with
  |none=>rw [e1] at e;rcases e with e|e<;>cases e
  |some bs=>rw [e1] at e;exact ⟨bs,ρ2,rfl,e,h⟩) (o:=.rt d b) λρ hI=>by
  have:=he ρ hI;cases e1:gf (g x) with
  |none=>rw [e1] at this;cases this
  |some bs=>rw [e1] at this;exact ⟨bs,rfl,.inl ⟨d,b,rfl,this⟩⟩]
 exact k
def KP (xs:List α) (n:Nat) (x:α) (d:PyData) (b:Bool) (hn:xs[n]?=some x) (I:Nat->Rho->Prop) (h0:I 0 ρ) (hs:∀ i x ρ,i<n->xs[i]?=some x->I i ρ->Nx ((gf (g x)).bind λbs=>bf (jM ρ bs)) (I (i+1))) (he:∀ ρ,I n ρ->((gf (g x)).bind λbs=>bf (jM ρ bs))=some (.rt d b)) (k:Q (F (.rt d b))):Q ((CK gf bf (xs.map g) ρ).bind F):=
 SW (Q:=λo=>Q (o.bind F)) xs n x d b hn I h0 hs he k
end
def qjx {α:Type} {us:List α} (h:us.length=1):∃ a0,us=[a0]:=List.length_eq_one_iff.mp h
def qms {α:Type} {us:List α} (h:us.length=2):∃ a0 a1,us=[a0,a1]:=by
 obtain ⟨a0,r,rfl⟩:=List.exists_cons_of_length_pos (show 0<us.length by omega);obtain ⟨a1,rfl⟩:=qjx (show r.length=1 by simpa using h);exact ⟨a0,a1,rfl⟩
def qnZ {α:Type} {us:List α} (h:us.length=3):∃ a0 a1 a2,us=[a0,a1,a2]:=by
 obtain ⟨a0,r,rfl⟩:=List.exists_cons_of_length_pos (show 0<us.length by omega);obtain ⟨a1,a2,rfl⟩:=qms (show r.length=2 by simpa using h);exact ⟨a0,a1,a2,rfl⟩
def qn2 {α:Type} {us:List α} (h:us.length=4):∃ a0 a1 a2 a3,us=[a0,a1,a2,a3]:=by
 obtain ⟨a0,r,rfl⟩:=List.exists_cons_of_length_pos (show 0<us.length by omega);obtain ⟨a1,a2,a3,rfl⟩:=qnZ (show r.length=3 by simpa using h);exact ⟨a0,a1,a2,a3,rfl⟩
def qnL {α:Type} {us:List α} (h:us.length=5):∃ a0 a1 a2 a3 a4,us=[a0,a1,a2,a3,a4]:=by
 obtain ⟨a0,r,rfl⟩:=List.exists_cons_of_length_pos (show 0<us.length by omega);obtain ⟨a1,a2,a3,a4,rfl⟩:=qn2 (show r.length=4 by simpa using h);exact ⟨a0,a1,a2,a3,a4,rfl⟩
def qot {α:Type} {us:List α} (h:us.length=6):∃ a0 a1 a2 a3 a4 a5,us=[a0,a1,a2,a3,a4,a5]:=by
 obtain ⟨a0,r,rfl⟩:=List.exists_cons_of_length_pos (show 0<us.length by omega);obtain ⟨a1,a2,a3,a4,a5,rfl⟩:=qnL (show r.length=5 by simpa using h);exact ⟨a0,a1,a2,a3,a4,a5,rfl⟩
end Pu
namespace L3
open PySem PySem.Spec PyProof.Rows L2
def qaH:Sp3:=λ_ _ _=>False
def EK {P:Program} {w:World} {K:Frg} {mg:Str->Option Value} {base:Heap} {x qual:Str} {st:Stmt} {f:Addr} {fd:FuncData} {ps:List Str} (F:Fun K x qual st f fd) (bd:EQ K fd ps []) (hm:mg x=some (.ref f)):Fn3 P w K mg base 0 x qaH:=
 ⟨f,fd,ps,⟨λvs H Q E ⟨_,_,_,_,_,h,_⟩=>h.elim,λA outer s H args us vs Q E _ _ _ _ ⟨_,_,_,_,_,h,_⟩=>h.elim⟩,bd,F.kp,hm⟩
def ixR (p:Addr) (i:Int) (G:Gp) (q:Q3):ix3 (.ref p) (.int i) G q=(match getL G p with|some xs=>(match L2.atI xs i with|some z=>q z G|none=>False)|none=>False):=rfl
def cm {i j:Int} (h1:-1000000<j) (h2:j<1000000):EF i j:=.inr ⟨by omega,by omega⟩
def qd0 {stay:Gp->Prop} {g:TG3} {tif:TT3} {te:TE3} {q:Q3} (items:List T) (Pv:Nat->List T->St3->Gp->Prop) {τ:St3} {G:Gp} (h0:Pv 0 [] τ G) (hst:∀ i ys τ G,i<=items.length->Pv i ys τ G->stay G)
  (hs:∀ i x ys τ G (R:List T->St3->Gp->Prop),items[i]?=some x->Pv i ys τ G->(∀ ys' τ' G',Pv (i+1) ys' τ' G'->R ys' τ' G') ->
   g x τ G λτ2 G2=>tif τ2 G2 λk G3=>if k=true then te τ2 G3 λy G4=>ys.length<sizeLine/\R (ys++[y]) τ2 G4 else R ys τ2 G3)
  (hd:∀ ys τ G,Pv items.length ys τ G->∀ p,G p=none->q (.ref p) (gu G p (.lst ys))):qcP stay g tif te q items [] τ G:=by
 have key:∀ (r:List T) (i:Nat) ys τ G,items.drop i=r->i<=items.length->Pv i ys τ G->qcP stay g tif te q r ys τ G:=by
  intro r;induction r with
  |nil=>
   intro i ys τ G e hi p;have:i=items.length:=by have:=congrArg List.length e;simp at this;omega
   subst this;exact ⟨hst _ ys τ G hi p,hd ys τ G p⟩
  |cons x r ih=>
   intro i ys τ G e hi p;have hl:i<items.length:=by
    apply Classical.byContradiction;intro z;rw [List.drop_eq_nil_of_le (by omega)] at e;cases e
   have e':=List.drop_eq_getElem_cons hl;rw [e] at e';injection e' with e1 e2;exact ⟨hst i ys τ G hi p,hs i x ys τ G _ (by rw [y9 hl,e1]) p λys2 τ2 G2 p2=>ih (i+1) ys2 τ2 G2 e2.symm hl p2⟩
 exact key items 0 [] τ G (by simp) (Nat.zero_le _) h0
def qg7 {lo:Int} {n i:Nat} {x:T} (h:(qas lo n)[i]?=some x):i<n/\x=T.int (lo+(i:Int)):=by
 unfold qas at h;rw [getElem?_map] at h;cases e:(List.range n)[i]? with
 |none=>rw [e] at h;cases h
 |some k=>
  rw [e] at h;obtain ⟨hi,hk⟩:=za4 e;simp at hi hk;subst hk;exact ⟨hi,by simpa using h.symm⟩
end L3
namespace Bk
open PySem L2 L3
def je:TS3:=(zt (VQ (WJ (λt=>jN t "int") (v3 0)) (qcY (WJ (λt=>jN t "bool") (v3 0)))))
def DU:TS3:=(qM (zr (o3 (iC (λ_ j=>0<j) (·%·)) (o3 (iC EF (·*·)) (o3 Z3 (o3 Z3 (o3 (iC (λ_ j=>0<j) (·%·)) (v3 0) (c3 (.int 2147483629))) (o3 (iC EF (·*·)) (o3 (iC EF (·*·)) (v3 1) (v3 1)) (c3 (.int 7919)))) (c3 (.int 11))) (c3 (.int 48271))) (c3 (.int 2147483647))) (gn3 2)) (zt (o3 (iC (λ_ j=>0<j) (·%·)) (o3 (iC EF (·*·)) (v3 2) (v3 2)) (c3 (.int 1999999973)))))
def V2:TS3:=(qM (zr (if3 (tb3 (o3 (iB λi j=>decide (i<j)) (v3 1) (cb3 U1 (qd (v3 0) ql)))) (o3 ix3 (v3 0) (v3 1)) (c3 (.int 0))) (gn3 2)) (qM (zr (if3 (tb3 (o3 (iB λi j=>decide (j<=i)) (cb3 qiN (qd (v3 2) ql)) (o3 (iC qbo (λi j=>i ^ j.toNat)) (c3 (.int 10)) (c3 (.int 18))))) (cb3 qiN (qd (v3 2) ql)) (c3 (.int 0))) (gn3 3)) (zt (UM (qd (v3 3) (qd (o3 Z3 (v3 2) (o3 (iC EF (·*·)) (c3 (.int 1000003)) (v3 1))) (qd (c3 (.int 0)) ql)))))))
def VS (zb1:Sp3):TS3:=(qM (zr (o3 Z3 (o3 ix3 (v3 0) (c3 (.int 2))) (c3 (.int 1))) (SG (v3 0) (c3 (.int 2)))) (qM (ZO (tb3 (o3 (iB λi j=>decide (j<i)) (o3 ix3 (v3 0) (c3 (.int 0))) (c3 (.int 0)))) (qM (zr (o3 (iC (λ_ j=>0<j) (·%·)) (o3 ix3 (v3 0) (c3 (.int 0))) (v3 1)) (gn3 2)) (qM (zr (o3 (iC qdA (·/·)) (o3 ix3 (v3 0) (c3 (.int 0))) (v3 1)) (SG (v3 0) (c3 (.int 0)))) (zt (v3 2)))) zp) (zt (o3 (iC (λ_ j=>0<j) (·%·)) (o3 (iC qdA (·/·)) (cb3 zb1 (qd (cb3 zb1 (qd (o3 ix3 (v3 0) (c3 (.int 1))) (qd (o3 ix3 (v3 0) (c3 (.int 2))) ql))) (qd (o3 Z3 (o3 ix3 (v3 0) (c3 (.int 2))) (c3 (.int 64))) ql))) (c3 (.int 64))) (v3 1)))))
def W0 (zb3:Sp3):TS3:=(qM (ZO (tb3 (WJ (λt=>jN t "list" || jN t "tuple") (v3 1))) (qM (ZO (or3 (tb3 (o3 (ZM true) (WJ (λt=>jN t "list") (v3 0)) (WJ (λt=>jN t "list") (v3 1)))) (tb3 (o3 (ZM true) (WJ (λt=>jN t "tuple") (v3 0)) (WJ (λt=>jN t "tuple") (v3 1))))) (zt (c3 (.bl false))) zp) (zt (VQ (o3 (ZM false) (cb3 U1 (qd (v3 0) ql)) (cb3 U1 (qd (v3 1) ql))) (cb3 qdR (qd (lc3 (qhm (qd (v3 0) (qd (v3 1) ql))) (YW 2 (qV (gn3 0) (qV (gn3 1) YT))) tt3 (cb3 zb3 (qd (v3 0) (qd (v3 1) ql))) [none,none]) ql))))) zp) (qM (ZO (or3 (tb3 (o3 (qcV false) (v3 1) (c3 .non))) (tb3 (WJ (λt=>jN t "str" || jN t "bool") (v3 1)))) (zt (VQ (o3 (ZM false) (v3 0) (v3 1)) (VQ (o3 (ZM false) (WJ (λt=>jN t "bool") (v3 0)) (WJ (λt=>jN t "bool") (v3 1))) (o3 (ZM false) (o3 (qcV false) (v3 0) (c3 .non)) (o3 (qcV false) (v3 1) (c3 .non)))))) zp) (zt (VQ (WJ (λt=>jN t "int") (v3 0)) (VQ (qcY (WJ (λt=>jN t "bool") (v3 0))) (o3 (ZM false) (v3 0) (v3 1)))))))
abbrev qlY (q:Q3):Ends3:={ nx:=λ_ G'=>q .non G',rt:=q }
def RZ {A B:TS3} {d:Ends3} {τ:St3} {G:Gp} (h:∀ nx,nx=B d->A { d with nx:=nx } τ G):qM A B d τ G:=h _ rfl
def Lf (G:Gp) (a:Addr) (n:Int):Prop:=∃ o c m,G a=some (.lst [.int o,.int c,.int m])/\0<=o/\0<=m/\m<=n
def Ext (a:Addr) (G G':Gp):Prop:=∀ b o,b≠a->G b=some o->G' b=some o
def Lf.new {G:Gp} {a p:Addr} {n:Int} {ob:O} (h:Lf G a n) (hp:p≠a):Lf (gu G p ob) a n:=by
 obtain ⟨o,c,m,e,r⟩:=h;exact ⟨o,c,m,by rw [zX (Ne.symm hp)];exact e,r⟩
def Lf.mono {G:Gp} {a:Addr} {n k:Int} (h:Lf G a n) (hk:n<=k):Lf G a k:=by
 obtain ⟨o,c,m,e,h1,h2,h3⟩:=h;exact ⟨o,c,m,e,h1,h2,by omega⟩
def Lf.ex {G G':Gp} {a:Addr} {n:Int} (h:Lf G a n) (e:Ex G G'):Lf G' a n:=by
 obtain ⟨o,c,m,e1,h1⟩:=h;exact ⟨o,c,m,e _ _ e1,h1⟩
def Ext.trans {a:Addr} {G G1 G2:Gp} (x:Ext a G G1) (y:Ext a G1 G2):Ext a G G2:=λb o hb e=>y b o hb (x b o hb e)
def WG {a:Addr} {G G':Gp} (h:Ex G G'):Ext a G G':=λb o _ e=>h b o e
def WU:Sp3:=λts G q=>∃ c k,ts=[.int c,.int k]/\0<=k/\k<4294967296/\∀ m,0<=m->m<1999999973->q (.int m) G
def Q2:Sp3:=λts G q=>∃ (a:Addr) (k:Int) (ns:List Int),ts=[.ref a,.int k]/\G a=some (.frz (ns.map T.int))/\ns.length<=63/\0<=k/\k<=63/\∀ p o c,G p=none->0<=o->q (.ref p) (gu G p (.lst [.int o,.int c,.int 0]))
def jh:Sp3:=λts G q=>∃ a n many,ts=[.ref a,.int many]/\1<=many/\many<1073741824/\Lf G a n/\n<1073741824/\∀ d G',0<=d->d<many->Lf G' a (n+1)->Ext a G G'->q (.int d) G'
def M5:∀ ts G q,WU ts G q->ts.length=2/\DU (qlY q) (qv ["_law_cell","_law_k","_law_m"] ts) G:=by
 rintro ts G q ⟨c,k,rfl,h1,h2,h⟩;refine ⟨rfl,?_⟩;simp only [DU,qM,zr,o3,v3,qv,map_cons,List.map_nil,length_cons,length_nil,Nat.zero_add,Nat.reduceAdd,Nat.reduceSub,List.replicate_one,cons_append,List.nil_append,v4,getElem?_pos,x5,c3,iC,Int.reduceLT,Nat.reduceLT,x6,Z3,gn3,zt,set_cons_succ,set_cons_zero,u9,true_and];exact ⟨.inl ⟨by omega,by omega⟩,cm (by omega) (by omega),cm (by omega) (by omega),.inl ⟨by omega,by omega⟩,h _ (Int.emod_nonneg _ (by omega)) (Int.emod_lt_of_pos _ (by omega))⟩
def cp:qbo 10 18:=⟨by decide,by decide,by decide⟩
def KG:∀ ts G q,Q2 ts G q->ts.length=2/\V2 (qlY q) (qv ["_law_script","_law_k","_law_cell","_law_own"] ts) G:=by
 rintro ts G q ⟨a,k,ns,rfl,hG,hl,h1,h2,h⟩;refine ⟨rfl,?_⟩;simp only [V2,qM,zr,if3,tb3,o3,v3,qv,map_cons,List.map_nil,length_cons,length_nil,Nat.zero_add,Nat.reduceAdd,Nat.reduceSub,List.reduceReplicate,cons_append,List.nil_append,Nat.reduceLT,getElem?_pos,x6,x5,cb3,qd,v4,ql,U1,getL,hG,iB,length_map,decide_eq_true_eq,gn3,set_cons_succ,set_cons_zero,qiN,c3,iC,Int.reduceToNat,Int.reducePow,zt,UM,u9,Z3,ne_eq,y8,Nat.reduceLeDiff,true_and,gu,ixR,atI,ixN,getElem?_map,Int.lt_irrefl,↓reduceIte,Int.reduceLE,decide_false,Bool.false_eq_true,Int.zero_add];have ck:EF 1000003 k:=cm (by omega) (by omega);by_cases hk:k<ns.length
 ·have hk':k.toNat<ns.length:=by omega
  simp [hk,h1,hk',cp,ck];split
  ·split
   ·exact λp hp=>h p (-ns[k.toNat]) _ hp (by omega)
   ·exact λp hp=>h p 0 _ hp (by omega)
  ·split
   ·exact λp hp=>h p ns[k.toNat] _ hp (by omega)
   ·exact λp hp=>h p 0 _ hp (by omega)
 ·simp [hk,cp,ck];exact λp hp=>h p 0 _ hp (by omega)
def TF:∀ ts G q,jh ts G q->ts.length=2/\VS WU (qlY q) (qv ["_law_left_here","_law_many","_law_digit"] ts) G:=by
 rintro ts G q ⟨a,n,many,rfl,m1,m2,⟨o,c,m,hG,ho,hm,hn⟩,h3,h⟩;refine ⟨rfl,?_⟩;unfold VS;refine RZ λnx1 q1=>?_;simp only [zr,o3,v3,qv,map_cons,List.map_nil,length_cons,length_nil,Nat.zero_add,Nat.reduceAdd,Nat.reduceSub,List.replicate_one,cons_append,List.nil_append,v4,getElem?_pos,x5,c3,Z3,ne_eq,y8,SG,qgX,ixN,Int.zero_le_ofNat,↓reduceIte,Int.reduceToNat,tb3,iB,decide_eq_true_eq,Nat.reduceLT,x6,iC,gn3,set_cons_succ,set_cons_zero,Std.le_refl,Int.natCast_pos,Int.toNat_zero,zt,u9,ixR,getL,atI,zp,cb3,qd,ql,Int.toNat_one,List.length_set,hG,Int.cast_ofNat_Int,Int.reduceLT,Option.bind_some,qD];rw [q1];clear q1;refine RZ λnx2 q2=>?_;simp only [ZO,zr,o3,v3,qv,map_cons,List.map_nil,length_cons,length_nil,Nat.zero_add,Nat.reduceAdd,Nat.reduceSub,List.replicate_one,cons_append,List.nil_append,v4,getElem?_pos,x5,c3,Z3,ne_eq,y8,SG,qgX,ixN,Int.zero_le_ofNat,↓reduceIte,Int.reduceToNat,tb3,iB,decide_eq_true_eq,Nat.reduceLT,x6,iC,gn3,set_cons_succ,set_cons_zero,Std.le_refl,Int.natCast_pos,Int.toNat_zero,zt,u9,ixR,getL,atI,zp,cb3,qd,ql,Int.toNat_one,List.length_set,hG,Int.cast_ofNat_Int,Int.reduceLT,Option.bind_some,qD];split
 ·simp only [qM,zr,o3,v3,length_cons,length_nil,Nat.zero_add,Nat.reduceAdd,v4,getElem?_pos,x5,c3,Nat.reduceLT,x6,iC,gn3,set_cons_succ,set_cons_zero,SG,qgX,ixN,Std.le_refl,↓reduceIte,Int.natCast_pos,Int.toNat_zero,zt,u9,ixR,getL,atI,qD,Int.cast_ofNat_Int,Int.reduceLT,Option.bind_some];refine ⟨by omega,⟨by omega,m2⟩,h _ _ (Int.emod_nonneg _ (by omega)) (Int.emod_lt_of_pos _ (by omega)) ⟨o/many,c,m+1,qD,Int.ediv_nonneg ho (by omega),by omega,by omega⟩ λb ob hb e=>?_⟩;rw [zX hb,zX hb];exact e
 ·rw [q2];clear q2;simp only [zr,o3,v3,qv,map_cons,List.map_nil,length_cons,length_nil,Nat.zero_add,Nat.reduceAdd,Nat.reduceSub,List.replicate_one,cons_append,List.nil_append,v4,getElem?_pos,x5,c3,Z3,ne_eq,y8,SG,qgX,ixN,Int.zero_le_ofNat,↓reduceIte,Int.reduceToNat,tb3,iB,decide_eq_true_eq,Nat.reduceLT,x6,iC,gn3,set_cons_succ,set_cons_zero,Std.le_refl,Int.natCast_pos,Int.toNat_zero,zt,u9,ixR,getL,atI,zp,cb3,qd,ql,Int.toNat_one,List.length_set,hG,Int.cast_ofNat_Int,Int.reduceLT,Option.bind_some,qD];refine ⟨c,m+1,rfl,by omega,by omega,λu u1 u2=>?_⟩;simp only [zr,o3,v3,qv,map_cons,List.map_nil,length_cons,length_nil,Nat.zero_add,Nat.reduceAdd,Nat.reduceSub,List.replicate_one,cons_append,List.nil_append,v4,getElem?_pos,x5,c3,Z3,ne_eq,y8,SG,qgX,ixN,Int.zero_le_ofNat,↓reduceIte,Int.reduceToNat,tb3,iB,decide_eq_true_eq,Nat.reduceLT,x6,iC,gn3,set_cons_succ,set_cons_zero,Std.le_refl,Int.natCast_pos,Int.toNat_zero,zt,u9,ixR,getL,atI,zp,cb3,qd,ql,Int.toNat_one,List.length_set,hG,Int.cast_ofNat_Int,Int.reduceLT,Option.bind_some,qD];refine ⟨u,m+1+64,rfl,by omega,by omega,λv v1 v2=>?_⟩;refine ⟨⟨by omega,by omega⟩,by omega,h _ _ (Int.emod_nonneg _ (by omega)) (Int.emod_lt_of_pos _ (by omega)) ⟨o,c,m+1,qD,ho,by omega,by omega⟩ λb ob hb e=>?_⟩;rw [zX hb];exact e
def YX:Nat->PyData->Prop
 |_,.none=>True
 |_,.bool _=>True
 |_,.int _=>True
 |_,.str _=>True
 |n+1,.list ds=>ds.length<=1000000/\∀ d∈ds,YX n d
 |n+1,.tuple ds=>ds.length<=1000000/\∀ d∈ds,YX n d
 |_,_=>False
def jf:Nat->Sp3
 |0=>qaH
 |n+1=>λts G q=>∃ (x y:T) (d:PyData),ts=[x,y]/\Dp G x d/\Dp G y d/\YX n d/\∀ G',Ex G G'->q (.bl true) G'
def ML {G G':Gp} (e:Ex G G') {x:T} {us:List T} (h:jm G x=some us):jm G' x=some us:=by
 cases x<;>simp [jm] at h ⊢
 ·exact h
 ·exact e.getL h
def qd4 (n:Nat):qfo (List.replicate n (.bl true))=some true:=by
 induction n with
 |zero=>rfl
 |succ n ih=>rw [List.replicate_succ];simp [qfo,ih]
def MU {G:Gp} {n:Nat} {x y:T} {us vs:List T} {ds:List PyData} {q:Q3} (hx:jm G x=some us) (hy:jm G y=some vs) (du:Dps G us ds) (dv:Dps G vs ds) (hl:us.length<=1000000) (hd:∀ d∈ds,∃ m,n=m+1/\YX m d) (h:∀ G',Ex G G'->q (.bl true) G') :
  qcP (λG=>jm G x=some us/\jm G y=some vs) (YW 2 (qV (gn3 0) (qV (gn3 1) YT))) tt3 (cb3 (jf n) (qd (v3 0) (qd (v3 1) ql))) (λx G1=>qdR [x] G1 q) (qcT us vs) [] [none,none] G:=by
 have e1:=du.length;have e2:=dv.length;refine qd0 _ (λi ys τ G'=>Ex G G'/\ys=List.replicate i (.bl true)/\∃ x0 x1,τ=[x0,x1]) ⟨Ex.refl,rfl,none,none,rfl⟩ (λi ys τ G' _ hp=>⟨ML hp.1 hx,ML hp.1 hy⟩) ?_ ?_
 ·rintro i z ys τ G' R hz ⟨E,rfl,x0,x1,rfl⟩ hR;obtain ⟨a,b,ha,hb,rfl⟩:=CQ hz;obtain ⟨d,hd1,da⟩:=du.get ha;obtain ⟨d',hd2,db⟩:=dv.get hb;rw [hd1] at hd2;cases hd2;obtain ⟨m,rfl,dl⟩:=hd d (v9 hd1);have hi:=(za4 ha).1;simp only [YW,length_cons,length_nil,Nat.zero_add,Nat.reduceAdd,qV,gn3,YT,tt3,↓reduceIte,cb3,qd,v3,set_cons_zero,set_cons_succ,v4,getElem?_pos,x5,u9,x6,ql,List.length_replicate,y8,true_and];refine ⟨a,b,d,rfl,da.up E,db.up E,dl,λG2 E2=>⟨by omega,hR _ _ _ ⟨E.trans E2,?_,_,_,rfl⟩⟩⟩;rw [List.replicate_succ']
 ·rintro ys τ G' ⟨E,rfl,x0,x1,rfl⟩ p hp;simp [qdR,getL,qD,qd4];exact h _ (E.trans (QC hp))
def qdv {n:Nat} {ds:List PyData} (h:YX n (.list ds)):ds.length<=1000000/\∀ d∈ds,∃ m,n=m+1/\YX m d:=by
 cases n with
 |zero=>exact h.elim
 |succ n=>exact ⟨h.1,λd hd=>⟨n,rfl,h.2 d hd⟩⟩
def qcF {n:Nat} {ds:List PyData} (h:YX n (.tuple ds)):ds.length<=1000000/\∀ d∈ds,∃ m,n=m+1/\YX m d:=by
 cases n with
 |zero=>exact h.elim
 |succ n=>exact ⟨h.1,λd hd=>⟨n,rfl,h.2 d hd⟩⟩
def qka {x:T} {G:Gp} {q:Q3} (h:U8 x x=some true) (k:q (.bl true) G):ZM false x x G q:=by
 unfold ZM;rw [h];exact k
def qaE {ta tb:TE3} {e:Ends3} {τ:St3} {G:Gp} {x:T} (h:∀ q',q' x G->ta τ G q') (k:x=.bl true) (h2:tb τ G e.rt):zt (VQ ta tb) e τ G:=h _ (by subst k;exact h2)
def qnQ {ta tb:TE3} {τ:St3} {G:Gp} {x:T} (ha:∀ q',q' x G->ta τ G q') (hb:∀ q',q' x G->tb τ G q') (h:U8 x x=some true):∀ q',q' (.bl true) G->o3 (ZM false) ta tb τ G q':=λq' k=>ha _ (hb _ (qka h k))
def NK {c:TT3} {a b:TS3} {e:Ends3} {τ:St3} {G:Gp} (h:∀ A,A=a->ZO c A b e τ G):ZO c a b e τ G:=h _ rfl
def ZH (n:Nat):∀ ts G q,jf (n+1) ts G q->ts.length=2/\W0 (jf n) (qlY q) (qv ["_law_found","_law_due"] ts) G:=by
 rintro ts G q ⟨x,y,d,rfl,hx,hy,hd,h⟩;refine ⟨rfl,?_⟩;have h0:=h G Ex.refl;cases hx with
 |non=>cases hy;exact h0
 |bl b=>cases hy;cases b<;>exact h0
 |int i=>cases hy;exact qka (x:=.int i) (by simp [U8]) h0
 |str s=>
  cases hy;refine RZ λnx1 q1=>?_;refine NK λA1 hA=>?_;clear hA;show nx1 _ _;rw [q1];clear q1;refine RZ λnx2 q2=>?_;refine NK λA2 hA=>?_;show A2 _ _ _;rw [hA];exact qaE (qnQ (x:=.str s) (λ_ k=>k) (λ_ k=>k) (by simp [U8])) rfl h0
 |tup dx=>
  cases hy with
  |tup dy=>
   rename_i xs ds ys;have e1:=dx.length;have e2:=dy.length;obtain ⟨l1,l2⟩:=qcF hd;have key:=MU (n:=n) (x:=.tup xs) (y:=.tup ys) (us:=xs) (vs:=ys) (q:=q) rfl rfl dx dy (by omega) l2 h;have e3:xs.length=ys.length:=by omega
   refine RZ λnx1 q1=>?_;clear q1;refine NK λA1 hA=>?_;show A1 _ _ _;rw [hA];clear hA;refine RZ λnx2 q2=>?_;refine NK λA2 hA=>?_;show nx2 _ _;rw [q2];clear q2;exact qaE (qnQ (x:=.int ys.length) (λ_ k=>by rw [← e3] at k;exact k) (λ_ k=>k) (by simp [U8])) rfl key
 |lst gx dx=>
  cases hy with
  |lst gy dy=>
   rename_i p1 xs ds p2 ys;have e1:=dx.length;have e2:=dy.length;obtain ⟨l1,l2⟩:=qdv hd;have key:=MU (n:=n) (x:=.ref p1) (y:=.ref p2) (us:=xs) (vs:=ys) (q:=q) gx gy dx dy (by omega) l2 h;have e3:xs.length=ys.length:=by omega
   refine RZ λnx1 q1=>?_;clear q1;refine NK λA1 hA=>?_;simp only [ZO,tb3,WJ,v3,qv,map_cons,List.map_nil,length_cons,length_nil,Nat.zero_add,Nat.reduceAdd,Nat.sub_self,List.replicate_zero,List.append_nil,u9,getElem?_pos,x6,x5,tyT,gx,gy,Option.isSome_some,↓reduceIte,jN,BEq.rfl,String.reduceBEq,Bool.and_self,Bool.or_false,Bool.or_self,or3,o3,v4,ZM,U8,decide_true,Bool.not_true,Bool.false_eq_true,zp];rw [hA];clear hA;refine RZ λnx2 q2=>?_;refine NK λA2 hA=>?_;clear hA;simp only [ZO,tb3,WJ,v3,qv,map_cons,List.map_nil,length_cons,length_nil,Nat.zero_add,Nat.reduceAdd,Nat.sub_self,List.replicate_zero,List.append_nil,u9,getElem?_pos,x6,x5,tyT,gx,gy,Option.isSome_some,↓reduceIte,jN,BEq.rfl,String.reduceBEq,Bool.and_self,Bool.or_false,Bool.or_self,or3,o3,v4,ZM,U8,decide_true,Bool.not_true,Bool.false_eq_true,zp];rw [q2];clear q2;simp only [jm,qdR,qv,map_cons,List.map_nil,length_cons,length_nil,Nat.zero_add,Nat.reduceAdd,Nat.sub_self,List.replicate_zero,List.append_nil,u9,getElem?_pos,x6,x5,gy,↓reduceIte,o3,v3,v4,gx,ZM,U8,decide_true,Bool.false_eq_true,zt,VQ,cb3,qd,ql,U1,e3,lc3,qhm,cap] at key ⊢;exact key
structure SD (k n:Nat) (d:PyData):Prop where
 sh:d.showable=true
 nd:d.hasDict=false
 dp:d.depth<=k
 lv:d.leavesShort 13=true
 bk:d.bulk<=n
def SD.ok {k n:Nat} {d:PyData} (h:SD k n d) (hk:k<=40) (hn:n<=2 ^ 20):ShOk d:=⟨h.sh,h.nd,u7 h.dp hk,h.lv,u7 h.bk hn⟩
theorem SD.w {k n:Nat} {d:PyData} (h:SD k n d) (hk:k<=40) (hn:n<=2 ^ 20):ShW d:=(h.ok hk hn).w
def SD.mono {k n k' n':Nat} {d:PyData} (h:SD k n d) (hk:k<=k') (hn:n<=n'):SD k' n' d:=⟨h.sh,h.nd,u7 h.dp hk,h.lv,u7 h.bk hn⟩
def qeD (k n:Nat) {i:Int} (h:-1000000<=i/\i<=1000000):SD k n (.int i):=by
 refine ⟨?_,rfl,Nat.zero_le _,?_,Nat.zero_le _⟩
 ·simp only [PyData.showable];have:i.natAbs<2 ^ 20:=by omega
  have h2:i.natAbs.log2<20\/i.natAbs=0:=by
   rcases Nat.eq_zero_or_pos i.natAbs with z|z
   ·exact .inr z
   ·exact .inl ((Nat.log2_lt (by omega)).mpr this)
  rcases h2 with h2|h2
  ·simp;omega
  ·simp [h2]
 ·have:=PyProof.Rows.intsShortAll_ints2 [i] (by intro n hn;simp at hn;subst hn;omega);simpa [PyData.intsShortAll,PyData.intsShort,PyData.leavesShort] using this
structure SDs (k n:Nat) (ds:List PyData):Prop where
 sh:PyData.showableAll ds=true
 nd:PyData.hasDictAll ds=false
 dp:PyData.depthAll ds<=k
 lv:PyData.leavesShortAll 13 ds=true
 bk:PyData.bulkAll ds<=n
def qa2 (k n:Nat):SDs k n []:=⟨rfl,rfl,Nat.zero_le _,rfl,Nat.zero_le _⟩
def K9 {k n m s:Nat} {d:PyData} {ds:List PyData} (h:SD k n d) (t:SDs k m ds) (hs:n+1+m<=s):SDs k s (d::ds):=by
 refine ⟨?_,?_,?_,?_,?_⟩
 ·simp [PyData.showableAll,h.sh,t.sh]
 ·simp [PyData.hasDictAll,h.nd,t.nd]
 ·simp only [PyData.depthAll];exact Nat.max_le.mpr ⟨h.dp,t.dp⟩
 ·simp [PyData.leavesShortAll,h.lv,t.lv]
 ·simp only [PyData.bulkAll];have:=h.bk;have:=t.bk;omega
def KY {k n:Nat} {ds:List PyData} (t:SDs k n ds):SD (k+1) n (.list ds):=by
 refine ⟨?_,?_,?_,?_,?_⟩
 ·simpa [PyData.showable] using t.sh
 ·simpa [PyData.hasDict] using t.nd
 ·simp only [PyData.depth];have:=t.dp;omega
 ·simpa [PyData.leavesShort] using t.lv
 ·simp only [PyData.bulk];exact t.bk
theorem X5 {k n:Nat}:∀ {ds:List PyData},(∀ d∈ds,SD k n d)->SDs k (ds.length*(n+1)) ds
 |[],_=>qa2 _ _
 |d::ds,h=>K9 (h d (by simp)) (X5 λx hx=>h x (by simp [hx])) (by rw [length_cons,Nat.succ_mul];omega)
def LS {k:Nat} {ns:List Int} (h:∀ n∈ns,-1000000<=n/\n<=1000000):SDs k ns.length (ns.map PyData.int):=by
 have:=X5 (k:=k) (n:=0) (ds:=ns.map PyData.int) (by intro d hd;obtain ⟨i,hi,rfl⟩:=mem_map.mp hd;exact qeD _ _ (h i hi));simpa using this
theorem _root_.L3.Dps.append {G:Gp}:∀ {xs ys:List T} {ds es:List PyData},Dps G xs ds->Dps G ys es->Dps G (xs++ys) (ds++es)
 |_,_,_,_,.nil,b=>b
 |_,_,_,_,.cons a t,b=>.cons a (L3.Dps.append t b)
theorem _root_.L3.Dps.take {G:Gp}:∀ {xs:List T} {ds:List PyData} (i:Nat),Dps G xs ds->Dps G (xs.take i) (ds.take i)
 |_,_,0,_=>.nil
 |_,_,_+1,.nil=>.nil
 |_,_,i+1,.cons a t=>.cons a (L3.Dps.take i t)
theorem _root_.L3.Dps.drop {G:Gp}:∀ {xs:List T} {ds:List PyData} (i:Nat),Dps G xs ds->Dps G (xs.drop i) (ds.drop i)
 |_,_,0,h=>h
 |_,_,_+1,.nil=>.nil
 |_,_,i+1,.cons a t=>L3.Dps.drop i t
end Bk
namespace Pv
open PySem L2 L3 Pu
def TN:TS3:=(qM (zr (UM (qd (c3 (.int 0)) ql)) (gn3 1)) (qM (ET (VN (v3 0)) (gn3 2) (zr (o3 Z3 (v3 1) (lc3 (VN (v3 1)) (gn3 0) tt3 (o3 (iI Builtin.bitXor) (v3 0) (v3 1)) [none,some 2])) (gn3 1))) (zt (v3 1))))
def CU:PuS (Pv.TN):=(jX (YG (ED (qf (zj 0) qy) ⟨rfl⟩) 1 [] ⟨rfl⟩) (jX (LK (LP (bV 0)) (gN 2) (YG (bO US (bV 1) (bLc (LP (bV 1)) (gN 0) bTt (bO (opI Builtin.bitXor) (bV 0) (bV 1)) [none,some 2] ⟨rfl⟩)) 1 [false,true,true] ⟨rfl⟩) [true] ⟨rfl⟩) (M6 1)))
def VR:List PyData->Option PyData:=run (CU).f 1 3 1000000000 true
def qel:∀ ts G q,PSp (VR) true ts G q->ts.length=1/\Pv.TN { nx:=λ_ G'=>q .non G',rt:=q } (qv ["marks","told","mark"] ts) G:=qR (CU) ["marks","told","mark"] 1 1000000000 true
def qdh {x0:PyData}:VR [x0]=Q4 true ((CU).f 1000000000 [.sh x0,.un,.un]):=id rfl
end Pv
namespace Pu
open PySem L2 L3
end Pu
namespace Hd
open PySem L2 L3 PySem.W
def oF (x:Str) (st:Stmt) (pm cd:Value):Obj:=⟨.type "function",none,.func (PySem.W.fnOf x x (QA st) (zh st) (qg st) .none .none .none pm none cd .none),#[]⟩
def oC (vs:List Value):Obj:=⟨.type "code",none,.fields vs.toArray,#[]⟩
def eD (P:Params):Value×Value->DictEntry
 | (.str x t,v)=>⟨PyData.keyHash P x,.str x t,v⟩
 | (u,v)=>⟨0,u,v⟩
def oD (P:Params) (n:Nat) (es:List (Value×Value)):Obj:=⟨.type "dict",none,.dict (es.map (eD P)).toArray n,#[]⟩
abbrev nd (o:Obj) (l r:PySem.W.BT):PySem.W.BT:=.node o l r
abbrev lf (o:Obj):PySem.W.BT:=.node o .nil .nil
def qnt {K:Frg} (x:Str) (st:Stmt) (f:Addr) (pm cd:Value) (l:K.lookup f=some (oF x st pm cd)) (c:PySem.W.codeIn K cd x=true) (k:PySem.W.keepIn K (.ref f)=true) :
  Fun K x x st f (PySem.W.fnOf x x (QA st) (zh st) (qg st) .none .none .none pm none cd .none):=qcv l c k
def qmB {K:Frg} {h:Heap} {mg:Str->Option Value} (X:K.In h) (G:h.Ns mainGlobals mg) (n:Str) (v:Value) (e:PySem.W.nsIn K mainGlobals n=some (some v)):mg n=some v:=PySem.W.mg_of X G e
end Hd
namespace Hd
open PySem L2 L3 PySem.W PySem.Spec PySem.Calls PyProof.Rows
structure Fb (K:Frg) (mg:Str->Option Value) (x:Str) (st:Stmt) (ps:List Str) (f:Addr) (fd:FuncData):Prop where
 F:Fun K x x st f fd
 b:EQ K fd ps []
 m:mg x=some (.ref f)
def sc0 {N ps:List Str} {s:Scope} (h1:s.kind=.function:=by rfl) (h2:s.isCoroutine=false:=by rfl) (h3:s.isGenerator=false:=by rfl) (h4:N.Nodup:=by decide +kernel) (h5:N.take ps.length=ps:=by rfl) (h6:∀ x∈ps,s.names.lookup x=some .local\/s.names.lookup x=some .cell:=by decide +kernel) (h7:∀ y∈s.names,y.2≠.free:=by decide +kernel):FnScope N ps s:=⟨h1,h2,h3,h4,h5,h6,h7⟩
def jfE {P:Program} {w:World} {K:Frg} {mg:Str->Option Value} {base:Heap} {x:Str} {st:Stmt} {f:Addr} {fd:FuncData} {N ps:List Str} {k:Nat} {sp:Sp3} {t3:TS3} (E:Fb K mg x st ps f fd) (S:FnScope N ps (qg st))
  (read:∀ ts G q,sp ts G q->ts.length=ps.length/\t3 { nx:=λ_ G'=>q .non G',rt:=q } (qv N ts) G)
  (body:∀ (cdv:Value) (A:Around) (outer:List Env) (s:Shared) (H:Hp) (E:XK),Room k (A.deeper (envOfC x (qg st) s.heap.objs.size f cdv)) ->
   jB3 (N9 CX0 P w K mg base N x (qg st) f cdv A outer s H E).nox (zh st) t3):Fn3 P w K mg base (k+1) x sp:=qgR E.F S E.b E.m body read
def no {K:Frg} {h:Heap} {mg:Str->Option Value} (X:K.In h) (G:h.Ns mainGlobals mg) (n:Str) (e:PySem.W.nsIn K mainGlobals n=some none:=by kernel_rfl):mg n=none:=PySem.W.mg_none_of X G e
end Hd
namespace L3
open PySem PySem.Spec PyProof.Rows L2
def N5 {pos:Pos} {a b:Int} {c cv:Value} (l:List Value) (h:TriplesOk l) (e:codeAmong pos (l++[rawInt a,rawInt b,c])=some cv):codeAmong pos l=some cv\/cv=c:=by
 fun_induction TriplesOk l with
 |case1=>
  simp only [List.nil_append,codeAmong,rawInt] at e;split at e
  ·cases e;exact .inr rfl
  ·cases e
 |case2 x t y u z JD ih=>
  simp only [cons_append,codeAmong] at e ⊢;split at e
  ·rename_i q;rw [if_pos q];exact .inl e
  ·rename_i q;rw [if_neg q];exact ih h e
 |case3=>exact h.elim
def qei (mg:Str->Option Value) (h:Heap):Prop:=∃ bm o,mg "__builtins__" = some (.ref bm)/\bm≠builtinsNs/\bm≠mainGlobals/\h.get? bm=some o/\o.cls=.type "module"/\o.dict=some builtinsNs/\o.data=.plain
def qhb {H:Hp} {a b:Addr} {o:HO} {u:HO} (h:upd H a o b=some u):(b=a/\o=u)\/(b≠a/\H b=some u):=by
 by_cases z:b=a
 ·subst z;rw [qH] at h;cases h;exact .inl ⟨rfl,rfl⟩
 ·rw [qo z] at h;exact .inr ⟨z,h⟩
structure LamO (o:Obj) (params:Arguments) (body:Expr) (scope:Scope) (clos:List (Str×Addr)) (qual:Str) (c:Addr):Prop where
 ex:∃ pm ctv,o=PySem.W.kla_obj "<lambda>" qual params body scope clos pm c ctv
structure LamNew (H H':Hp) (P f c:Addr) (fo oc:Obj) (q:Str):Prop where
 f0:H f=none
 f1:H' f=some (.frz fo (.own f))
 c1:H' c=some (.frz oc (.own c))
 cr:CdR oc q
 tab:TK H' P q
 old:∀ b o,T1 o=false->H b=some o->H' b=some o
 oldP:∀ b o,b≠P->H b=some o->H' b=some o
 new:∀ b o,T1 o=false->H' b=some o->H b=some o\/(∃ ob,o=.frz ob (.own b))
section
variable {X:Cx} {pins:List (Addr×Obj)} {σ:L2.St} {H:Hp} {s:Shared}
def qdE (I:Inv X pins σ H s) {c P:Addr} {q:Str} {params:Arguments} {body:Expr} {scope:Scope} {pos:Pos} {clos:List (Str×Addr)} (hc:X.env.code=.ref c) (C:PySem.W.CodeHd X.base c P) (B:qei X.mg X.base) (T:TK H P q) (hq:X.env.qual++"<lambda>" = q)
  (hdef:defaultsOf params X.env=([],[])) (hcl:closureFor scope X.env=pure clos) :
  wpAny (model X.prog X.w) X.A (eval (.Lambda params body scope pos) X.env) (λv s'=>∃ f c' fo oc H',v=.ref f/\Inv X pins σ H' s'/\LamNew H H' P f c' fo oc q/\LamO fo params body scope clos q c') X.xe s:=by
 obtain ⟨ps,tP,ht,val⟩:=T;have hP:s.heap.get? P=some (PySem.W.tabObj ps):=I.hok P _ tP;have hgs:s.heap.Ns mainGlobals X.mg:=I.mod.glob.keeps I.bk;have hgP:mainGlobals≠P:=λz=>by
  obtain ⟨o,es,ep,e,d,_⟩:=hgs;rw [z,hP] at e;cases e;cases d
 have hLP:X.env.locals≠P:=λz=>by have:=I.free;rw [z,tP] at this;cases this
 obtain ⟨bm,ob,b1,b2,b3,b4,b5,b6,b7⟩:=B;have b4':=I.bk _ _ b4;have hbP:bm≠P:=λz=>by rw [z,hP] at b4';cases b4';cases b5
 have hb:s.heap.BuiltinsAt X.mg P:=⟨bm,ob,b1,b2,b3,hbP,b4',b5,b6,b7⟩
 refine PySem.W.kla_eval hdef ?_;rw [hq];cases hf:codeAmong pos ps.toList with
 |none=>
  refine PySem.W.kla_makeFunction hcl I.ok.glob hgs hc (C.keeps I.bk) hP ht hf hgP hb λc' ctv h' tk hx hge hlt hrec htb=>?_;obtain ⟨c2,oc,vs,t,e2,hoc,hd,hv⟩:=hrec;cases e2;have nP:∀ {b o},H b=some o->T1 o=false->b≠P:=λe z y=>by subst y;rw [tP] at e;cases e;cases z
  have cP:c'≠P:=Ne.symm (u8 (v8 (y4 hP) hge));have fP:h'.objs.size≠P:=Ne.symm (u8 (Nat.lt_trans (v8 (y4 hP) hge) hlt));have fc:h'.objs.size≠c':=Ne.symm (u8 hlt);have old:∀ b o,b≠P->s.heap.get? b=some o->(h'.push (PySem.W.kla_obj "<lambda>" q params body scope clos ((X.mg "__name__").getD .none) c' ctv)).get? b=some o:=λb o n e=>y2 _ (hx b o n e);have lt:∀ {b o},s.heap.get? b=some o->b≠c'/\b≠h'.objs.size:=λe=>⟨u8 (v8 (y4 e) hge),u8 (Nat.lt_trans (v8 (y4 e) hge) hlt)⟩
  have ltH:∀ {b o},H b=some o->b≠c'/\b≠h'.objs.size:=λe=>⟨u8 (v8 (I.hok.lt e) hge),u8 (Nat.lt_trans (v8 (I.hok.lt e) hge) hlt)⟩
  let fo:=PySem.W.kla_obj "<lambda>" q params body scope clos ((X.mg "__name__").getD .none) c' ctv
  let H':=upd (upd (upd H P (.tbl (ps++#[rawInt pos.line,rawInt pos.col,.ref c']))) c' (.frz oc (.own c'))) h'.objs.size (.frz fo (.own h'.objs.size))
  have same:∀ b,b≠P->b≠c'->b≠h'.objs.size->H' b=H b:=λb n1 n2 n3=>by
   show upd (upd (upd H P _) c' _) _ _ b=_;rw [qo n3,qo n2,qo n1]
  have atP:H' P=some (.tbl (ps++#[rawInt pos.line,rawInt pos.col,.ref c'])):=by
   show upd (upd (upd H P _) c' _) _ _ P=_;rw [qo (Ne.symm fP),qo (Ne.symm cP),qH]
  have atC:H' c'=some (.frz oc (.own c')):=by
   show upd (upd (upd H P _) c' _) _ _ c'=_;rw [qo (Ne.symm fc),qH]
  have atF:H' h'.objs.size=some (.frz fo (.own h'.objs.size)):=qH;have oldH:∀ b o,T1 o=false->H b=some o->H' b=some o:=λb o z e=>(same b (nP e z) (ltH e).1 (ltH e).2).trans e;refine ⟨h'.objs.size,c',fo,oc,H',rfl,?_,⟨?_,atF,atC,⟨vs,t,hd,hv⟩,⟨_,atP,?_,λpos' cv e=>?_⟩,oldH,λb o n e=>(same b n (ltH e).1 (ltH e).2).trans e,λb o z e=>?_⟩,⟨_,_,rfl⟩⟩
  ·refine I.step (g':=s.gens) (d':=s.drawn) (ch:=[]) (λ_ z=>nomatch z) (λb o _ _ _ e n=>old b o (λz=>by rw [z,tP] at n;cases n) e) (λb o _ _ _ e n=>⟨o.slots,old b o (λz=>by rw [z,tP] at n;cases n) e⟩) (λb o _ e n=>?_) (λb o _ e=>?_) (λb xs e=>oldH b _ rfl e) (λb o u e=>oldH b _ rfl e) (λb qs e=>?_) (λm hm=>(hm.extBut hx hLP).push _) (λa u e=>?_) I.bare
   ·rw [same b (λz=>by rw [z,tP] at n;cases n) (lt e).1 (lt e).2];exact n
   ·by_cases z:b=P
    ·subst z;exact ⟨_,y2 _ htb⟩
    ·exact ⟨o,old b o z e⟩
   ·by_cases z:b=P
    ·subst z;rw [tP] at e;cases e;exact ⟨_,atP⟩
    ·exact ⟨#[],by rw [same b z (ltH e).1 (ltH e).2,e];simp⟩
   ·by_cases z1:a=h'.objs.size
    ·subst z1;rw [atF] at e;cases e;exact ⟨y3 _ rfl,_,y3 _ rfl⟩
    ·by_cases z2:a=c'
     ·subst z2;rw [atC] at e;cases e;exact ⟨y2 _ hoc,_,y2 _ hoc⟩
     ·by_cases z3:a=P
      ·subst z3;rw [atP] at e;cases e;exact y2 _ htb
      ·rw [same a z3 z2 z1] at e;refine (I.hok a u e).stay (λb v hb y=>old b v (λz=>?_) y) (λb y=>oldH b _ rfl y) λb xs y=>oldH b _ rfl y;rcases hb with rfl|hb
       ·exact z3 z
       ·rw [z,tP] at hb;cases hb
  ·cases z:H h'.objs.size with
   |none=>rfl
   |some o=>exact absurd rfl (u8 (Nat.lt_trans (v8 (I.hok.lt z) hge) hlt))
  ·rw [Array.toList_append];exact TriplesOk_snoc _ _ _ _ ht
  ·rw [Array.toList_append] at e;rcases N5 ps.toList ht e with e|rfl
   ·obtain ⟨c3,oc3,a1,a2,a3⟩:=val pos' cv e;exact ⟨c3,oc3,a1,oldH _ _ rfl a2,a3⟩
   ·exact ⟨c',oc,rfl,atC,vs,t,hd,hv⟩
  ·by_cases z1:b=h'.objs.size
   ·subst z1;rw [atF] at e;cases e;exact .inr ⟨_,rfl⟩
   ·by_cases z2:b=c'
    ·subst z2;rw [atC] at e;cases e;exact .inr ⟨_,rfl⟩
    ·by_cases z3:b=P
     ·subst z3;rw [atP] at e;cases e;cases z
     ·rw [same b z3 z2 z1] at e;exact .inl e
 |some cv=>
  obtain ⟨c',oc,rfl,hC,hr⟩:=val pos cv hf;refine PySem.W.kla_makeFunctionHit hcl I.ok.glob hgs hc (C.keeps I.bk) hP ht hf hb λctv h' tk hk hsz=>?_;have old:∀ b o,s.heap.get? b=some o->(h'.push { cls:=.type "function",data:=.func (PySem.W.kla_fn "<lambda>" q params body scope clos ((X.mg "__name__").getD .none) (.ref c') ctv) }).get? b=some o:=λb o e=>y2 _ (hk b o e);have hn:H h'.objs.size=none:=I.hok.fresh hsz;have oldH:∀ b o,H b=some o->upd H h'.objs.size (.frz (PySem.W.kla_obj "<lambda>" q params body scope clos ((X.mg "__name__").getD .none) c' ctv) (.own h'.objs.size)) b=some o:=λb o e=>by rw [qo (qw e hn)];exact e
  refine ⟨h'.objs.size,c',PySem.W.kla_obj "<lambda>" q params body scope clos ((X.mg "__name__").getD .none) c' ctv,oc,upd H h'.objs.size (.frz _ (.own h'.objs.size)),rfl,?_,⟨hn,qH,oldH _ _ hC,hr,⟨ps,oldH _ _ tP,ht,λpos' cv e=>?_⟩,λb o _ e=>oldH b o e,λb o _ e=>oldH b o e,λb o z e=>?_⟩,⟨_,_,rfl⟩⟩
  ·exact I.laid (t':=tk) old hsz ⟨y3 _ rfl,_,y3 _ rfl⟩
  ·obtain ⟨c3,oc3,a1,a2,a3⟩:=val pos' cv e;exact ⟨c3,oc3,a1,oldH _ _ a2,a3⟩
  ·rcases qhb e with ⟨rfl,rfl⟩|⟨_,e⟩
   ·exact .inr ⟨_,rfl⟩
   ·exact .inl e
end
section
variable {P:Program} {w:World} {H H2:Hp} {h h':Heap} {S:List Addr} {fs:List Addr}
def rem (S:List Addr) (H:Hp):Hp:=λb=>if b∈S then none else H b
def add (S:List Addr) (H H2:Hp):Hp:=λb=>if b∈S then H b else H2 b
def fzS (S:List Addr) (h:Heap) (H:Hp):Hp:=λb=>if b∈S then (h.get? b).map λo=>.frz o (.own b) else H b
def qip (u:Un fs [] (rem S H) H2 h h') (fr:∀ b∈S,∃ o,H b=some (.frz o (.own b))) (nf:∀ b∈S,b∉fs) (ok:HOk P w H h) (ok2:HOk P w H2 h'):Un fs [] H (add S H H2) h h'/\HOk P w (add S H H2) h'/\∀ b∈S,H2 b=none:=by
 have r1:∀ {b},b∈S->rem S H b=none:=λz=>if_pos z;have r2:∀ {b},b∉S->rem S H b=H b:=λz=>if_neg z;have a1:∀ {b},b∈S->add S H H2 b=H b:=λz=>if_pos z;have a2:∀ {b},b∉S->add S H H2 b=H2 b:=λz=>if_neg z;have get:∀ {b o},b∈S->H b=some (.frz o (.own b))->h.get? b=some o:=λ_ e=>(ok _ _ e).1;have kept:∀ {b o},b∈S->H b=some (.frz o (.own b))->h'.get? b=some o:=λz e=>u.keep _ _ (get z e) (r1 z) (nf _ z) (by simp);have gone:∀ {b},b∈S->H2 b=none:=λ{b} z=>by
  obtain ⟨o,e⟩:=fr b z;exact u.free b o (get z e) (r1 z) (by simp)
 have nS:∀ {b},H b=none->b∉S:=λ{b} n z=>by obtain ⟨o,e⟩:=fr b z;rw [n] at e;cases e
 have oS:∀ {b o},H b=some o->(∀ x,o≠.frz x (.own b))->b∉S:=λ{b o} e n z=>by obtain ⟨x,e'⟩:=fr b z;rw [e] at e';cases e';exact n x rfl
 have ns:∀ {b o},H2 b=some o->b∉S:=λe z=>by rw [gone z] at e;cases e
 refine ⟨⟨λb o q n hb hx=>u.keep b o q ((r2 (nS n)).trans n) hb hx,λb o q n hb hx=>u.slot b o q ((r2 (nS n)).trans n) hb hx,λb o q n hx=>(a2 (nS n)).trans (u.free b o q ((r2 (nS n)).trans n) hx),u.there,λb xs q=>?_,λb o v q=>?_,λb ps q=>?_⟩,λa o e=>?_,λ_ z=>gone z⟩
 ·have z:=oS q λx y=>nomatch y;exact (a2 z).trans (u.tups b xs ((r2 z).trans q))
 ·by_cases z:b∈S
  ·exact (a1 z).trans q
  ·exact (a2 z).trans (u.frzs b o v ((r2 z).trans q))
 ·have z:=oS q λx y=>nomatch y;obtain ⟨m,e⟩:=u.tbls b ps ((r2 z).trans q);exact ⟨m,(a2 z).trans e⟩
 ·by_cases z:a∈S
  ·rw [a1 z] at e;obtain ⟨x,e'⟩:=fr a z;rw [e] at e';cases e';exact ⟨kept z e,_,kept z e⟩
  ·rw [a2 z] at e;exact (ok2 a o e).stay (λ_ _ _ q=>q) (λb q=>(a2 (ns q)).trans q) λb xs q=>(a2 (ns q)).trans q
def qkf (fr:∀ b∈S,∃ o,H b=some (.frz o (.own b))) (ok:HOk P w H h):HOk P w (rem S H) h:=λa o e=>by
 have z:a∉S:=λz=>by rw [show rem S H a=none from if_pos z] at e;cases e
 have oS:∀ {b o},H b=some o->(∀ x,o≠.frz x (.own b))->b∉S:=λ{b o} e n z=>by obtain ⟨x,e'⟩:=fr b z;rw [e] at e';cases e';exact n x rfl
 rw [show rem S H a=H a from if_neg z] at e;exact (ok a o e).stay (λ_ _ _ q=>q) (λb q=>(if_neg (oS q λx y=>nomatch y)).trans q) λb xs q=>(if_neg (oS q λx y=>nomatch y)).trans q
def qnD (n:∀ b∈S,H b=none) (t:∀ b∈S,∃ o,h.get? b=some o) (ok:HOk P w H h):HOk P w (fzS S h H) h:=λa o e=>by
 by_cases z:a∈S
 ·rw [show fzS S h H a=(h.get? a).map λo=>.frz o (.own a) from if_pos z] at e;obtain ⟨x,q,rfl⟩:=za3 e;exact ⟨q,_,q⟩
 ·rw [show fzS S h H a=H a from if_neg z] at e;have nS:∀ {b o},H b=some o->b∉S:=λq y=>by rw [n _ y] at q;cases q
  exact (ok a o e).stay (λ_ _ _ q=>q) (λb q=>(if_neg (nS q)).trans q) λb xs q=>(if_neg (nS q)).trans q
def qks (u:Un fs [] (fzS S h H) H2 h h') (n:∀ b∈S,H b=none) (t:∀ b∈S,∃ o,h.get? b=some o) (ok2:HOk P w H2 h'):Un fs [] H (rem S H2) h h'/\HOk P w (rem S H2) h'/\∀ b∈S,∀ o,h.get? b=some o->h'.get? b=some o/\H2 b=some (.frz o (.own b)):=by
 have f1:∀ {b o},b∈S->h.get? b=some o->fzS S h H b=some (.frz o (.own b)):=λ{b o} z e=>by
  show (if b∈S then _ else _)=_;rw [if_pos z,e];rfl
 have f2:∀ {b},b∉S->fzS S h H b=H b:=λz=>if_neg z;have m1:∀ {b},b∈S->rem S H2 b=none:=λz=>if_pos z;have m2:∀ {b},b∉S->rem S H2 b=H2 b:=λz=>if_neg z;have k:∀ b∈S,∀ o,h.get? b=some o->h'.get? b=some o/\H2 b=some (.frz o (.own b)):=λb z o e=>by
  have y:=u.frzs b o _ (f1 z e);exact ⟨(ok2 b _ y).1,y⟩
 have nS:∀ {b o},H b=some o->b∉S:=λq y=>by rw [n _ y] at q;cases q
 have oS:∀ {b o},H2 b=some o->(∀ x,o≠.frz x (.own b))->b∉S:=λ{b o} e nn z=>by
  obtain ⟨x,q⟩:=t b z;rw [(k b z x q).2] at e;cases e;exact nn x rfl
 refine ⟨⟨λb o q nn hb hx=>?_,λb o q nn hb hx=>?_,λb o q nn hx=>?_,u.there,λb xs q=>?_,λb o v q=>?_,λb ps q=>?_⟩,λa o e=>?_,k⟩
 ·by_cases z:b∈S
  ·exact (k b z o q).1
  ·exact u.keep b o q ((f2 z).trans nn) hb hx
 ·by_cases z:b∈S
  ·exact ⟨o.slots,(k b z o q).1⟩
  ·exact u.slot b o q ((f2 z).trans nn) hb hx
 ·by_cases z:b∈S
  ·exact m1 z
  ·exact (m2 z).trans (u.free b o q ((f2 z).trans nn) hx)
 ·have y:=u.tups b xs ((f2 (nS q)).trans q);exact (m2 (nS q)).trans y
 ·exact (m2 (nS q)).trans (u.frzs b o v ((f2 (nS q)).trans q))
 ·obtain ⟨m,y⟩:=u.tbls b ps ((f2 (nS q)).trans q);exact ⟨m,(m2 (nS q)).trans y⟩
 ·have z:a∉S:=λz=>by rw [m1 z] at e;cases e
  rw [m2 z] at e;exact (ok2 a o e).stay (λ_ _ _ q=>q) (λb q=>(m2 (oS q λx y=>nomatch y)).trans q) λb xs q=>(m2 (oS q λx y=>nomatch y)).trans q
end
def cxL (P:Program) (w:World) (K:Frg) (mg:Str->Option Value) (base:Heap) (N:List Str) (qual:Str) (scope:Scope) (f:Addr) (cd:Value) (clos:List (Str×Addr)) (A:Around) (outer:List Env) (s:Shared) (H:Hp) (E:XK):Cx where
 prog:=P
 w:=w
 K:=K
 mg:=mg
 base:=base
 A:=A.deeper (PySem.W.envX qual scope s.heap.objs.size f cd clos)
 N:=N
 s₀:=s
 H₀:=H
 env:=PySem.W.envX qual scope s.heap.objs.size f cd clos
 outer:=outer
 stack:=PySem.W.envX qual scope s.heap.objs.size f cd clos::outer
 ex:=[]
 calm:=true
 fn:=λ_=>false
 pn:=[]
 xe:=λe s'=>wpAny (model P w) (A.deeper (PySem.W.envX qual scope s.heap.objs.size f cd clos)) (leaving (PySem.W.envX qual scope s.heap.objs.size f cd clos) e) (λ_ s''=>CX0 outer H s E e s'') (λe' s''=>CX0 outer H s E e' s'') s'
structure LamScope (ps fr:List Str) (scope:Scope):Prop where
 kind:scope.kind=.function
 co:scope.isCoroutine=false
 gen:scope.isGenerator=false
 nocell:∀ x∈scope.names,x.2≠.cell
 par:∀ p∈ps,scope.names.lookup p=some .local
 free:∀ x,scope.names.lookup x=some .free->x∈fr
 frf:∀ x∈fr,scope.names.lookup x=some .free
 nd:ps.Nodup
theorem zP {α:Type} {x:Str} {v:α}:∀ {l:List (Str×α)},(l.map λp=>p.1).Nodup->(x,v)∈l->l.lookup x=some v
 |[],_,h=>by cases h
 | (y,u)::l,nd,h=>by
  rcases mem_cons.mp h with e|h
  ·cases e;simp [List.lookup]
  ·have n:x≠y:=λz=>(List.nodup_cons.mp nd).1 (mem_map.mpr ⟨(x,v),h,z⟩);have:(x==y)=false:=by simpa using n
   rw [List.lookup,this];exact zP (List.nodup_cons.mp nd).2 h
def M4 {x:Str} {u:Value} {ps:List Str} {us:List Value} {i:Nat} (nd:ps.Nodup) (h1:ps[i]?=some x) (h2:us[i]?=some u) (hl:ps.length=us.length):(ps.zip us).reverse.lookup x=some u:=by
 refine zP ?_ (List.mem_reverse.mpr (v9 (List.getElem?_zip_eq_some.mpr ⟨h1,h2⟩)));rw [List.map_reverse,List.map_fst_zip (by omega)];exact List.pairwise_reverse.mpr (nd.imp λh=>Ne.symm h)
def qil {P:Program} {w:World} {K:Frg} {mg:Str->Option Value} {base:Heap} {k:Nat} {f c:Addr} {qual:Str} {params:Arguments} {body:Expr} {scope:Scope} {clos:List (Str×Addr)} {pm ctv:Value} {ps fr:List Str} {t:TE} (S:LamScope ps fr scope)
  (inj:∀ x y a,clos.lookup x=some a->clos.lookup y=some a->x=y) (has:∀ x∈fr,∃ a,clos.lookup x=some a) (ndc:(clos.map λp=>p.1).Nodup)
  (hbody:∀ (A:Around) (outer:List Env) (s:Shared) (H:Hp) (E:XK),Room k (A.deeper (PySem.W.envX qual scope s.heap.objs.size f (.ref c) clos))->PE (cxL P w K mg base (ps++fr) qual scope f (.ref c) clos A outer s H E) body t) :
  FnOk P w K mg base CX0 (k+1) f (PySem.W.kla_fn "<lambda>" qual params body scope clos pm (.ref c) ctv) ps (λvs H Q _=>vs.length=ps.length/\H f=some (.frz (PySem.W.kla_obj "<lambda>" qual params body scope clos pm c ctv) (.own f))/\(∃ oc,H c=some (.frz oc (.own c))/\CdR oc qual) /\
   ∃ ws,qmg H clos fr ws/\t ((vs++ws).map some) (rem (clos.map λp=>p.2) H) λv H2=>(∀ b∈clos.map (λp=>p.2),H2 b=none)->Q v (add (clos.map λp=>p.2) H H2)):=by
 refine ⟨λvs H Q E h=>h.1,λA outer s H args us vs Q E hr e0 hb r ⟨hl,hf,⟨oc,hc,hcr⟩,ws,caps,hq⟩=>?_⟩;have lim:s.heap.NoLimit:=e0.mod.nolimit.keeps λb o e=>(e0.bs b o e).1;have gf:=(e0.hok f _ hf).1;have gc:s.heap.get? c=some oc:=(e0.hok c _ hc).1;have hrec:s.heap.CodeRec (.ref c) qual:=let ⟨vs',t',d,v⟩:=hcr;⟨c,oc,vs',t',rfl,gc,d,v⟩
 have ul:=r.length;obtain ⟨wl,call,cget⟩:=caps;have mem:∀ {x a},clos.lookup x=some a->a∈clos.map λp=>p.2:=λ{x a} e=>mem_map.mpr ⟨(x,a),PySem.mem_of_lookup e,rfl⟩;have frz:∀ b∈clos.map (λp=>p.2),∃ o,H b=some (.frz o (.own b)):=λb hb=>by
  obtain ⟨⟨x,a⟩,hm,rfl⟩:=mem_map.mp hb;obtain ⟨o,v,e,_⟩:=call x a (zP ndc hm);exact ⟨o,e⟩
 have r0:∀ {b},H b=none->rem (clos.map λp=>p.2) H b=none:=λ{b} e=>by
  unfold rem;split
  ·rfl
  ·exact e
 refine PySem.W.kla_callFunE hr.depth gf rfl S.co S.gen rfl hrec (hb _ _ _ _ ?_);refine wpAny_newFunctionEnv S.nocell (λy hy=>S.par _ (List.of_mem_zip hy).1) (λh1 hns hsb=>⟨lim.fresh _ hsb,?_⟩) S.kind;have hk:∀ b o,s.heap.get? b=some o->h1.get? b=some o:=λb o e=>hsb.extBut b o (u8 (y4 e)) (y2 _ e);have I:Inv (cxL P w K mg base (ps++fr) qual scope f (.ref c) clos A outer s (rem (clos.map λp=>p.2) H) E) [] ((vs++ws).map some) (rem (clos.map λp=>p.2) H) { s with heap:=h1,toks:=s.toks+(ps.zip us).length }:=by
  refine ⟨⟨e0.mod,S.kind,rfl,rfl,v5 _,inj,λx hx=>?_,λx a z=>(nomatch z),λ_=>hr.hd,Around.frames_deeper e0.frames,.inr ⟨rfl,rfl⟩,λb z=>absurd z (by simp [cxL]),λb o e=>⟨(e0.bs b o e).1,r0 (e0.bs b o e).2⟩,e0.bsz,λb o e=>by simp [cxL],λb z=>absurd z (by simp [cxL]),e0.funs,λb z=>r0 (e0.frf b z)⟩,
   rfl,e0.bare,Un.kept hk,⟨_,hns,λi x v h2 h3 h4=>?_⟩,λx a e=>?_,r0 (e0.hok.fresh (v5 _)),λx a e=>if_pos (mem e),λp hp=>absurd (show p∈([]:List (Addr×Obj)) from hp) (by simp),(qkf frz e0.hok).kept hk,?_⟩
  ·have hx:scope.names.lookup x=some .cell\/scope.names.lookup x=some .free:=hx;rcases hx with hx|hx
   ·exact absurd rfl (S.nocell _ (PySem.mem_of_lookup hx))
   ·exact has x (S.free x hx)
  ·have h2:(ps++fr)[i]?=some x:=h2;by_cases c1:i<ps.length
   ·rw [List.getElem?_append_left c1] at h2;rw [getElem?_map,List.getElem?_append_left (by omega)] at h3;obtain ⟨v',e,z⟩:=za3 h3;cases z;obtain ⟨u,hu,rv⟩:=r.get e;exact ⟨u,rv,.inl ⟨S.par x (v9 h2),M4 S.nd h2 hu (by omega)⟩⟩
   ·rw [List.getElem?_append_right (by omega)] at h2;rw [getElem?_map,List.getElem?_append_right (by omega),hl] at h3;obtain ⟨v',e,z⟩:=za3 h3;cases z;obtain ⟨a,o,u,l,e1,d,rv⟩:=cget _ x v h2 e;exact ⟨u,rv,.inr ⟨.inr (S.frf x (v9 h2)),a,l,o,hk _ _ (e0.hok a _ e1).1,d⟩⟩
  ·obtain ⟨o,v,e1,d⟩:=call x a e;exact ⟨v,o,hk _ _ (e0.hok a _ e1).1,d⟩
  ·show _=(ps++fr).length;rw [length_map,length_append,length_append,hl,wl]
 refine PySem.W.kla_codeExpr (y0 (hbody A outer s _ E (hr.deeper _) [] _ _ _ _ I hq) (λv s' ⟨x,H2,J,rx,q⟩=>?_) λe s' z=>z);obtain ⟨un,ok,go⟩:=qip (H:=H) J.base frz (λb hb z=>by
  obtain ⟨o,e⟩:=frz b hb;rw [e0.frf b z] at e;cases e) e0.hok J.hok
 exact ⟨x,_,J.os,J.bare,un,ok,rx,q go⟩
def TD (G:Gp):Gp:=λb=>match G b with
 |some (.clo _ _)=>none
 |x=>x
def qeW (G G2:Gp):Gp:=λb=>match G b with
 |some (.clo i ts)=>some (.clo i ts)
 |_=>G2 b
def qde {G:Gp} {b:Addr} {o:O} (h:TD G b=some o):G b=some o/\∀ i ts,o≠.clo i ts:=by
 unfold TD at h;split at h
 ·cases h
 ·rename_i n;exact ⟨h,λi ts z=>n i ts (by rw [h,z])⟩
def MB {G:Gp} {b:Addr} (h:G b=none):TD G b=none:=by unfold TD;rw [h]
def qch {G:Gp} {b:Addr} {i:Nat} {ts:List T} (h:G b=some (.clo i ts)):TD G b=none:=by unfold TD;rw [h]
def qcj {G G2:Gp} {b:Addr} {i:Nat} {ts:List T} (h:G b=some (.clo i ts)):qeW G G2 b=some (.clo i ts):=by unfold qeW;rw [h]
def LC {G G2:Gp} {b:Addr} (h:∀ i ts,G b≠some (.clo i ts)):qeW G G2 b=G2 b:=by
 unfold qeW;split
 ·rename_i e;exact absurd e (h _ _)
 ·rfl
def FzC (H:Hp) (S:List Addr):Prop:=∀ b∈S,∃ o v,H b=some (.frz o (.own b))/\o.data=.cell v
section
variable {K:Frg} {G G2:Gp} {H H2:Hp} {S:List Addr}
def JU {b:Addr} {o:HO} (z:FzC H S) (h:H b=some o) (n:∀ x v,x.data=.cell v->o≠.frz x (.own b)):rem S H b=some o:=by
 unfold rem;split
 ·rename_i m;obtain ⟨x,v,e,d⟩:=z b m;rw [h] at e;cases e;exact absurd rfl (n x v d)
 ·exact h
def LN (z:FzC H S) {a:Addr} {vs:List V} (h:SqT K H a vs):SqT K (rem S H) a vs:=by
 rcases h with h|h
 ·rcases h with h|⟨o,h⟩
  ·exact .inl (.inl (JU z h λx v d y=>nomatch y))
  ·exact .inl (.inr ⟨o,JU z h λx v d y=>by cases y⟩)
 ·exact .inr h
mutual
theorem Rp.mapS (z:∀ a vs,SqT K H a vs->SqT K H2 a vs):∀ {x:T} {v:V},Rp K H x v->Rp K H2 x v
 |_,_,.non=>.non
 |_,_,.bl b=>.bl b
 |_,_,.int i=>.int i
 |_,_,.str x=>.str x
 |_,_,.ref a=>.ref a
 |_,_,.tup h hs=>.tup (z _ _ h) (Rps.mapS z hs)
theorem Rps.mapS (z:∀ a vs,SqT K H a vs->SqT K H2 a vs):∀ {x:List T} {v:List V},Rps K H x v->Rps K H2 x v
 |_,_,.nil=>.nil
 |_,_,.cons a b=>.cons (Rp.mapS z a) (Rps.mapS z b)
end
theorem HR.rem (hr:HR K G H) (z:FzC H S):HR K (TD G) (rem S H):=⟨λa o e=>by
 obtain ⟨g,n⟩:=qde e;have q:=hr a o g;have m:=λ{x v}=>Rps.mapS (K:=K) (H:=H) (H2:=L3.rem S H) (λa vs h=>LN z h) (x:=x) (v:=v);cases o with
 |lst xs=>obtain ⟨vs,h1,h2⟩:=q;exact ⟨vs,JU z h1 λx v d y=>(nomatch y),m h2⟩
 |frz xs=>obtain ⟨vs,⟨o,h1⟩,h2⟩:=q;exact ⟨vs,⟨o,JU z h1 λx v d y=>by cases y⟩,m h2⟩
 |dct kvs=>obtain ⟨vs,h1,h2⟩:=q;exact ⟨vs,JU z h1 λx v d y=>(nomatch y),m h2⟩
 |tab ks xs=>obtain ⟨vs,h1,h2⟩:=q;exact ⟨vs,JU z h1 λx v d y=>(nomatch y),m h2⟩
 |exn C=>exact JU z q λx v d y=>nomatch y
 |clo i ts=>exact absurd rfl (n i ts),λt ht=>(hr.tabs t ht).keep (λps e=>JU z e λx v d y=>nomatch y) λc oc e r=>JU z e λx v d y=>by
  obtain ⟨vs,t,w,_⟩:=r;cases y;rw [w] at d;cases d⟩
def zu (go:∀ b∈S,H2 b=none) {b:Addr} {o:HO} (h:H2 b=some o):add S H H2 b=some o:=by
 unfold add;split
 ·rename_i m;rw [go b m] at h;cases h
 ·exact h
def qa3 (go:∀ b∈S,H2 b=none) {a:Addr} {vs:List V} (h:SqT K H2 a vs):SqT K (add S H H2) a vs:=by
 rcases h with h|h
 ·rcases h with h|⟨o,h⟩
  ·exact .inl (.inl (zu go h))
  ·exact .inl (.inr ⟨o,zu go h⟩)
 ·exact .inr h
def qiV (hr:HR K G H) (z:FzC H S) (hr2:HR K G2 H2) (k:Kp (TD G) (rem S H) G2 H2) (go:∀ b∈S,H2 b=none):HR K (qeW G G2) (add S H H2)/\Kp G H (qeW G G2) (add S H H2):=by
 have m2:=λ{x v}=>Rps.mapS (K:=K) (H:=H2) (H2:=add S H H2) (λa vs h=>qa3 go h) (x:=x) (v:=v);have s1:∀ a vs,SqT K H a vs->SqT K (add S H H2) a vs:=λa vs h=>qa3 go (EG (hr.rem z) k (LN z h));have fz:∀ b o,(∀ fd,o.data≠.func fd)->H b=some (.frz o (.own b))->add S H H2 b=some (.frz o (.own b)):=λb o n q=>by
  by_cases m:b∈S
  ·exact (if_pos m).trans q
  ·exact zu go (k b _ ((if_neg m).trans q) (MB (hr.noneC q n)) rfl).1
 refine ⟨⟨λa o e=>?_,λt ht=>(hr2.tabs t ht).keep (λps e=>zu go e) λc oc e r=>zu go e⟩,λa o q g t=>?_⟩
 ·by_cases c:∃ i ts,G a=some (.clo i ts)
  ·obtain ⟨i,ts,c⟩:=c;rw [qcj c] at e;cases e;obtain ⟨fd,body,clos,cc,ws,l,f,r⟩:=hr a _ c;refine ⟨fd,body,clos,cc,ws,l,f.keep λb o n q=>?_,r.mapS s1⟩;rcases n with rfl|n
   ·have m:b∉S:=λm=>by
     obtain ⟨x,v,e,d⟩:=z b m;obtain ⟨pm,ctv,e2⟩:=f.fo;rw [e] at e2;cases e2;cases d
    exact zu go (k b _ ((if_neg m).trans q) (qch c) rfl).1
   ·exact fz b o n q
  ·rw [LC λi ts y=>c ⟨i,ts,y⟩] at e;have q:=hr2 a o e;cases o with
   |lst xs=>obtain ⟨vs,h1,h2⟩:=q;exact ⟨vs,zu go h1,m2 h2⟩
   |frz xs=>obtain ⟨vs,⟨o,h1⟩,h2⟩:=q;exact ⟨vs,⟨o,zu go h1⟩,m2 h2⟩
   |dct kvs=>obtain ⟨vs,h1,h2⟩:=q;exact ⟨vs,zu go h1,m2 h2⟩
   |tab ks xs=>obtain ⟨vs,h1,h2⟩:=q;exact ⟨vs,zu go h1,m2 h2⟩
   |exn C=>exact zu go q
   |clo i ts=>
    obtain ⟨fd,body,clos,cc,ws,l,f,r⟩:=q;exact ⟨fd,body,clos,cc,ws,l,f.keep λb o n q=>zu go q,m2 r⟩
 ·have ng:∀ i ts,G a≠some (.clo i ts):=λi ts y=>by rw [g] at y;cases y
  rw [LC ng];by_cases m:a∈S
  ·exact ⟨(if_pos m).trans q,hr2.free (go a m)⟩
  ·obtain ⟨h1,h2⟩:=k a o ((if_neg m).trans q) (MB g) t;exact ⟨zu go h1,h2⟩
end
structure Lam3 (P:Program) (w:World) (K:Frg) (mg:Str->Option Value) (base:Heap) (k:Nat) (i:Nat) (S:Sp3):Prop where
 ex:∃ fd body t3,TZ K i=some fd/\fd.body=.expr body/\LamScope (psN fd.scope) (frN fd.scope) fd.scope /\
  (∀ clos pm c ctv us,us.length=(psN fd.scope).length->bindArgs (PySem.W.kla_fn "<lambda>" fd.qualname fd.params body fd.scope clos pm (.ref c) ctv) ⟨us,[]⟩=pure ((psN fd.scope).zip us)) /\
  (∀ A outer s H E f c clos,Room k (A.deeper (PySem.W.envX fd.qualname fd.scope s.heap.objs.size f (.ref c) clos))->E3 (cxL P w K mg base (psN fd.scope++frN fd.scope) fd.qualname fd.scope f (.ref c) clos A outer s H E) body t3) /\
  ∀ ts G q,S ts G q->ts.length=(psN fd.scope).length+(frN fd.scope).length/\t3 (ts.map some) G q
def qgF {X:Cx} {pins:List (Addr×Obj)} {σ:L2.St} {H:Hp} {s:Shared} {k i:Nat} {S:Sp3} {G:Gp} {a:Addr} {ts xs:List T} {vs:List V} {us:List Value} {q:Q3} {Q:VK} (L:Lam3 X.prog X.w X.K X.mg X.base k i S) (hr:Room (k+1) X.A) (I:Inv X pins σ H s) (hr3:HR X.K G H)
  (g:G a=some (.clo i ts)) (rx:Rps X.K H xs vs) (r:qY vs us) (h:S (xs++ts) (TD G) λy G2=>(∀ b i ts,G b=some (.clo i ts)->G2 b=none)->q y (qeW G G2)) (af:Aft X.K G H q Q):wpAny (model X.prog X.w) X.A (call (.ref a) us) (EP X pins σ Q) X.xe s:=by
 obtain ⟨fd,body,t3,l,bd,sc,bi,hb,rd⟩:=L.ex;obtain ⟨fd',body',clos,c,ws,l',f,rts⟩:=hr3 a _ g;rw [l] at l';cases l';have bd':=f.bd;rw [bd] at bd';cases bd';obtain ⟨pm,ctv,fo⟩:=f.fo;obtain ⟨hl,ht⟩:=rd _ _ _ h;have wl:=f.caps.1;have tl:=rts.length;have xl:=rx.length;rw [length_append] at hl;have z:FzC H (clos.map λp=>p.2):=λb hb=>by
  obtain ⟨⟨x,a⟩,hm,rfl⟩:=mem_map.mp hb;obtain ⟨o,v,e,d⟩:=f.caps.2.1 x a (zP f.ok.nd hm);exact ⟨o,v,e,d⟩
 have F:=qil (P:=X.prog) (w:=X.w) (K:=X.K) (mg:=X.mg) (base:=X.base) (k:=k) (f:=a) (c:=c) (qual:=fd.qualname) (params:=fd.params) (body:=body) (scope:=fd.scope) (clos:=clos) (pm:=pm) (ctv:=ctv) (t:=lE X.K t3) sc f.ok.inj f.ok.has f.ok.nd λA outer s H E hr=>hb A outer s H E a c clos hr;refine qeZ (E:=E0) F hr (EQ.all λus hu=>bi clos pm c ctv us hu) .nil qkN I r ?_;rw [List.append_nil];refine ⟨by omega,fo,f.co,ws,f.caps,(xs++ts).map some,TD G,_,⟨hr3.rem z,by simp [xl,tl],λj t e=>?_⟩,ht,λy G2 hq v H2 ry hr2 k2 go=>?_⟩
 ·have ra:=(rx.append rts).mapS (H2:=rem (clos.map λp=>p.2) H) λa vs h=>LN z h;rw [getElem?_map] at e;obtain ⟨t',e',y⟩:=za3 e;cases y;obtain ⟨v,e2,rv⟩:=ra.get e';exact ⟨v,by rw [getElem?_map,e2];rfl,rv⟩
 ·obtain ⟨a1,a2⟩:=qiV hr3 z hr2 k2 go;refine af y _ (hq λb i ts e=>?_) v _ (Rp.mapS (λa vs h=>qa3 go h) ry) a1 a2;obtain ⟨fd',body',clos',c',ws',_,f',_⟩:=hr3 b _ e;obtain ⟨pm',ctv',fo'⟩:=f'.fo;exact (k2 b _ (JU z fo' λx v d y=>by cases y;cases d) (qch e) rfl).2
def spV (Φ:Nat->Option Sp3) (a:Addr):Sp3:=λxs G q=>match G a with
 |some (.clo i ts)=>(match Φ i with|some S=>S (xs++ts) (TD G) (λy G2=>(∀ b i ts,G b=some (.clo i ts)->G2 b=none)->q y (qeW G G2))|none=>False)
 |_=>False
def cv3 (Φ:Nat->Option Sp3) (tf:TE3) (ta:TA3):TE3:=λτ G q=>tf τ G λx G1=>match x with
 |.ref a=>ta τ G1 λxs G2=>spV Φ a xs G2 q
 |_=>False
def qgu {X:Cx} {Φ:Nat->Option Sp3} {k:Nat} {x:Str} {p pos:Pos} {e:Expr} {es:List Expr} {tf:TE3} {ta:TA3} (hΦ:∀ i S,Φ i=some S->∃ k0,k0+1<=k/\Lam3 X.prog X.w X.K X.mg X.base k0 i S) (hr:Room k X.A) (hf:E3 X (.Name x p) tf) (ha:A3 X (e::es) ta)
  (he:starEach (e::es) X.env=(false,eval e X.env)::starEach es X.env:=by rfl) (hpl:(backTo pos (starEach es X.env)).any (·.1)=false:=by rfl):E3 X (.Call (.Name x p) (e::es) [] pos) (cv3 Φ tf ta):=by
 intro pins s σ H Q I ⟨τ,G,q,rl,h,af⟩;refine wpAny_Call_Name_kw (thn (hf pins s σ H (λv H1=>∃ a G1,v=.ref a/\Rel X.K τ G1 σ H1/\Kp G H G1 H1/\ta τ G1 λxs G2=>spV Φ a xs G2 q) I (zf rl h λy G1 h1 v H1 rv hr1 k1 rl1=>?_)) λv s1 ⟨v',H1,I1,rv,a,G1,e1,rl1,k1,h1⟩=>?_)
 ·cases y with
  |ref a=>cases rv;exact ⟨a,G1,rfl,rl1,k1,h1⟩
  |_=>exact h1.elim
 ·subst e1;cases (show v=Value.ref a from rv);have key:=ha pos pins s1 σ H1 (λvs H2=>∃ xs G2,Rps X.K H2 xs vs/\HR X.K G2 H2/\Kp G H G2 H2/\spV Φ a xs G2 q) I1 (ZK rl1 h1 λxs G2 h2 vs H2 rs hr2 k2 rl2=>⟨xs,G2,rs,hr2,k1.trans k2,h2⟩);rw [he] at key ⊢;refine PySem.W.callWith_of (P:=PySem.W.FnAt a) (by show ((false||(backTo pos (starEach es X.env)).any (·.1))||false)=false;rw [hpl];rfl) PySem.W.keeps_F (Calls.evalArgs_plain (thn key λus s2 ⟨vs,H2,I2,r,xs,G2,rs,hr2,k2,h2⟩=>?_));unfold spV at h2;split at h2
  ·rename_i i ts g;split at h2
   ·rename_i S hS;obtain ⟨k0,hk,L⟩:=hΦ i S hS;refine ⟨?_,qgF L (hr.mono hk) I2 hr2 g rs r h2 (af.back k2)⟩;obtain ⟨fd,body,clos,c,ws,_,f,_⟩:=hr2 a _ g;obtain ⟨pm,ctv,fo⟩:=f.fo;exact ⟨_,_,_,_,(I2.hok a _ fo).1⟩
   ·exact h2.elim
  ·exact h2.elim
def qmm (P:Addr) (q:Str) (params:Arguments) (body:Expr) (scope:Scope) (clos:List (Str×Addr)):TE:=λ_ H Q=>TK H P q/\∀ f c fo oc H',LamNew H H' P f c fo oc q->LamO fo params body scope clos q c->Q (.ref f) H'
section
variable {K:Frg} {G:Gp} {H H':Hp} {P f c:Addr} {fo oc:Obj} {q:Str}
def OR.mono (m:∀ b o,T1 o=false->H b=some o->H' b=some o) {a:Addr} {o:O} (x:OR K H a o):OR K H' a o:=by
 have sq:∀ a vs,SqT K H a vs->SqT K H' a vs:=λa vs h=>by
  rcases h with h|h
  ·rcases h with h|⟨o,h⟩
   ·exact .inl (.inl (m _ _ rfl h))
   ·exact .inl (.inr ⟨o,m _ _ rfl h⟩)
  ·exact .inr h
 cases o with
 |lst xs=>obtain ⟨vs,h1,h2⟩:=x;exact ⟨vs,m _ _ rfl h1,h2.mapS sq⟩
 |frz xs=>obtain ⟨vs,⟨o,h1⟩,h2⟩:=x;exact ⟨vs,⟨o,m _ _ rfl h1⟩,h2.mapS sq⟩
 |dct kvs=>obtain ⟨vs,h1,h2⟩:=x;exact ⟨vs,m _ _ rfl h1,h2.mapS sq⟩
 |tab ks xs=>obtain ⟨vs,h1,h2⟩:=x;exact ⟨vs,m _ _ rfl h1,h2.mapS sq⟩
 |exn C=>exact m _ _ rfl x
 |clo i ts=>
  obtain ⟨fd,body,clos,c,ws,l,f,r⟩:=x;exact ⟨fd,body,clos,c,ws,l,f.keep λb o _ q=>m _ _ rfl q,r.mapS sq⟩
theorem LamNew.hr (N:LamNew H H' P f c fo oc q) (hr:HR K G H) (one:∀ t∈X6 K,t.2.1=P->t.2.2=q):HR K G H'/\Kp G H G H':=by
 refine ⟨⟨λa o e=>(hr a o e).mono N.old,λt ht=>?_⟩,λa o h g t=>⟨N.old a o t h,g⟩⟩;by_cases z:t.2.1=P
 ·rw [z,one t ht z];exact N.tab
 ·exact (hr.tabs t ht).keep (λps e=>N.oldP _ _ z e) λc oc e _=>N.old _ _ rfl e
end
def qcO (G G3:Gp):Gp:=λb=>match G3 b with
 |some (.clo _ _)=>G b
 |x=>x
def ExG (G G':Gp):Prop:=∀ b o,G b=some o->G' b=some o
def qi2 {G G3:Gp} {b:Addr} {o:O} (h:qcO G G3 b=some o):(G3 b=some o/\∀ i ts,o≠.clo i ts)\/(∃ i ts,G3 b=some (.clo i ts))/\G b=some o:=by
 unfold qcO at h;split at h
 ·rename_i i ts e;exact .inr ⟨⟨i,ts,e⟩,h⟩
 ·rename_i n;exact .inl ⟨h,λi ts z=>n i ts (by rw [h,z])⟩
theorem DK {env:Env}:∀ (l:List (Str×NameKind)) (cs:List (Str×Addr)),(l.map λp=>p.1).Nodup->(cs.map λp=>p.1).Nodup->(∀ x∈cs.map (λp=>p.1),x∉l.map λp=>p.1)->((clos env l cs).map λp=>p.1).Nodup
 |[],_,_,h,_=>h
 | (n,k)::r,cs,h1,h2,h3=>by
  have a:=List.nodup_cons.mp h1;unfold clos;split
  ·refine DK r _ a.2 (List.nodup_cons.mpr ⟨λz=>h3 n z (by simp),h2⟩) λx hx=>?_;rcases mem_cons.mp hx with rfl|hx
   ·exact a.1
   ·exact λz=>h3 x hx (v6 _ z)
  ·exact DK r _ a.2 h2 λx hx z=>h3 x hx (v6 _ z)
def XX {sc:Scope} {x:Str}:x∈frN sc↔(x,NameKind.free)∈sc.names:=by
 unfold frN;constructor
 ·intro h;obtain ⟨⟨y,k⟩,hm,rfl⟩:=mem_map.mp h;obtain ⟨h1,h2⟩:=List.mem_filter.mp hm;have:k=.free:=by simpa using h2
  subst this;exact h1
 ·intro h;exact mem_map.mpr ⟨(x,.free),List.mem_filter.mpr ⟨h,by simp⟩,rfl⟩
structure LamArg (X:Cx) (q:Str) (i:Nat) (m:List Nat) (params:Arguments) (body:Expr) (scope:Scope):Prop where
 fd:∃ fd,TZ X.K i=some fd/\fd.params=params/\fd.body=.expr body/\fd.scope=scope/\fd.qualname=q
 dfl:defaultsOf params X.env=([],[])
 kind:∀ y∈scope.names,y.2=.free->X.env.kindOf y.1=some .cell
 nd:(scope.names.map λp=>p.1).Nodup
 at':m.map (λj=>X.N[j]?)=(frN scope).map some
def qcQ (τ:St3):List Nat->Option (List T)
 |[]=>some []
 |j::r=>match τ[j]? with
  |some (some t)=>(qcQ τ r).map λts=>t::ts
  |_=>none
theorem MF {K:Frg} {τ:St3} {G:Gp} {σ:L2.St} {H:Hp} (rl:Rel K τ G σ H):∀ {m:List Nat} {ts:List T},qcQ τ m=some ts->∃ ws,Rps K H ts ws/\ws.length=m.length/\∀ (i j:Nat) (w:V),m[i]?=some j->ws[i]?=some w->σ[j]?=some (some w)
 |[],ts,h=>by cases h;exact ⟨[],.nil,rfl,λi j w e=>by simp at e⟩
 |j::r,ts,h=>by
  unfold qcQ at h;split at h
  ·rename_i t e;obtain ⟨ts',h',rfl⟩:=za3 h;obtain ⟨v,e1,rv⟩:=rl.st j t e;obtain ⟨ws,rs,l,a⟩:=MF rl h';refine ⟨v::ws,.cons rv rs,by simp [l],λi j' w e2 e3=>?_⟩;cases i with
   |zero=>simp at e2 e3;subst e2;subst e3;exact e1
   |succ i=>exact a i j' w (by simpa using e2) (by simpa using e3)
  ·cases h
def cl2 (sp:Sp3) (t1:TE3) (tr:TA3) (i1 i2:Nat) (m1 m2:List Nat):TE3:=λτ G q=>t1 τ G λx1 G1=>tr τ G1 λrs G2=>∃ c1 c2,qcQ τ m1=some c1/\qcQ τ m2=some c2/\∀ f1 f2,G2 f1=none->G2 f2=none->f1≠f2 ->
 sp (x1::.ref f1::.ref f2::rs) (gu (gu G2 f1 (.clo i1 c1)) f2 (.clo i2 c2)) λy G3=>ExG (gu (gu G2 f1 (.clo i1 c1)) f2 (.clo i2 c2)) G3/\q y (qcO G2 G3)
section
variable {X:Cx} {pins:List (Addr×Obj)} {σ:L2.St} {H:Hp} {s:Shared} {q:Str} {i:Nat} {m:List Nat} {params:Arguments} {body:Expr} {scope:Scope}
theorem LamArg.has (L:LamArg X q i m params body scope) (I:Inv X pins σ H s):∀ y∈scope.names,y.2=.free->∃ c,X.env.cells.lookup y.1=some c:=λy hy e=>I.ok.has y.1 (.inl (L.kind y hy e))
def LamArg.look (L:LamArg X q i m params body scope) (I:Inv X pins σ H s) {x:Str} {c:Addr} (h:(clos X.env scope.names []).lookup x=some c):X.env.cells.lookup x=some c:=Q8 _ _ _ _ (L.has I) (λ_ _ z=>by simp at z) h
def LamArg.clo (L:LamArg X q i m params body scope) (I:Inv X pins σ H s):CloOk (clos X.env scope.names []) (frN scope):=⟨λx y a h1 h2=>I.ok.inj x y a (L.look I h1) (L.look I h2),λx hx=>VI _ _ _ (.inl (XX.mp hx)),DK _ _ L.nd (by simp) (by simp)⟩
def LamArg.caps (L:LamArg X q i m params body scope) (I:Inv X pins σ H s) {S:List Addr} (hS:∀ x c,(clos X.env scope.names []).lookup x=some c->c∈S) {ws:List V} (hl:ws.length=m.length) (hw:∀ (i j:Nat) (w:V),m[i]?=some j->ws[i]?=some w->σ[j]?=some (some w)):qmg (fzS S s.heap H) (clos X.env scope.names []) (frN scope) ws:=by
 have fz:∀ {b o},b∈S->s.heap.get? b=some o->fzS S s.heap H b=some (.frz o (.own b)):=λ{b o} z e=>by
  show (if b∈S then _ else _)=_;rw [if_pos z,e];rfl
 have ml:=congrArg List.length L.at';rw [length_map,length_map] at ml;refine ⟨by omega,λx c e=>?_,λj x v e1 e2=>?_⟩
 ·obtain ⟨v,o,ho,hd⟩:=I.cell x c (L.look I e);exact ⟨o,v,fz (hS x c e) ho,hd⟩
 ·have at1:=congrArg (λl=>l[j]?) L.at';simp only [getElem?_map,e1,Option.map_some] at at1;obtain ⟨n,hn,an⟩:=za3 at1;have k:=L.kind (x,.free) (XX.mp (v9 e1)) rfl;obtain ⟨mm,_,hl2⟩:=I.loc;obtain ⟨u,rv,lk⟩:=hl2 n x v an (hw j n v hn e2) (.inr (.inl k));rcases lk with ⟨lk,_⟩|⟨_,c,hc,o,ho,hd⟩
  ·rw [k] at lk;cases lk
  ·obtain ⟨c',hc'⟩:=(L.clo I).has x (v9 e1);have:=L.look I hc';rw [hc] at this;cases this;exact ⟨c,o,u,hc',fz (hS x c hc') ho,hd,rv⟩
end
def OR.cloM {K:Frg} {H H':Hp} {a:Addr} {i:Nat} {ts:List T} (fz:∀ b o u,H b=some (.frz o u)->H' b=some (.frz o u)) (tu:∀ b xs,H b=some (.tup xs)->H' b=some (.tup xs)) (x:OR K H a (.clo i ts)):OR K H' a (.clo i ts):=by
 obtain ⟨fd,body,clos,c,ws,l,f,r⟩:=x;refine ⟨fd,body,clos,c,ws,l,f.keep λb o _ q=>fz _ _ _ q,r.mapS λa vs h=>?_⟩;rcases h with h|h
 ·rcases h with h|⟨o,h⟩
  ·exact .inl (.inl (tu _ _ h))
  ·exact .inl (.inr ⟨o,fz _ _ _ h⟩)
 ·exact .inr h
def MP {G:Gp} {b:Addr} {o:O} (h:G b=some o) (n:∀ i ts,o≠.clo i ts):TD G b=some o:=by
 unfold TD;split
 ·rename_i i ts e;rw [h] at e;cases e;exact absurd rfl (n i ts)
 ·exact h
def qcg {K:Frg} {H H':Hp} (m:∀ b o,T1 o=false->H b=some o->H' b=some o):∀ a vs,SqT K H a vs->SqT K H' a vs:=λa vs h=>by
 rcases h with h|h
 ·rcases h with h|⟨o,h⟩
  ·exact .inl (.inl (m _ _ rfl h))
  ·exact .inl (.inr ⟨o,m _ _ rfl h⟩)
 ·exact .inr h
def LamArg.or {X:Cx} {pins:List (Addr×Obj)} {σ:L2.St} {H:Hp} {s:Shared} {q:Str} {i:Nat} {m:List Nat} {params:Arguments} {body:Expr} {scope:Scope} (L:LamArg X q i m params body scope) (I:Inv X pins σ H s) {S:List Addr} (hS:∀ x c,(clos X.env scope.names []).lookup x=some c->c∈S) (hn:∀ b∈S,H b=none)
  {τ:St3} {G:Gp} (rl:Rel X.K τ G σ H) {ts:List T} (hc:qcQ τ m=some ts) {f c:Addr} {fo oc:Obj} (hf:H f=some (.frz fo (.own f))) (hcc:H c=some (.frz oc (.own c))) (cr:CdR oc q) (O:LamO fo params body scope (clos X.env scope.names []) q c):OR X.K (fzS S s.heap H) f (.clo i ts):=by
 obtain ⟨fd,l,e1,e2,e3,e4⟩:=L.fd;obtain ⟨ws,rs,wl,hw⟩:=MF rl hc;have fz:∀ {b o},H b=some o->fzS S s.heap H b=some o:=λ{b o} h=>(if_neg (λz=>by rw [hn b z] at h;cases h)).trans h;obtain ⟨pm,ctv,rfl⟩:=O.ex;have cl:=L.clo I;have cp:=L.caps I hS wl hw;subst e1 e3 e4;exact ⟨fd,body,_,c,ws,l,⟨e2,⟨pm,ctv,fz hf⟩,⟨oc,fz hcc,cr⟩,cl,cp⟩,rs.mapS (qcg λb o _ h=>fz h)⟩
def qmD {X:Cx} {k:Nat} {x:Str} {p pos:Pos} {e1:Expr} {pr1 pr2:Arguments} {b1 b2:Expr} {sA sB:Scope} {o1 o2:Pos} {es:List Expr} {sp:Sp3} {t1:TE3} {tr:TA3} {c P:Addr} {q:Str} {i1 i2:Nat} {m1 m2:List Nat}
  (F:Fn3 X.prog X.w X.K X.mg X.base k x sp) (hr:Room k X.A) (hg:Gl X x) (h1:E3 X e1 t1) (hrs:A3 X es tr) (hc:X.env.code=.ref c) (C:PySem.W.CodeHd X.base c P) (B:qei X.mg X.base) (hq:X.env.qual++"<lambda>" = q) (tk:(c,P,q)∈X6 X.K) (one:∀ t∈X6 X.K,t.2.1=P->t.2.2=q)
  (L1:LamArg X q i1 m1 pr1 b1 sA) (L2:LamArg X q i2 m2 pr2 b2 sB) (fnT:∀ x,X.fn x=true) (hdb:(x==("__debug__" : Str))=false:=by decide)
  (he:starEach (e1::.Lambda pr1 b1 sA o1::.Lambda pr2 b2 sB o2::es) X.env=(false,eval e1 X.env)::starEach (.Lambda pr1 b1 sA o1::.Lambda pr2 b2 sB o2::es) X.env:=by rfl)
  (hpl:(backTo pos (starEach (.Lambda pr1 b1 sA o1::.Lambda pr2 b2 sB o2::es) X.env)).any (·.1)=false:=by rfl):E3 X (.Call (.Name x p) (e1::.Lambda pr1 b1 sA o1::.Lambda pr2 b2 sB o2::es) [] pos) (cl2 sp t1 tr i1 i2 m1 m2):=by
 obtain ⟨f,fd,ps,F,b,kp,mm⟩:=F;intro pins s σ H Q I ⟨τ,G,qq,rl,h,af⟩;have pl:∀ {i:Nat} {m:List Nat} {pr:Arguments} {bd:Expr} {sc:Scope} {o:Pos},LamArg X q i m pr bd sc->PE X (.Lambda pr bd sc o) (qmm P q pr bd sc (clos X.env sc.names [])):=λ{i m pr bd sc o} L pins s σ H Q I ⟨T,h⟩=>
  thn (qdE I hc C B T hq L.dfl (VC (L.has I))) λv s' ⟨f,c',fo,oc,H',e,I',N,O⟩=>⟨.ref f,H',I',e,h f c' fo oc H' N O⟩
 have hA:PA X (e1::.Lambda pr1 b1 sA o1::.Lambda pr2 b2 sB o2::es) (qec (lE X.K t1) (qec (qmm P q pr1 b1 sA (clos X.env sA.names [])) (qec (qmm P q pr2 b2 sB (clos X.env sB.names [])) (lA X.K tr)))):=j6 h1 (j6 (pl L1) (j6 (pl L2) hrs (by rfl)) (by rfl)) he;refine wpAny_Call_Name_kw (qaF I hg mm ?_ hdb);refine PySem.W.callWith_K (h₀:=X.base) I.ok.mod.kin kp (thn (hA pos pins s σ H (λvs H4=>∃ x1 rs G2 f1 f2 c1 c2 fo1 fo2 oc1 oc2 v1 vr,vs=v1::.ref f1::.ref f2::vr/\Rps X.K H4 (x1::rs) (v1::vr)/\Rel X.K τ G2 σ H4/\Kp G H G2 H4/\(H4 f1=some (.frz fo1 (.own f1))/\H4 c1=some (.frz oc1 (.own c1))/\CdR oc1 q/\LamO fo1 pr1 b1 sA (clos X.env sA.names []) q c1/\G2 f1=none) /\
   (H4 f2=some (.frz fo2 (.own f2))/\H4 c2=some (.frz oc2 (.own c2))/\CdR oc2 q/\LamO fo2 pr2 b2 sB (clos X.env sB.names []) q c2/\G2 f2=none)/\f1≠f2/\∃ d1 d2,qcQ τ m1=some d1/\qcQ τ m2=some d2/\sp (x1::.ref f1::.ref f2::rs) (gu (gu G2 f1 (.clo i1 d1)) f2 (.clo i2 d2)) λy G3=>ExG (gu (gu G2 f1 (.clo i1 d1)) f2 (.clo i2 d2)) G3/\qq y (qcO G2 G3)) I ?_) λus s1 ⟨vs,H4,I1,r,x1,rs,G2,f1,f2,c1,c2,fo1,fo2,oc1,oc2,v1,vr,ev,rrs,rl4,k4,⟨hf1,hc1,cr1,O1,g1⟩,⟨hf2,hc2,cr2,O2,g2⟩,nf,d1,d2,cp1,cp2,hsp⟩=>⟨I1.kIn,?_⟩) he hpl
 ·-- the arguments
  refine zf rl h λx1 G1 h1 v1 H1 rx1 hr1 k1 rl1=>⟨hr1.tabs _ tk,λf1 c1 fo1 oc1 H2 N1 O1=>?_⟩
  obtain ⟨hr2,k2⟩:=N1.hr hr1 one;have rl2:=rl1.next hr2 k2;refine ⟨hr2.tabs _ tk,λf2 c2 fo2 oc2 H3 N2 O2=>?_⟩;obtain ⟨hr3,k3⟩:=N2.hr hr2 one;have rl3:=rl2.next hr3 k3;have g1:G1 f1=none:=hr1.free N1.f0;have g2:G1 f2=none:=hr2.free N2.f0;have nf:f1≠f2:=λz=>by have:=N2.f0;rw [← z,N1.f1] at this;cases this
  have hf1:=N2.old _ _ rfl N1.f1;have hc1:=N2.old _ _ rfl N1.c1;refine ZK rl3 h1 λrs G2 h2 vr H4 rrs hr4 k4 rl4=>?_;obtain ⟨d1,d2,cp1,cp2,hs⟩:=h2;have gf:∀ {a:Addr} {o:Obj},G1 a=none->H3 a=some (.frz o (.own a))->H4 a=some (.frz o (.own a))/\G2 a=none:=λz e=>k4 _ _ e z rfl;obtain ⟨a1,a2⟩:=gf g1 hf1;obtain ⟨a3,a4⟩:=gf g2 N2.f1;obtain ⟨a5,_⟩:=gf (hr3.noneC hc1 N1.cr.nf) hc1;obtain ⟨a6,_⟩:=gf (hr3.noneC N2.c1 N2.cr.nf) N2.c1;exact ⟨x1,rs,G2,f1,f2,c1,c2,fo1,fo2,oc1,oc2,v1,vr,rfl,.cons (((rx1.keep hr1 k2).keep hr2 k3).keep hr3 k4) rrs,rl4,((k1.trans k2).trans k3).trans k4,⟨a1,a5,N1.cr,O1,a2⟩,⟨a3,a6,N2.cr,O2,a4⟩,nf,d1,d2,cp1,cp2,hs f1 f2 a2 a4 nf⟩
 ·-- the call
  subst ev;have hr4:=rl4.hp
  let S:List Addr:=(clos X.env sA.names []).map (λp=>p.2)++(clos X.env sB.names []).map λp=>p.2
  have inS:∀ b∈S,∃ x,X.env.cells.lookup x=some b:=λb hb=>by
   rcases List.mem_append.mp hb with hb|hb
   ·obtain ⟨⟨x,a⟩,hm,rfl⟩:=mem_map.mp hb;exact ⟨x,L1.look I1 (zP (L1.clo I1).nd hm)⟩
   ·obtain ⟨⟨x,a⟩,hm,rfl⟩:=mem_map.mp hb;exact ⟨x,L2.look I1 (zP (L2.clo I1).nd hm)⟩
  have S1:∀ x c,(clos X.env sA.names []).lookup x=some c->c∈S:=λx c e=>List.mem_append_left _ (mem_map.mpr ⟨(x,c),PySem.mem_of_lookup e,rfl⟩);have S2:∀ x c,(clos X.env sB.names []).lookup x=some c->c∈S:=λx c e=>v7 _ (mem_map.mpr ⟨(x,c),PySem.mem_of_lookup e,rfl⟩);have hn:∀ b∈S,H4 b=none:=λb hb=>let ⟨x,e⟩:=inS b hb;I1.freeC x b e
  have th:∀ b∈S,∃ o,s1.heap.get? b=some o:=λb hb=>let ⟨x,e⟩:=inS b hb;let ⟨v,o,ho,_⟩:=I1.cell x b e;⟨o,ho⟩
  have ce:∀ b∈S,∃ o v,s1.heap.get? b=some o/\o.data=.cell v:=λb hb=>let ⟨x,e⟩:=inS b hb;let ⟨v,o,ho,d⟩:=I1.cell x b e;⟨o,v,ho,d⟩
  have ge:∀ b∈S,X.s₀.heap.objs.size<=b:=λb hb=>let ⟨x,e⟩:=inS b hb;I1.ok.cab x b (fnT x) e
  have nst:∀ b∈S,b∉frs X.stack:=λb hb z=>by
   obtain ⟨x,e⟩:=inS b hb;rcases mem_cons.mp (I1.stkSub b z) with z|z
   ·exact I1.cne x b e z
   ·obtain ⟨_,o,ho,_⟩:=I1.ok.funs.mem z;exact absurd (v8 (y4 ho) (ge b hb)) (Nat.lt_irrefl _)
  have fz:∀ {b o},H4 b=some o->fzS S s1.heap H4 b=some o:=λ{b o} h=>(if_neg (λz=>by rw [hn b z] at h;cases h)).trans h;have fn0:∀ {b},H4 b=none->b∉S->fzS S s1.heap H4 b=none:=λ{b} h z=>(if_neg z).trans h;have hok':=qnD hn th I1.hok;have hrG:HR X.K (gu (gu G2 f1 (.clo i1 d1)) f2 (.clo i2 d2)) (fzS S s1.heap H4):=⟨λa o e=>by
   by_cases z2:a=f2
   ·subst z2;rw [qD] at e;cases e;exact L2.or I1 S2 hn rl4 cp2 hf2 hc2 cr2 O2
   ·rw [zX z2] at e;by_cases z1:a=f1
    ·subst z1;rw [qD] at e;cases e;exact L1.or I1 S1 hn rl4 cp1 hf1 hc1 cr1 O1
    ·rw [zX z1] at e;exact (hr4 a o e).mono λb o _ h=>fz h,λt ht=>(hr4.tabs t ht).keep (λps e=>fz e) λc oc e _=>fz e⟩
  have e0:=I1.env0;have bsS:∀ b o,X.base.get? b=some o->b∉S:=λb o e z=>absurd (v8 (v8 (y4 e) I1.ok.bsz) (ge b z)) (Nat.lt_irrefl _);have E0':Env0 X.prog X.w X.K X.mg X.base X.A X.stack s1 (fzS S s1.heap H4):=⟨e0.frames,e0.mod,λb o e=>⟨(e0.bs b o e).1,fn0 (e0.bs b o e).2 (bsS b o e)⟩,e0.bsz,e0.funs,λb z=>fn0 (e0.frf b z) λy=>nst b y z,hok',e0.bare⟩
  have rr:Rps X.K (fzS S s1.heap H4) (x1::.ref f1::.ref f2::rs) (v1::.ref f1::.ref f2::vr):=by
   have:=rrs.mapS (H2:=fzS S s1.heap H4) (qcg λb o _ h=>fz h);cases this with
   |cons a b=>exact .cons a (.cons (.ref f1) (.cons (.ref f2) b))
  let Qc:VK:=λv H2=>∃ y G3,(ExG (gu (gu G2 f1 (.clo i1 d1)) f2 (.clo i2 d2)) G3/\qq y (qcO G2 G3))/\Rp X.K H2 y v/\HR X.K G3 H2/\Kp (gu (gu G2 f1 (.clo i1 d1)) f2 (.clo i2 d2)) (fzS S s1.heap H4) G3 H2
  have spec:lSp X.K sp (v1::.ref f1::.ref f2::vr) (fzS S s1.heap H4) Qc (λ_ _ _=>False):=⟨_,_,_,hrG,rr,hsp,λy G3 hq v H2 ry hr3 k3=>⟨y,G3,hq,ry,hr3,k3⟩⟩
  have hl:(us++[]).length=ps.length:=by rw [List.append_nil,← r.length];exact F.len _ _ _ _ spec
  have bb:=b s1 us I1.kIn hl;rw [List.append_nil] at bb;refine wpAny_call (codeAny_mono (F.run X.A X.stack s1 _ ⟨us,[]⟩ us _ Qc (λ_ _ _=>False) hr E0' bb r spec) λres s' hq=>?_);cases res with
  |error e=>exact False.elim hq
  |ok fl=>
   cases fl with
   |ret u=>
    obtain ⟨v,H2,os,bare,un,ok2,rv,y,G3,⟨ex,hqq⟩,ry,hr3,k3⟩:=hq;obtain ⟨un2,ok3,kk⟩:=qks un hn th ok2;have z:FzC H2 S:=λb hb=>let ⟨o,v,g,d⟩:=ce b hb;⟨o,v,(kk b hb o g).2,d⟩
    have hrm:=hr3.rem z;have J:Inv X pins σ (rem S H2) s':=I1.call' (ch:=[]) os un2 ok3 bare λb z=>absurd z (by simp);have exo:∀ {b o},G2 b=some o->G3 b=some o:=λ{b o} g=>ex b o (by
     rw [zX (by rintro rfl;rw [g2] at g;cases g),zX (by rintro rfl;rw [g1] at g;cases g)];exact g)
    have exf:∀ {a},a=f1\/a=f2->∃ i ts,G3 a=some (.clo i ts):=λ{a} w=>by
     rcases w with rfl|rfl
     ·exact ⟨i1,d1,ex _ _ (by rw [zX nf];exact qD)⟩
     ·exact ⟨i2,d2,ex _ _ qD⟩
    refine ⟨v,_,J,rv,af y _ hqq v _ (ry.mapS λa vs h=>LN z h) ⟨λa o e=>?_,hrm.tabs⟩ (k4.trans λa o e g t=>?_)⟩
    ·rcases qi2 e with ⟨e1,n⟩|⟨⟨i,ts,e1⟩,e2⟩
     ·exact hrm a o (MP e1 n)
     ·have:=exo e2;rw [e1] at this;cases this;exact (hr4 a _ e2).cloM un2.frzs un2.tups
    ·have nS:a∉S:=λw=>by rw [hn a w] at e;cases e
     by_cases w:a=f1\/a=f2
     ·obtain ⟨i,ts,y1⟩:=exf w;refine ⟨?_,?_⟩
      ·rcases w with rfl|rfl
       ·rw [hf1] at e;cases e;exact un2.frzs _ _ _ hf1
       ·rw [hf2] at e;cases e;exact un2.frzs _ _ _ hf2
      ·unfold qcO;rw [y1];exact g
     ·have w1:a≠f1:=λz=>w (.inl z);have w2:a≠f2:=λz=>w (.inr z);obtain ⟨h1,h2⟩:=k3 a o (fz e) (by rw [zX w2,zX w1];exact g) t;exact ⟨(if_neg nS).trans h1,by unfold qcO;rw [h2]⟩
   |_=>exact False.elim hq
end L3
namespace Pu
open PySem L2 L3
abbrev PhD:=Nat->Option (List PyData->Option PyData)
def C8 (i:Nat) (cs:List PyData):PyData:=.dict [(.int (i:Int),.tuple cs)]
def phS (Φ:PhD):Nat->Option Sp3:=λi=>(Φ i).map λF=>PSp F false
def Fv (Φ:PhD):PyData->List PyData->Option PyData
 |.dict [(.int i,.tuple cs)],ds=>if 0<=i/\EN (ds++cs)=true then (Φ i.toNat).bind λF=>(F (ds++cs)).bind λv=>if noC v=true then some v else none else none
 |_,_=>none
mutual
theorem Dq.noc {G G':Gp} (h:∀ p xs,G p=some (.lst xs)->G' p=some (.lst xs)):∀ {x:T} {d:PyData},Dq G x d->noC d=true->Dq G' x d
 |_,_,.non,_=>.non
 |_,_,.bl b,_=>.bl b
 |_,_,.int i,_=>.int i
 |_,_,.str x,_=>.str x
 |_,_,.tup hs,n=>.tup (Dqs.noc h hs (by unfold noC at n;exact n))
 |_,_,.lst g hs,n=>.lst (h _ _ g) (Dqs.noc h hs (by unfold noC at n;exact n))
 |_,_,.clo _ _,n=>by unfold noC at n;cases n
theorem Dqs.noc {G G':Gp} (h:∀ p xs,G p=some (.lst xs)->G' p=some (.lst xs)):∀ {x:List T} {d:List PyData},Dqs G x d->EN d=true->Dqs G' x d
 |_,_,.nil,_=>.nil
 |_,_,.cons a b,n=>by
  unfold EN at n;have:=Bool.and_eq_true_iff.mp n;exact .cons (Dq.noc h a this.1) (Dqs.noc h b this.2)
end
def bCv {tf:TE3} {ta:TA3} (Φ:PhD) (a:PuE tf) (r:PuA ta):PuE (cv3 (phS Φ) tf ta):=⟨λρ=>(a.f ρ).bind λd=>(r.f ρ).bind λds=>Fv Φ d ds,a.fv++r.fv,false,λ{D τ ρ G q v} hv hd hf k=>by
 obtain ⟨d,e1,hf⟩:=obb hf;obtain ⟨ds,e2,hf⟩:=obb hf;refine a.ok hv.l hd e1 λx G1 E1 D1 _=>?_;unfold Fv at hf;split at hf
 ·rename_i i cs _ _;split at hf
  ·rename_i hc;obtain ⟨F,e3,hf⟩:=obb hf;obtain ⟨w,e4,hf⟩:=obb hf;split at hf
   ·rename_i hw;cases hf;cases D1 with
    |@clo p j ts _ g hs=>
     refine r.ok (hv.r.up E1) (hd.up E1) e2 λxs G2 E2 D2=>?_;have g2:G2 p=some (.clo j ts):=E2 _ _ (qm g).2;have hs2:=hs.up (jb E2);simp only [spV,g2,phS];rw [Int.toNat_natCast] at e3;rw [e3];have hd2:=(hd.up E1).up E2
     let D':Addr->Prop:=λb=>D b/\TD G2 b≠none
     have same:∀ p xs,rs D G2 p=some (.lst xs)->rs D' (TD G2) p=some (.lst xs):=λp xs h=>by
      obtain ⟨n,h⟩:=qm h;rw [zx λz=>n z.1];exact MP h λ_ _ y=>nomatch y
     refine ⟨D',ds++cs,v,(D2.append hs2).noc same hc.2,λb z=>z.2,e4,λy G3 E3 D3 _ fact=>?_⟩;refine k y _ ((E1.trans E2).trans λb o h=>?_) (D3.noc (λb xs h=>?_) hw) λz=>by cases z
     ·by_cases c:∃ i ts,G2 b=some (.clo i ts)
      ·obtain ⟨i,ts,c⟩:=c;rw [c] at h;cases h;exact qcj c
      ·rw [LC λi ts y=>c ⟨i,ts,y⟩];exact E3 _ _ (MP h λi ts y=>c ⟨i,ts,by rw [h,y]⟩)
     ·obtain ⟨n,h⟩:=qm h;have c:∀ i ts,G2 b≠some (.clo i ts):=λi ts y=>by rw [fact b i ts y] at h;cases h
      have nD:¬ D b:=λz=>n ⟨z,λw=>by
       have:=hd2 b z;cases e:G2 b with
       |none=>exact this e
       |some o=>rw [MP e λi ts y=>c i ts (by rw [e,y])] at w;cases w⟩
      rw [zx nD,LC c];exact h
   ·cases hf
  ·cases hf
 ·cases hf⟩
def qdt {tf:TE3} {ta:TA3} {Φ:PhD} {a:PuE tf} {r:PuA ta}:(bCv Φ a r).f=λρ=>(a.f ρ).bind λd=>(r.f ρ).bind λds=>Fv Φ d ds:=id rfl
def K6 {tf:TE3} {ta:TA3} {Φ:PhD} {a:PuE tf} {r:PuA ta}:(bCv Φ a r).nw=false:=id rfl
def qdV (ρ:Rho):List Nat->Option (List PyData)
 |[]=>some []
 |j::r=>(vw ρ j).bind λd=>(qdV ρ r).map λds=>d::ds
theorem KI {D:Addr->Prop} {G:Gp} {τ:St3} {ρ:Rho}:∀ {m:List Nat} {ds:List PyData},WR m D G τ ρ->qdV ρ m=some ds->∃ ts,qcQ τ m=some ts/\Dqs (rs D G) ts ds
 |[],_,_,h=>by cases h;exact ⟨[],rfl,.nil⟩
 |j::r,ds,hv,h=>by
  unfold qdV at h;obtain ⟨d,e1,h⟩:=obb h;obtain ⟨ds',e2,rfl⟩:=za3 h;obtain ⟨t,a,b⟩:=hv j (by simp) d e1;obtain ⟨ts,c,e⟩:=KI (λi hi=>hv i (by simp [hi])) e2;exact ⟨t::ts,by unfold qcQ;rw [a];simp [c],.cons b e⟩
def qmy {t1:TE3} {tr:TA3} (F:List PyData->Option PyData) (fr:Bool) (a:PuE t1) (r:PuA tr) (i1 i2:Nat) (m1 m2:List Nat):PuE (cl2 (PSp F fr) t1 tr i1 i2 m1 m2):=⟨λρ=>(a.f ρ).bind λd=>(r.f ρ).bind λds=>(qdV ρ m1).bind λc1=>(qdV ρ m2).bind λc2=>(F (d::C8 i1 c1::C8 i2 c2::ds)).bind λv=>if noC v=true then some v else none,a.fv++(r.fv++(m1++m2)),false,λ{D τ ρ G q v} hv hd hf k=>by
 obtain ⟨d,e1,hf⟩:=obb hf;obtain ⟨ds,e2,hf⟩:=obb hf;obtain ⟨c1,e3,hf⟩:=obb hf;obtain ⟨c2,e4,hf⟩:=obb hf;obtain ⟨w,e5,hf⟩:=obb hf;split at hf
 ·rename_i hw;cases hf;refine a.ok hv.l hd e1 λx G1 E1 D1 _=>r.ok (hv.r.l.up E1) (hd.up E1) e2 λxs G2 E2 D2=>?_;have E12:=E1.trans E2;obtain ⟨t1,a1,a2⟩:=KI (hv.r.r.l.up E12) e3;obtain ⟨t2,b1,b2⟩:=KI (hv.r.r.r.up E12) e4;have hd2:=(hd.up E1).up E2;refine ⟨t1,t2,a1,b1,λf1 f2 g1 g2 nf=>?_⟩;have X1:Ex G2 (gu G2 f1 (.clo i1 t1)):=QC g1;have X2:Ex (gu G2 f1 (.clo i1 t1)) (gu (gu G2 f1 (.clo i1 t1)) f2 (.clo i2 t2)):=QC (by rw [zX (Ne.symm nf)];exact g2);have X:=X1.trans X2;have n1:¬ D f1:=λz=>hd2 f1 z g1;have n2:¬ D f2:=λz=>hd2 f2 z g2;have r1:rs D (gu (gu G2 f1 (.clo i1 t1)) f2 (.clo i2 t2)) f1=some (.clo i1 t1):=by rw [zx n1,zX nf,qD]
  have r2:rs D (gu (gu G2 f1 (.clo i1 t1)) f2 (.clo i2 t2)) f2=some (.clo i2 t2):=by rw [zx n2,qD]
  refine ⟨D,_,v,.cons ((D1.up (jb E2)).up (jb X)) (.cons (.clo r1 (a2.up (jb X))) (.cons (.clo r2 (b2.up (jb X))) (D2.up (jb X)))),hd2.up X,e5,λy G3 E3 D3 _=>⟨λb o h=>E3 b o h,?_⟩⟩;have eq:∀ {b o},(∀ i ts,o≠.clo i ts)->G3 b=some o->qcO G2 G3 b=some o:=λ{b o} n h=>by
   unfold qcO;split
   ·rename_i i ts e;rw [h] at e;cases e;exact absurd rfl (n i ts)
   ·exact h
  refine k y _ (E12.trans λb o h=>?_) (D3.noc (λb xs h=>?_) hw) λz=>by cases z
  ·have h3:=E3 _ _ (X _ _ h);by_cases c:∃ i ts,o=.clo i ts
   ·obtain ⟨i,ts,rfl⟩:=c;unfold qcO;rw [h3];exact h
   ·exact eq (λi ts y=>c ⟨i,ts,y⟩) h3
  ·obtain ⟨n,h⟩:=qm h;rw [zx n];exact eq (λi ts y=>nomatch y) h
 ·cases hf⟩
def qf8 {t1:TE3} {tr:TA3} {F:List PyData->Option PyData} {fr:Bool} {a:PuE t1} {r:PuA tr} {i1 i2:Nat} {m1 m2:List Nat}:(qmy F fr a r i1 i2 m1 m2).f=λρ=>(a.f ρ).bind λd=>(r.f ρ).bind λds=>(qdV ρ m1).bind λc1=>(qdV ρ m2).bind λc2=>(F (d::C8 i1 c1::C8 i2 c2::ds)).bind λv=>if noC v=true then some v else none:=id rfl
end Pu
namespace L3
open PySem PySem.Spec PyProof.Rows L2
def qhT (ts:List Addr) (H:Hp):Prop:=∀ b,(b∉ts/\(H b=none\/∃ o xs,H b=some (.frz o (.lst xs))))\/(b∈ts/\H b=some (.tbl #[]))
def KK {K:Frg} {H:Hp} {a:Addr} {ns:List Int} {ts:List Addr} (hK:V8 K=true) (hO:qhT ts H) (hS:SqL K H a (ns.map V.int)):∃ o,H a=some (.frz o (.lst (ns.map V.int))):=by
 rcases hS with (h|h)|⟨o,its,n,h1,h2,_⟩
 ·rcases hO a with ⟨_,z|⟨o,xs,z⟩⟩|⟨_,z⟩<;>(rw [h] at z;cases z)
 ·exact h
 ·exact absurd h2 (XA hK h1)
def qaW {P:Program} {w:World} {K:Frg} {mg mb:Str->Option Value} {CX:CXT} {k:Nat} {fa a:Addr} {fd:FuncData} {x:Str} {sp:Sp} {s₁:Shared} {vs:List Value} {ns:List Int} {ts:List (Addr×Addr)}
  (KX:K.In s₁.heap) (hns:s₁.heap.Ns mainGlobals mg) (hb:s₁.heap.Ns builtinsNs mb) (hbb:∀ x:Str,x≠"__name__" -> mb x=bootBuiltins x) (hlim:s₁.heap.NoLimit) (hg:s₁.gens=#[])
  (bm:∃ bm ob,mg "__builtins__" = some (.ref bm)/\bm≠builtinsNs/\s₁.heap.get? bm=some ob/\ob.cls=.type "module"/\ob.dict=some builtinsNs/\ob.data=.plain)
  (hT:∀ t∈ts,PySem.W.CodeHd s₁.heap t.1 t.2/\s₁.heap.get? t.2=some (PySem.W.tabObj #[])/\K.lookup t.2=none)
  (ha:s₁.heap.get? a=some { cls:=.type "list",data:=.seq vs.toArray }) (hi:IntsAre vs ns) (hl:ns.length<=sizeLine) (hr:Room k callerA)
  (F:∀ base:Heap,K.In base->base.Ns mainGlobals mg->qei mg base->FnOk P w K mg base CX k fa fd [x] sp) (hbind:∀ (s:Shared) (u:Value),BindsTo s fd ⟨[u],[]⟩ [(x,u)])
  (hsp:∀ H:Hp,qhT (ts.map (·.2)) H->SqL K H a (ns.map V.int)->sp [.ref a] H (λv _=>v=.bl true) λ_ _ _=>False)
  (hCX:∀ H e s',CX [] H s₁ (λ_ _ _=>False) e s'->False) :
  codeAny (model P w) callerA (.call (.ref fa) ⟨[.ref a],[]⟩) (λr s'=>r=.ok (.ret (.bool true))/\OldK s₁.heap s'.heap/\s'.os=s₁.os/\AllBare s'.gens) s₁:=by
 have rv:=SC hi;have lenV:=hi.length;have tObj:∀ b,b∈ts.map (·.2)->s₁.heap.get? b=some (PySem.W.tabObj #[])/\K.lookup b=none:=λb hb=>by
  obtain ⟨t,ht,rfl⟩:=mem_map.mp hb;exact (hT t ht).2
 have aT:a∉ts.map (·.2):=λz=>by
  have:=(tObj a z).1;rw [ha] at this;have:=congrArg Obj.cls (Option.some.inj this);exact nomatch this
 have core:∀ H:Hp,qhT (ts.map (·.2)) H->SqL K H a (ns.map V.int)->HOk P w H s₁.heap->(∀ b,H b≠none->b=a\/b∈ts.map (·.2))->(H a≠none->K.lookup a=none) ->
   codeAny (model P w) callerA (.call (.ref fa) ⟨[.ref a],[]⟩) (λr s'=>r=.ok (.ret (.bool true))/\OldK s₁.heap s'.heap/\s'.os=s₁.os/\AllBare s'.gens) s₁:=by
  intro H hO hS hok hA hK;have base_of:∀ {b:Addr} {o:Obj},s₁.heap.get? b=some o->H b=none->(qcN s₁.heap H).get? b=some o:=λe n=>qdj e n;have noA:∀ {b:Addr} {o:Obj},s₁.heap.get? b=some o->(∀ vs n,o.data≠.seq vs n)->(∀ vs,o.data≠.fields vs)->H b=none:=λ{b o} e d1 d2=>by
   cases q:H b with
   |none=>rfl
   |some u=>
    rcases hA b (by rw [q];simp) with e'|e'
    ·subst e';rw [ha] at e;cases e;exact absurd rfl (d1 _ _)
    ·rw [(tObj b e').1] at e;cases e;exact absurd rfl (d2 _)
  have nsK:∀ {b:Addr} {m:Str->Option Value},s₁.heap.Ns b m->(qcN s₁.heap H).Ns b m:=λ{b m} ⟨o,es,ep,e,d,r⟩=>⟨o,es,ep,base_of e (noA e (λ_ _ z=>by rw [d] at z;cases z) λ_ z=>by rw [d] at z;cases z),d,r⟩
  have hKb:K.In (qcN s₁.heap H):=λb o e=>base_of (KX b o e) (by
   cases q:H b with
   |none=>rfl
   |some u=>
    rcases hA b (by rw [q];simp) with e'|e'
    ·subst e';rw [hK (by rw [q];simp)] at e;cases e
    ·rw [(tObj b e').2] at e;cases e)
  have hM:Mod K mg (qcN s₁.heap H):=⟨hKb,nsK hns,⟨mb,nsK hb,hbb⟩,let ⟨mc,h1,h2⟩:=hlim;⟨mc,nsK h1,h2⟩⟩
  have hB:qei mg (qcN s₁.heap H):=by
   obtain ⟨bm,ob,b1,b2,b3,b4,b5,b6⟩:=bm;refine ⟨bm,ob,b1,b2,λz=>?_,base_of b3 (noA b3 (λ_ _ z=>by rw [b6] at z;cases z) λ_ z=>by rw [b6] at z;cases z),b4,b5,b6⟩;obtain ⟨o,es,ep,e,d,_⟩:=hns;rw [z,e] at b3;cases b3;rw [d] at b6;cases b6
  have e0:Env0 P w K mg (qcN s₁.heap H) callerA [] s₁ H:=⟨rfl,hM,λb o e=>qhu e,Nat.le_of_eq (qah _ _),trivial,λb hb=>absurd (show b∈([]:List Addr) from hb) (by simp),hok,.of_eq hg⟩
  refine codeAny_mono ((F _ hKb (nsK hns) hB).run callerA [] s₁ H ⟨[.ref a],[]⟩ [.ref a] [.ref a] _ _ hr e0 (hbind s₁ (.ref a)) (.cons rfl .nil) (hsp H hO hS)) λr s' h=>?_;cases r with
  |error e=>exact (hCX H e s' h).elim
  |ok fl=>
   cases fl with
   |next=>exact False.elim h
   |brk=>exact False.elim h
   |cont=>exact False.elim h
   |ret u=>
    obtain ⟨v,H',os,bare,un,hok',r',q⟩:=h;have q':v=.bl true:=q;subst q';obtain rfl:u=Value.bool true:=r';refine ⟨rfl,⟨λb o e=>?_,λb o e=>un.there b o e (by simp)⟩,os,bare⟩;rcases hO b with ⟨_,z|⟨ob,xs,z⟩⟩|⟨m,z⟩
    ·exact .inl (un.keep b o e z (by intro z;exact absurd (show b∈([]:List Addr) from z) (by simp)) (by simp))
    ·have z2:=un.frzs b ob _ z;obtain ⟨e1,_⟩:=hok b _ z;obtain ⟨e2,_⟩:=hok' b _ z2;rw [e] at e1;cases e1;exact .inl e2
    ·obtain ⟨more,z2⟩:=un.tbls b _ z;obtain ⟨t,ht,rfl⟩:=mem_map.mp m;obtain ⟨c,h0,_⟩:=hT t ht;rw [h0] at e;cases e;exact .inr (.inl ⟨(c.tab h0).isCodeTable,rfl,#[],more,rfl,hok' _ _ z2⟩)
 cases hk:K.lookup a with
 |some o=>
  have e:=KX a o hk;rw [ha] at e;cases e;refine core (λb=>if b∈ts.map (·.2) then some (.tbl #[]) else none) (λb=>?_) (.inr ⟨_,vs.toArray,_,hk,rfl,rfl,rfl,by rw [size_toArray,lenV];exact hl,by simpa using rv⟩) (λb u z=>?_) (λb z=>.inr ?_) λz=>absurd (if_neg aT) z
  ·by_cases m:b∈ts.map (·.2)
   ·exact .inr ⟨m,if_pos m⟩
   ·exact .inl ⟨m,.inl (if_neg m)⟩
  ·by_cases m:b∈ts.map (·.2)
   ·have z':=(if_pos m).symm.trans z;cases z';exact (tObj b m).1
   ·have z':=(if_neg m).symm.trans z;cases z'
  ·by_cases m:b∈ts.map (·.2)
   ·exact m
   ·exact absurd (if_neg m) z
 |none=>
  refine core (λb=>if b∈ts.map (·.2) then some (.tbl #[]) else if b=a then some (.frz { cls:=.type "list",data:=.seq vs.toArray } (.lst (ns.map V.int))) else none) (λb=>?_) (.inl (.inr ⟨{ cls:=.type "list",data:=.seq vs.toArray },(if_neg aT).trans (if_pos rfl)⟩)) (λb u z=>?_) (λb z=>?_) λ_=>hk
  ·by_cases m:b∈ts.map (·.2)
   ·exact .inr ⟨m,if_pos m⟩
   ·by_cases hb:b=a
    ·exact .inl ⟨m,.inr ⟨_,_,(if_neg m).trans (if_pos hb)⟩⟩
    ·exact .inl ⟨m,.inl ((if_neg m).trans (if_neg hb))⟩
  ·by_cases m:b∈ts.map (·.2)
   ·have z':=(if_pos m).symm.trans z;cases z';exact (tObj b m).1
   ·by_cases hb:b=a
    ·have z':=((if_neg m).trans (if_pos hb)).symm.trans z;cases z';subst hb;exact ⟨ha,by rw [length_map];exact hl,vs,_,rv,ha⟩
    ·have z':=((if_neg m).trans (if_neg hb)).symm.trans z;cases z'
  ·by_cases m:b∈ts.map (·.2)
   ·exact .inr m
   ·by_cases hb:b=a
    ·exact .inl hb
    ·exact absurd ((if_neg m).trans (if_neg hb)) z
def qiT {l:PySem.W.OpenLaw} {k:Nat} {q:Program} {loose:List Str} {XP:(Str->Option Value)->Heap->Prop} {YP:World->Heap->Prop} {d:DefRec} {K:Params->PySem.W.Frag} {x:Str} {ts:List (Addr×Addr×Str)} (hn:l.most=some 63) (hdf:d.params.defaults=[]) (hr:Room k callerA)
  (hY:∀ (w:World) (h:Heap),YP w h->(K w.params).In h/\∀ t∈ts,h.get? t.2.1=some (PySem.W.tabObj #[])) (hK:∀ w:World,V8 (K w.params)=true) (hT:∀ w:World,X6 (K w.params)=ts)
  (hC:∀ w:World,∀ t∈ts,PySem.W.codeHdIn (K w.params) t.1 t.2.1=true/\(K w.params).lookup t.2.1=none)
  (F:∀ (w:World) (mg:Str->Option Value) (fa:Addr) (h:Heap),(K w.params).In h->h.Ns mainGlobals mg->mg d.name=some (.ref fa) ->
   ∃ fd:FuncData,(∀ (s:Shared) (u:Value),BindsTo s fd ⟨[u],[]⟩ [(x,u)])/\∀ base:Heap,(K w.params).In base->base.Ns mainGlobals mg->qei mg base->FnOk l.prog w (K w.params) mg base CX0 k fa fd [x] (lSp (K w.params) RF)) :
  PySem.W.WalkO q loose XP YP l.row.toRowW d [] (λf vs=>PySem.call f vs):=by
 refine Att.T0 hn hdf λw s₀ s₁ mg mb fa o pm cd doc a vs ns G Y ho hd hcd hmg hobj hints hlen hg=>?_;obtain ⟨KX,KT⟩:=hY w _ Y;obtain ⟨fd,hb,hF⟩:=F w mg fa _ KX G.T.g hmg;refine qaW (ts:=ts.map λt=>(t.1,t.2.1)) KX G.T.g G.T.b G.T.builtins G.T.nolimit hg G.T.bmain (λt ht=>?_) hobj hints (u7 hlen (by decide)) hr hF hb (λH hO hS=>?_) λH e s' z=>z
 ·obtain ⟨t',ht',rfl⟩:=mem_map.mp ht;exact ⟨PySem.W.codeHd_of_K KX (hC w t' ht').1,KT t' ht',(hC w t' ht').2⟩
 ·refine ⟨[.ref a],only a ns,λt _=>t=.bl true,qgQ (KK (hK w) hO hS) (λt ht=>?_),.cons (.ref a) .nil,⟨a,ns,rfl,by simp [only],hlen,λ_=>rfl⟩,λt G' e v H' r _ _=>by subst e;cases r;rfl⟩;rw [hT w] at ht;have m:t.2.1∈(ts.map λt=>(t.1,t.2.1)).map (·.2):=mem_map.mpr ⟨_,mem_map.mpr ⟨t,ht,rfl⟩,rfl⟩;rcases hO t.2.1 with ⟨n,_⟩|⟨_,z⟩
  ·exact absurd m n
  ·exact ⟨#[],z,trivial,λpos cv e=>by cases e⟩
end L3
namespace Hd
open PySem L2 L3 PySem.W
def qab (a:Addr) (fds:List FuncData) (ts:List (Addr×Addr×Str)):Frag:=(fds.map λfd=>(a,(⟨.str "" 0,none,.func fd,#[]⟩:Obj)))++ts.map λt=>(t.1,(⟨.str "" 0,none,.fields #[.ref t.2.1,.str t.2.2 0],#[]⟩:Obj))
def QJ {K D:Frag} {b:Addr}:(K++D).lookup b=(K.lookup b).or (D.lookup b):=by
 induction K with
 |nil=>rfl
 |cons p r ih=>
  obtain ⟨a,o⟩:=p;rw [cons_append,List.lookup_cons,List.lookup_cons];split
  ·rfl
  ·exact ih
def KU {K:Frag} {a:Addr} {fds:List FuncData} {ts:List (Addr×Addr×Str)} (h0:(K.lookup a).isSome=true) (h1:(ts.all λt=>(K.lookup t.1).isSome)=true) (b:Addr):(K++qab a fds ts).lookup b=K.lookup b:=by
 rw [QJ];cases e:K.lookup b with
 |some o=>rfl
 |none=>
  cases e2:(qab a fds ts).lookup b with
  |none=>rfl
  |some o=>
   rcases List.mem_append.mp (PySem.W.mem_of_lookupK e2) with m|m
   ·obtain ⟨fd,_,y⟩:=mem_map.mp m;cases y;rw [e] at h0;cases h0
   ·obtain ⟨t,ht,y⟩:=mem_map.mp m;cases y;have:=List.all_eq_true.mp h1 t ht;rw [e] at this;cases this
def qm2 {l:OpenLaw} {q:Program} {loose:List Str} {K:Params->Frag} {as:List Addr} {d:DefRec} {N:Nat} {k:Nat} {x:Str} {a₀:Addr} {fds:List FuncData} {ts:List (Addr×Addr×Str)} {tp:List Addr} (ha:∀ P,as=(K P).map (·.1)) (htp:tp=ts.map λt=>t.2.1)
  (ok:l.wellSaid=true)
  (left:LeftO l.prog q loose (λs=>xlAt q [] s&&recOk [] s) (λs=>(as.map s.heap.get?,tp.map s.heap.get?)) (λw=>((K w.params).map λp=>some p.2,tp.map λ_=>some (tabObj #[]))) N)
  (hdef:defOf q l.name=some (d,[])) (hp:l.prog.theDef l.name=some (d.params,d.body,d.scope)) (hk:kwWritten? d.params.kwonlyargs d.params.kw_defaults=some [])
  (hwr:(!l.row.writes||l.row.records.isEmpty)=true) (ok2:(chainsOk q&&opensWell l.prog&&(frees l.row.toRowW&&l.row.within.isEmpty))=true) (hb:l.prog.bare) (hw:l.row.toRowW.promised)
  (hn:l.most=some 63) (hdf:d.params.defaults=[]) (hr:Room k callerA) (hK:∀ w:World,V8 (K w.params++qab a₀ fds ts)=true) (hT:∀ w:World,X6 (K w.params++qab a₀ fds ts)=ts)
  (h0:∀ w:World,(((K w.params).lookup a₀).isSome&&ts.all λt=>((K w.params).lookup t.1).isSome)=true)
  (hC:∀ w:World,(ts.all λt=>codeHdIn (K w.params++qab a₀ fds ts) t.1 t.2.1&&((K w.params++qab a₀ fds ts).lookup t.2.1).isNone)=true)
  (F:∀ (w:World) (mg:Str->Option Value) (fa:Addr) (h:Heap),Frag.In (K w.params++qab a₀ fds ts) h->h.Ns mainGlobals mg->mg d.name=some (.ref fa) ->
   ∃ fd:FuncData,(∀ (s:Shared) (u:Value),BindsTo s fd ⟨[u],[]⟩ [(x,u)])/\∀ base:Heap,Frag.In (K w.params++qab a₀ fds ts) base->base.Ns mainGlobals mg->qei mg base->FnOk l.prog w (K w.params++qab a₀ fds ts) mg base CX0 k fa fd [x] (lSp (K w.params++qab a₀ fds ts) RF)):l.Holds:=by
 refine holds_law ok λsaid=>?_;refine holds_open (q:=q) (loose:=loose) (Xt:=λs=>xlAt q [] s&&recOk [] s) (XP:=XL q []) (Yf:=Hook.obs (kmHook K as ha tp)) (Ya:=Hook.val (kmHook K as ha tp)) (YP:=Hook.says (kmHook K as ha tp)) (N:=N) left
  (Hook.of (kmHook K as ha tp)) (Hook.keeps (kmHook K as ha tp)) (λs e=>xl_of s (Bool.and_eq_true_iff.mp e).1) XL.keeps hdef hp hk (λs e=>recFacts_of (Bool.and_eq_true_iff.mp e).2) hwr said ok2 hb hw
  (L3.qiT (l:=l) (k:=k) (x:=x) (K:=λP=>K P++qab a₀ fds ts) (ts:=ts) hn hdf hr (λw h Y=>⟨λb o e=>?_,λt ht=>?_⟩) hK hT (λw t ht=>?_) F)
 ·have z:=Bool.and_eq_true_iff.mp (h0 w);rw [KU z.1 z.2] at e;exact km_in_of Y b o e
 ·exact km_tabs_of Y _ (by rw [htp];exact mem_map.mpr ⟨t,ht,rfl⟩)
 ·have z:=Bool.and_eq_true_iff.mp (List.all_eq_true.mp (hC w) t ht);exact ⟨z.1,Option.isNone_iff_eq_none.mp z.2⟩
end Hd
namespace L3
open PySem PySem.Spec PyProof.Rows L2
def WD (P:Program) (w:World) (K:Frg) (mg:Str->Option Value) (base:Heap) (k:Nat) (Φ:Nat->Option Sp3):Prop:=∀ i S,Φ i=some S->∃ k0,k0+1<=k/\Lam3 P w K mg base k0 i S
def WD.mono {P:Program} {w:World} {K:Frg} {mg:Str->Option Value} {base:Heap} {k k':Nat} {Φ:Nat->Option Sp3} (h:WD P w K mg base k Φ) (le:k<=k'):WD P w K mg base k' Φ:=λi S e=>let ⟨k0,a,b⟩:=h i S e;⟨k0,u7 a le,b⟩
def EJ {X:Cx} {Φ:Nat->Option Sp3} {k:Nat} {x:Str} {p pos:Pos} {e:Expr} {es:List Expr} {tf:TE3} {ta:TA3} (hΦ:WD X.prog X.w X.K X.mg X.base k Φ) (hr:Room k X.A) (hf:jE3 X (.Name x p) tf) (ha:jA3 X (e::es) ta)
  (he:starEach (e::es) X.env=(false,eval e X.env)::starEach es X.env:=by rfl) (hpl:(backTo pos (starEach es X.env)).any (·.1)=false:=by rfl):jE3 X (.Call (.Name x p) (e::es) [] pos) (cv3 Φ tf ta):=⟨qgu hΦ hr hf.h ha.h he hpl⟩
structure TabAt (K:Frg) (mg:Str->Option Value) (base:Heap) (c:Addr) (q:Str):Prop where
 ex:∃ P,PySem.W.CodeHd base c P/\qei mg base/\(c,P,q)∈X6 K/\∀ t∈X6 K,t.2.1=P->t.2.2=q
def L8 (X:Cx) (m:List Nat) (params:Arguments) (scope:Scope):Bool:=
 (scope.names.all λy=>match y.2 with|.free=>(match X.env.kindOf y.1 with|some .cell=>true|_=>false)|_=>true)&&decide (scope.names.map λp=>p.1).Nodup&&(m.map (λj=>X.N[j]?)==(frN scope).map some)
def LamArg.of {X:Cx} {q:Str} {i:Nat} {m:List Nat} {params:Arguments} {body:Expr} {scope:Scope} {fd:FuncData} (l:TZ X.K i=some fd) (e:(fd.params,fd.body,fd.scope,fd.qualname)=(params,.expr body,scope,q)) (d:defaultsOf params X.env=([],[])) (c:L8 X m params scope=true):LamArg X q i m params body scope:=by
 unfold L8 at c;obtain ⟨c1,c2⟩:=Bool.and_eq_true_iff.mp c;obtain ⟨c3,c4⟩:=Bool.and_eq_true_iff.mp c1;have e1:=congrArg (λz=>z.1) e;have e2:=congrArg (λz=>z.2.1) e;have e3:=congrArg (λz=>z.2.2.1) e;have e4:=congrArg (λz=>z.2.2.2) e;refine ⟨⟨fd,l,e1,e2,e3,e4⟩,d,λy hy z=>?_,of_decide_eq_true c4,by simpa using c2⟩;have:=List.all_eq_true.mp c3 y hy;rw [z] at this;split at this
 ·split at this
  ·assumption
  ·cases this
 ·rename_i n;exact absurd rfl n
def qev {X:Cx} {k:Nat} {x:Str} {p pos:Pos} {e1:Expr} {pr1 pr2:Arguments} {b1 b2:Expr} {sA sB:Scope} {o1 o2:Pos} {es:List Expr} {sp:Sp3} {t1:TE3} {tr:TA3} {c:Addr} {q:Str} {i1 i2:Nat} {fd1 fd2:FuncData} (m1 m2:List Nat)
  (F:Fn3 X.prog X.w X.K X.mg X.base k x sp) (hr:Room k X.A) (hg:Gl X x) (T:TabAt X.K X.mg X.base c q) (l1:TZ X.K i1=some fd1) (l2:TZ X.K i2=some fd2) (h1:jE3 X e1 t1) (hrs:jA3 X es tr)
  (hc:X.env.code=.ref c:=by rfl) (hq:X.env.qual++"<lambda>" = q:=by kernel_rfl)
  (f1:(fd1.params,fd1.body,fd1.scope,fd1.qualname)=(pr1,.expr b1,sA,q):=by kernel_rfl) (f2:(fd2.params,fd2.body,fd2.scope,fd2.qualname)=(pr2,.expr b2,sB,q):=by kernel_rfl)
  (d1:defaultsOf pr1 X.env=([],[]):=by rfl) (d2:defaultsOf pr2 X.env=([],[]):=by rfl) (c1:L8 X m1 pr1 sA=true:=by kernel_rfl) (c2:L8 X m2 pr2 sB=true:=by kernel_rfl) (fnT:∀ x,X.fn x=true:=by exact λ_=>rfl) (hdb:(x==("__debug__" : Str))=false:=by decide)
  (he:starEach (e1::.Lambda pr1 b1 sA o1::.Lambda pr2 b2 sB o2::es) X.env=(false,eval e1 X.env)::starEach (.Lambda pr1 b1 sA o1::.Lambda pr2 b2 sB o2::es) X.env:=by rfl)
  (hpl:(backTo pos (starEach (.Lambda pr1 b1 sA o1::.Lambda pr2 b2 sB o2::es) X.env)).any (·.1)=false:=by rfl):jE3 X (.Call (.Name x p) (e1::.Lambda pr1 b1 sA o1::.Lambda pr2 b2 sB o2::es) [] pos) (cl2 sp t1 tr i1 i2 m1 m2):=by
 obtain ⟨P,C,B,tk,one⟩:=T.ex;exact ⟨qmD F hr hg h1.h hrs.h hc C B hq tk one (LamArg.of l1 f1 d1 c1) (LamArg.of l2 f2 d2 c2) fnT hdb he hpl⟩
def qhn (sc:Scope):Bool:=
 (match sc.kind with|.function=>true|_=>false)&&!sc.isCoroutine&&!sc.isGenerator&&(sc.names.all λy=>match y.2 with|.cell=>false|_=>true)&&decide (sc.names.map λp=>p.1).Nodup
def LamScope.of {sc:Scope} (c:qhn sc=true):LamScope (psN sc) (frN sc) sc:=by
 unfold qhn at c;obtain ⟨c,c5⟩:=Bool.and_eq_true_iff.mp c;obtain ⟨c,c4⟩:=Bool.and_eq_true_iff.mp c;obtain ⟨c,c3⟩:=Bool.and_eq_true_iff.mp c;obtain ⟨c1,c2⟩:=Bool.and_eq_true_iff.mp c;have nd:(sc.names.map λp=>p.1).Nodup:=of_decide_eq_true c5;have mem:∀ {x k},sc.names.lookup x=some k->(x,k)∈sc.names:=λh=>PySem.mem_of_lookup h;refine ⟨(by split at c1<;>first|assumption|exact nomatch c1),by simpa using c2,by simpa using c3,λx hx z=>?_,λp hp=>?_,λx h=>XX.mpr (mem h),λx h=>zP nd (XX.mp h),?_⟩
 ·have:=List.all_eq_true.mp c4 x hx;rw [z] at this;cases this
 ·unfold psN at hp;obtain ⟨⟨y,k⟩,hm,rfl⟩:=mem_map.mp hp;obtain ⟨h1,h2⟩:=List.mem_filter.mp hm;have:k=.local:=by simpa using h2
  subst this;exact zP nd h1
 ·unfold psN;exact List.Sublist.nodup (List.Sublist.map _ List.filter_sublist) nd
def XT {P:Program} {w:World} {K:Frg} {mg:Str->Option Value} {base:Heap} {k i:Nat} {S:Sp3} {fd:FuncData} {body:Expr} {t3:TE3} (l:TZ K i=some fd) (bd:fd.body=.expr body) (sc:qhn fd.scope=true)
  (bi:∀ clos pm c ctv us,us.length=(psN fd.scope).length->bindArgs (PySem.W.kla_fn "<lambda>" fd.qualname fd.params body fd.scope clos pm (.ref c) ctv) ⟨us,[]⟩=pure ((psN fd.scope).zip us))
  (hb:∀ (A:Around) (outer:List Env) (s:Shared) (H:Hp) (E:XK) (f c:Addr) (clos:List (Str×Addr)),Room k (A.deeper (PySem.W.envX fd.qualname fd.scope s.heap.objs.size f (.ref c) clos))->jE3 (cxL P w K mg base (psN fd.scope++frN fd.scope) fd.qualname fd.scope f (.ref c) clos A outer s H E) body t3)
  (rd:∀ ts G q,S ts G q->ts.length=(psN fd.scope).length+(frN fd.scope).length/\t3 (ts.map some) G q):Lam3 P w K mg base k i S:=⟨⟨fd,body,t3,l,bd,LamScope.of sc,bi,λA outer s H E f c clos hr=>(hb A outer s H E f c clos hr).h,rd⟩⟩
end L3
namespace Hd
open PySem L2 L3 PySem.W PySem.Spec PySem.Calls PyProof.Rows
def qoy (q:Str):Expr->Option FuncData
 |.Lambda pr body sc _=>some (kla_fn "<lambda>" q pr body sc [] .none .none .none)
 |_=>none
def qoi (q:Str):Expr->List FuncData
 |.Call _ as _ _=>as.filterMap (qoy q)
 |_=>[]
def qoD (q:Str):Stmt->List FuncData
 |.Assign _ e _=>qoi q e
 |.Return (some e) _=>qoi q e
 |_=>[]
def qm3 (q:Str) (st:Stmt):List FuncData:=(zh st).flatMap (qoD q)
def R8 (q:Str) (st:Stmt) (j:Nat):FuncData:=(qm3 q st).getD j default
end Hd
namespace Pu
open PySem L2 L3
def qh6 (f:Rho->Option PyData) (n:Nat) (ds:List PyData):Option PyData:=if ds.length=n then f (ds.map .sh) else none
def XJ {t:TE3} (b:PuE t) (n:Nat):∀ ts G q,PSp (qh6 b.f n) false ts G q->ts.length=n/\t (ts.map some) G q:=by
 rintro ts G q ⟨D,ds,d,hs,hd,hf,h⟩;unfold qh6 at hf;split at hf
 ·rename_i hk;refine ⟨by rw [hs.length];exact hk,b.ok (D:=D) (ρ:=ds.map .sh) (λi _ d2 e=>?_) hd hf λx G' e dx _=>h x G' e dx λz=>by cases z⟩;unfold vw at e;rw [getElem?_map] at e;obtain ⟨s,e1,e2⟩:=obb e;obtain ⟨d3,e3,rfl⟩:=za3 e1;cases e2;obtain ⟨x,e5,hx⟩:=hs.get e3;exact ⟨x,by rw [getElem?_map,e5];rfl,hx⟩
 ·cases hf
def zB (P:Program) (w:World) (K:Frg) (mg:Str->Option Value) (base:Heap) (k n:Nat) (L:List (List PyData->Option PyData)):Prop:=∀ i F,L[i]?=some F->Lam3 P w K mg base k (n+i) (PSp F false)
section
variable {P:Program} {w:World} {K:Frg} {mg:Str->Option Value} {base:Heap} {k n:Nat} {L:List (List PyData->Option PyData)} {F:List PyData->Option PyData}
def zB.nil:zB P w K mg base k n []:=λi F e=>by cases e
def zB.cons (l:Lam3 P w K mg base k n (PSp F false)) (h:zB P w K mg base k (n+1) L):zB P w K mg base k n (F::L):=λi F' e=>by
 cases i with
 |zero=>cases e;exact l
 |succ i=>have:=h i F' e;rw [show n+(i+1)=n+1+i by omega];exact this
def zB.ok (h:zB P w K mg base k 0 L):WD P w K mg base (k+1) (phS λi=>L[i]?):=λi S e=>by
 obtain ⟨F,e1,rfl⟩:=za3 e;have:=h i F e1;rw [Nat.zero_add] at this;exact ⟨k,v5 _,this⟩
end
end Pu
namespace Hd
open PySem L2 L3 PySem.W PySem.Spec PySem.Calls PyProof.Rows
def qor {P:Program} {w:World} {K:Frg} {mg:Str->Option Value} {base:Heap} {x:Str} {st:Stmt} {f:Addr} {fd:FuncData} {N ps:List Str} {k:Nat} {sp:Sp3} {t3:TS3} {c:Addr} (E:Fb K mg x st ps f fd) (hc:fd.code=.ref c) (S:FnScope N ps (qg st))
  (read:∀ ts G q,sp ts G q->ts.length=ps.length/\t3 { nx:=λ_ G'=>q .non G',rt:=q } (qv N ts) G)
  (body:∀ (A:Around) (outer:List Env) (s:Shared) (H:Hp) (E:XK),Room k (A.deeper (envOfC x (qg st) s.heap.objs.size f (.ref c))) ->
   jB3 (N9 CX0 P w K mg base N x (qg st) f (.ref c) A outer s H E).nox (zh st) t3):Fn3 P w K mg base (k+1) x sp:=by
 have F:=E.F;have kp:=F.kp;have bd:=E.b;obtain ⟨oc,od,kV,doc,pm,an,cdv,ct,osl,e,lk,hcd⟩:=F.ex;subst e;obtain rfl:cdv=.ref c:=hc;refine ⟨f,_,ps,qlo lk hcd S (λvs H Q E ⟨ts,G,q,h1,h2,h3,h4⟩=>by rw [← h2.length];exact (read ts G q h3).1) λA outer s H vs Q E hr ⟨ts,G,q,h1,h2,h3,h4⟩=>?_,bd,kp,E.m⟩;refine ⟨_,PSs.nox (body A outer s H E hr).h,?_⟩;exact ⟨qv N ts,G,_,DP h1 h2,(read ts G q h3).2,⟨λτ' G' h' σ' H' rl' k'=>h4 _ G' h' _ H' .non rl'.hp k',h4,λ_ _ z=>z.elim,λ_ _ z=>z.elim⟩⟩
def qlu {K:Frg} {mg:Str->Option Value} {base:Heap} {ts:List (Addr×Addr×Str)} {c P:Addr} {q:Str} (X:K.In base) (B:qei mg base) (hT:X6 K=ts) (hc:codeHdIn K c P=true:=by kernel_rfl) (m:ts.contains (c,P,q)=true:=by kernel_rfl) (one:(ts.all λt=>t.2.1 != P||t.2.2==q)=true:=by kernel_rfl):TabAt K mg base c q:=by
 subst hT;refine ⟨P,codeHd_of_K X hc,B,List.contains_iff_mem.mp m,λt ht z=>?_⟩;have:=List.all_eq_true.mp one t ht;rw [z] at this;simpa using this
end Hd
namespace HT
open PySem PySem.Spec PyProof.Rows
section
variable {prog:Program} {w:World} {A:Around} {E:Value->Shared->Prop} {s:Shared}
end
end HT
namespace L3
open PySem PySem.Spec PyProof.Rows L2
section
variable {X:Cx} {e ek:Expr} {p2 pos:Pos}
end
section
variable {X:Cx} {a b:Expr} {ta tb:TE3} {pos:Pos}
end
abbrev Rd (sp:Sp3) (n:Nat) (t:TS3) (N:List Str):Prop:=∀ ts G q,sp ts G q->ts.length=n/\t { nx:=λ_ G'=>q .non G',rt:=q } (qv N ts) G
def jgn {pos:Pos} {X:Cx} {x:Str} (i:Nat) (hN:decide X.N.Nodup=true:=by kernel_rfl) (hi:X.N[i]?=some x:=by rfl) (hx:Loc X.env.scope x:=by first|exact Or.inl rfl|exact Or.inr rfl) (hf:X.fn x=true\/X.env.scope.names.lookup x=some .local:=by first|exact .inl rfl|exact .inr rfl):jG3 X (.Name x pos) (gn3 i):=
 qx (of_decide_eq_true hN) hi hx hf
end L3
namespace L2
open PySem PySem.Spec PyProof.Rows
section
variable {X:Cx} {pos:Pos}
end
end L2
namespace L3
open PySem PySem.Spec PyProof.Rows L2
section
variable {X:Cx} {pos:Pos}
end
end L3
namespace HT
open PySem PyProof.Rows
section
variable {prog:Program} {w:World} {A:Around} {E:Value->Shared->Prop} {s:Shared}
abbrev oS (led:Bool):Obj:={ cls:=.type "set",dict:=none,data:=.set #[] 0 (.fresh 0 0 led) }
end
end HT
namespace L3
open PySem PySem.Spec PyProof.Rows L2
section
variable {X:Cx}
end
end L3
namespace Tb8
open PySem PySem.SetTable
def Up (xs:Array Nat):Prop:=∀ a b,a<b->b<xs.size->xs.getD a 0<xs.getD b 0
def gD {xs:Array Nat} {i d e:Nat} (h:i<xs.size):xs.getD i d=xs.getD i e:=by simp [Array.getD,h]
def Up.le {xs:Array Nat} (u:Up xs) {a b:Nat} (h:a<=b) (hb:b<xs.size):xs.getD a 0<=xs.getD b 0:=by
 rcases Nat.lt_or_ge a b with z|z
 ·exact Nat.le_of_lt (u a b z hb)
 ·rw [show a=b by omega];exact v5 _
structure Bel (xs:Array Nat) (j r:Nat):Prop where
 le:r<=xs.size
 lo:∀ i,i<r->xs.getD i 0<j
 hi:∀ i,r<=i->i<xs.size->j<=xs.getD i 0
theorem XS {xs:Array Nat} {j:Nat} (u:Up xs):∀ (fuel lo hi:Nat),lo<=hi->hi<=xs.size->hi-lo<=fuel->(∀ i,i<lo->xs.getD i 0<j)->(∀ i,hi<=i->i<xs.size->j<=xs.getD i 0)->Bel xs j (below.go xs j fuel lo hi)
 |0,lo,hi,h1,h2,h3,h4,h5=>by
  obtain rfl:lo=hi:=by omega
  exact ⟨h2,h4,h5⟩
 |fuel+1,lo,hi,h1,h2,h3,h4,h5=>by
  unfold below.go;by_cases c:lo<hi
  ·have hm:(lo+hi)/2<xs.size:=by omega
   rw [if_pos c];simp only;rw [gD (e:=0) hm];by_cases c2:xs.getD ((lo+hi)/2) 0<j
   ·rw [if_pos c2];exact XS u fuel _ _ (by omega) h2 (by omega) (λi hi'=>Nat.lt_of_le_of_lt (u.le (show i<=(lo+hi)/2 by omega) hm) c2) h5
   ·rw [if_neg c2];exact XS u fuel _ _ (by omega) (by omega) (by omega) h4 λi hi' hs=>u7 (Nat.le_of_not_lt c2) (u.le hi' hs)
  ·rw [if_neg c];obtain rfl:lo=hi:=by omega
   exact ⟨h2,h4,h5⟩
def CN {xs:Array Nat} {j:Nat} (u:Up xs):Bel xs j (below xs j):=XS u _ _ _ (Nat.zero_le _) (v5 _) (v5 _) (λi h=>absurd h (Nat.not_lt_zero i)) λi h hs=>absurd hs (by omega)
def qgW {xs:Array Nat} {i j:Nat} (h:xs[i]?=some j):i<xs.size/\xs.getD i 0=j:=by
 obtain ⟨h1,h2⟩:=Array.getElem?_eq_some_iff.mp h;exact ⟨h1,by simp [Array.getD,h1,h2]⟩
def C2 {xs:Array Nat} {i:Nat} (h:i<xs.size):xs[i]?=some (xs.getD i 0):=by simp [Array.getD,h]
def qc7 {xs:Array Nat} {i j:Nat} (u:Up xs) (h:xs[i]?=some j):below xs j=i:=by
 obtain ⟨h1,h2⟩:=qgW h;have B:=CN (j:=j) u;rcases Nat.lt_trichotomy (below xs j) i with z|z|z
 ·have:=B.hi _ (v5 _) (by omega);have:=u _ _ z h1;omega
 ·exact z
 ·have:=B.lo i z;omega
def DH {t:SetTable} {i j:Nat} (u:Up t.place) (h:t.place[i]?=some j):t.slot j=.live i:=by
 unfold SetTable.slot;simp only;rw [qc7 u h,h];simp
def WX {t:SetTable} {j:Nat} (d:t.dummies=#[]) (h:∀ i:Nat,t.place[i]?≠some j):t.slot j=.empty:=by
 unfold SetTable.slot;simp only;rw [if_neg (by simpa using h _),if_neg];unfold has;rw [d];simp
def qcd {t:SetTable} (u:Up t.place) (d:t.dummies=#[]) (j:Nat):(t.slot j=.empty/\∀ i:Nat,t.place[i]?≠some j)\/∃ i:Nat,t.slot j=.live i/\t.place[i]?=some j:=by
 by_cases c:∃ i:Nat,t.place[i]?=some j
 ·obtain ⟨i,h⟩:=c;exact .inr ⟨i,DH u h,h⟩
 ·have c':∀ i:Nat,t.place[i]?≠some j:=λi h=>c ⟨i,h⟩;exact .inl ⟨WX d c',c'⟩
def adv (M:Nat) (p:Probe):Probe:=
 if p.more > 0 then { p with j:=p.j+1,more:=p.more-1 } else
 { p with j:=(leap M p.i p.perturb).1,more:=runEnd M (leap M p.i p.perturb).1-(leap M p.i p.perturb).1,i:=(leap M p.i p.perturb).1,perturb:=(leap M p.i p.perturb).2 }
def qjF (t:SetTable) (p:Probe):t.advance p=adv t.mask p:=rfl
def st (M:Nat) (h:Int):Probe:={ j:=bits h%(M+1),more:=runEnd M (bits h%(M+1))-bits h%(M+1),i:=bits h%(M+1),perturb:=bits h,dummy:=none }
def pth (M:Nat) (h:Int):Nat->Probe
 |0=>st M h
 |n+1=>adv M (pth M h n)
theorem RG (M:Nat) (h:Int):∀ n,(pth M h n).dummy=none
 |0=>rfl
 |n+1=>by
  have:=RG M h n;simp only [pth,adv];split<;>exact this
def L5 {M i:Nat} (h:i<=M):runEnd M i<=M/\i<=runEnd M i/\runEnd M i<=i+9:=by unfold runEnd;split<;>omega
theorem qfm (M:Nat) (h:Int):∀ n,(pth M h n).j+(pth M h n).more<=M
 |0=>by
  have:=Nat.mod_lt (bits h) (show 0<M+1 by omega);have:=L5 (M:=M) (i:=bits h%(M+1)) (by omega);simp only [pth,st];omega
 |n+1=>by
  have ih:=qfm M h n;simp only [pth,adv];split
  ·simp only;omega
  ·have:(leap M (pth M h n).i (pth M h n).perturb).1<M+1:=Nat.mod_lt _ (by omega);have:=L5 (M:=M) (i:=(leap M (pth M h n).i (pth M h n).perturb).1) (by omega);simp only;omega
def hd (M i p:Nat):Probe:={ j:=i,more:=runEnd M i-i,i:=i,perturb:=p,dummy:=none }
def lv (M:Nat) (h:Int):Nat->Nat×Nat
 |0=>(bits h%(M+1),bits h)
 |k+1=>leap M (lv M h k).1 (lv M h k).2
theorem qm8 {M:Nat} {h:Int} {i p:Nat}:∀ (m n j:Nat),pth M h n={ j:=j,more:=m,i:=i,perturb:=p,dummy:=none }->pth M h (n+m)={ j:=j+m,more:=0,i:=i,perturb:=p,dummy:=none }
 |0,n,j,e=>e
 |m+1,n,j,e=>by
  have e2:pth M h (n+1)={ j:=j+1,more:=m,i:=i,perturb:=p,dummy:=none }:=by
   rw [pth,e,adv];simp
  have:=qm8 m (n+1) (j+1) e2;rw [show n+1+m=n+(m+1) by omega,show j+1+m=j+(m+1) by omega] at this;exact this
def qdp (M:Nat) (h:Int):∀ k,(lv M h k).1<=M
 |0=>by have:=Nat.mod_lt (bits h) (show 0<M+1 by omega);simp only [lv];omega
 |k+1=>by
  have:(leap M (lv M h k).1 (lv M h k).2).1<M+1:=Nat.mod_lt _ (by omega);simp only [lv];omega
theorem qkL (M:Nat) (h:Int):∀ k,∃ n,n<=10*k/\pth M h n=hd M (lv M h k).1 (lv M h k).2
 |0=>⟨0,by omega,rfl⟩
 |k+1=>by
  obtain ⟨n,hn,e⟩:=qkL M h k;have r:=L5 (qdp M h k);have w:=qm8 _ n _ e;refine ⟨n+(runEnd M (lv M h k).1-(lv M h k).1)+1,by omega,?_⟩;rw [pth,w];rfl
theorem qao (M:Nat) (h:Int):∀ k,(lv M h k).2=bits h/32 ^ k
 |0=>by simp [lv]
 |k+1=>by
  show (lv M h k).2/32=_;rw [qao M h k,Nat.div_div_eq_div_mul,Nat.pow_succ]
def qgs (h:Int):bits h<2 ^ 64:=by
 unfold bits;have:=Int.emod_lt_of_pos h (show (0:Int)<2 ^ 64 by decide);have:=Int.emod_nonneg h (show (2 ^ 64:Int)≠0 by decide);omega
def stp (M x:Nat):Nat:=(x*5+1)%(M+1)
def its (M:Nat):Nat->Nat->Nat
 |0,x=>x
 |t+1,x=>stp M (its M t x)
theorem qcI (M:Nat) (h:Int):∀ t,(lv M h (13+t)).1=its M t (lv M h 13).1
 |0=>rfl
 |t+1=>by
  have z:(lv M h (13+t)).2/32=0:=by
   rw [qao,Nat.div_div_eq_div_mul,← Nat.pow_succ];refine Nat.div_eq_of_lt (v8 (qgs h) ?_);exact u7 (show 2 ^ 64<=32 ^ 14 by decide) (Nat.pow_le_pow_right (by omega) (by omega))
  show ((lv M h (13+t)).1*5+1+(lv M h (13+t)).2/32)%(M+1)=stp M (its M t _);rw [z,qcI M h t];rfl
def NI (M:Nat):Prop:=∀ x,x<=M->∀ c,c<=M->∃ t,t<=M/\its M t x=c
def ql8:NI 7:=by
 have:∀ x:Fin 8,∀ c:Fin 8,∃ t:Fin 8,its 7 t.val x.val=c.val:=by decide +kernel
 intro x hx c hc;obtain ⟨t,ht⟩:=this ⟨x,by omega⟩ ⟨c,by omega⟩;exact ⟨t.val,by omega,ht⟩
def qiP:NI 31:=by
 have:∀ x:Fin 32,∀ c:Fin 32,∃ t:Fin 32,its 31 t.val x.val=c.val:=by decide +kernel
 intro x hx c hc;obtain ⟨t,ht⟩:=this ⟨x,by omega⟩ ⟨c,by omega⟩;exact ⟨t.val,by omega,ht⟩
theorem JY (M:Nat) (x t:Nat):∀ s,its M (s+t) x=its M s (its M t x)
 |0=>by rw [Nat.zero_add];rfl
 |s+1=>by rw [Nat.succ_add];show stp M (its M (s+t) x)=stp M _;rw [JY M x t s]
def qgV:NI 127:=by
 have h:∀ c:Fin 128,∃ t:Fin 128,its 127 t.val 0=c.val:=by decide +kernel
 have z:its 127 128 0=0:=by decide +kernel
 intro x hx c hc;obtain ⟨a,ha⟩:=h ⟨x,by omega⟩;obtain ⟨b,hb⟩:=h ⟨c,by omega⟩;simp only at ha hb;have la:=a.isLt;have lb:=b.isLt;by_cases q:a.val<=b.val
 ·refine ⟨b.val-a.val,by omega,?_⟩;have:=JY 127 0 a.val (b.val-a.val);rw [Nat.sub_add_cancel q,hb,ha] at this;exact this.symm
 ·refine ⟨b.val+128-a.val,by omega,?_⟩;have:=JY 127 0 a.val (b.val+128-a.val);rw [Nat.sub_add_cancel (by omega),JY 127 0 128,z,hb,ha] at this;exact this.symm
def qht:NI 511:=by
 have h:∀ c:Fin 512,∃ t:Fin 512,its 511 t.val 0=c.val:=by decide +kernel
 have z:its 511 512 0=0:=by decide +kernel
 intro x hx c hc;obtain ⟨a,ha⟩:=h ⟨x,by omega⟩;obtain ⟨b,hb⟩:=h ⟨c,by omega⟩;simp only at ha hb;have la:=a.isLt;have lb:=b.isLt;by_cases q:a.val<=b.val
 ·refine ⟨b.val-a.val,by omega,?_⟩;have:=JY 511 0 a.val (b.val-a.val);rw [Nat.sub_add_cancel q,hb,ha] at this;exact this.symm
 ·refine ⟨b.val+512-a.val,by omega,?_⟩;have:=JY 511 0 a.val (b.val+512-a.val);rw [Nat.sub_add_cancel (by omega),JY 511 0 512,z,hb,ha] at this;exact this.symm
def qkg {M:Nat} (F:NI M) (h:Int) {c:Nat} (hc:c<=M):∃ n,n<10*turns M/\(pth M h n).j=c:=by
 obtain ⟨t,ht,e⟩:=F _ (qdp M h 13) c hc;obtain ⟨n,hn,e2⟩:=qkL M h (13+t);refine ⟨n,by unfold turns;omega,?_⟩;rw [e2,hd,qcI,e]
def qeX {P:Nat->Prop} {n:Nat} (h:P n):∃ m,m<=n/\P m/\∀ k,k<m->¬ P k:=by
 induction n using Nat.strongRecOn with
 |_ n ih=>
  by_cases c:∃ k,k<n/\P k
  ·obtain ⟨k,hk,pk⟩:=c;obtain ⟨m,hm,r⟩:=ih k hk pk;exact ⟨m,by omega,r⟩
  ·exact ⟨n,v5 _,h,λk hk pk=>c ⟨k,hk,pk⟩⟩
def qg8 {xs:Array Nat} {M:Nat} (u:Up xs) (h:xs.size<=M):∃ c,c<=M/\∀ i:Nat,xs[i]?≠some c:=by
 by_cases c:∃ c,c<=M/\∀ i:Nat,xs[i]?≠some c
 ·exact c
 exfalso;have all:∀ c,c<=M->∃ i:Nat,xs[i]?=some c:=λd hd=>by
  by_cases z:∃ i:Nat,xs[i]?=some d
  ·exact z
  ·exact absurd ⟨d,hd,λi e=>z ⟨i,e⟩⟩ c
 have ge:∀ i,i<xs.size->i<=xs.getD i 0:=by
  intro i;induction i with
  |zero=>intro _;exact Nat.zero_le _
  |succ i ih=>
   intro hi;have:=ih (by omega);have:=u i (i+1) (by omega) hi;omega
 obtain ⟨i,hi⟩:=all M (v5 _);obtain ⟨i1,i2⟩:=qgW hi;obtain ⟨m,hm,⟨m1,m2⟩,hl⟩:=qeX (P:=λi=>i<xs.size/\i<xs.getD i 0) (n:=i) ⟨i1,by omega⟩;obtain ⟨k,hk⟩:=all m (by omega);obtain ⟨k1,k2⟩:=qgW hk;rcases Nat.lt_or_ge k m with z|z
 ·have a:=ge k k1;have b:=hl k z;have:¬ k<xs.getD k 0:=λq=>b ⟨k1,q⟩;omega
 ·have:=u.le z k1;omega
def NN {t:SetTable} {h:Int} (F:NI t.mask) (u:Up t.place) (d:t.dummies=#[]) (s:t.place.size<=t.mask):∃ e,e<10*turns t.mask/\t.slot (pth t.mask h e).j=.empty/\∀ k,k<e->t.slot (pth t.mask h k).j≠.empty:=by
 obtain ⟨c,hc,hf⟩:=qg8 u s;obtain ⟨n,hn,e⟩:=qkg F h hc;obtain ⟨m,hm,pm,hl⟩:=qeX (P:=λn=>t.slot (pth t.mask h n).j=.empty) (n:=n) (by rw [e];exact WX d hf);exact ⟨m,by omega,pm,hl⟩
theorem qbY {t:SetTable} {hA:Nat->Int} {h:Int}:∀ (m fuel n:Nat),(∀ k,k<m->∃ i,t.slot (pth t.mask h (n+k)).j=.live i/\(hA i==h)=false)->m<=fuel->probe.go t hA h fuel (pth t.mask h n)=probe.go t hA h (fuel-m) (pth t.mask h (n+m))
 |0,fuel,n,_,_=>rfl
 |m+1,0,n,_,hf=>by omega
 |m+1,fuel+1,n,hs,hf=>by
  obtain ⟨i,e1,e2⟩:=hs 0 (by omega);rw [Nat.add_zero] at e1;rw [probe.go,e1];simp only [e2,Bool.false_eq_true,if_false];have:=qbY m fuel (n+1) (λk hk=>by rw [show n+1+k=n+(k+1) by omega];exact hs (k+1) (by omega)) (by omega);rw [qjF,← pth,this,show n+1+m=n+(m+1) by omega,show fuel+1-(m+1)=fuel-m by omega]
def qdl {t:SetTable} {hA:Nat->Int} {h:Int} {fuel n:Nat} (e:t.slot (pth t.mask h n).j=.empty) (hf:0<fuel):probe.go t hA h fuel (pth t.mask h n)=some (.empty (pth t.mask h n).j none):=by
 obtain ⟨f,rfl⟩:∃ f,fuel=f+1:=⟨fuel-1,by omega⟩
 rw [probe.go,e,RG]
def ins {α:Type} (l:List α) (p:Nat) (x:α):List α:=l.take p++x::l.drop p
def UL {α:Type} {l:List α} {p:Nat} {x:α} (h:p<=l.length):(ins l p x).length=l.length+1:=by simp [ins];omega
def qbQ {α:Type} {l:List α} {p:Nat} {x:α} (h:p<=l.length) (i:Nat):(ins l p x)[i]?=if i<p then l[i]? else if i=p then some x else l[i-1]?:=by
 have e:(l.take p).length=p:=by simp;omega
 unfold ins;split
 ·rename_i c;rw [List.getElem?_append_left (by omega),List.getElem?_take_of_lt c]
 ·rw [List.getElem?_append_right (by omega),e];split
  ·rename_i c;subst c;simp
  ·rename_i c1 c2;obtain ⟨k,rfl⟩:∃ k,i=p+(k+1):=⟨i-p-1,by omega⟩
   rw [show p+(k+1)-p=k+1 by omega,getElem?_cons_succ,List.getElem?_drop,show p+(k+1)-1=p+k by omega]
def JG {α:Type} (xs:Array α) (p:Nat) (x:α) (h:p<=xs.size):(insertAt xs p x).toList=ins xs.toList p x:=by
 unfold insertAt ins;simp;exact List.take_of_length_le (by simp)
structure Ok8 (t:SetTable) (hs:List Int):Prop where
 up:Up t.place
 dm:t.dummies=#[]
 sz:t.place.size=hs.length
 fl:hs.length<=t.mask
 le:∀ (i j:Nat),t.place[i]?=some j->j<=t.mask
 fu:NI t.mask
 od:t.mask%2=1
 wy:∀ (i j:Nat) (h:Int),t.place[i]?=some j->hs[i]?=some h->∃ m,(pth t.mask h m).j=j/\∀ k,k<m->t.slot (pth t.mask h k).j≠.empty
def Ok8.ne {t:SetTable} {hs:List Int} (o:Ok8 t hs) {j:Nat}:t.slot j≠.empty↔∃ i:Nat,t.place[i]?=some j:=by
 rcases qcd o.up o.dm j with ⟨e,h⟩|⟨i,e,h⟩
 ·exact ⟨λz=>absurd e z,λ⟨i,z⟩=>absurd z (h i)⟩
 ·exact ⟨λ_=>⟨i,h⟩,λ_ z=>by rw [e] at z;cases z⟩
def SF {α:Type} (xs:Array α) (i:Nat):xs[i]?=xs.toList[i]?:=by simp
theorem Ok8.put {t:SetTable} {hs:List Int} (o:Ok8 t hs) {j:Nat} {h:Int} (he:t.slot j=.empty) (hj:j<=t.mask) (hf:hs.length+1<=t.mask) (w:∃ m,(pth t.mask h m).j=j/\∀ k,k<m->t.slot (pth t.mask h k).j≠.empty) :
  (t.put j).2<=hs.length/\Ok8 (t.put j).1 (ins hs (t.put j).2 h)/\(t.put j).1.mask=t.mask:=by
 have hn:∀ i:Nat,t.place[i]?≠some j:=λi z=>(o.ne.mpr ⟨i,z⟩) he;have B:=CN (j:=j) o.up;obtain ⟨p,hp⟩:∃ p,p=below t.place j:=⟨_,rfl⟩
 have hd:has t.dummies j=false:=by unfold has;rw [o.dm];simp
 have e1:(t.put j).1={ t with place:=insertAt t.place p j }:=by
  unfold SetTable.put;simp only [hd,hp];rfl
 have e2:(t.put j).2=p:=by unfold SetTable.put;rw [hp]
 rw [← hp] at B;have pl:p<=t.place.size:=B.le;have pl':p<=hs.length:=by rw [← o.sz];exact pl
 have gt:∀ i:Nat,(insertAt t.place p j)[i]?=if i<p then t.place[i]? else if i=p then some j else t.place[i-1]?:=λi=>by
  rw [SF,JG _ _ _ pl,qbQ (by simpa using pl),SF,SF]
 have hz:(insertAt t.place p j).size=t.place.size+1:=by
  rw [← Array.length_toList,JG _ _ _ pl,UL (by simpa using pl),Array.length_toList]
 rw [e1,e2];have up':Up (insertAt t.place p j):=by
  intro a b hab hb;rw [hz] at hb;have ga:=gt a;have gb:=gt b;have da:(insertAt t.place p j)[a]?=some ((insertAt t.place p j).getD a 0):=C2 (by rw [hz];omega);have db:(insertAt t.place p j)[b]?=some ((insertAt t.place p j).getD b 0):=C2 (by rw [hz];omega);rw [da] at ga;rw [db] at gb;generalize (insertAt t.place p j).getD a 0=x at ga ⊢;generalize (insertAt t.place p j).getD b 0=y at gb ⊢;have gtj:∀ i:Nat,p<=i->i<t.place.size->j<t.place.getD i 0:=λi h1 h2=>by
   have a1:=B.hi i h1 h2;have a2:t.place.getD i 0≠j:=λz=>hn i (by rw [C2 h2,z]);omega
  by_cases c1:a<p
  ·rw [if_pos c1,C2 (by omega)] at ga;cases ga;by_cases c2:b<p
   ·rw [if_pos c2,C2 (by omega)] at gb;cases gb;exact o.up a b hab (by omega)
   ·rw [if_neg c2] at gb;by_cases c3:b=p
    ·rw [if_pos c3] at gb;cases gb;exact B.lo a c1
    ·rw [if_neg c3,C2 (by omega)] at gb;cases gb;exact Nat.lt_trans (B.lo a c1) (gtj _ (by omega) (by omega))
  ·rw [if_neg c1] at ga;have c2:¬ b<p:=by omega
   have c3:¬ b=p:=by omega
   rw [if_neg c2,if_neg c3,C2 (by omega)] at gb;cases gb;by_cases c4:a=p
   ·rw [if_pos c4] at ga;cases ga;exact gtj _ (by omega) (by omega)
   ·rw [if_neg c4,C2 (by omega)] at ga;cases ga;exact o.up _ _ (by omega) (by omega)
 have ne':∀ j',t.slot j'≠.empty->SetTable.slot { t with place:=insertAt t.place p j } j'≠.empty:=λj' z=>by
  obtain ⟨i,hi⟩:=o.ne.mp z;have:∃ i':Nat,(insertAt t.place p j)[i']?=some j':=by
   by_cases c:i<p
   ·exact ⟨i,by rw [gt,if_pos c,hi]⟩
   ·exact ⟨i+1,by rw [gt,if_neg (by omega),if_neg (by omega),Nat.add_sub_cancel,hi]⟩
  obtain ⟨i',hi'⟩:=this;rw [DH (t:={ t with place:=insertAt t.place p j }) up' hi'];exact λz=>by cases z
 refine ⟨pl',⟨up',o.dm,by rw [UL pl'];simp only;rw [hz,o.sz],by rw [UL pl'];exact hf,λi j' hi=>?_,o.fu,o.od,λi j' h' hi hh=>?_⟩,rfl⟩
 ·simp only at hi;rw [gt] at hi;split at hi
  ·exact o.le _ _ hi
  ·split at hi
   ·cases hi;exact hj
   ·exact o.le _ _ hi
 ·simp only at hi;rw [gt] at hi;rw [qbQ pl'] at hh;have go:∀ i0:Nat,t.place[i0]?=some j'->hs[i0]?=some h'->∃ m,(pth t.mask h' m).j=j'/\∀ k,k<m->SetTable.slot { t with place:=insertAt t.place p j } (pth t.mask h' k).j≠.empty:=λi0 a b=>by
   obtain ⟨m,m1,m2⟩:=o.wy i0 j' h' a b;exact ⟨m,m1,λk hk=>ne' _ (m2 k hk)⟩
  split at hi
  ·rename_i c;rw [if_pos c] at hh;exact go i hi hh
  ·rename_i c;rw [if_neg c] at hh;split at hi
   ·rename_i c2;rw [if_pos c2] at hh;cases hi;cases hh;obtain ⟨m,m1,m2⟩:=w;exact ⟨m,m1,λk hk=>ne' _ (m2 k hk)⟩
   ·rename_i c2;rw [if_neg c2] at hh;exact go _ hi hh
theorem Ok8.fresh (f m:Nat) (led:Bool):Ok8 (SetTable.fresh f m led) []:=by
 refine ⟨λa b h hb=>?_,rfl,rfl,Nat.zero_le _,λi j h=>?_,ql8,(by show 7%2=1;rfl),λi j h a b=>?_⟩
 ·simp [SetTable.fresh] at hb
 ·simp [SetTable.fresh] at h
 ·simp at b
end Tb8
namespace Tb8
open PySem PyProof.Rows
section
variable {prog:Program} {w:World} {A:Around} {E:Value->Shared->Prop} {s:Shared}
abbrev hsh (prog:Program) (w:World) (k:List Int):Int:=tupleKeyHash (intKind prog w) k
def LH {k:Int} {v:Value} (h:(intKind prog w).is k v=true):∃ t,v=.int k t:=by
 cases v<;>first|(cases h;done)|skip
 case int i t=>
  have:i=k:=by simpa [intKind,Value.isInt] using h
  exact ⟨t,by rw [this]⟩
end
end Tb8
namespace Tb8
open PySem PyProof.Rows PySem.SetTable
section
variable {prog:Program} {w:World} {A:Around} {E:Value->Shared->Prop} {s:Shared}
end
end Tb8
namespace Tb8
open PySem PySem.SetTable
def own (ow:Array (Option Nat)) (j:Nat):Option Nat:=ow.getD j (some 0)
def K8 {M:Nat} {h:Int} {c n:Nat} (e:pth M h n=hd M (lv M h c).1 (lv M h c).2) {k:Nat} (hk:(lv M h c).1+k<=runEnd M (lv M h c).1):(pth M h (n+k)).j=(lv M h c).1+k:=by
 have key:∀ k,(lv M h c).1+k<=runEnd M (lv M h c).1->pth M h (n+k)={ j:=(lv M h c).1+k,more:=runEnd M (lv M h c).1-((lv M h c).1+k),i:=(lv M h c).1,perturb:=(lv M h c).2,dummy:=none }:=by
  intro k;induction k with
  |zero=>intro _;exact e
  |succ k ih=>
   intro hk;have:=ih (by omega);rw [← Nat.add_assoc,pth,this,adv];simp only;rw [if_pos (by omega)];congr 1
 rw [key k hk]
def qc3 {M:Nat} {h:Int} {c n:Nat} (e:pth M h n=hd M (lv M h c).1 (lv M h c).2):pth M h (n+(runEnd M (lv M h c).1-(lv M h c).1)+1)=hd M (lv M h (c+1)).1 (lv M h (c+1)).2:=by
 rw [pth,qm8 _ n _ e];rfl
def R5 {n:Nat} {P:Nat->Bool} (h:(List.range n).find? P=none):∀ k,k<n->P k=false:=λk hk=>by
 have:=List.find?_eq_none.mp h k (mem_range.mpr hk);simpa using this
def qbZ {P:Nat->Bool}:∀ {n k:Nat},(List.range n).find? P=some k->k<n/\P k=true/\∀ i,i<k->P i=false:=by
 intro n;induction n with
 |zero=>intro k h;simp at h
 |succ n ih=>
  intro k h;rw [List.range_succ,List.find?_append] at h;cases e:(List.range n).find? P with
  |some k'=>
   rw [e] at h;simp at h;subst h;obtain ⟨a,b,c⟩:=ih e;exact ⟨by omega,b,c⟩
  |none=>
   rw [e] at h;simp [List.find?_cons] at h;split at h
   ·rename_i z;cases h;exact ⟨by omega,z,R5 e⟩
   ·cases h
theorem qln {M:Nat} {h:Int} {ow:Array (Option Nat)}:∀ (fuel c n:Nat),pth M h n=hd M (lv M h c).1 (lv M h c).2->(∀ m,m<n->own ow (pth M h m).j≠none)->(∃ c',c<=c'/\c'<c+fuel/\own ow (lv M h c').1=none) ->
  ∃ m,layClean.free M ow fuel (lv M h c).1 (lv M h c).2=some (pth M h m).j/\own ow (pth M h m).j=none/\∀ m',m'<m->own ow (pth M h m').j≠none
 |0,c,n,_,_,⟨c',h1,h2,_⟩=>by omega
 |fuel+1,c,n,e,hn,⟨c',h1,h2,h3⟩=>by
  have r:=L5 (qdp M h c);rw [layClean.free];cases f:(List.range (runEnd M (lv M h c).1+1-(lv M h c).1)).find? (λk=>(ow.getD ((lv M h c).1+k) (some 0)).isNone) with
  |some k=>
   obtain ⟨k1,k2,k3⟩:=qbZ f;refine ⟨n+k,?_,?_,λm' hm'=>?_⟩
   ·simp only;rw [K8 e (by omega)]
   ·rw [K8 e (by omega)];unfold own;exact Option.isNone_iff_eq_none.mp k2
   ·rcases Nat.lt_or_ge m' n with z|z
    ·exact hn m' z
    ·obtain ⟨x,rfl⟩:∃ x,m'=n+x:=⟨m'-n,by omega⟩
     rw [K8 e (by omega)];have:=k3 x (by omega);unfold own;intro q;rw [q] at this;cases this
  |none=>
   have k3:=R5 f;have all:∀ m,m<n+(runEnd M (lv M h c).1-(lv M h c).1)+1->own ow (pth M h m).j≠none:=λm hm=>by
    rcases Nat.lt_or_ge m n with z|z
    ·exact hn m z
    ·obtain ⟨x,rfl⟩:∃ x,m=n+x:=⟨m-n,by omega⟩
     rw [K8 e (by omega)];have:=k3 x (by omega);unfold own;intro q;rw [q] at this;cases this
   have ne:c'≠c:=λz=>by
    subst z;have:=k3 0 (by omega);rw [Nat.add_zero] at this;unfold own at h3;rw [h3] at this;cases this
   exact qln fuel (c+1) _ (qc3 e) all ⟨c',by omega,by omega,h3⟩
structure Lay (M:Nat) (ow:Array (Option Nat)) (hs:List Int):Prop where
 sz:ow.size=M+1
 lt:∀ (j k:Nat),ow[j]?=some (some k)->k<hs.length
 ex:∀ k,k<hs.length->∃ j:Nat,ow[j]?=some (some k)
 un:∀ (j j' k:Nat),ow[j]?=some (some k)->ow[j']?=some (some k)->j=j'
 wy:∀ (j k:Nat) (h:Int),ow[j]?=some (some k)->hs[k]?=some h->∃ m,(pth M h m).j=j/\∀ x,x<m->own ow (pth M h x).j≠none
def UQ {ow:Array (Option Nat)} {j:Nat} (h:j<ow.size):ow[j]?=some (own ow j):=by simp [own,Array.getD,h]
def qa8 {M:Nat} {h:Int} {n:Nat}:(pth M h n).j<=M:=by have:=qfm M h n;omega
theorem pig:∀ (b:Nat) (l:List Nat),(∀ x∈l,x<b)->l.Nodup->l.length<=b
 |0,l,h,_=>by
  cases l with
  |nil=>simp
  |cons a r=>exact absurd (h a (by simp)) (Nat.not_lt_zero a)
 |b+1,l,h,nd=>by
  have ih:=pig b (l.erase b) (λx hx=>by
   have q:=(List.Nodup.mem_erase_iff nd).mp hx;have:=h x q.2;have:=q.1;omega) (nd.erase b)
  rw [List.length_erase] at ih;split at ih<;>omega
def Lay.free {M:Nat} {ow:Array (Option Nat)} {hs:List Int} (l:Lay M ow hs) (hl:hs.length<=M):∃ c,c<=M/\own ow c=none:=by
 by_cases z:∃ c,c<=M/\own ow c=none
 ·exact z
 exfalso;have all:∀ c,c<=M->∃ k,ow[c]?=some (some k):=λc hc=>by
  have:=UQ (ow:=ow) (j:=c) (by rw [l.sz];omega);cases q:own ow c with
  |none=>exact absurd ⟨c,hc,q⟩ z
  |some k=>exact ⟨k,by rw [this,q]⟩
 have inj:((List.range (M+1)).map λc=>(own ow c).getD 0).Nodup:=by
  rw [List.nodup_iff_pairwise_ne,List.pairwise_map];refine List.Pairwise.imp_of_mem (R:=(·<·)) (λ{a b} ha hb hab e=>?_) (List.pairwise_lt_range);obtain ⟨k1,h1⟩:=all a (by have:=mem_range.mp ha;omega);obtain ⟨k2,h2⟩:=all b (by have:=mem_range.mp hb;omega);have e1:=UQ (ow:=ow) (j:=a) (by rw [l.sz];have:=mem_range.mp ha;omega);have e2:=UQ (ow:=ow) (j:=b) (by rw [l.sz];have:=mem_range.mp hb;omega);rw [h1] at e1;rw [h2] at e2;rw [← Option.some.inj e1,← Option.some.inj e2] at e;simp only [Option.getD_some] at e;subst e;have:=l.un a b k1 h1 h2;omega
 have sub:∀ x∈((List.range (M+1)).map λc=>(own ow c).getD 0),x∈List.range hs.length:=λx hx=>by
  obtain ⟨c,hc,rfl⟩:=mem_map.mp hx;obtain ⟨k,hk⟩:=all c (by have:=mem_range.mp hc;omega);have e1:=UQ (ow:=ow) (j:=c) (by rw [l.sz];have:=mem_range.mp hc;omega);rw [hk] at e1;rw [← Option.some.inj e1];exact mem_range.mpr (l.lt c k hk)
 have:=pig hs.length _ (λx hx=>mem_range.mp (sub x hx)) inj;simp at this;omega
def Lay.next {M:Nat} {ow:Array (Option Nat)} {hs:List Int} (F:NI M) (l:Lay M ow hs) (hl:hs.length<=M) (h:Int):∃ j,layClean.free M ow (turns M) (bits h%(M+1)) (bits h)=some j/\Lay M (ow.setIfInBounds j (some hs.length)) (hs++[h]):=by
 obtain ⟨c,hc,hf⟩:=l.free hl;obtain ⟨t,ht,e⟩:=F _ (qdp M h 13) c hc;obtain ⟨m,m1,m2,m3⟩:=qln (M:=M) (h:=h) (ow:=ow) (turns M) 0 0 rfl (λm hm=>absurd hm (Nat.not_lt_zero m)) ⟨13+t,by omega,by unfold turns;omega,by rw [qcI,e];exact hf⟩;refine ⟨_,m1,?_⟩;obtain ⟨j,hj⟩:∃ j,j=(pth M h m).j:=⟨_,rfl⟩
 have jl:j<ow.size:=by rw [l.sz,hj];have:=qa8 (M:=M) (h:=h) (n:=m);omega
 rw [← hj] at m2 ⊢;have gt:∀ i:Nat,(ow.setIfInBounds j (some hs.length))[i]?=if j=i then some (some hs.length) else ow[i]?:=λi=>by
  rw [Array.getElem?_setIfInBounds];by_cases c:j=i
  ·rw [if_pos c,if_pos c,if_pos (by omega)]
  ·rw [if_neg c,if_neg c]
 have jn:ow[j]?=some none:=by rw [UQ jl,m2]
 have on:∀ i,i<=M->own ow i≠none->own (ow.setIfInBounds j (some hs.length)) i≠none:=λi hi hn q=>by
  have s2:(ow.setIfInBounds j (some hs.length)).size=ow.size:=by simp
  have e1:=UQ (ow:=ow.setIfInBounds j (some hs.length)) (j:=i) (by rw [s2,l.sz];omega);rw [gt,q] at e1;split at e1
  ·cases e1
  ·rw [UQ (by rw [l.sz];omega)] at e1;exact hn (Option.some.inj e1)
 refine ⟨by simp [l.sz],λi k hk=>?_,λk hk=>?_,λi i' k h1 h2=>?_,λi k h' h1 h2=>?_⟩
 ·rw [gt] at hk;rw [length_append,List.length_singleton];split at hk
  ·cases hk;omega
  ·have:=l.lt i k hk;omega
 ·rw [length_append,List.length_singleton] at hk;rcases Nat.lt_or_ge k hs.length with z|z
  ·obtain ⟨i,hi⟩:=l.ex k z;refine ⟨i,?_⟩;rw [gt,if_neg (λq=>by rw [← q,jn] at hi;cases hi),hi]
  ·obtain rfl:k=hs.length:=by omega
   exact ⟨j,by rw [gt,if_pos rfl]⟩
 ·rw [gt] at h1 h2;split at h1
  ·rename_i q1;split at h2
   ·rename_i q2;omega
   ·cases h1;have:=l.lt i' _ h2;omega
  ·split at h2
   ·cases h2;have:=l.lt i _ h1;omega
   ·exact l.un i i' k h1 h2
 ·rw [gt] at h1;split at h1
  ·rename_i q;cases h1;rw [List.getElem?_append_right (by omega),Nat.sub_self] at h2;cases h2;exact ⟨m,by rw [← hj,q],λx hx=>on _ qa8 (m3 x hx)⟩
  ·have kl:=l.lt i k h1;rw [List.getElem?_append_left kl] at h2;obtain ⟨m',w1,w2⟩:=l.wy i k h' h1 h2;exact ⟨m',w1,λx hx=>on _ qa8 (w2 x hx)⟩
def Lay.start (M:Nat):Lay M (Array.replicate (M+1) none) []:=by
 have g:∀ j k:Nat,¬ (Array.replicate (M+1) (none:Option Nat))[j]?=some (some k):=λj k h=>by
  rw [Array.getElem?_replicate] at h;split at h<;>cases h
 exact ⟨by simp,λj k h=>absurd h (g j k),λk hk=>absurd hk (by simp),λj j' k h=>absurd h (g j k),λj k h q=>absurd q (g j k)⟩
theorem qbf {M:Nat} (F:NI M):∀ (hs r:List Int) (ow:Array (Option Nat)),Lay M ow r->r.length+hs.length<=M+1 ->
  ∃ ow',hs.foldl (λacc h=>do
   let (owner,k)←acc
   let j←layClean.free M owner (turns M) (bits h%(M+1)) (bits h)
   pure (owner.setIfInBounds j (some k),k+1)) (some (ow,r.length))=some (ow',(r++hs).length)/\Lay M ow' (r++hs)
 |[],r,ow,l,_=>⟨ow,by simp,by simpa using l⟩
 |h::hs,r,ow,l,hl=>by
  rw [length_cons] at hl;obtain ⟨j,h1,h2⟩:=l.next F (by omega) h;have ih:=qbf F hs (r++[h]) _ h2 (by rw [length_append,List.length_singleton];omega);rw [length_append,List.length_singleton,List.append_assoc] at ih;obtain ⟨ow',e1,e2⟩:=ih;refine ⟨ow',?_,e2⟩;rw [List.foldl_cons];simp only [Option.bind_eq_bind,Option.bind_some,h1,Option.pure_def];exact e1
def qia {M:Nat} (F:NI M) {hs:Array Int} (hl:hs.size<=M+1):∃ ow,layClean M hs=some ow/\Lay M ow hs.toList:=by
 obtain ⟨ow,e1,e2⟩:=qbf F hs.toList [] _ (Lay.start M) (by simpa using hl);refine ⟨ow,?_,by simpa using e2⟩;unfold layClean;rw [← Array.foldl_toList];rw [length_nil] at e1;rw [e1];rfl
def liv (M:Nat) (ow:Array (Option Nat)):List (Nat×Nat):=(List.range (M+1)).filterMap λj=>(ow.getD j none).map (j,·)
def YD {M:Nat} {ow:Array (Option Nat)} {hs:List Int} (l:Lay M ow hs) {j k:Nat}:(j,k)∈liv M ow↔ow[j]?=some (some k):=by
 unfold liv;rw [List.mem_filterMap];constructor
 ·rintro ⟨x,hx,e⟩;obtain ⟨k',e1,e2⟩:=za3 e;cases e2;have:=mem_range.mp hx;have:j<ow.size:=by rw [l.sz];exact this
  have z:ow.getD j none=ow[j]:=by simp [Array.getD,this]
  rw [Array.getElem?_eq_getElem this,← z,e1]
 ·intro e;obtain ⟨h1,h2⟩:=Array.getElem?_eq_some_iff.mp e;refine ⟨j,mem_range.mpr (by rw [← l.sz];exact h1),?_⟩;have z:ow.getD j none=ow[j]:=by simp [Array.getD,h1]
  rw [z,h2];rfl
def qeV (M:Nat) (ow:Array (Option Nat)):((liv M ow).map (·.1)).Pairwise (·<·):=by
 unfold liv;rw [List.pairwise_map,List.pairwise_filterMap];refine List.Pairwise.imp (λ{a b} hab x hx y hy=>?_) List.pairwise_lt_range;obtain ⟨_,_,rfl⟩:=za3 hx;obtain ⟨_,_,rfl⟩:=za3 hy;exact hab
def qnh {l:List Nat} (h:l.Pairwise (·<·)):Up l.toArray:=by
 intro a b hab hb;have hb':b<l.length:=by simpa using hb
 have:=List.pairwise_iff_getElem.mp h a b (by omega) hb' hab;simpa [Array.getD,hb',show a<l.length by omega] using this
def MI {M:Nat} {ow:Array (Option Nat)} {hs:List Int} (l:Lay M ow hs):((liv M ow).map (·.2)).Perm (List.range hs.length):=by
 have nd:((liv M ow).map (·.2)).Nodup:=by
  rw [List.nodup_iff_pairwise_ne,List.pairwise_map];have u:=qeV M ow;rw [List.pairwise_map] at u;refine List.Pairwise.imp_of_mem (λ{a b} ha hb hab e=>?_) u;obtain ⟨a1,a2⟩:=a;obtain ⟨b1,b2⟩:=b;simp only at e hab;subst e;have:=l.un a1 b1 a2 ((YD l).mp ha) ((YD l).mp hb);omega
 refine (List.perm_ext_iff_of_nodup nd List.nodup_range).mpr λk=>?_;rw [mem_range,mem_map];constructor
 ·rintro ⟨⟨j,k'⟩,hq,rfl⟩;exact l.lt j _ ((YD l).mp hq)
 ·intro hk;obtain ⟨j,hj⟩:=l.ex k hk;exact ⟨(j,k),(YD l).mpr hj,rfl⟩
def qhd {M f mv:Nat} {led pl:Bool} {ow:Array (Option Nat)} {hs:List Int} (F:NI M) (od:M%2=1) (l:Lay M ow hs) (hl:hs.length<=M) :
  Ok8 { mask:=M,place:=((liv M ow).map (·.1)).toArray,dummies:=#[],finger:=f,led:=led,moves:=mv,plain:=pl } (((liv M ow).map (·.2)).map λk=>hs.getD k 0):=by
 have pm:=MI l;have ll:(liv M ow).length=hs.length:=by have:=pm.length_eq;simpa using this
 have up:Up ((liv M ow).map (·.1)).toArray:=qnh (qeV M ow);have at_:∀ (i j:Nat),((liv M ow).map (·.1)).toArray[i]?=some j->∃ k,(liv M ow)[i]?=some (j,k):=λi j h=>by
  rw [SF,getElem?_map] at h;obtain ⟨⟨a,b⟩,e1,e2⟩:=za3 h;exact ⟨b,by rw [e1];simp only at e2;rw [e2]⟩
 refine ⟨up,rfl,by simp [ll],by simp [ll];exact hl,λi j h=>?_,F,od,λi j h h1 h2=>?_⟩
 ·obtain ⟨k,hk⟩:=at_ i j h;have:=(YD l).mp (v9 hk);have:=(Array.getElem?_eq_some_iff.mp this).1;rw [l.sz] at this;simp only;omega
 ·obtain ⟨k,hk⟩:=at_ i j h1;have o1:=(YD l).mp (v9 hk);rw [getElem?_map,getElem?_map,hk] at h2;simp only [Option.map_some,Option.some.injEq] at h2;have kl:=l.lt j k o1;obtain ⟨m,m1,m2⟩:=l.wy j k h o1 (by rw [← h2,getD_eq_getElem?_getD,y9 kl];rfl);refine ⟨m,m1,λx hx=>?_⟩;have n1:=m2 x hx;have jl:(pth M h x).j<ow.size:=by rw [l.sz];have:=qa8 (M:=M) (h:=h) (n:=x);omega
  cases q:own ow (pth M h x).j with
  |none=>exact absurd q n1
  |some k'=>
   have o2:ow[(pth M h x).j]?=some (some k'):=by rw [UQ jl,q]
   obtain ⟨i',hi'⟩:=List.mem_iff_getElem?.mp ((YD l).mpr o2);have:((liv M ow).map (·.1)).toArray[i']?=some (pth M h x).j:=by rw [SF,getElem?_map,hi'];rfl
   rw [DH (t:={ mask:=M,place:=((liv M ow).map (·.1)).toArray,dummies:=#[],finger:=f,led:=led,moves:=mv,plain:=pl }) up this];exact λz=>by cases z
end Tb8
namespace Tb8
open PySem PyProof.Rows PySem.SetTable
section
variable {prog:Program} {w:World} {A:Around} {E:Value->Shared->Prop} {s:Shared}
def XZ {α β:Type} {l:List α} {f:α->β} {g:α->Option β}:(∀ x∈l,g x=some (f x))->l.filterMap g=l.map f:=by
 induction l with
 |nil=>intro _;rfl
 |cons x r ih=>
  intro h;rw [List.filterMap_cons,h x (by simp),map_cons,ih λy hy=>h y (by simp [hy])]
def Gd (t:SetTable) (n:Nat):Prop:=(t.mask=7/\n<=4)\/(t.mask=31/\n<=18)\/(t.mask=127/\n<=76)\/(t.mask=511/\n<=306)
end
theorem Ok8.fits {t:SetTable} {hs:List Int} (o:Ok8 t hs):t.fits hs.length=true:=by
 have c:t.fill=t.place.size:=by unfold SetTable.fill;rw [o.dm];rfl
 unfold SetTable.fits;rw [c,o.sz];simp [o.fl]
def qbF {t:SetTable} {hs:List Int} (o:Ok8 t hs) (h:Int) (tm:t.mask<=511):∃ e,t.freeSlot h=some ((pth t.mask h e).j,false)/\t.slot (pth t.mask h e).j=.empty/\∀ k,k<e->t.slot (pth t.mask h k).j≠.empty:=by
 obtain ⟨e,e0,e1,e2⟩:=NN (t:=t) (h:=h) o.fu o.up o.dm (by have:=o.sz;have:=o.fl;omega);refine ⟨e,?_,e1,e2⟩;unfold SetTable.freeSlot SetTable.probe;have h0:t.probeStart h=pth t.mask h 0:=rfl;have ev:∀ k,k<e->∃ i,t.slot (pth t.mask h (0+k)).j=.live i/\((λ_:Nat=>h+1) i==h)=false:=λk hk=>by
  rw [Nat.zero_add];rcases qcd o.up o.dm (pth t.mask h k).j with ⟨z,_⟩|⟨i,z,_⟩
  ·exact absurd z (e2 k hk)
  ·exact ⟨i,z,by show (h+1==h)=false;rw [beq_eq_false_iff_ne];omega⟩
 have g:=qbY (t:=t) (hA:=λ_=>h+1) (h:=h) e (10*turns t.mask) 0 ev (by omega);rw [h0,g,Nat.zero_add,qdl e1 (by omega)];rfl
def qhi {t:SetTable} {hs:List Int} (o:Ok8 t hs) {es:Array (Int×Value)} (ez:es.size=hs.length) (h:Int) (x:Value) (tm:t.mask<=511) (hf:hs.length+1<=t.mask) :
  ∃ p t1,layNew t es h x=(insertAt es p (h,x),t1,false,false)/\p<=hs.length/\Ok8 t1 (ins hs p h)/\t1.mask=t.mask/\t1.led=t.led/\t1.plain=t.plain:=by
 obtain ⟨e,e1,e2,e3⟩:=qbF o h tm;obtain ⟨pl,ok1,mk1⟩:=o.put (h:=h) e2 qa8 hf ⟨e,rfl,λk hk=>e3 k hk⟩;refine ⟨(t.put (pth t.mask h e).j).2,(t.put (pth t.mask h e).j).1,?_,pl,ok1,mk1,rfl,rfl⟩;have il:(ins hs (t.put (pth t.mask h e).j).2 h).length=hs.length+1:=UL pl;have iz:(insertAt es (t.put (pth t.mask h e).j).2 (h,x)).size=hs.length+1:=by
  rw [← Array.length_toList,JG _ _ _ (by rw [ez];exact pl),UL (by simpa [ez] using pl),Array.length_toList,ez]
 have ft:(t.put (pth t.mask h e).j).1.fits (insertAt es (t.put (pth t.mask h e).j).2 (h,x)).size=true:=by
  rw [iz,← il];exact ok1.fits
 unfold layNew;rw [e1];simp only;unfold SetTable.orStandIn;rw [ft];rfl
def MO {α β:Type} {f:α->β} {l:List β} {r:List α} (h:l.Perm (r.map f)):∃ r':List α,l=r'.map f/\r'.Perm r:=by
 generalize e:r.map f=m at h;induction h generalizing r with
 |nil=>cases r with
  |nil=>exact ⟨[],rfl,.nil⟩
  |cons a r=>cases e
 |cons x _ ih=>cases r with
  |nil=>cases e
  |cons a r=>
   obtain ⟨e1,e2⟩:=List.cons.inj e;obtain ⟨r',a1,a2⟩:=ih e2;exact ⟨a::r',by rw [map_cons,e1,a1],a2.cons _⟩
 |swap x y l=>match r,e with
  |a::b::r,e=>
   obtain ⟨e1,e2⟩:=List.cons.inj e;obtain ⟨e3,e4⟩:=List.cons.inj e2;exact ⟨b::a::r,by rw [map_cons,map_cons,e1,e3,e4],.swap ..⟩
 |trans _ _ ih1 ih2=>
  obtain ⟨r1,a1,a2⟩:=ih2 e;obtain ⟨r2,b1,b2⟩:=ih1 a1.symm;exact ⟨r2,b1,b2.trans a2⟩
def qaI {t:SetTable} {es:Array (Int×Value)} {n M:Nat} (hM:sizeAbove n-1=M) (F:NI M) (od:M%2=1) (hl:es.size<=M) :
  ∃ es' t',relayAll t es n=(es',t',false)/\es'.toList.Perm es.toList/\Ok8 t' (es'.toList.map (·.1))/\t'.mask=M/\t'.led=t.led/\t'.plain=t.plain:=by
 obtain ⟨ow,c1,c2⟩:=qia F (hs:=es.map (·.1)) (by simpa using (by omega:es.size<=M+1));have pm:((liv M ow).map (·.2)).Perm (List.range es.size):=by have:=MI c2;simpa using this
 have ok:=qhd (f:=t.finger) (mv:=t.movedTo M) (led:=t.led) (pl:=t.plain) F od c2 (by simpa using hl);have e1:t.relaid (es.map (·.1)) n=some ({ mask:=M,place:=((liv M ow).map (·.1)).toArray,dummies:=#[],finger:=t.finger,led:=t.led,moves:=t.movedTo M,plain:=t.plain },((liv M ow).map (·.2)).toArray):=by
  unfold SetTable.relaid SetTable.laid;rw [hM,c1];rfl
 obtain ⟨ord,ho⟩:∃ ord,ord=((liv M ow).map (·.2)).toArray:=⟨_,rfl⟩
 have pm':ord.toList.Perm (List.range es.size):=by rw [ho];simpa using pm
 obtain ⟨es',he'⟩:∃ es',es'=ord.filterMap (es[·]?):=⟨_,rfl⟩
 have gl:∀ k∈ord.toList,k<es.size:=λk hk=>mem_range.mp (pm'.mem_iff.mp hk);have hes:es'.toList=ord.toList.map λk=>es.getD k (0,.none):=by
  rw [he',Array.toList_filterMap];exact XZ λk hk=>by simp [Array.getD,gl k hk]
 have pe:es'.toList.Perm es.toList:=by
  rw [hes];refine (pm'.map _).trans ?_;have:(List.range es.size).map (λk=>es.getD k (0,.none))=es.toList:=by
   refine List.ext_getElem (by simp) λi h1 h2=>?_;have:i<es.size:=by simpa using h2
   simp [Array.getD,this]
  rw [this]
 have ez:es'.size=es.size:=by rw [← Array.length_toList,pe.length_eq,Array.length_toList]
 have hh:es'.toList.map (·.1)=((liv M ow).map (·.2)).map λk=>(es.map (·.1)).toList.getD k 0:=by
  rw [hes,ho,map_map];refine List.map_congr_left λk hk=>?_;have:=gl k (by rw [ho];exact hk);simp [Array.getD,getD_eq_getElem?_getD,this]
 rw [← hh] at ok;refine ⟨es',_,?_,pe,ok,rfl,rfl,rfl⟩;have ft:=ok.fits;rw [length_map,Array.length_toList] at ft;have cv:coversAll ord es.size=true:=by unfold coversAll;exact List.isPerm_iff.mpr pm'
 unfold relayAll;rw [e1];simp only;rw [← ho,← he',cv,ft];rfl
section
variable {prog:Program} {w:World} {A:Around} {E:Value->Shared->Prop} {s:Shared}
structure IS (prog:Program) (w:World) (h:Heap) (S:Addr) (en:List (Int×Value)) (ld:Bool) (o:Obj) (es:Array (Int×Value)) (ep:Nat) (t:SetTable):Prop where
 ho:h.get? S=some o
 hc:o.ExactSet
 hd:o.data=.set es ep t
 he:es.toList=en.map λq=>((intKind prog w).hash q.1,q.2)
 hI:∀ q∈en,(intKind prog w).is q.1 q.2=true/\q.2.scannable=true
 ok:Ok8 t (en.map λq=>(intKind prog w).hash q.1)
 nd:(en.map (·.1)).Nodup
 ld:t.led=ld
 pl:t.plain=true
section
variable {h:Heap} {S:Addr} {en:List (Int×Value)} {ld:Bool} {o:Obj} {es:Array (Int×Value)} {ep:Nat} {t:SetTable}
def IS.sz (p:IS prog w h S en ld o es ep t):es.size=en.length:=by
 have:=congrArg List.length p.he;simpa using this
theorem IS.fits (p:IS prog w h S en ld o es ep t):t.fits es.size=true:=by
 have:=p.ok.fits;rw [length_map] at this;rw [p.sz];exact this
def IS.el (p:IS prog w h S en ld o es ep t):ElemsOf (intKind prog w) es.toList:=λe he=>by
 rw [p.he] at he;obtain ⟨q,hq,rfl⟩:=mem_map.mp he;exact ⟨⟨q.1,(p.hI q hq).1,rfl⟩,(p.hI q hq).2⟩
def IS.store (p:IS prog w h S en ld o es ep t) {es':Array (Int×Value)} {en':List (Int×Value)} {t':SetTable} (he:es'.toList=en'.map λq=>((intKind prog w).hash q.1,q.2)) (hI:∀ q∈en',(intKind prog w).is q.1 q.2=true/\q.2.scannable=true) (ok:Ok8 t' (en'.map λq=>(intKind prog w).hash q.1)) (nd:(en'.map (·.1)).Nodup) (l:t'.led=ld) (pl:t'.plain=true) :
  ∃ o',IS prog w (h.update S (Obj.putSet es' t')) S en' ld o' es' (ep+1) t':=by
 have hp:Obj.putSet es' t' o={ o with data:=.set es' (ep+1) t' }:=by
  obtain ⟨c,d,da,sl⟩:=o;have hd:da=.set es ep t:=p.hd;subst hd;rfl
 have hg:(h.update S (Obj.putSet es' t')).get? S=some { o with data:=.set es' (ep+1) t' }:=by
  have:=Heap.get?_update_self (Obj.putSet es' t') p.ho (by rw [hp];rfl);rw [hp] at this;exact this
 exact ⟨_,hg,p.hc,rfl,he,hI,ok,nd,l,pl⟩
def IS.keep {h':Heap} (p:IS prog w h S en ld o es ep t) (k:h'.get? S=some o):IS prog w h' S en ld o es ep t:=⟨k,p.hc,p.hd,p.he,p.hI,p.ok,p.nd,p.ld,p.pl⟩
end
def qhM {k k':Int} {v:Value} (h:(intKind prog w).is k v=true) (h':(intKind prog w).is k' v=true):k=k':=by
 obtain ⟨t,rfl⟩:=LH h;obtain ⟨t',e⟩:=LH h';cases e;rfl
def qoB {S:Addr} {en:List (Int×Value)} {ld:Bool} {o:Obj} {es:Array (Int×Value)} {ep:Nat} {t:SetTable} {k:Int} {x:Value} {Q:Bool->Shared->Prop} (p:IS prog w s.heap S en ld o es ep t) (g:Gd t en.length) (hn:en.length<306) (hk:(intKind prog w).is k x=true) (hsc:x.scannable=true)
  (h:∀ b h' en' o' es' ep' t',IS prog w h' S en' ld o' es' ep' t'->Gd t' en'.length->(∀ x,x∈en'.map (·.1)↔x∈en.map (·.1)\/x=k)->en'.length<=en.length+1->Heap.SameBut S s.heap h'->Q b { s with heap:=h' }) :
  wpAny (model prog w) A (setAddHashed S x ((intKind prog w).hash k)) Q E s:=by
 have tm:t.mask<=511:=by rcases g with g|g|g|g<;>omega
 have hb:es.size<scanBound:=by rw [p.sz];unfold scanBound;omega
 unfold setAddHashed setAddHashedIn;refine wpAny_holding (x8 (wpAny_setState_of p.ho p.hd p.fits ?_));dsimp only;rw [byScan_of hsc hb p.el];simp only [↓reduceIte];unfold setAddByScan;refine x8 ?_;refine x8 (wpAny_rule ?_);refine x8 (wpAny_setScan_of hk p.ho p.hd p.fits p.el ?_);cases hr:List.findIdx? (λe=>(intKind prog w).is k e.2) es.toList with
 |some j=>
  dsimp only;obtain ⟨hj,hpj,_⟩:=List.findIdx?_eq_some_iff_getElem.mp hr;have hm:∀ y,y∈es.toList->y∈en.map λq=>((intKind prog w).hash q.1,q.2):=λy hy=>by rw [← p.he];exact hy
  obtain ⟨q,hq,e⟩:=mem_map.mp (hm _ (List.getElem_mem hj));have e2:(es.toList[j]).2=q.2:=by rw [← e]
  rw [e2] at hpj;have:q.1=k:=qhM (p.hI q hq).1 hpj;have hin:k∈en.map (·.1):=mem_map.mpr ⟨q,hq,this⟩;refine x9 (x9 ?_);have e:s={ s with heap:=s.heap }:=by cases s;rfl
  rw [e];exact h _ s.heap en o es ep t p g (λx=>⟨.inl,λz=>z.elim id λz=>z▸hin⟩) (by omega) (.refl ..)
 |none=>
  dsimp only;have hin:k∉en.map (·.1):=λz=>by
   obtain ⟨q,hq,rfl⟩:=mem_map.mp z;have:=List.findIdx?_eq_none_iff.mp hr ((intKind prog w).hash q.1,q.2) (by rw [p.he];exact mem_map.mpr ⟨q,hq,rfl⟩);rw [(p.hI q hq).1] at this;cases this
  have hgw:∀ (b:Bool) {s₁:Shared} {Q':Unit->Shared->Prop},Q' () s₁->wpAny (model prog w) A (match b with|true=>rule "set.scan.the-table-gave-way" |false=>pure ()) Q' E s₁:=
   λb s₁ Q' hq=>by cases b<;>first|exact x9 hq|exact wpAny_rule hq
  obtain ⟨pp,t1,eL,pl,ok1,mk1,ld1,pl1⟩:=qhi p.ok (es:=es) (by rw [length_map];exact p.sz) ((intKind prog w).hash k) x tm (by rw [length_map];rcases g with g|g|g|g<;>omega);rw [length_map] at pl;rw [eL];dsimp only;have hes:(insertAt es pp ((intKind prog w).hash k,x)).toList=(ins en pp (k,x)).map λq=>((intKind prog w).hash q.1,q.2):=by
   rw [JG _ _ _ (by rw [p.sz];exact pl),p.he];unfold ins;rw [List.map_append,map_cons,List.map_take,List.map_drop]
  have hhs:(ins en pp (k,x)).map (λq=>(intKind prog w).hash q.1)=ins (en.map λq=>(intKind prog w).hash q.1) pp ((intKind prog w).hash k):=by
   unfold ins;rw [List.map_append,map_cons,List.map_take,List.map_drop]
  have pm:(ins en pp (k,x)).Perm ((k,x)::en):=by
   unfold ins;refine List.perm_middle.trans ?_;rw [List.take_append_drop]
  have il:(ins en pp (k,x)).length=en.length+1:=UL pl;have hI:∀ q∈ins en pp (k,x),(intKind prog w).is q.1 q.2=true/\q.2.scannable=true:=λq hq=>by
   rcases mem_cons.mp (pm.mem_iff.mp hq) with rfl|z
   ·exact ⟨hk,hsc⟩
   ·exact p.hI q z
  have nd:((ins en pp (k,x)).map (·.1)).Nodup:=by
   rw [(pm.map _).nodup_iff,map_cons,List.nodup_cons];exact ⟨hin,p.nd⟩
  have mem:∀ y,y∈(ins en pp (k,x)).map (·.1)↔y∈en.map (·.1)\/y=k:=λy=>by
   rw [(pm.map _).mem_iff,map_cons,mem_cons];exact ⟨λz=>z.elim .inr .inl,λz=>z.elim .inr .inl⟩
  rw [← hhs] at ok1;obtain ⟨o',q⟩:=p.store (t':=t1) hes hI ok1 nd (ld1.trans p.ld) (pl1.trans p.pl);have iz:(insertAt es pp ((intKind prog w).hash k,x)).size=en.length+1:=by rw [← Array.length_toList,hes,length_map,il]
  refine x8 (hgw false ?_);have pt:t1.plain=true:=pl1.trans p.pl;rw [pt];simp only [if_true];refine x8 ?_;rw [hashByValue_scannable 8 hsc];refine x9 ?_;have pk:plainKind x=true:=by obtain ⟨t,rfl⟩:=LH hk;rfl
  rw [pk];simp only [if_true];refine x8 (wpAny_storeSet_of p.ho p.hd ?_ (by rw [iz,y8];omega));have fl:t1.fill=en.length+1:=by
   have z:=ok1.sz;rw [length_map,il] at z;unfold SetTable.fill;rw [ok1.dm,z];rfl
  have tf:t1.tooFull=decide ((en.length+1)*5 ≥ t.mask*3):=by
   unfold SetTable.tooFull;rw [fl,mk1]
  rw [tf];by_cases c:(en.length+1)*5 ≥ t.mask*3
  ·rw [za2 c];simp only [Bool.not_false,Bool.and_self,if_true];have n5:∃ M,sizeAbove (grown (en.length+1))-1=M/\NI M/\M%2=1/\en.length+1<=M/\((M=31/\en.length+1<=18)\/(M=127/\en.length+1<=76)\/(M=511/\en.length+1<=306)):=by
    have:(en.length=4/\t.mask=7)\/(en.length=18/\t.mask=31)\/(en.length=76/\t.mask=127):=by rcases g with g|g|g|g<;>omega
    rcases this with z|z|z
    ·exact ⟨31,by rw [z.1];rfl,qiP,rfl,by omega,.inl ⟨rfl,by omega⟩⟩
    ·exact ⟨127,by rw [z.1];rfl,qgV,rfl,by omega,.inr (.inl ⟨rfl,by omega⟩)⟩
    ·exact ⟨511,by rw [z.1];rfl,qht,rfl,by omega,.inr (.inr ⟨rfl,by omega⟩)⟩
   obtain ⟨M,hM,F,od,hl,gd⟩:=n5;obtain ⟨es2,t2,e2,pe,ok2,mk2,ld2,pl2⟩:=qaI (t:=t1) (es:=insertAt es pp ((intKind prog w).hash k,x)) (n:=grown (insertAt es pp ((intKind prog w).hash k,x)).size) (M:=M) (by rw [iz];exact hM) F od (by rw [iz];exact hl);rw [e2];dsimp only;rw [hes] at pe;obtain ⟨en2,he2,pe2⟩:=MO pe;have ez2:es2.size=en.length+1:=by rw [← Array.length_toList,pe.length_eq,length_map,il]
   rw [he2,map_map] at ok2;obtain ⟨o2,q2⟩:=q.store (t':=t2) he2 (λy hy=>hI y (pe2.mem_iff.mp hy)) ok2 ((pe2.map _).nodup_iff.mpr nd) (ld2.trans (ld1.trans p.ld)) (pl2.trans (pl1.trans p.pl));refine x8 (hgw false ?_);refine x8 (wpAny_storeSet_of q.ho q.hd ?_ (by rw [ez2,y8];omega));refine x9 (x9 (h _ _ _ _ _ _ _ q2 ?_ (λy=>by rw [(pe2.map _).mem_iff];exact mem y) (by rw [pe2.length_eq,il];exact v5 _) ((Heap.SameBut.update ..).trans (.update ..))));unfold Gd;rw [mk2,pe2.length_eq,il];rcases gd with gd|gd|gd
   ·exact .inr (.inl gd)
   ·exact .inr (.inr (.inl gd))
   ·exact .inr (.inr (.inr gd))
  ·rw [za1 c];simp only [Bool.not_false,Bool.and_false,Bool.false_eq_true,if_false];refine x9 (x9 (h _ _ _ _ _ _ _ q ?_ mem (by rw [il];exact v5 _) (.update ..)));unfold Gd;rw [mk1,il];rcases g with g|g|g|g<;>omega
end
def cnt (key:Nat->List Int):Nat->Nat
 |0=>0
 |j+1=>if ∃ i,i<j/\key i=key j then cnt key j else cnt key j+1
section
variable {prog:Program} {w:World} {A:Around} {R:Result->Shared->Prop} {I:Addr} {fp wr:List Addr} {n:Nat} {P:Nat->Value->Prop} {St:Nat->Heap->Prop}
end
section
variable {prog:Program} {w:World} {A:Around} {E:Value->Shared->Prop} {s:Shared}
end
end Tb8
namespace L3
open PySem PySem.Spec PyProof.Rows L2
section
variable {X:Cx}
end
end L3
namespace Tb8
open PySem PyProof.Rows PySem.SetTable
section
variable {prog:Program} {w:World} {A:Around} {E:Value->Shared->Prop} {s:Shared}
end
end Tb8
namespace L3
open PySem PySem.Spec PyProof.Rows L2
section
variable {X:Cx}
end
end L3
namespace Tb8
open PySem PyProof.Rows PySem.SetTable
abbrev WI (w:World):Bool:=!w.params.followText "set-order"
def ql5 (prog:Program) (w:World) (h:Heap) (S:Addr) (M:Int->Prop):Prop:=∃ en o es ep t,IS prog w h S en (WI w) o es ep t/\en.length<=306/\∀ x,x∈en.map (·.1)↔M x
section
variable {prog:Program} {w:World} {A:Around} {R:Result->Shared->Prop} {I:Addr} {fp wr:List Addr} {n:Nat} {P:Nat->Value->Prop} {St:Nat->Heap->Prop}
def qmY (W:Walks prog w A.in1 I fp wr n P St) (val:Nat->Int) (hval:∀ i v,P i v->∃ t,v=.int (val i) t) (S:Addr) (hSf:S∉fp) (hn:n<=306) :
  ∀ (k j:Nat) (s:Shared) (en:List (Int×Value)) (o:Obj) (es:Array (Int×Value)) (ep:Nat) (t:SetTable),n-j=k->j<=n->St j s.heap->IS prog w s.heap S en (WI w) o es ep t->Gd t en.length ->
  (∀ x,x∈en.map (·.1)↔∃ i,i<j/\val i=x)->en.length<=j ->
  (∀ h' tk,ql5 prog w h' S (λx=>∃ i,i<n/\val i=x)->(∀ b o,b∉wr->b≠S->s.heap.get? b=some o->h'.get? b=some o)->R (.ok (.ret .none)) { s with heap:=h',toks:=tk }) ->
  codeAny (model prog w) A (.builtin "set.update.loop" ⟨[.ref S,.ref I],[]⟩) R s:=by
 have hSw:S∉wr:=λh=>hSf (W.sub _ h);intro k;induction k with
 |zero=>
  intro j s en o es ep t hk hj hst p g hm hc hR;obtain rfl:j=n:=by omega
  refine codeAny_builtin F.entry_set_update_loop ?_;rw [Around.under_plainId F.plain_set_update_loop _];show wpAny _ A.in1 (pyNext (.ref I) >>= _) _ _ s;refine x8 (W.done s _ _ hst λh' tk kp=>?_);show wpAny _ A.in1 (ret Value.none) _ _ _;exact x9 (hR h' tk ⟨en,o,es,ep,t,p.keep (kp S _ hSw p.ho),by omega,hm⟩ λb o hb _ e=>kp b o hb e)
 |succ k ih=>
  intro j s en o es ep t hk hj hst p g hm hc hR;have lt:j<n:=by omega
  refine codeAny_builtin F.entry_set_update_loop ?_;rw [Around.under_plainId F.plain_set_update_loop _];show wpAny _ A.in1 (pyNext (.ref I) >>= _) _ _ s;refine x8 (W.item j s _ _ lt hst λv h' tk hv hst' kp=>?_);obtain ⟨tt,rfl⟩:=hval j v hv;have p':IS prog w h' S en (WI w) o es ep t:=p.keep (kp S _ hSw p.ho);show wpAny _ A.in1 (holding [Value.int (val j) tt] (setAdd S (.int (val j) tt)) >>= _) _ _ _;refine x8 (wpAny_holding ?_);unfold setAdd;refine wpAny_holding ?_;refine x8 ((intKind prog w).pyHash (k:=val j) (intKind_is _ _ _ _) ?_);refine qoB (s:={ s with heap:=h',toks:=tk+1 }) p' g (by omega) (intKind_is _ _ _ _) rfl λb h'' en' o' es' ep' t' q g' mem l1 sb=>?_;refine x9 ⟨plainId_quiet F.plain_set_update_loop _,ih (j+1) _ en' o' es' ep' t' (by omega) lt (W.frame _ _ _ hst' λb hb o e=>?_) q g' (λx=>?_) (by omega) λh3 tk3 hS3 kp3=>?_⟩
  ·exact (sb.2 b (λz:b=S=>hSf (by rw [← z];exact hb))).trans e
  ·rw [mem,hm];constructor
   ·rintro (⟨i,h1,h2⟩|rfl)
    ·exact ⟨i,by omega,h2⟩
    ·exact ⟨j,by omega,rfl⟩
   ·rintro ⟨i,h1,h2⟩;rcases Nat.lt_or_ge i j with z|z
    ·exact .inl ⟨i,z,h2⟩
    ·obtain rfl:i=j:=by omega
     exact .inr h2.symm
  ·exact hR h3 tk3 hS3 λb o hb hbS e=>kp3 b o hb hbS ((sb.2 b hbS).trans (kp b o hb e))
end
section
variable {prog:Program} {w:World} {A:Around} {E:Value->Shared->Prop} {s:Shared}
def qc8 (a:Value) {Q₁:Value->Shared->Prop} (h:Q₁ (.ref s.heap.objs.size) { s with heap:=s.heap.push (HT.oS (WI w)) }) :
  codeAny (model prog w) A (.call (.builtin "set.__new__") ⟨[.type "set",a],[]⟩) (wants Q₁ E) s:=by
 refine codeAny_of_tree ?_;show wpAny _ A.in1 (do checkBuiltinCall "set.__new__" ⟨[.type "set",a],[]⟩;again (.builtin "set.__new__" ⟨[.type "set",a],[]⟩)) _ _ s;refine x8 (wpAny_of_eq (F.newCall_set_1 a) (x9 ⟨plainId_quiet F.plain_set_new _,codeAny_builtin F.entry_set_new ?_⟩));rw [Around.under_plainId F.plain_set_new _];unfold Builtin.«set.__new__» Builtin.Frozenset.newClass;have hsub:=sub_set_self;obtain ⟨hp,g,d,tk,os⟩:=s;dsimp only
 wp_walk
 refine wpAny_askSetting (x9 ?_);dsimp only;simp only [newObj];refine x8 (wpAny_alloc (x9 ?_));exact x9 h
theorem qbR:∀ {vs:List Value} {ns:List Int},IntsAre vs ns->∀ {i:Nat} {v:Value},vs[i]?=some v->∃ t,v=.int (ns.getD i 0) t
 |_,_,.nil,i,v,e=>by simp at e
 |_,_,.cons n t h,0,v,e=>by cases e;exact ⟨t,rfl⟩
 |_,_,.cons n t h,i+1,v,e=>qbR h (i:=i) (by simpa using e)
def qnG {l:Addr} {vs:Array Value} {ns:List Int} {Q:PySem.Fin->Shared->Prop} {E':Value->Shared->Prop} (hh:A.handled=none) (hl:s.heap.IsList l vs) (hi:IntsAre vs.toList ns) (hb:vs.size<=306)
  (h:∀ h' tk,ql5 prog w h' s.heap.objs.size (·∈ns)->(∀ b o,b<s.heap.objs.size->s.heap.get? b=some o->h'.get? b=some o)->wpAny (model prog w) A (ret Value.none) Q E' { s with heap:=h',toks:=tk }) :
  wpAny (model prog w) A (Builtin.«set.__init__» ⟨[.ref s.heap.objs.size,.ref l],[]⟩) Q E' { s with heap:=s.heap.push (HT.oS (WI w)) }:=by
 have len:=hi.length;have sv:ns.length=vs.size:=by simp at len;omega
 have at_:∀ (i:Nat) v,vs[i]?=some v->∃ t,v=.int (ns.getD i 0) t:=λi v e=>qbR hi (by rw [SF] at e;exact e);obtain ⟨⟨oc,od,da,os⟩,hg,hc,nl,hd⟩:=id hl;simp only at hc hd;subst hc hd;have hS:(s.heap.push (HT.oS (WI w))).get? s.heap.objs.size=some (HT.oS (WI w)):=y3 _ rfl;have hg':(s.heap.push (HT.oS (WI w))).get? l=some { cls:=.type "list",dict:=od,data:=.seq vs nl,slots:=os }:=y2 _ hg;have h1:=F.sub_list_set;have h2:=F.sub_list_frozenset;have ne:(Value.type "list" == Value.type "dict")=false:=by decide
 have hl1:=hl.push (HT.oS (WI w));unfold Builtin.«set.__init__» noKeywords Builtin.Frozenset.updateFrom;generalize hPI:pyIter=PI
 wp_walk
 subst hPI;refine wpAny_pyIter_list hl1 ?_;refine x8 (wpAny_runValue ?_);have ll:l<s.heap.objs.size:=y4 hg;have sz:(s.heap.push (HT.oS (WI w))).objs.size=s.heap.objs.size+1:=Heap.size_push ..;refine qmY (Walks.list (show A.in1.handled=none by simp [hh]) (s.heap.push (HT.oS (WI w))).objs.size l (by rw [sz];exact u8 (Nat.lt_succ_of_lt ll)) vs) (λi=>ns.getD i 0) at_ s.heap.objs.size
  (by rw [sz];simp only [mem_cons,not_mem_nil,or_false,not_or];exact ⟨u8 (Nat.lt_succ_self _),Nat.ne_of_gt ll⟩) hb vs.size 0 _ [] (HT.oS (WI w)) #[] 0 (.fresh 0 0 (WI w)) rfl (Nat.zero_le _) ⟨⟨_,y3 _ rfl,rfl,rfl⟩,hl1.push _⟩ ?_ (.inl ⟨rfl,Nat.zero_le _⟩) (λx=>?_) (Nat.zero_le _) ?_
 ·exact ⟨y2 _ hS,⟨rfl,rfl,rfl⟩,rfl,rfl,λq hq=>(by cases hq),Ok8.fresh ..,by simp,rfl,rfl⟩
 ·simp
 ·intro h' tk hS' kp;show wpAny _ _ _ _ _ _;obtain ⟨en,o,es,ep,t,q1,q2,q3⟩:=hS';refine x9 (h h' tk ⟨en,o,es,ep,t,q1,q2,λx=>(q3 x).trans ?_⟩ λb o hb e=>kp b o ?_ ?_ (y2 _ (y2 _ e)))
  ·show (∃ i,i<vs.size/\ns.getD i 0=x)↔x∈ns;rw [List.mem_iff_getElem?];constructor
   ·rintro ⟨i,h1,h2⟩;exact ⟨i,by rw [← h2,getD_eq_getElem?_getD,y9 (by omega)];rfl⟩
   ·rintro ⟨i,h1⟩;obtain ⟨h2,h3⟩:=za4 h1;exact ⟨i,by omega,by rw [getD_eq_getElem?_getD,h1];rfl⟩
  ·rw [sz];simp only [mem_cons,not_mem_nil,or_false];exact u8 (Nat.lt_succ_of_lt hb)
  ·exact u8 hb
def qb0 {l:Addr} {vs:Array Value} {ns:List Int} {Q:Value->Shared->Prop} (hh:A.handled=none) (hl:s.heap.IsList l vs) (hi:IntsAre vs.toList ns) (hb:vs.size<=306)
  (h:∀ h' tk,ql5 prog w h' s.heap.objs.size (·∈ns)->(∀ b o,b<s.heap.objs.size->s.heap.get? b=some o->h'.get? b=some o)->Q (.ref s.heap.objs.size) { s with heap:=h',toks:=tk }) :
  wpAny (model prog w) A (call (.type "set") [.ref l]) Q E s:=by
 have C:=F.called_set;obtain ⟨c,tl,m1⟩:=C.mro;have m2:=C.made;have m3:=C.sub;have m4:=C.notType;have m5:=C.canCreate;have m6:=F.typeCall_set_1 (.ref l);refine wpAny_call (codeAny_of_tree ?_);show wpAny _ _ (callAny (.type "set") _) _ _ _;refine x9 ⟨Code.quiet_builtin _ (by decide +kernel),codeAny_builtin F.entry_type_call ?_⟩;rw [Around.under_plain (weight_type_call_type "set" [.ref l] []) rfl]
 repeat (any_goals (first|assumption|wp_step))
 refine codeAny_mono (qc8 (.ref l) (E:=E) (Q₁:=λv s₁=>v=.ref s.heap.objs.size/\s₁={ s with heap:=s.heap.push (HT.oS (WI w)) }) ⟨rfl,rfl⟩) λr s₁ hr=>?_;rcases r with e|f
 ·exact hr
 cases f<;>try exact hr.elim
 obtain ⟨rfl,rfl⟩:=hr;have hT:Shared.TypeIs { s with heap:=s.heap.push (HT.oS (WI w)) } (.ref s.heap.objs.size) "set" := ⟨_,y3 _ rfl,rfl⟩
 have n1:=C.init.lookup;have n2:=C.init.bind (.ref s.heap.objs.size)
 repeat (any_goals (first|assumption|wp_step))
 refine codeAny_mono (codeAny_call_builtin (R:=wants (λr s₂=>r=.none/\∃ h' tk,s₂={ s with heap:=h',toks:=tk }/\ql5 prog w h' s.heap.objs.size (·∈ns)/\∀ b o,b<s.heap.objs.size->s.heap.get? b=some o->h'.get? b=some o) E) C.init.plain F.entry_set_init (check_set_init_1 hT (qnG (by simp [hh]) hl hi hb λh' tk hS hk=>x9 ⟨rfl,h',tk,rfl,hS,hk⟩))) λr₂ s₂ hr₂=>?_;rcases r₂ with e|f
 ·exact hr₂
 cases f<;>try exact hr₂.elim
 obtain ⟨rfl,h',tk,rfl,hS,hk⟩:=hr₂
 repeat (any_goals (first|assumption|wp_step))
 exact h _ _ hS hk
end
end Tb8
namespace Tb8
open PySem PyProof.Rows PySem.SetTable PySem.Calls
theorem W7 {α:Type}:∀ {l:List α} {i:Nat} (h:i<l.length),(l[i]::l.eraseIdx i).Perm l
 |[],i,h=>absurd h (Nat.not_lt_zero i)
 |a::r,0,h=>.refl _
 |a::r,i+1,h=>(List.Perm.swap ..).trans ((W7 (l:=r) (i:=i) (by simpa using h)).cons a)
theorem qbJ {α:Type} (nx:Nat->Nat):∀ (fuel k:Nat) (l:List α) (out:Array α),l.length<=fuel->(pickOrder.go nx fuel k l out).toList.Perm (out.toList++l)
 |0,k,l,out,h=>by
  have:l=[]:=List.length_eq_zero_iff.mp (by omega);subst this;simp [pickOrder.go]
 |fuel+1,k,l,out,h=>by
  rw [pickOrder.go];cases l with
  |nil=>simp
  |cons a r=>
   have lt:nx k%(a::r).length<(a::r).length:=Nat.mod_lt _ (by simp);rw [y9 lt];simp only;have ih:=qbJ nx fuel (k+1) ((a::r).eraseIdx (nx k%(a::r).length)) (out.push (a::r)[nx k%(a::r).length]) (by rw [List.length_eraseIdx,if_pos lt];simp at h ⊢;omega);refine ih.trans ?_;rw [Array.toList_push,List.append_assoc];exact List.Perm.append_left _ (W7 lt)
def qcw {α:Type} (nx:Nat->Nat) (xs:Array α):(pickOrder nx xs).toList.Perm xs.toList:=by
 unfold pickOrder;simpa using qbJ nx xs.size 0 xs.toList #[] (by simp)
abbrev byT (w:World):Bool:=w.params.followText "set-order"
def wlk (w:World) (S ep:Nat) (es:Array (Int×Value)):Array (Int×Value):=if byT w then pickOrder (w.params.setOrder S ep) es else es
def K3 (w:World) (S ep:Nat) (es:Array (Int×Value)):(wlk w S ep es).toList.Perm es.toList:=by
 unfold wlk;split
 ·exact qcw _ _
 ·exact .refl _
def MT (w:World) (S ep:Nat) (es:Array (Int×Value)):(wlk w S ep es).size=es.size:=by
 rw [← Array.length_toList,(K3 w S ep es).length_eq,Array.length_toList]
def zy:Slot "set_iterator" "__next__" "set_iterator.__next__" :=
 .of (owner:="set_iterator") (n:="__next__") (by rw [typeLookup_type,builtinLookup_eq_fast];kernel_rfl) (by decide +kernel) (by decide +kernel) (by decide +kernel)
  (by first|exact .inl (by decide +kernel)|exact .inr (by decide +kernel)) (by rw [isSubtype_type];kernel_rfl)
def YY:Slot "set_iterator" "__iter__" "set_iterator.__iter__" :=
 .of (owner:="set_iterator") (n:="__iter__") (by rw [typeLookup_type,builtinLookup_eq_fast];kernel_rfl) (by decide +kernel) (by decide +kernel) (by decide +kernel)
  (by first|exact .inl (by decide +kernel)|exact .inr (by decide +kernel)) (by rw [isSubtype_type];kernel_rfl)
def JV:entryFor table "set_iterator.__next__" = some Builtin.«set_iterator.__next__»:=entryFor_of_tree (by kernel_rfl)
def YH (a:Value):argsOk "set_iterator.__next__" ⟨[a],[]⟩:=by unfold argsOk;kernel_rfl
def WL:entryFor table "set.__iter__" = some Builtin.«frozenset.__iter__»:=
 entryFor_alias (id':="frozenset.__iter__") (by kernel_rfl) rfl (by decide +kernel) (by kernel_rfl)
section
variable {prog:Program} {w:World} {A:Around} {E:Value->Shared->Prop} {s:Shared}
def oIt (S n ep slot i:Nat):Obj:={ cls:=.type "set_iterator",data:=.fields #[.int slot 0,.int i 0,.ref S,.int n 0,.int ep 0] }
def IS.drawn {S:Addr} {en:List (Int×Value)} {ld:Bool} {o:Obj} {es:Array (Int×Value)} {ep:Nat} {t:SetTable} (p:IS prog w s.heap S en ld o es ep t) {Q:Bool->Shared->Prop} (h:Q false s):wpAny (model prog w) A (setDrawn S) Q E s:=by
 unfold setDrawn setsByText;refine x8 (wpAny_setState_of p.ho p.hd p.fits ?_);dsimp only;refine x8 (x8 (wpAny_askSetting (x9 ?_)));refine x9 ?_;have:(!t.plain&&decide (es.size > 1))=false:=by rw [p.pl];rfl
 show Q (!(byT w)&&(!t.plain&&decide (es.size > 1))) s;rw [this,Bool.and_false];exact h
def qmc {S:Addr} {en:List (Int×Value)} {ld:Bool} {o:Obj} {es:Array (Int×Value)} {ep:Nat} {t:SetTable} (p:IS prog w s.heap S en ld o es ep t) {Q:Value->Shared->Prop}
  (hQ:Q (.ref s.heap.objs.size) { s with heap:=s.heap.push (oIt S es.size ep 0 0) }):wpAny (model prog w) A (pyIter (.ref S)) Q E s:=by
 have hT:s.TypeIs (.ref S) "set" := ⟨o,p.ho,p.hc.1⟩
 refine wpAny_pyIter_slot hT F.slot_set_iter (wpAny_call_entry F.slot_set_iter hT WL ?_ (F.args_set_iter_1 _));unfold Builtin.«frozenset.__iter__» Builtin.Frozenset.slot0 slotArgs;simp only [List.isEmpty_nil,Bool.not_true,Bool.false_eq_true,↓reduceIte,bind_assoc,length_nil,bne_self_eq_false];unfold Builtin.Frozenset.addrOf Builtin.Frozenset.sizeOf;refine x8 (x9 ?_)
 try dsimp only
 refine x8 (x9 ?_);refine x8 (x8 (wpAny_setEntries_of p.ho p.hd p.fits (x9 ?_)));refine x8 (p.drawn ?_);simp only [Bool.false_eq_true,if_false];refine x8 (x9 ?_);refine x8 (wpAny_setEpoch_of p.ho p.hd p.fits ?_);refine x8 (wpAny_newObj_type (x9 ⟨_,rfl,"set_iterator",_,⟨_,y3 _ rfl,rfl⟩,zy.lookup,?_⟩));exact hQ
def LA (w:World) (t:SetTable) (i:Nat):Nat:=if byT w then 0 else if i=0 then 0 else t.place.getD (i-1) 0+1
def NO {t:SetTable} {hs:List Int} (ok:Ok8 t hs) {i:Nat} (hi:i<=hs.length):below t.place (if i=0 then 0 else t.place.getD (i-1) 0+1)=i:=by
 have sz:=ok.sz;have B:=CN (j:=if i=0 then 0 else t.place.getD (i-1) 0+1) ok.up;have le:=B.le;rcases Nat.lt_trichotomy (below t.place (if i=0 then 0 else t.place.getD (i-1) 0+1)) i with c|c|c
 ·have i0:i≠0:=by omega
  have h2:=B.hi _ (v5 _) (by omega);rw [if_neg i0] at h2 c;have:=ok.up.le (a:=below t.place (t.place.getD (i-1) 0+1)) (b:=i-1) (by omega) (by omega);omega
 ·exact c
 ·have h2:=B.lo i c;by_cases i0:i=0
  ·rw [if_pos i0] at h2;omega
  ·rw [if_neg i0] at h2;have:=ok.up (i-1) i (by omega) (by omega);omega
def qlp {S:Addr} {en:List (Int×Value)} {o:Obj} {es:Array (Int×Value)} {ep:Nat} {t:SetTable} (p:IS prog w s.heap S en (WI w) o es ep t) {i:Nat} (hi:i<=es.size) {Q:Option (Value×Nat)->Shared->Prop}
  (h1:∀ v,(wlk w S ep es)[i]?.map (·.2)=some v->Q (some (v,LA w t (i+1))) s) (h2:i=es.size->Q none s):wpAny (model prog w) A (setNext S (LA w t i) i ep) Q E s:=by
 have ws:=MT w S ep es;have cs:(∃ q,(wlk w S ep es)[i]?=some q)\/i=es.size:=by
  rcases Nat.lt_or_ge i es.size with z|z
  ·exact .inl ⟨_,Array.getElem?_eq_getElem (by omega)⟩
  ·exact .inr (by omega)
 unfold setNext setsByText;refine x8 (wpAny_setState_of p.ho p.hd p.fits ?_);dsimp only;refine x8 (x8 (wpAny_askSetting (x9 ?_)));show wpAny _ _ (if byT w=true then _ else _) _ _ _;cases hb:byT w with
 |true=>
  rw [if_pos rfl];simp only [bne_self_eq_false,Bool.false_eq_true,if_false];unfold setWalk setsByText;refine x8 (x8 (wpAny_setState_of p.ho p.hd p.fits ?_));dsimp only;refine x8 (x8 (wpAny_askSetting (x9 ?_)));show wpAny _ _ (if byT w=true then _ else _) _ _ _;rw [hb,if_pos rfl];refine x8 (wpAny_askSetting (x9 ?_));refine x9 ?_;have ew:wlk w S ep es=pickOrder (w.params.setOrder S ep) es:=by unfold wlk;rw [hb,if_pos rfl]
  show Q (((pickOrder (w.params.setOrder S ep) es)[i]?).map λe=>(e.2,LA w t i)) s;have sl:LA w t i=LA w t (i+1):=by unfold LA;rw [hb,if_pos rfl,if_pos rfl]
  rw [← ew];rcases cs with ⟨q,hq⟩|hq
  ·rw [hq,sl];exact h1 q.2 (by rw [hq];rfl)
  ·rw [Array.getElem?_eq_none (by omega)];exact h2 hq
 |false=>
  rw [if_neg y6];have ew:wlk w S ep es=es:=by unfold wlk;rw [hb,if_neg y6]
  have pl:(!t.plain&&decide (es.size > 1))=false:=by rw [p.pl];rfl
  have ld:t.led=true:=by rw [p.ld];show (!(byT w))=true;rw [hb];rfl
  show wpAny _ _ (if (!t.plain&&decide (es.size > 1))=true then _ else _) _ _ _;rw [pl,if_neg y6];refine x8 ?_;show wpAny _ _ (if (!t.led&&!es.isEmpty)=true then _ else _) _ _ _;rw [ld];simp only [Bool.not_true,Bool.false_and,Bool.false_eq_true,if_false];refine x9 ?_;refine x9 ?_;have hs:LA w t i=if i=0 then 0 else t.place.getD (i-1) 0+1:=by unfold LA;rw [hb,if_neg y6]
  have lsz:=p.sz;have bl:below t.place (LA w t i)=i:=by rw [hs];exact NO p.ok (by rw [length_map];omega)
  have tsz:t.place.size=es.size:=by rw [p.ok.sz,length_map,lsz]
  rw [bl];rw [ew] at cs h1;rcases cs with ⟨q,hq⟩|hq
  ·have il:i<es.size:=(Array.getElem?_eq_some_iff.mp hq).1;have pq:t.place[i]?=some (t.place.getD i 0):=C2 (by omega);have sl:LA w t (i+1)=t.place.getD i 0+1:=by unfold LA;rw [hb,if_neg y6,if_neg (by omega)];rfl
   rw [hq,pq];obtain ⟨q1,q2⟩:=q;show Q (some (q2,t.place.getD i 0+1)) s;rw [← sl];exact h1 q2 (by rw [hq];rfl)
  ·rw [Array.getElem?_eq_none (by omega)];exact h2 hq
end
end Tb8
namespace Tb8
open PySem PyProof.Rows PySem.SetTable PySem.Calls PySem.W
section
variable {prog:Program} {w:World} {A:Around} {E:Value->Shared->Prop} {s:Shared}
def qfc (w:World) (h:Heap) (I S n ep:Nat) (t:SetTable) (i:Nat):Prop:=h.get? I=some (oIt S n ep (LA w t i) i)
def qfc.typeIs {I S n ep i:Nat} {t:SetTable} (x:qfc w s.heap I S n ep t i):s.TypeIs (.ref I) "set_iterator" := ⟨_,x,rfl⟩
def qd6 {I S:Addr} {en:List (Int×Value)} {o:Obj} {es:Array (Int×Value)} {ep:Nat} {t:SetTable} (p:IS prog w s.heap S en (WI w) o es ep t) {i:Nat} (hi:i<es.size) (x:qfc w s.heap I S es.size ep t i) {Q:Option Value->Shared->Prop}
  (hQ:∀ v h',(wlk w S ep es)[i]?.map (·.2)=some v->qfc w h' I S es.size ep t (i+1)->Heap.SameBut I s.heap h'->Q (some v) { s with heap:=h' }):wpAny (model prog w) A (pyNext (.ref I)) Q E s:=by
 unfold pyNext;refine x8 (wpAny_attempt (wpAny_callSpecial?_slot (name:=Str.ofString "__next__") x.typeIs zy
  (wpAny_call_entry zy x.typeIs JV ?_ (YH _))))
 unfold Builtin.«set_iterator.__next__» slotArgs;simp only [List.isEmpty_nil,Bool.not_true,Bool.false_eq_true,↓reduceIte,bind_assoc,length_nil,bne_self_eq_false];refine x8 (x9 ?_);refine x8 (wpAny_fieldsOf x rfl ?_);dsimp only;refine x8 (wpAny_setEntries_of p.ho p.hd p.fits ?_);rw [show ((es.size:Int) != (es.size:Int))=false from bne_self_eq_false _];simp only [Bool.false_eq_true,if_false];refine x8 ?_;simp only [Int.toNat_natCast];refine qlp p (Nat.le_of_lt hi) (λv hv=>?_) (λz=>by omega);dsimp only;refine x8 (wpAny_setField_rec x (by simp) λh1 g1 s1=>?_);refine x8 (wpAny_setField_rec (s:={ s with heap:=h1 }) g1 (by simp) λh2 g2 s2=>?_);refine x9 ⟨v,rfl,x9 (hQ v h2 hv ?_ (s1.trans s2))⟩;exact g2
def qg4 {I S:Addr} {en:List (Int×Value)} {o:Obj} {es:Array (Int×Value)} {ep:Nat} {t:SetTable} (hh:A.handled=none) (p:IS prog w s.heap S en (WI w) o es ep t) (x:qfc w s.heap I S es.size ep t es.size) {Q:Option Value->Shared->Prop}
  (hQ:∀ h',Heap.ExtBut I s.heap h'->Q none { s with heap:=h' }):wpAny (model prog w) A (pyNext (.ref I)) Q E s:=by
 unfold pyNext;refine x8 (wpAny_attempt (wpAny_callSpecial?_slot (name:=Str.ofString "__next__") x.typeIs zy
  (wpAny_call_entry zy x.typeIs JV ?_ (YH _))))
 unfold Builtin.«set_iterator.__next__» slotArgs;simp only [List.isEmpty_nil,Bool.not_true,Bool.false_eq_true,↓reduceIte,bind_assoc,length_nil,bne_self_eq_false];refine x8 (x9 ?_);refine x8 (wpAny_fieldsOf x rfl ?_);dsimp only;refine x8 (wpAny_setEntries_of p.ho p.hd p.fits ?_);rw [show ((es.size:Int) != (es.size:Int))=false from bne_self_eq_false _];simp only [Bool.false_eq_true,if_false];refine x8 ?_;simp only [Int.toNat_natCast];refine qlp p (v5 _) (λv hv=>?_) (λz=>?_)
 ·rw [Array.getElem?_eq_none (by rw [MT];exact v5 _)] at hv;cases hv
 dsimp only;refine x8 (wpAny_setField_rec x (by simp) λh1 g1 s1=>?_);show wpAny _ _ (newExc (.type "StopIteration") [] >>= _) _ _ _;refine x8 ?_;simp only [newExc,newTuple];refine x8 (wpAny_newObj_type ?_ (by size_fits));refine x8 (m:=firstArgMember _ _) (wpAny_of_eq (a:=Value.none) (by first|rfl|(simp only [firstArgMember];rfl)) ?_);refine wpAny_newObj_type ?_ (by size_fits);simp only [raiseNew];refine x8 (wpAny_handled ?_);rw [show A.in1.handled=none from hh];refine x8 (x9 (wpAny_throw ?_));refine x8 (wpAny_isInstance (T:="StopIteration") (b:=true) ⟨_,y3 _ rfl,rfl⟩ isSubtype_stop ?_);exact x9 (hQ _ ((s1.extBut.push _).push _))
end
def WM:entryFor table "set_iterator.__iter__" = some Builtin.«dict_keyiterator.__iter__»:=entryFor_alias (id':="dict_keyiterator.__iter__") (by kernel_rfl) rfl (by decide +kernel) (by kernel_rfl)
def X0 (a:Value):argsOk "set_iterator.__iter__" ⟨[a],[]⟩:=by unfold argsOk;kernel_rfl
section
variable {prog:Program} {w:World} {A:Around} {E:Value->Shared->Prop} {s:Shared}
def qmz {I S n ep i:Nat} {t:SetTable} (x:qfc w s.heap I S n ep t i) {Q:Value->Shared->Prop} (h:Q (.ref I) s):wpAny (model prog w) A (pyIter (.ref I)) Q E s:=by
 refine wpAny_pyIter_slot x.typeIs YY (wpAny_call_entry YY x.typeIs WM ?_ (X0 _));show wpAny _ _ (ret (.ref I)) _ _ s;exact x9 ⟨_,rfl,"set_iterator",_,x.typeIs,zy.lookup,h⟩
def qik (hh:A.handled=none) {I S:Addr} (ne:S≠I) (en:List (Int×Value)) (o:Obj) (es:Array (Int×Value)) (ep:Nat) (t:SetTable) :
  Walks prog w A I [I,S] [I] es.size (λi v=>(wlk w S ep es)[i]?.map (·.2)=some v) (λi h=>qfc w h I S es.size ep t i/\IS prog w h S en (WI w) o es ep t) where
 sub:=λb hb=>by simp at hb;simp [hb]
 frame:=λ_ _ _ st hk=>⟨hk I (by simp) _ st.1,st.2.keep (hk S (by simp) _ st.2.ho)⟩
 item:=λi s Q E hi st hQ=>qd6 st.2 hi st.1 λv h' hv x sb=>hQ v h' s.toks hv ⟨x,st.2.keep ((sb.2 S ne).trans st.2.ho)⟩ λb o hb e=>sb.extBut b o (λh=>hb (by simp [h])) e
 done:=λs Q E st hQ=>qg4 hh st.2 st.1 λh' he'=>hQ h' s.toks λb o hb e=>he' b o (λh=>hb (by simp [h])) e
 self:=λ_ _ _ _ st hQ=>qmz st.1 hQ
def qnq {S:Addr} {Q:Bool->Shared->Prop} (hT:s.TypeIs (.ref S) "set") (h:Q false s):wpAny (model prog w) A (Builtin.List.listLengthHint (.ref S)) Q E s:=by
 unfold Builtin.List.listLengthHint;refine x8 (wpAny_specialOf hT PySem.F.slot_set_len.lookup ?_);generalize hid:("set.__len__" : String)=id0
 wp_delta
 rw [show splitId id0=some ("set","__len__") from by subst hid;decide +kernel];subst hid;refine x8 (wpAny_isInstance (T:="set") (b:=true) hT (by rw [isSubtype_type];kernel_rfl) ?_);refine wpAny_ite_split (λhab=>absurd hab (by decide)) (λ_=>?_);refine wpAny_ite_split (λ_=>?_) (λhab=>absurd (by decide +kernel) hab);refine x8 (wpAny_typeOf hT ?_);exact x9 h
def qoZ (S:Addr) (en:List (Int×Value)) (o:Obj) (es:Array (Int×Value)) (ep:Nat) (t:SetTable) :
  KdlSrc prog w "set" S S es.size (λi v=>(wlk w S ep es)[i]?.map (·.2)=some v) (λh=>IS prog w h S en (WI w) o es ep t) where
 type:=λs p=>⟨o,p.ho,p.hc.1⟩
 there:=λh p=>⟨y4 p.ho,y4 p.ho⟩
 keep:=λh h' p k=>p.keep (k S (.inl rfl) _ p.ho)
 notList:=by decide
 notTuple:=by decide
 hint:=λA E s Q p h=>qnq ⟨o,p.ho,p.hc.1⟩ h
 iter:=λA s hh p=>⟨oIt S es.size ep 0 0,_,λE Q hQ=>qmc p hQ,qik hh (u8 (y4 p.ho)) en o es ep t,by
  have z:LA w t 0=0:=by unfold LA;split<;>rfl
  refine ⟨?_,p.keep (y2 _ p.ho)⟩;unfold qfc;rw [z];exact y3 _ rfl⟩
theorem qb4:∀ {en:List (Int×Value)},(∀ q∈en,(intKind prog w).is q.1 q.2=true/\q.2.scannable=true)->IntsAre (en.map (·.2)) (en.map (·.1))
 |[],_=>.nil
 |q::r,h=>by
  obtain ⟨k,v⟩:=q;obtain ⟨t,e⟩:=LH (h (k,v) (by simp)).1;simp only at e;subst e;exact .cons k t (qb4 λq hq=>h q (by simp [hq]))
def qhU {R:List Value->Shared->Prop} (hh:A.handled=none) {S:Addr} {en:List (Int×Value)} {o:Obj} {es:Array (Int×Value)} {ep:Nat} {t:SetTable} (p:IS prog w s.heap S en (WI w) o es ep t) (hn:es.size<=sizeLine)
  (h:∀ (h':Heap) (tk:Nat) (acc:Array Value),(∀ b o,s.heap.get? b=some o->h'.get? b=some o)->s.heap.objs.size<h'.objs.size->ItemsOf (λi v=>(wlk w S ep es)[i]?.map (·.2)=some v) acc es.size->R acc.toList { s with heap:=h',toks:=tk }) :
  wpAny (model prog w) A (collect (.ref S)) R E s:=by
 have K:=qoZ (prog:=prog) (w:=w) S en o es ep t;have lt:=y4 p.ho;have gL:(s.heap.push { cls:=.type "list",data:=.seq ([]:List Value).toArray }).get? s.heap.objs.size=some { cls:=.type "list",data:=.seq #[] }:=y3 _ rfl;unfold collect;refine x8 (wpAny_runValue (codeAny_builtin entry_proto_collect' ?_));rw [Around.under_plainId PySem.F.plain_proto_collect _];show wpAny _ A.in1 (newList [] >>= λl=>again (.builtin "list.__iadd__" ⟨[l,.ref S],[]⟩)) _ _ s;refine x8 (wpAny_newObj_type ?_);refine x9 ⟨plainId_quiet PySem.F.plain_list_iadd _,codeAny_builtin entry_list_iadd' ?_⟩;rw [Around.under_plainId PySem.F.plain_list_iadd _];show wpAny _ A.in1 (Builtin.List.listExtendWith (.ref s.heap.objs.size) (.ref S) (.ref s.heap.objs.size)) _ _ _;have fin:∀ (h':Heap) (tk:Nat) (acc:Array Value) (c:Nat),(∀ b o,b≠s.heap.objs.size->(s.heap.push { cls:=.type "list",data:=.seq ([]:List Value).toArray }).get? b=some o->h'.get? b=some o)->h'.get? s.heap.objs.size=some { cls:=.type "list",dict:=none,data:=.seq acc c,slots:=#[] }->ItemsOf (λi v=>(wlk w S ep es)[i]?.map (·.2)=some v) acc es.size ->
   wpAny (model prog w) A (load s.heap.objs.size >>= λo=>match o.data with|.seq xs _=>pure xs.toList|_=>unsupported "internal:collect") R E { s with heap:=h',toks:=tk }:=λh' tk acc c k g a=>
  x8 (wpAny_load g (x9 (h h' tk acc (λb o e=>k b o (u8 (y4 e)) (y2 _ e)) (y4 g) a)))
 refine y0 (kdl_extend (A:=A) (s:={ s with heap:=s.heap.push { cls:=.type "list",data:=.seq ([]:List Value).toArray } }) (R:=λq s'=>q=.ok (.ret (.ref s.heap.objs.size))/\wpAny (model prog w) A (load s.heap.objs.size >>= λo=>match o.data with|.seq xs _=>pure xs.toList|_=>unsupported "internal:collect") R E s')
  K hh (K.keep _ _ p λb _ o e=>y2 _ e) s.heap.objs.size (Nat.ne_of_gt lt) (Nat.ne_of_gt lt) (.ref s.heap.objs.size) 0 gL (λh' tk acc c k g a=>⟨rfl,fin h' tk acc c k g a⟩) hn) (λf s' x=>?_) λe s' x=>nomatch x.1
 cases f with
 |done f=>
  obtain ⟨e,x⟩:=x;cases e;exact x
 |again c=>
  refine ⟨x.1,codeAny_mono x.2 λq s2 y=>?_⟩;obtain ⟨rfl,y⟩:=y;exact y
def qhv (hh:A.handled=none) {S:Addr} {en:List (Int×Value)} {o:Obj} {es:Array (Int×Value)} {ep:Nat} {t:SetTable} (p:IS prog w s.heap S en (WI w) o es ep t) (h64:en.length<64) {Q:Value->Shared->Prop}
  (h:∀ (h':Heap) (a:Addr) (out:Array Value) (ms:List Int) (e tk:Nat),(∀ b o,s.heap.get? b=some o->h'.get? b=some o)->s.heap.objs.size<=a->h'.get? a=some (seqObj "list" out e)->IntsAre out.toList ms->ms.Perm (en.map (·.1))->ms.Pairwise (·<=·)->Q (.ref a) { s with heap:=h',toks:=tk }) :
  wpAny (model prog w) A (call (.builtin "sorted") [.ref S]) Q E s:=by
 have ez:=p.sz;refine Calls.call_function_entry kind_sorted plain_sorted entry_sorted (args_sorted1 _) ?_;unfold Builtin.«sorted»;refine x8 (m:=checkCount "sorted" 1 1 _) (x9 ?_);refine x8 (qhU (A:=A.in1) (by simp [hh]) p (by rw [ez,y8];omega) λh' tk acc hk hlt hacc=>?_);obtain ⟨en',he',pe'⟩:=MO ((K3 w S ep es).trans (by rw [p.he]));have av:acc.toList=en'.map (·.2):=by
  refine List.ext_getElem? λj=>?_;have lz:en'.length=es.size:=by rw [pe'.length_eq,ez]
  have ws:∀ j,(wlk w S ep es)[j]?=(en'[j]?).map λ(q:Int×Value)=>((intKind prog w).hash q.1,q.2):=λj=>by rw [SF,he',getElem?_map]
  cases e:acc.toList[j]? with
  |none=>
   have:acc.size<=j:=by simpa using e
   rw [getElem?_map,List.getElem?_eq_none (by rw [lz,← hacc.1];exact this)];rfl
  |some v=>
   have:(wlk w S ep es)[j]?.map (·.2)=some v:=hacc.2 j v (by rw [SF];exact e);rw [ws] at this;rw [getElem?_map,← this,Option.map_map];rfl
 have hI:IntsAre acc.toList (en'.map (·.1)):=by
  rw [av];exact qb4 (prog:=prog) (w:=w) λq hq=>p.hI q (pe'.mem_iff.mp hq)
 have al:acc.toList.length<64:=by rw [av,length_map,pe'.length_eq];exact h64
 refine x8 (wpAny_newList ?_);have hoL:(h'.push (seqObj "list" acc.toList.toArray 0)).get? h'.objs.size=some (seqObj "list" acc.toList.toArray 0):=y3 _ rfl;refine x8 (wpAny_holding (wpAny_call_entry slot_list_sort ⟨_,hoL,rfl⟩ entry_list_sort (list_sort_tree hoL hI al λout ms a1 a2 a3=>⟨_,rfl,?_⟩) (args_list_sort _)));obtain ⟨e,he⟩:=sortedHeap_at (out:=out) hoL;refine x9 ⟨_,rfl,h _ h'.objs.size out ms e tk (λb o hb=>?_) ?_ he a1 (a2.trans (pe'.map _)) a3⟩
 ·have hb':=hk b o hb;rw [sortedHeap_old (u8 (y4 hb')) (y4 (y2 _ hb'))];exact y2 _ hb'
 ·exact Nat.le_of_lt hlt
end
end Tb8
namespace L3
open PySem PySem.Spec PyProof.Rows L2
def dd:List Int->List Int
 |[]=>[]
 |x::r=>if x∈dd r then dd r else x::dd r
theorem RC:∀ {l:List Int} {x:Int},x∈dd l↔x∈l
 |[],_=>Iff.rfl
 |y::r,x=>by
  unfold dd;split
  ·rename_i h;rw [RC,mem_cons];exact ⟨.inr,λz=>z.elim (λz=>z▸RC.mp h) id⟩
  ·rw [mem_cons,mem_cons,RC]
theorem qgP:∀ (l:List Int),(dd l).Nodup
 |[]=>List.Pairwise.nil
 |y::r=>by
  unfold dd;split
  ·exact qgP r
  ·rename_i h;exact List.nodup_cons.mpr ⟨h,qgP r⟩
section
variable {X:Cx}
def NQ {e:Expr} {te:TE} {p p2 pos pos2:Pos} (hc:X.calm=true) (hg:Gl X "sorted") (hm:X.mg "sorted" = none) (hg2:Gl X "set") (hm2:X.mg "set" = none) (he:PE X e te)
  (h1:starEach [e] X.env=(false,eval e X.env)::starEach [] X.env:=by rfl) (h2:starEach [.Call (.Name "set" p2) [e] [] pos2] X.env=(false,eval (.Call (.Name "set" p2) [e] [] pos2) X.env)::starEach [] X.env:=by rfl)
  (h3:(backTo pos (starEach [] X.env)).any (·.1)=false:=by rfl) (h4:(backTo pos2 (starEach [] X.env)).any (·.1)=false:=by rfl) :
  PE X (.Call (.Name "sorted" p) [.Call (.Name "set" p2) [e] [] pos2] [] pos) (λσ H Q=>te σ H λx H1=>∃ (a:Addr) (ns:List Int),x=.ref a/\SqL X.K H1 a (ns.map V.int)/\ns.length<=306/\(dd ns).length<64/\∀ l (ms:List Int),H1 l=none->ms.Perm (dd ns)->ms.Pairwise (·<=·)->Q (.ref l) (upd H1 l (.lst (ms.map V.int)))):=by
 intro pins s σ H Q I h;refine wpAny_Call_Name_kw (VB I hg hm PyProof.Rows.boot_sorted ?_);refine PyProof.Rows.callWith_builtin1 ?_ h2 h3;rw [h2];show wpAny _ _ (spliced ((false,eval (.Call (.Name "set" p2) [e] [] pos2) X.env)::backTo pos (starEach [] X.env))) _ _ s;refine Calls.spliced_cons ?_;refine wpAny_Call_Name_kw (VB I hg2 hm2 (show bootBuiltins "set" = some (.type "set") by decide +kernel) ?_);refine PyProof.Rows.callWith_type1 ?_ h1 h4;rw [h1];show wpAny _ _ (spliced ((false,eval e X.env)::backTo pos2 (starEach [] X.env))) _ _ s;refine Calls.spliced_cons (thn (he pins s σ H _ I h) λu s1 ⟨x,H1,I1,r1,a,ns,ex,hq,hl,hd,q⟩=>?_);subst ex;cases r1;refine Calls.spliced_nil ?_;obtain ⟨its,rv,pl,hz⟩:=I1.list hq;have hlen:its.length=ns.length:=by have:=rv.length;simp at this;omega
 refine Tb8.qb0 (vs:=its.toArray) (ns:=ns) (I1.ok.hd hc) pl.isList (by simpa using UH rv) (by rw [size_toArray];omega) λh' tk is kp=>?_;refine Calls.spliced_nil ?_;obtain ⟨en,o,es,ep,t,ps,e306,mm⟩:=is;have pd:(en.map (·.1)).Perm (dd ns):=(List.perm_ext_iff_of_nodup ps.nd (qgP ns)).mpr λx=>(mm x).trans RC.symm;have e64:en.length<64:=by have:=pd.length_eq;rw [length_map] at this;omega
 refine Tb8.qhv (s:={ s1 with heap:=h',toks:=tk }) (I1.ok.hd hc) ps e64 λh2 b out ms ee tk2 k2 lb gb ia pm up=>?_;have szle:s1.heap.objs.size<=b:=u7 (Nat.le_of_lt (y4 ps.ho)) lb;have ml:ms.length<=sizeLine:=by have:=(pm.trans pd).length_eq;rw [y8];omega
 refine ⟨.ref b,_,I1.laid (t':=tk2) (o:=.lst (ms.map V.int)) (λb o e=>k2 b o (kp b o (y4 e) e)) szle ⟨by simpa using ml,out.toList,ee,qaS ia,?_⟩,rfl,q _ ms (I1.hok.fresh szle) (pm.trans pd) up⟩;have ho:out=out.toList.toArray:=by simp
 rw [← ho];exact gb
def qhD (te:TE3):TE3:=λτ G q=>te τ G λx G1=>match x with
 |.ref p=>(match getL G1 p with|some ys=>(match X4 ys with|some ns=>ns.length<=306/\(dd ns).length<64/\∀ l (ms:List Int),G1 l=none->ms.Perm (dd ns)->ms.Pairwise (·<=·)->q (.ref l) (gu G1 l (.lst (ms.map T.int)))|none=>False)|none=>False)
 |_=>False
def NX {e:Expr} {te:TE3} {p p2 pos pos2:Pos} (hc:X.calm=true) (hg:Gl X "sorted") (hm:X.mg "sorted" = none) (hg2:Gl X "set") (hm2:X.mg "set" = none) (he:jE3 X e te)
  (h1:starEach [e] X.env=(false,eval e X.env)::starEach [] X.env:=by rfl) (h2:starEach [.Call (.Name "set" p2) [e] [] pos2] X.env=(false,eval (.Call (.Name "set" p2) [e] [] pos2) X.env)::starEach [] X.env:=by rfl)
  (h3:(backTo pos (starEach [] X.env)).any (·.1)=false:=by rfl) (h4:(backTo pos2 (starEach [] X.env)).any (·.1)=false:=by rfl):jE3 X (.Call (.Name "sorted" p) [.Call (.Name "set" p2) [e] [] pos2] [] pos) (qhD te):=
 ⟨WK (NQ hc hg hm hg2 hm2 he.h h1 h2 h3 h4) λ_ _ _ ⟨τ,G,q,rl,h,af⟩=>zf rl h λx G1 h1 v H1 rx hr1 k1 rl1=>by
  split at h1
  ·rename_i l;cases rx;split at h1
   ·rename_i ys e0;split at h1
    ·rename_i ns e1;obtain ⟨us,hs,r2⟩:=zD hr1 e0;have:=U9 e1;subst this;have:=EI r2;subst this;exact ⟨l,ns,rfl,hs,h1.1,h1.2.1,λb ms hl pm up=>af _ _ (h1.2.2 b ms (hr1.free hl) pm up) _ _ (.ref b) (HR.newL hr1 hl (K5 ms)) (k1.trans (Kp.newL hl))⟩
    ·exact h1.elim
   ·exact h1.elim
  ·exact h1.elim⟩
end
end L3
namespace HT
open PySem PyProof.Rows
abbrev oB (xs:Array Value) (c:Nat):Obj:={ cls:=.type "list",dict:=none,data:=.seq xs c,slots:=#[] }
def Bst (val:Nat->Int) (j:Nat) (xs:Array Value):Prop:=(j=0/\xs=#[])\/(0<j/\∃ m t,xs=#[.int m t,.int m t]/\(∃ i,i<j/\val i=m)/\∀ i,i<j->val i<=m)
def qof (val:Nat->Int) (n:Nat) (dv v:Value):Prop:=(n=0/\v=dv)\/(0<n/\∃ m t,v=.int m t/\(∃ i,i<n/\val i=m)/\∀ i,i<n->val i<=m)
section
variable {prog:Program} {w:World} {A:Around} {R:Result->Shared->Prop} {I:Addr} {fp wr:List Addr} {n:Nat} {P:Nat->Value->Prop} {St:Nat->Heap->Prop}
def qbn (W:Walks prog w A.in1 I fp wr n P St) (val:Nat->Int) (hval:∀ i v,P i v->∃ t,v=.int (val i) t) (S:Addr) (dv:Value) (hSf:S∉fp) :
  ∀ (k j:Nat) (s:Shared) (xs:Array Value) (c:Nat),n-j=k->j<=n->St j s.heap->Bst val j xs->s.heap.get? S=some (oB xs c) ->
  (∀ v h' tk,qof val n dv v->(∀ b o,b∉wr->b≠S->s.heap.get? b=some o->h'.get? b=some o)->R (.ok (.ret v)) { s with heap:=h',toks:=tk }) ->
  codeAny (model prog w) A (.builtin "max.loop" ⟨[.ref I,.none,.ref S],[("default",dv)]⟩) R s:=by
 have hSw:S∉wr:=λh=>hSf (W.sub _ h);have nm:(toString "max" ++ toString ".loop" : String)="max.loop" := by decide
 intro k;induction k with
 |zero=>
  intro j s xs c hk hj hst hb hS hR;obtain rfl:j=n:=by omega
  refine codeAny_builtin F.entry_max_loop ?_;rw [Around.under_plainId F.plain_max_loop _];show wpAny _ A.in1 (seqItems? (.ref S) >>= _) _ _ s;refine x8 (wpAny_seqItems hS rfl ?_);show wpAny _ A.in1 (tryCatch (pyNext (.ref I)) _ >>= _) _ _ s;refine x8 (wpAny_tryCatch (W.done s _ _ hst λh' tk kp=>?_));rcases hb with ⟨j0,rfl⟩|⟨j1,m,t,rfl,hm⟩
  ·show wpAny _ A.in1 (rule _ >>= _) _ _ _;refine x8 (wpAny_rule (x9 ?_));exact hR dv h' tk (.inl ⟨j0,rfl⟩) λb o hbw _ e=>kp b o hbw e
  ·show wpAny _ A.in1 (updateSeq S (λ_=>#[]) >>= _) _ _ _;refine x8 (wpAny_updateSeq (kp S _ hSw hS) rfl (x8 (wpAny_letGo (x9 ?_))));exact hR _ _ tk (.inr ⟨j1,m,t,rfl,hm⟩) λb o hbw hbS e=>(Heap.get?_update_other _ _ (Ne.symm hbS)).trans (kp b o hbw e)
 |succ k ih=>
  intro j s xs c hk hj hst hb hS hR;have lt:j<n:=by omega
  refine codeAny_builtin F.entry_max_loop ?_;rw [Around.under_plainId F.plain_max_loop _];show wpAny _ A.in1 (seqItems? (.ref S) >>= _) _ _ s;refine x8 (wpAny_seqItems hS rfl ?_);show wpAny _ A.in1 (tryCatch (pyNext (.ref I)) _ >>= _) _ _ s;refine x8 (wpAny_tryCatch (W.item j s _ _ lt hst λv h' tk hP hst' kp=>?_));have hS':=kp S _ hSw hS;obtain ⟨u,rfl⟩:=hval j v hP;rcases hb with ⟨j0,rfl⟩|⟨j1,m,t,rfl,⟨i0,hi0,e0⟩,hm⟩
  ·subst j0;show wpAny _ A.in1 (updateSeq S _ >>= _) _ _ _;refine x8 (wpAny_updateSeq hS' rfl ?_);rw [nm];refine x9 ⟨plainId_quiet F.plain_max_loop _,ih 1 _ _ _ (by omega) (by omega) (W.frame _ _ _ hst' λb hbf o e=>(Heap.get?_update_other _ _ (λh:S=b=>hSf (by rw [h];exact hbf))).trans e) (.inr ⟨by omega,_,u,rfl,⟨0,by omega,rfl⟩,λi hi=>?_⟩) (Heap.get?_update_self _ hS' rfl) λv' h'' tk'' hv kp'=>?_⟩
   ·obtain rfl:i=0:=by omega
    exact Int.le_refl _
   ·exact hR v' h'' tk'' hv λb o hbw hbS e=>kp' b o hbw hbS ((Heap.get?_update_other _ _ (Ne.symm hbS)).trans (kp b o hbw e))
  ·show wpAny _ A.in1 (tryCatch (holding _ (richCompare .Gt _ _ >>= _)) _ >>= _) _ _ _;refine x8 (wpAny_tryCatch (wpAny_holding (x8 (PyProof.Rows.gt_int (Q:=λv s=>_) ?_))));refine x8 (wpAny_holding (wpAny_truthy_bool ?_));refine x8 (wpAny_letGo (x9 ?_));by_cases hb:m<val j
   ·rw [za2 hb];simp only [if_true];refine x8 (wpAny_updateSeq hS' rfl (x8 (wpAny_letGo ?_)));rw [nm];refine x9 ⟨plainId_quiet F.plain_max_loop _,ih (j+1) _ _ _ (by omega) (by omega) (W.frame _ _ _ hst' λb hbf o e=>(Heap.get?_update_other _ _ (λh:S=b=>hSf (by rw [h];exact hbf))).trans e) (.inr ⟨by omega,_,u,rfl,⟨j,by omega,rfl⟩,λi hi=>?_⟩) (Heap.get?_update_self _ hS' rfl) λv' h'' tk'' hv kp'=>?_⟩
    ·rcases Nat.lt_or_ge i j with z|z
     ·have:=hm i z;omega
     ·obtain rfl:i=j:=by omega
      exact Int.le_refl _
    ·exact hR v' h'' tk'' hv λb o hbw hbS e=>kp' b o hbw hbS ((Heap.get?_update_other _ _ (Ne.symm hbS)).trans (kp b o hbw e))
   ·rw [za1 hb];simp only [Bool.false_eq_true,if_false];refine x8 (wpAny_letGo ?_);rw [nm];refine x9 ⟨plainId_quiet F.plain_max_loop _,ih (j+1) _ _ _ (by omega) (by omega) hst' (.inr ⟨by omega,m,t,rfl,⟨i0,by omega,e0⟩,λi hi=>?_⟩) hS' λv' h'' tk'' hv kp'=>?_⟩
    ·rcases Nat.lt_or_ge i j with z|z
     ·exact hm i z
     ·obtain rfl:i=j:=by omega
      omega
    ·exact hR v' h'' tk'' hv λb o hbw hbS e=>kp' b o hbw hbS (kp b o hbw e)
end
section
variable {prog:Program} {w:World} {A:Around} {E:Value->Shared->Prop} {s:Shared}
def qkU {id:String} {b:Builtin} {args:List Value} {kw:List (Str×Value)} {Q:Value->Shared->Prop} (hk:builtinKind id=none) (hp:plainId id=true) (hb:entryFor table id=some b) (ha:argsOk id ⟨args,kw⟩)
  (hc:wpAny (model prog w) A.in1 (b ⟨args,kw⟩) (λfin s'=>match fin with
   |.done f=>(match (Except.ok f:Result) with|.ok (.ret v)=>Q v s'|.ok _=>False|.error e=>E e s')
   |.again c'=>c'.quiet=true/\codeAny (model prog w) A c' (λr s'=>match r with|.ok (.ret v)=>Q v s'|.ok _=>False|.error e=>E e s') s') E s) :
  wpAny (model prog w) A (call (.builtin id) args kw) Q E s:=by
 refine wpAny_call (codeAny_call_builtin hp hb ?_);simp only [checkBuiltinCall,hk];cases e:Manifest.signature? id with
 |none=>exact x9 hc
 |some sig=>
  have z:Bind.checkArgs id sig ⟨args,kw⟩=pure ():=by simpa only [argsOk,e] using ha
  simp only [z];exact x9 hc
def qbL (a b:Value):argsOk "max" ⟨[a],[("default",b)]⟩:=by unfold argsOk;kernel_rfl
def qba {l:Addr} {its:List Value} {ns:List Int} {dv:Value} {Q:Value->Shared->Prop} (hh:A.handled=none) (hl:s.heap.IsList l its.toArray) (hv:IntsAre its ns)
  (h:∀ v h' tk,qof (λi=>ns.getD i 0) ns.length dv v->(∀ b o,s.heap.get? b=some o->h'.get? b=some o)->Q v { s with heap:=h',toks:=tk }) :
  wpAny (model prog w) A (call (.builtin "max") [.ref l] [("default",dv)]) Q E s:=by
 have nm:(toString "max" ++ toString ".loop" : String)="max.loop" := by decide
 have ll:l<s.heap.objs.size:=by obtain ⟨o,e,_⟩:=hl;exact y4 e
 have sz:=hv.length;refine qkU F.kind_max F.plain_max F.entry_max (qbL _ _) ?_;show wpAny _ A.in1 (Builtin.Builtins.bindParams "max" ["key","default"] 0 ⟨[],[("default",dv)]⟩ >>= _) _ _ s;refine x8 (wpAny_of_eq (show Builtin.Builtins.bindParams "max" ["key","default"] 0 ⟨[],[("default",dv)]⟩=pure [none,some dv] from by kernel_rfl) ?_);refine x8 (x9 ?_);refine x8 (wpAny_pyIter_list hl ?_);refine x8 (wpAny_newObj_type ?_);rw [nm];have sz1:(s.heap.push { cls:=.type "list_iterator",data:=.fields #[.ref l,.int 0 0] }).objs.size=s.heap.objs.size+1:=Heap.size_push ..;refine x9 ⟨plainId_quiet F.plain_max_loop _,?_⟩;refine qbn (Walks.list (A:=A.in1) (show A.in1.handled=none by simp [hh]) s.heap.objs.size l (u8 ll) its.toArray) (λi=>ns.getD i 0) (λi v hx=>hv.int_at i v (by simpa using hx)) _ dv ?_ (its.toArray.size-0) 0 _ #[] _ rfl (Nat.zero_le _) ?_ (.inl ⟨rfl,rfl⟩) (y3 _ rfl) λv h' tk hb kp=>?_
 ·rw [sz1];simp only [mem_cons,not_mem_nil,or_false,not_or];exact ⟨Nat.ne_of_gt (Nat.lt_succ_self _),Nat.ne_of_gt (Nat.lt_succ_of_lt ll)⟩
 ·exact ⟨⟨_,y2 _ (y3 _ rfl),rfl,rfl⟩,(hl.push _).push _⟩
 ·rw [size_toArray,sz] at hb;refine h v h' tk hb λb o e=>kp b o ?_ ?_ (y2 _ (y2 _ e))
  ·simp only [mem_cons,not_mem_nil,or_false];exact u8 (y4 e)
  ·rw [sz1];exact u8 (Nat.lt_succ_of_lt (y4 e))
end
end HT
namespace L3
open PySem PySem.Spec PyProof.Rows L2
section
variable {X:Cx}
def qjC (K:Frg):R2:=λx y H Q=>∃ (p:Addr) (ns:List Int),x=.ref p/\SqL K H p (ns.map V.int)/\(ns=[]->Q y H)/\(∀ m∈ns,(∀ a∈ns,a<=m)->Q (.int m) H)
def qhA (hc:X.calm=true):OpR X (λv u=>call (.builtin "max") [v] [("default",u)]) (qjC X.K):=by
 intro pins s σ H x y v u Q I rx ry h;obtain ⟨p,ns,rfl,hq,q0,q1⟩:=h;cases rx;obtain ⟨its,rv,pl,hz⟩:=I.list hq;refine HT.qba (I.ok.hd hc) pl.isList (UH rv) λv h' tk hb kp=>?_;rcases hb with ⟨n0,rfl⟩|⟨n1,m,t,rfl,⟨i,hi,e⟩,hm⟩
 ·exact ⟨y,H,I.kept (h':=h') (t':=tk) λb o e=>kp b o e,ry,q0 (List.length_eq_zero_iff.mp n0)⟩
 ·have gd:∀ j,(hj:j<ns.length)->ns.getD j 0=ns[j]:=λj hj=>by rw [getD_eq_getElem?_getD,y9 hj];rfl
  refine ⟨.int m,H,I.kept (h':=h') (t':=tk) λb o e=>kp b o e,⟨_,rfl⟩,q1 m (by rw [← e];show ns.getD i 0∈ns;rw [gd i hi];exact List.getElem_mem hi) λa ha=>?_⟩;obtain ⟨j,hj,rfl⟩:=List.mem_iff_getElem.mp ha;have:ns.getD j 0<=m:=hm j hj;rw [gd j hj] at this;exact this
def qgI {r:R2} {e d:Expr} {te td:TE} {p kp pos:Pos} (ho:OpR X (λv u=>call (.builtin "max") [v] [("default",u)]) r) (hg:Gl X "max") (hm:X.mg "max" = none) (he:PE X e te) (hd:PE X d td)
  (h1:starEach [e] X.env=(false,eval e X.env)::starEach [] X.env:=by rfl):PE X (.Call (.Name "max" p) [e] [⟨some "default",d,kp⟩] pos) (tOp r te td):=by
 intro pins s σ H Q I h;refine wpAny_Call_Name_kw (VB I hg hm PyProof.Rows.boot_max ?_);have z:backTo pos (starEach [e] X.env)=(false,eval e X.env)::backTo pos (starEach [] X.env):=by rw [h1];rfl
 refine callWith_kw (kws:=[⟨some "default",d,kp⟩]) ?_ z (by rw [z];rfl);rw [z];refine Calls.spliced_cons (thn (he pins s σ H _ I h) λv s1 ⟨x,H1,I1,r1,q1⟩=>?_);refine Calls.spliced_nil ?_;refine kws_cons (thn (hd pins s1 σ H1 _ I1 q1) λu s2 ⟨y,H2,I2,r2,q2⟩=>?_);exact kws_nil (ho pins s2 σ H2 x y v u Q I2 r1 r2 q2)
def MV:R3:=λx y G q=>match x with
 |.ref p=>(match getL G p with|some ys=>(match X4 ys with|some ns=>(ns=[]->q y G)/\(∀ m∈ns,(∀ a∈ns,a<=m)->q (.int m) G)|none=>False)|none=>False)
 |_=>False
def qc5 {K:Frg}:XN K MV (qjC K):=λx y v u G H q Q hr rx ry h af=>by
 unfold MV at h;split at h
 ·rename_i p;cases rx;split at h
  ·rename_i ys e0;split at h
   ·rename_i ns e1;obtain ⟨us,hs,r2⟩:=zD hr e0;have:=U9 e1;subst this;have:=EI r2;subst this;exact ⟨p,ns,rfl,hs,λz=>af _ _ (h.1 z) _ _ ry hr Kp.refl,λm hm ha=>af _ _ (h.2 m hm ha) _ _ (.int _) hr Kp.refl⟩
   ·exact h.elim
  ·exact h.elim
 ·exact h.elim
def qgv {e d:Expr} {te td:TE3} {p kp pos:Pos} (hc:X.calm=true) (hg:Gl X "max") (hm:X.mg "max" = none) (he:jE3 X e te) (hd:jE3 X d td)
  (h1:starEach [e] X.env=(false,eval e X.env)::starEach [] X.env:=by rfl):jE3 X (.Call (.Name "max" p) [e] [⟨some "default",d,kp⟩] pos) (o3 MV te td):=
 ⟨WK (qgI (qhA hc) hg hm he.h hd.h h1) λ_ _ _ h=>qbv qc5 h⟩
end
end L3
namespace Pu
open PySem L2 L3
open Bk (Lf Ext)
section
variable {D:Addr->Prop} {a:Addr} {G G' G0:Gp} {n n':Nat} {fv gv:List Nat} {l:Nat} {τ:St3} {ρ:Rho}
def LI (e:Ext a G G') (h:D a):Ex (rs D G) (rs D G'):=λb o x=>by
 obtain ⟨n,x⟩:=qm x;rw [zx n];exact e b o (by rintro rfl;exact n h) x
def V3 {k:Int} (h:Lf G a k):G a≠none:=by
 obtain ⟨o,c,m,e,_⟩:=h;rw [e];simp
def XU {k:Int} (hd:Dom D G) (e:Ext a G G') (lf:Lf G' a k):Dom D G':=λb hb z=>by
 by_cases h:b=a
 ·subst h;exact V3 lf z
 ·cases g:G b with
  |none=>exact hd b hb g
  |some o=>rw [e b o h g] at z;cases z
def Nw.backx {x:T} {d:PyData} {k:Int} (h:Nw D G G' x d) (e:Ext a G0 G) (lf:Lf G a k):Nw D G0 G' x d:=by
 rcases h with h|⟨p,xs,ds,h1,h2,c,r⟩
 ·exact .inl h
 refine .inr ⟨p,xs,ds,h1,h2,?_,r⟩;cases z:G0 p with
 |none=>rfl
 |some o=>
  by_cases hp:p=a
  ·subst hp;exact absurd c (V3 lf)
  ·rw [e p o hp z] at c;cases c
structure Ln (fv:List Nat) (l:Nat) (D:Addr->Prop) (G:Gp) (τ:St3) (ρ:Rho) (a:Addr) (n:Nat):Prop where
 v:WR fv D G τ ρ
 d:Dom D G
 da:D a
 tl:τ[l]?=some (some (.ref a))
 ul:vw ρ l=none
 lf:Lf G a n
theorem Ln.up (h:Ln fv l D G τ ρ a n) (e:Ext a G G') (lf:Lf G' a n'):Ln fv l D G' τ ρ a n':=
 ⟨λi hi d hd=>let ⟨t,x,y⟩:=h.v i hi d hd;⟨t,x,y.up (LI e h.da)⟩,XU h.d e lf,h.da,h.tl,h.ul,lf⟩
def Ln.fst (h:Ln (fv++gv) l D G τ ρ a n):Ln fv l D G τ ρ a n:=⟨h.v.l,h.d,h.da,h.tl,h.ul,h.lf⟩
def Ln.snd (h:Ln (fv++gv) l D G τ ρ a n):Ln gv l D G τ ρ a n:=⟨h.v.r,h.d,h.da,h.tl,h.ul,h.lf⟩
end
abbrev QD:=PyData->Nat->Prop
structure PwE (l:Nat) (t:TE3) where
 w:Rho->Nat->QD->Prop
 fv:List Nat
 nw:Bool
 mono:∀ {ρ n} {Q Q':QD},w ρ n Q->(∀ d m,Q d m->Q' d m)->w ρ n Q'
 ok:∀ {D τ ρ G a n} {q:Q3} {Q:QD},Ln fv l D G τ ρ a n->w ρ n Q->(∀ x d G' n',Q d n'->Ext a G G'->Lf G' a n'->Dq (rs D G') x d->(nw=true->Nw D G G' x d)->q x G')->t τ G q
structure PwC (l:Nat) (t:TT3) where
 w:Rho->Nat->(Bool->Nat->Prop)->Prop
 fv:List Nat
 mono:∀ {ρ n} {Q Q':Bool->Nat->Prop},w ρ n Q->(∀ d m,Q d m->Q' d m)->w ρ n Q'
 ok:∀ {D τ ρ G a n} {q:Bool->Gp->Prop} {Q:Bool->Nat->Prop},Ln fv l D G τ ρ a n->w ρ n Q->(∀ k G' n',Q k n'->Ext a G G'->Lf G' a n'->q k G')->t τ G q
structure PwA (l:Nat) (t:TA3) where
 w:Rho->Nat->(List PyData->Nat->Prop)->Prop
 fv:List Nat
 k:Nat
 mono:∀ {ρ n} {Q Q':List PyData->Nat->Prop},w ρ n Q->(∀ d m,Q d m->Q' d m)->w ρ n Q'
 ok:∀ {D τ ρ G a n} {q:List T->Gp->Prop} {Q:List PyData->Nat->Prop},Ln fv l D G τ ρ a n->w ρ n Q->(∀ x d G' n',Q d n'->d.length=k->Ext a G G'->Lf G' a n'->Dqs (rs D G') x d->q x G')->t τ G q
structure PwI (l:Nat) (t:TI3) where
 w:Rho->Nat->(List PyData->Nat->Prop)->Prop
 fv:List Nat
 nm:Bool
 mono:∀ {ρ n} {Q Q':List PyData->Nat->Prop},w ρ n Q->(∀ d m,Q d m->Q' d m)->w ρ n Q'
 ok:∀ {D τ ρ G a n} {r:List T->(Gp->Prop)->Gp->Prop} {Q:List PyData->Nat->Prop},Ln fv l D G τ ρ a n->w ρ n Q ->
  (∀ items stay ds G' n',Q ds n'->Ext a G G'->Lf G' a n'->Dqs (rs D G') items ds->(∀ G'',(nm=true\/Ex (rs D G') G'')->stay G'')->(nm=true->∃ ns:List Int,ds=ns.map PyData.int)->r items stay G')->t τ G r
structure DrD (r:List T->Gp->Q3->Prop) where
 W:List PyData->Nat->QD->Prop
 nw:Bool
 mono:∀ {ds n} {Q Q':QD},W ds n Q->(∀ d m,Q d m->Q' d m)->W ds n Q'
 ok:∀ {D:Addr->Prop} {G:Gp} {a:Addr} {n:Nat} {ts:List T} {ds:List PyData} {q:Q3} {Q:QD},Lf G a n->D a->Dom D G->Dqs (rs D G) ts ds->W ds n Q->(∀ x d G' n',Q d n'->Ext a G G'->Lf G' a n'->Dq (rs D G') x d->(nw=true->Nw D G G' x d)->q x G')->r (.ref a::ts) G q
section
variable {l:Nat}
def eOf {t:TE3} (b:PuE t):PwE l t:=⟨λρ n Q=>∃ d,b.f ρ=some d/\Q d n,b.fv,b.nw,λ⟨d,h1,h2⟩ h=>⟨d,h1,h _ _ h2⟩,λh ⟨d,h1,h2⟩ k=>
 b.ok h.v h.d h1 λx G1 E1 D1 N1=>k x d G1 _ h2 (Bk.WG E1) (h.lf.ex E1) D1 N1⟩
def cOf {t:TT3} (b:PuC t):PwC l t:=⟨λρ n Q=>∃ d,b.f ρ=some d/\Q d n,b.fv,λ⟨d,h1,h2⟩ h=>⟨d,h1,h _ _ h2⟩,λh ⟨d,h1,h2⟩ k=>
 b.ok h.v h.d h1 λG1 E1=>k d G1 _ h2 (Bk.WG E1) (h.lf.ex E1)⟩
def aOf {t:TA3} (b:PuA t):PwA l t:=⟨λρ n Q=>∃ d,b.f ρ=some d/\Q d n,b.fv,b.n,λ⟨d,h1,h2⟩ h=>⟨d,h1,h _ _ h2⟩,λh ⟨d,h1,h2⟩ k=>
 b.ok h.v h.d h1 λx G1 E1 D1=>k x d G1 _ h2 (b.ln h1) (Bk.WG E1) (h.lf.ex E1) D1⟩
def iOf {t:TI3} (b:PuI t):PwI l t:=⟨λρ n Q=>∃ d,b.f ρ=some d/\Q d n,b.fv,b.nm,λ⟨d,h1,h2⟩ h=>⟨d,h1,h _ _ h2⟩,λh ⟨d,h1,h2⟩ k=>
 b.ok h.v h.d h1 λitems stay G1 E1 D1 s nm=>k items stay d G1 _ h2 (Bk.WG E1) (h.lf.ex E1) D1 s nm⟩
def eO {r:R3} {ta tb:TE3} (R:OpD r) (a:PwE l ta) (b:PwE l tb):PwE l (o3 r ta tb):=
 ⟨λρ n Q=>a.w ρ n λx n1=>b.w ρ n1 λy n2=>∃ v,R.f x y=some v/\Q v n2,a.fv++b.fv,R.nw,λh k=>a.mono h λx n1 h=>b.mono h λy n2 ⟨v,h1,h2⟩=>⟨v,h1,k _ _ h2⟩,λh hw k=>
  a.ok h.fst hw λx dx G1 n1 h1 E1 L1 D1 _=>b.ok (h.snd.up E1 L1) h1 λy dy G2 n2 ⟨v,e,hq⟩ E2 L2 D2 _=>R.ok (D1.up (LI E2 h.da)) D2 (XU (XU h.d E1 L1) E2 L2) e λz G3 E3 D3 N3=>k z v G3 n2 hq ((E1.trans E2).trans (Bk.WG E3)) (L2.ex E3) D3 λz=>(N3 z).backx (E1.trans E2) L2⟩
def RA {ta:TE3} {tr:TA3} (a:PwE l ta) (r:PwA l tr):PwA l (qd ta tr):=
 ⟨λρ n Q=>a.w ρ n λx n1=>r.w ρ n1 λxs n2=>Q (x::xs) n2,a.fv++r.fv,r.k+1,λh k=>a.mono h λx n1 h=>r.mono h λxs n2 h=>k _ _ h,λh hw k=>
  a.ok h.fst hw λx dx G1 n1 h1 E1 L1 D1 _=>r.ok (h.snd.up E1 L1) h1 λy dy G2 n2 hq hl E2 L2 D2=>k _ _ G2 n2 hq (by simp [hl]) (E1.trans E2) L2 (.cons (D1.up (LI E2 h.da)) D2)⟩
def qmR {t:TA3} (b:PwA l t) (hn:Tru (Nat.ble b.k 1000)):PwE l (qcW t):=⟨λρ n Q=>b.w ρ n λxs n1=>Q (.tuple xs) n1,b.fv,false,λh k=>b.mono h λxs n1 h=>k _ _ h,λh hw k=>
 b.ok h hw λx dx G1 n1 h1 hl E1 L1 D1=>⟨by rw [D1.length,hl];exact few hn,k _ _ _ _ h1 E1 L1 (.tup D1) (λz=>by cases z)⟩⟩
def eDr {r:List T->Gp->Q3->Prop} {t:TA3} (R:DrD r) (b:PwA l t):PwE l (cb3 r (qd (v3 l) t)):=⟨λρ n Q=>b.w ρ n λxs n1=>R.W xs n1 Q,b.fv,R.nw,λh k=>b.mono h λxs n1 h=>R.mono h k,λ{D τ ρ G a n q Q} h hw k=>by
 simp only [cb3,qd,v3,h.tl];exact b.ok h hw λx dx G1 n1 hW hl E1 L1 D1=>R.ok L1 h.da (XU h.d E1 L1) D1 hW λz d G3 n3 hq E3 L3 D3 N3=>k z d G3 n3 hq (E1.trans E3) L3 D3 λz=>(N3 z).backx E1 L1⟩
def iR {t:TA3} (b:PwA l t):PwI l (J7 t):=⟨λρ n Q=>b.w ρ n λxs n1=>∃ ds,qf0 xs=some ds/\Q ds n1,b.fv,true,λh k=>b.mono h λxs n1 ⟨v,h1,h2⟩=>⟨v,h1,k _ _ h2⟩,λh hw k=>b.ok h hw λx dx G1 n1 ⟨ds,e,hq⟩ hl E1 L1 D1=>by
 unfold qf0 at e;split at e
 ·unfold cif at e;split at e
  ·rename_i c;cases e;cases D1 with
   |cons a b=>cases b;cases a;simp only;rw [L9];exact ⟨c,k _ _ _ _ _ hq E1 L1 (Dqs.ofInts _) (λ_ _=>trivial) λ_=>⟨_,rfl⟩⟩
  ·cases e
 ·unfold cif at e;split at e
  ·rename_i c;cases e;cases D1 with
   |cons a b=>cases b with
    |cons b c'=>cases c';cases a;cases b;simp only;rw [L9];exact ⟨c,k _ _ _ _ _ hq E1 L1 (Dqs.ofInts _) (λ_ _=>trivial) λ_=>⟨_,rfl⟩⟩
  ·cases e
 ·cases e⟩
end
def VA.ext {D:Addr->Prop} {a:Addr} {G G':Gp} {τ:St3} {ρ:Rho} (h:VA D G τ ρ) (e:Ext a G G') (da:D a):VA D G' τ ρ:=h.upx (LI e da)
structure RL (l:Nat) (a:Addr) (z0:Option (Option T)×Nat) (D:Addr->Prop) (G0:Gp) (A:Nat->Addr->Prop) (τ:St3) (ρ:Rho) (G:Gp) (n:Nat):Prop where
 r:RS D G0 A τ ρ G
 al:A l a
 tl:τ[l]?=some (some (.ref a))
 ul:ρ[l]?=some Sl.un
 lf:Lf G a n
 tz:τ[0]?=z0.1/\τ.length=z0.2
section
variable {l:Nat} {a:Addr} {z0:Option (Option T)×Nat} {D:Addr->Prop} {G0 G G':Gp} {A:Nat->Addr->Prop} {τ:St3} {ρ:Rho} {n n':Nat}
def RL.vl (h:RL l a z0 D G0 A τ ρ G n):vw ρ l=none:=by unfold vw;rw [h.ul];rfl
def RL.up (h:RL l a z0 D G0 A τ ρ G n) (e:Ext a G G') (lf:Lf G' a n'):RL l a z0 D G0 A τ ρ G' n':=
 ⟨h.r.keep (W:=λb=>b=a) e λb z=>⟨l,by rw [z];exact h.al,h.ul,by rw [z];exact V3 lf⟩,h.al,h.tl,h.ul,lf,h.tz⟩
def RL.ne (h:RL l a z0 D G0 A τ ρ G n) {i:Nat} {p:Addr} {s:Sl} (hp:A i p) (e:ρ[i]?=some s) (hs:s≠.un):p≠a:=by
 rintro rfl;have:=h.r.inj i l _ hp h.al;subst this;rw [h.ul] at e;cases e;exact hs rfl
def RL.all (h:RL l a z0 D G0 A τ ρ G n) (fv:List Nat):Ln fv l (λb=>D b\/b=a) G τ ρ a n:=by
 refine ⟨λi _ d hd=>?_,λb hb=>?_,.inr rfl,h.tl,h.vl,h.lf⟩
 ·unfold vw at hd;obtain ⟨s,e,hd⟩:=obb hd;refine (h.r.sl i s e).vis hd (zC λb z=>?_) λp o q g=>?_
  ·rcases z with z|z
   ·exact .inl z
   ·subst z;exact .inr ⟨l,h.al⟩
  ·rw [zx]
   ·exact g
   ·rintro (z|z)
    ·exact h.r.nd q z
    ·exact h.ne q e (by rintro rfl;cases hd) z
 ·rcases hb with hb|hb
  ·exact h.r.domD b hb
  ·subst hb;exact V3 h.lf
def qn0 {m:List Bool} (hm:mkb m l=false) (al:A l a):Ad m A l a:=⟨al,hm⟩
theorem RL.dem (h:RL l a z0 D G0 A τ ρ G n) {m:List Bool} (hm:mkb m l=false):RL l a z0 D G0 (Ad m A) τ (Pu.dm m ρ) G n:=
 ⟨h.r.dem m,qn0 hm h.al,h.tl,by rw [qd3,h.ul];simp [hm],h.lf,h.tz⟩
def RL.ln (h:RL l a z0 D G0 A τ ρ G n) {m:List Bool} {fv:List Nat} (hm:mkb m l=false) (hf:Tru (fv.all (mkb m))):Ln fv l (AD D (Ad m A)) G τ ρ a n:=
 ⟨h.r.viewD hf,(h.r.dem m).dom,.inr ⟨l,qn0 hm h.al⟩,h.tl,h.vl,h.lf⟩
theorem RL.put (h:RL l a z0 D G0 A τ ρ G n) {i:Nat} (hi:i≠l) (h0:i≠0) {x:T} {d:PyData} (hx:Dq (rs (AD D A) G) x d):RL l a z0 D G0 (Er A i) (τ.set i (some x)) (ρ.set i (.sh d)) G n:=
 ⟨h.r.put i hx,(.inr ⟨λz=>hi z.symm,h.al⟩),by rw [getElem?_set,if_neg hi];exact h.tl,by rw [getElem?_set,if_neg hi];exact h.ul,h.lf,⟨by rw [getElem?_set,if_neg h0];exact h.tz.1,by rw [List.length_set];exact h.tz.2⟩⟩
theorem RL.puts:∀ {ts:List (Nat×T)} {bs:List (Nat×PyData)} {A:Nat->Addr->Prop} {τ:St3} {ρ:Rho},RL l a z0 D G0 A τ ρ G n->Bd (rs (AD D A) G) ts bs->(∀ p∈bs,p.1≠l/\p.1≠0)->∃ A',RL l a z0 D G0 A' (sets τ ts) (jM ρ bs) G n
 |_,_,A,_,_,h,.nil,_=>⟨A,h⟩
 |_,_,A,_,_,h,.cons x b,hn=>by
  unfold sets jM;exact RL.puts (h.put (hn _ za0).1 (hn _ za0).2 x) (b.up qjc) (λp hp=>hn p (v6 _ hp))
theorem RL.upd (h:RL l a z0 D G0 A τ ρ G n) {i:Nat} (hi:i≠l) (h0:i≠0) {x:T} {s:Sl} {B:Addr->Prop} (hg:∀ b o,b≠a->¬ A i b->G b=some o->G' b=some o) (lf:Lf G' a n') (hB:∀ b,B b->(A i b\/G b=none)/\G' b≠none)
  (hs:Ex (rs (AD D A) G) (rs (AD D (Rg A i B)) G')->SlR (rs (AD D (Rg A i B)) G') G' B (some (some x)) s):RL l a z0 D G0 (Rg A i B) (τ.set i (some x)) (ρ.set i s) G' n':=
 ⟨h.r.upd i (W:=λb=>b=a\/A i b) (λb o w z=>hg b o (λy=>w (.inl y)) (λy=>w (.inr y)) z) (λb z=>by
  rcases z with z|z
  ·exact ⟨l,by rw [z];exact h.al,.inr ⟨h.ul,by rw [z];exact V3 lf⟩⟩
  ·exact ⟨i,z,.inl rfl⟩) hB hs,.inr ⟨λz=>hi z.symm,h.al⟩,by rw [getElem?_set,if_neg hi];exact h.tl,by rw [getElem?_set,if_neg hi];exact h.ul,lf,⟨by rw [getElem?_set,if_neg h0];exact h.tz.1,by rw [List.length_set];exact h.tz.2⟩⟩
def RL.putN (h:RL l a z0 D G0 A τ ρ G n) {i:Nat} (hi:i≠l) (h0:i≠0) {x:T} {d:PyData} {ds:List PyData} (hd:d=.list ds) (E:Ext a G G') (lf:Lf G' a n') (hx:Nw (AD D A) G G' x d):∃ A',RL l a z0 D G0 A' (τ.set i (some x)) (ρ.set i (.ow ds)) G' n':=by
 rcases hx with hx|⟨p,xs,ds',rfl,e',gp,gp',hs⟩
 ·rw [hd] at hx;cases hx
 rw [hd] at e';cases e';refine ⟨_,h.upd hi h0 (B:=λb=>b=p) (λb o w _ z=>E b o w z) lf (λb z=>by subst z;exact ⟨.inr gp,by rw [gp'];simp⟩) λ_=>⟨p,xs,rfl,rfl,gp',hs.up (zC λb z=>?_)⟩⟩;rcases z with z|⟨j,⟨_,z⟩|⟨_,z⟩⟩
 ·exact .inl (.inl z)
 ·exact .inr z
 ·exact .inl (.inr ⟨j,z⟩)
theorem RL.wr (h:RL l a z0 D G0 A τ ρ G n) {i:Nat} {p:Addr} {xs:List T} {ds ds0:List PyData} (ho:ρ[i]?=some (Sl.ow ds0)) (hi:A i p) (ht:τ[i]?=some (some (.ref p))) (hs:Dqs (rs (AD D A) G) xs ds):RL l a z0 D G0 A τ (ρ.set i (.ow ds)) (gu G p (.lst xs)) n:=by
 have il:i≠l:=by rintro rfl;rw [h.ul] at ho;cases ho
 have pa:p≠a:=by rintro rfl;exact il (h.r.inj i l _ hi h.al)
 exact ⟨h.r.wr hi ht hs,h.al,h.tl,by rw [getElem?_set,if_neg il];exact h.ul,h.lf.new pa,h.tz⟩
end
abbrev QO:=Ot->Nat->Prop
def qcA (l:Nat) (a:Addr) (z0:Option (Option T)×Nat) (D:Addr->Prop) (G0:Gp) (e:Ends3):Ot->Nat->Prop
 |.nx ρ,n=>∀ A τ G,RL l a z0 D G0 A τ ρ G n->e.nx τ G
 |.bk ρ,n=>∀ A τ G,RL l a z0 D G0 A τ ρ G n->e.bk τ G
 |.ct ρ,n=>∀ A τ G,RL l a z0 D G0 A τ ρ G n->e.ct τ G
 |.rt d fr,n=>∀ x G,Ex G0 G->Lf G a n->Dq (rs (λb=>D b\/b=a) G) x d->(fr=true->Nw (λb=>D b\/b=a) G0 G x d)->e.rt x G
structure PwS (l:Nat) (t:TS3) where
 w:Rho->Nat->QO->Prop
 mono:∀ {ρ n} {Q Q':QO},w ρ n Q->(∀ o m,Q o m->Q' o m)->w ρ n Q'
 ok:∀ {a z0 D G0 A τ ρ G n} {e:Ends3} {Q:QO},RL l a z0 D G0 A τ ρ G n->w ρ n Q->(∀ o m,Q o m->qcA l a z0 D G0 e o m)->t e τ G
section
variable {l:Nat}
def qaJ:PwS l zp:=⟨λρ n Q=>Q (.nx ρ) n,λh k=>k _ _ h,λh hw k=>k _ _ hw _ _ _ h⟩
def sqw (b:Rho->Nat->QO->Prop) (Q:QO):QO:=λo n=>match o with|.nx ρ'=>b ρ' n Q|o=>Q o n
def KD {t u:TS3} (x:PwS l t) (y:PwS l u):PwS l (qM t u):=⟨λρ n Q=>x.w ρ n (sqw y.w Q),λh k=>x.mono h λo m h=>by
  cases o with
  |nx ρ=>exact y.mono h k
  |bk ρ=>exact k _ _ h
  |ct ρ=>exact k _ _ h
  |rt d f=>exact k _ _ h,λh hw k=>x.ok h hw λo m h=>by
  cases o with
  |nx ρ=>exact λA τ G r=>y.ok r h k
  |bk ρ=>exact k _ _ h
  |ct ρ=>exact k _ _ h
  |rt d f=>exact k _ _ h⟩
def wIf {c:TT3} {t u:TS3} (pc:PwC l c) (x:PwS l t) (y:PwS l u):PwS l (ZO c t u):=⟨λρ n Q=>pc.w ρ n λk n1=>if k then x.w ρ n1 Q else y.w ρ n1 Q,λh k=>pc.mono h λj m h=>by
  cases j with
  |true=>rw [if_pos rfl] at h ⊢;exact x.mono h k
  |false=>exact y.mono h k,λh hw k=>pc.ok (h.all _) hw λj G1 n1 hj E1 L1=>by
  cases j with
  |true=>rw [if_pos rfl] at hj ⊢;exact x.ok (h.up E1 L1) hj k
  |false=>exact y.ok (h.up E1 L1) hj k⟩
def qgo {a:Addr} {z0:Option (Option T)×Nat} {D:Addr->Prop} {G0 G G':Gp} {A:Nat->Addr->Prop} {τ:St3} {ρ:Rho} {n:Nat} (h:RL l a z0 D G0 A τ ρ G n) (e:Ext a G G'):Ex G0 G':=λb o x=>e b o (by rintro rfl;rw [h.r.fr l _ h.al] at x;cases x) (h.r.ex b o x)
def qjy {t:TE3} (x:PwE l t):PwS l (zt t):=⟨λρ n Q=>x.w ρ n λd n1=>Q (.rt d x.nw) n1,λh k=>x.mono h λd m h=>k _ _ h,λh hw k=>x.ok (h.all _) hw λy d G1 n1 hq E1 L1 D1 N1=>k _ _ hq y G1 (qgo h E1) L1 D1 λz=>(N1 z).back h.r.ex⟩
def qjV (i:Nat):PwS l (zt (v3 i)):=⟨λρ n Q=>∃ d b,qcR ρ i=some (.rt d b)/\Q (.rt d b) n,λ⟨d,b,h1,h2⟩ k=>⟨d,b,h1,k _ _ h2⟩,λ{a z0 D G0 A τ ρ G n e Q} h ⟨d,b,h1,h2⟩ k=>by
 unfold qcR at h1;split at h1
 ·rename_i ds e;cases h1;obtain ⟨p,xs,b,c,g,f⟩:=h.r.ow i _ e;simp only [zt,v3,c];have pa:p≠a:=by
   rintro rfl;have:=h.r.inj i l _ b h.al;subst this;rw [h.ul] at e;cases e
  refine k _ _ h2 _ _ h.r.ex h.lf (.lst (by rw [zx (by rintro (z|z);exact h.r.nd b z;exact pa z)];exact g) (f.up (zC λb z=>?_))) λ_=>.inr ⟨p,xs,ds,rfl,rfl,h.r.fr i p b,g,f.up (zC λq z=>?_)⟩
  ·rcases z with z|z
   ·exact .inl z
   ·subst z;exact .inr ⟨l,h.al⟩
  ·rcases z with (z|z)|z
   ·exact .inl z
   ·subst z;exact .inr ⟨l,h.al⟩
   ·subst z;exact .inr ⟨i,b⟩
 ·rename_i d e;cases h1;obtain ⟨t,b,c⟩:=h.r.sh i _ e;simp only [zt,v3,b];refine k _ _ h2 _ _ h.r.ex h.lf (c.up (zC λb z=>?_)) (λz=>by cases z);rcases z with z|z
  ·exact .inl z
  ·subst z;exact .inr ⟨l,h.al⟩
 ·cases h1⟩
def qhG {t:TE3} (x:PwE l t) (i:Nat) (m:List Bool) (hm:Tru (x.fv.all (mkb m))) (hl:Tru (!mkb m l&&(i != l&&i != 0))):PwS l (zr t (gn3 i)):=⟨λρ n Q=>x.w ρ n λd n1=>Q (.nx (LD m x.nw i d ρ)) n1,λh k=>x.mono h λd m h=>k _ _ h,λ{a z0 D G0 A τ ρ G n e Q} h hw k=>by
 have hl':mkb m l=false/\i≠l/\i≠0:=by simpa using hl.h
 refine x.ok (h.ln hl'.1 hm) hw λy d G1 n1 hq E1 L1 D1 N1=>?_;have k:=k _ _ hq;unfold LD at k;show e.nx (τ.set i (some y)) G1;split at k
 ·rename_i hs;exact k _ _ _ ((h.up E1 L1).put hl'.2.1 hl'.2.2 (ZL D1 hs))
 ·split at k
  ·rename_i hn;have N:=N1 hn;rcases id N with h2|⟨p,xs,ds,h1,h2,_⟩
   ·exact absurd h2 (by assumption)
   subst h2;obtain ⟨A',r⟩:=(h.dem hl'.1).putN hl'.2.1 hl'.2.2 rfl E1 L1 N;exact k _ _ _ r
  ·exact k _ _ _ (((h.dem hl'.1).up E1 L1).put hl'.2.1 hl'.2.2 D1)⟩
def qkO {t:TE3} {g:TG3} (x:PwE l t) (pg:PuG g) (m:List Bool) (hm:Tru (x.fv.all (mkb m))) (hl:Tru (!mkb m l&&pg.tg.all (λi=>i != l&&i != 0))):PwS l (zr t g):=⟨λρ n Q=>x.w ρ n λd n1=>∃ bs,pg.f d=some bs/\Q (.nx (jM (dm m ρ) bs)) n1,λh k=>x.mono h λd m ⟨bs,h1,h2⟩=>⟨bs,h1,k _ _ h2⟩,λ{a z0 D G0 A τ ρ G n e Q} h hw k=>by
 have hl':mkb m l=false/\∀ i∈pg.tg,i≠l/\i≠0:=by simpa using hl.h
 refine x.ok (h.ln hl'.1 hm) hw λy d G1 n1 ⟨bs,e2,hq⟩ E1 L1 D1 N1=>?_;obtain ⟨ts,bd,kg⟩:=pg.ok D1 e2;refine kg _ _ _ ?_;obtain ⟨A',h'⟩:=((h.dem hl'.1).up E1 L1).puts bd (λp hp=>hl'.2 _ (pg.at' e2 p hp));exact k _ _ hq _ _ _ h'⟩
def qn7 {t:TA3} (x:PwA l t) (i j:Nat) (m:List Bool) (hm:Tru (x.fv.all (mkb m))) (hl:Tru (!mkb m l&&((i != l&&i != 0)&&(j != l&&j != 0)))):PwS l (qlZ i j t):=⟨λρ n Q=>x.w ρ n λds n1=>∃ o,qlR i j m ds ρ=some o/\Q o n1,λh k=>x.mono h λd m ⟨bs,h1,h2⟩=>⟨bs,h1,k _ _ h2⟩,λ{a z0 D G0 A τ ρ G n e Q} h hw k=>by
 have hl':mkb m l=false/\(i≠l/\i≠0)/\j≠l/\j≠0:=by simpa using hl.h
 refine x.ok (h.ln hl'.1 hm) hw λy d G1 n1 ⟨o,e2,hq⟩ hlen E1 L1 D1=>?_;unfold qlR at e2;split at e2
 ·cases D1 with
  |cons x1 b=>cases b with
   |cons x2 c=>
    cases c;split at e2
    ·rename_i hs;cases e2;rw [Bool.and_eq_true] at hs;exact k _ _ hq _ _ _ (((h.up E1 L1).put hl'.2.1.1 hl'.2.1.2 (ZL x1 hs.1)).put hl'.2.2.1 hl'.2.2.2 (ZL x2 hs.2))
    ·cases e2;exact k _ _ hq _ _ _ ((((h.dem hl'.1).up E1 L1).put hl'.2.1.1 hl'.2.1.2 x1).put hl'.2.2.1 hl'.2.2.2 (x2.up qjc))
 ·cases e2⟩
def RL.evalS {a:Addr} {z0:Option (Option T)×Nat} {D:Addr->Prop} {G0 G:Gp} {A:Nat->Addr->Prop} {τ:St3} {ρ:Rho} {n:Nat} (h:RL l a z0 D G0 A τ ρ G n) {t:TE3} (x:PwE l t) (m:List Bool) (hm:Tru (x.fv.all (mkb m))) (hl:mkb m l=false) {Q:QD} (hw:x.w ρ n Q) (q:Q3) (k:∀ y d G' n' A1,Q d n'->RL l a z0 D G0 A1 τ (dmS m d ρ) G' n'->Ext a G G'->Dq (rs (AD D A1) G') y d->q y G'):t τ G q:=by
 refine x.ok (h.ln hl hm) hw λy d G1 n1 hq E1 L1 D1 _=>?_;by_cases hs:EH d=true
 ·exact k y d G1 n1 A hq (by unfold dmS;rw [if_pos hs];exact h.up E1 L1) E1 (ZL D1 hs)
 ·exact k y d G1 n1 _ hq (by unfold dmS;rw [if_neg hs];exact (h.dem hl).up E1 L1) E1 D1
def qmK {t:TE3} (x:PwE l t) (i:Nat) (m:List Bool) (hm:Tru (x.fv.all (mkb m))) (hl:Tru (!mkb m l)):PwS l (ZZ (bm3 TQ (v3 i) (qd t ql))):=⟨λρ n Q=>∃ ds,slot ρ i=some ds/\x.w ρ n λd n1=>slot (dmS m d ρ) i=some ds/\ds.length<16777216/\Q (.nx ((dmS m d ρ).set i (.ow (ds++[d])))) n1,λ⟨v,h0,h⟩ k=>⟨v,h0,x.mono h λd m ⟨y,h1,h2⟩=>⟨y,h1,k _ _ h2⟩⟩,λ{a z0 D G0 A τ ρ G n e Q} h ⟨ds,h0,hw⟩ k=>by
 have hl':mkb m l=false:=by simpa using hl.h
 obtain ⟨p,xs,b,c,g,f⟩:=h.r.ow i _ (DI h0);simp only [ZZ,bm3,v3,c,ze g];refine ⟨rfl,h.evalS x m hm hl' hw _ λy d G1 n1 A1 ⟨h1,h2,hq⟩ r E1 D1=>?_⟩;obtain ⟨p',xs',b',c',g',f'⟩:=r.r.ow i _ (DI h1);rw [c] at c';cases c';simp only [ql,TQ,g'];exact ⟨by rw [f'.length,y8];exact h2,k _ _ hq _ _ _ (r.wr (DI h1) b' c (f'.append (.cons D1 .nil)))⟩⟩
def qdP (gf:PyData->Option (List (Nat×PyData))) (bw:Rho->Nat->QO->Prop):List PyData->Rho->Nat->QO->Prop
 |[],ρ,n,Q=>Q (.nx ρ) n
 |d::r,ρ,n,Q=>∃ bs,gf d=some bs/\bw (jM ρ bs) n λo n1=>match o with
  |.nx ρ'=>qdP gf bw r ρ' n1 Q
  |.ct ρ'=>qdP gf bw r ρ' n1 Q
  |.bk ρ'=>Q (.nx ρ') n1
  |.rt d b=>Q (.rt d b) n1
theorem ES {g:TG3} {tb:TS3} (pg:PuG g) (pb:PwS l tb):∀ {ds:List PyData} {ρ:Rho} {n:Nat} {Q Q':QO},qdP pg.f pb.w ds ρ n Q->(∀ o m,Q o m->Q' o m)->qdP pg.f pb.w ds ρ n Q'
 |[],_,_,_,_,h,k=>k _ _ h
 |d::r,_,_,_,_,⟨bs,e,h⟩,k=>⟨bs,e,pb.mono h λo m h=>by
   cases o with
   |nx ρ=>exact ES pg pb h k
   |ct ρ=>exact ES pg pb h k
   |bk ρ=>exact k _ _ h
   |rt d b=>exact k _ _ h⟩
theorem XQ {stay:Gp->Prop} {g:TG3} {tb:TS3} {e:Ends3} (pg:PuG g) (pb:PwS l tb) {a:Addr} {z0:Option (Option T)×Nat} {D:Addr->Prop} {G0:Gp} {Q:QO} (hl:∀ i∈pg.tg,i≠l/\i≠0) (hs:∀ A τ ρ G n,RL l a z0 D G0 A τ ρ G n->stay G) (k:∀ o m,Q o m->qcA l a z0 D G0 e o m) :
  ∀ (ds:List PyData) (items:List T),(∀ A τ ρ G n,RL l a z0 D G0 A τ ρ G n->Dqs (rs (AD D A) G) items ds)->∀ A τ ρ G n,RL l a z0 D G0 A τ ρ G n->qdP pg.f pb.w ds ρ n Q->X7 stay g tb e items τ G
 |[],items,hi,A,τ,ρ,G,n,h,hw=>by
  have:=hi _ _ _ _ _ h;cases this;exact ⟨hs _ _ _ _ _ h,k _ _ hw _ _ _ h⟩
 |d::ds,items,hi,A,τ,ρ,G,n,h,⟨bs,e1,hw⟩=>by
  have hh:=hi _ _ _ _ _ h;cases hh with
  |cons hx hr=>
   rename_i x items;obtain ⟨ts,bd,kg⟩:=pg.ok hx e1;refine ⟨hs _ _ _ _ _ h,kg _ _ _ ?_⟩;obtain ⟨A',h'⟩:=h.puts bd λp hp=>hl _ (pg.at' e1 p hp);have hi':∀ A τ ρ G n,RL l a z0 D G0 A τ ρ G n->Dqs (rs (AD D A) G) items ds:=λA τ ρ G n h=>by
    have:=hi _ _ _ _ _ h;cases this with
    |cons a b=>exact b
   refine pb.ok h' hw λo m hq=>?_;cases o with
   |nx ρ'=>exact λA2 τ2 G2 h2=>XQ pg pb hl hs k ds items hi' _ _ _ _ _ h2 hq
   |ct ρ'=>exact λA2 τ2 G2 h2=>XQ pg pb hl hs k ds items hi' _ _ _ _ _ h2 hq
   |bk ρ'=>exact k _ _ hq
   |rt d fr=>exact k _ _ hq
theorem RL.base {a:Addr} {z0:Option (Option T)×Nat} {D:Addr->Prop} {G0 Gb G:Gp} {A:Nat->Addr->Prop} {τ:St3} {ρ:Rho} {n:Nat} (h:RL l a z0 D Gb A τ ρ G n) (e:Ex G0 Gb) (hd:Dom D G0):RL l a z0 D G0 A τ ρ G n:=⟨h.r.base e hd,h.al,h.tl,h.ul,h.lf,h.tz⟩
theorem qcA.base {a:Addr} {z0:Option (Option T)×Nat} {D:Addr->Prop} {G0 Gb:Gp} {e:Ends3} {o:Ot} {n:Nat} (h:qcA l a z0 D G0 e o n) (x:Ex G0 Gb) (hd:Dom D G0):qcA l a z0 D Gb e o n:=by
 cases o with
 |nx ρ=>exact λA τ G r=>h A τ G (r.base x hd)
 |bk ρ=>exact λA τ G r=>h A τ G (r.base x hd)
 |ct ρ=>exact λA τ G r=>h A τ G (r.base x hd)
 |rt d fr=>exact λy G p q r z=>h y G (x.trans p) q r λw=>(z w).back x
def qlM {wi:TI3} {g:TG3} {tb:TS3} (pi:PwI l wi) (pg:PuG g) (pb:PwS l tb) (m:List Bool) (hm:Tru (pi.fv.all (mkb m))) (hl:Tru (!mkb m l&&pg.tg.all (λi=>i != l&&i != 0))):PwS l (ET wi g tb):=⟨λρ n Q=>pi.w ρ n λds n1=>qdP pg.f pb.w ds (if pi.nm then ρ else dm m ρ) n1 Q,λh k=>pi.mono h λd m h=>ES pg pb h k,λ{a z0 D G0 A τ ρ G n e Q} h hw k=>by
 have hl':mkb m l=false/\∀ i∈pg.tg,i≠l/\i≠0:=by simpa using hl.h
 refine pi.ok (h.ln hl'.1 hm) hw λitems stay ds G1 n1 hq E1 L1 D1 hs hnm=>?_;cases hb:pi.nm with
 |true=>
  rw [hb,if_pos rfl] at hq;obtain ⟨ns,rfl⟩:=hnm hb;have:=D1.ints;subst this;exact XQ pg pb hl'.2 (λ_ _ _ _ _ _=>hs _ (.inl hb)) k _ _ (λA τ ρ G _ _=>Dqs.ofInts _) _ _ _ _ _ (h.up E1 L1) hq
 |false=>
  rw [hb,if_neg y6] at hq;have h1:=(h.dem hl'.1).up E1 L1;have b1:Ex G0 (rs (λb=>∃ i,Ad m A i b) G1):=λb o e=>by
   rw [zx]
   ·exact h1.r.ex _ _ e
   ·rintro ⟨i,z⟩;rw [h1.r.fr i _ z] at e;cases e
  have h2:RL l a z0 D (rs (λb=>∃ i,Ad m A i b) G1) (Ad m A) τ (dm m ρ) G1 n1:=⟨⟨JN,h.r.dm.up b1,λi p z=>by unfold rs;exact qT ⟨i,z⟩,h1.r.da,h1.r.inj,h1.r.len,h1.r.sl⟩,h1.al,h1.tl,h1.ul,h1.lf,h1.tz⟩
  have X:∀ A2 τ2 ρ2 G2,RS D (rs (λb=>∃ i,Ad m A i b) G1) A2 τ2 ρ2 G2->Ex (rs (AD D (Ad m A)) G1) (rs (AD D A2) G2):=λA2 τ2 ρ2 G2 r b o e=>by
   obtain ⟨n1,e⟩:=qm e;have eb:rs (λb=>∃ i,Ad m A i b) G1 b=some o:=by rw [zx (λz=>n1 (.inr z))];exact e
   rw [zx]
   ·exact r.ex _ _ eb
   ·rintro (z|⟨i,z⟩)
    ·exact n1 (.inl z)
    ·rw [r.fr i _ z] at eb;cases eb
  exact XQ pg pb hl'.2 (λA2 τ2 ρ2 G2 n2 r=>hs _ (.inr ((X _ _ _ _ r.r).trans JN))) (λo m hq=>(k o m hq).base b1 h.r.dm) _ _ (λA2 τ2 ρ2 G2 n2 r=>D1.up (X _ _ _ _ r.r)) _ _ _ _ _ h2 hq⟩
end
def DSp (W:List PyData->Nat->QD->Prop) (fr:Bool):Sp3:=λts G q=>∃ (D:Addr->Prop) (a:Addr) (n:Nat) (ts':List T) (ds:List PyData) (Q:QD),ts=.ref a::ts'/\Lf G a n/\D a/\Dom D G/\Dqs (rs D G) ts' ds/\W ds n Q/\∀ x d G' n',Q d n'->Ext a G G'->Lf G' a n'->Dq (rs D G') x d->(fr=true->Nw D G G' x d)->q x G'
structure Wm where
 W:List PyData->Nat->QD->Prop
 mono:∀ {ds n} {Q Q':QD},W ds n Q->(∀ d m,Q d m->Q' d m)->W ds n Q'
def dSp (w:Wm) (fr:Bool):DrD (DSp w.W fr):=⟨w.W,fr,w.mono,λ{D G a n ts ds q Q} lf da hd hs hw k=>⟨D,a,n,ts,ds,Q,rfl,lf,da,hd,hs,hw,k⟩⟩
def qkM (fr:Bool) (Q:QD):QO:=λo n=>match o with
 |.rt d b=>(fr=true->b=true)/\∃ m,n<=m/\Q d m
 |.nx _=>fr=false/\∃ m,n<=m/\Q .none m
 |_=>False
def qnd {t:TS3} (b:PwS 0 t) (k N:Nat) (fr:Bool):Wm:=⟨λds n Q=>ds.length+1=k/\b.w (.un::(ds.map Sl.sh++List.replicate (N-(ds.length+1)) .un)) n (qkM fr Q),λ⟨h1,h2⟩ k=>⟨h1,b.mono h2 λo m h=>by
 cases o with
 |rt d f=>obtain ⟨h1,m,h2,h3⟩:=h;exact ⟨h1,m,h2,k _ _ h3⟩
 |nx ρ=>obtain ⟨h1,m,h2,h3⟩:=h;exact ⟨h1,m,h2,k _ _ h3⟩
 |bk ρ=>exact h
 |ct ρ=>exact h⟩⟩
def qbs {t:TS3} (b:PwS 0 t) (N:List Str) (k:Nat) (fr:Bool):∀ ts G q,DSp (qnd b k N.length fr).W fr ts G q->ts.length=k/\t { nx:=λ_ G'=>q .non G',rt:=q } (qv N ts) G:=by
 rintro ts G q ⟨D,a,n,ts',ds,Q,rfl,lf,da,hd,hs,⟨hk,hw⟩,h⟩;refine ⟨by simp [hs.length];omega,?_⟩;have DD:∀ b,(D b/\b≠a)\/b=a↔D b:=λb=>by
  by_cases e:b=a
  ·subst e;simp [da]
  ·simp [e]
 have rr:∀ H,rs (λb=>(D b/\b≠a)\/b=a) H=rs D H:=λH=>by
  have:(λb=>(D b/\b≠a)\/b=a)=D:=funext λb=>propext (DD b);rw [this]
 have ad:AD (λb=>D b/\b≠a) (λi p=>i=0/\p=a)=D:=funext λb=>propext ⟨(λz=>by
   rcases z with z|⟨i,_,z⟩
   ·exact z.1
   ·rw [z];exact da),(λz=>by
   by_cases e:b=a
   ·exact .inr ⟨0,rfl,e⟩
   ·exact .inl ⟨z,e⟩)⟩
 have ga:G a≠none:=V3 lf;have r:RL 0 a (some (some (.ref a)),(qv N (.ref a::ts')).length) (λb=>D b/\b≠a) (rs (λb=>b=a) G) (λi p=>i=0/\p=a) (qv N (.ref a::ts')) (.un::(ds.map Sl.sh++List.replicate (N.length-(ds.length+1)) .un)) G n:=by
  refine ⟨⟨JN,λb hb=>by rw [zx (D:=λb=>b=a) hb.2];exact hd b hb.1,λi p e=>by rw [e.2];unfold rs;exact qT rfl,λi p e=>by rw [e.2];exact ga,λi j p e e'=>e.1.trans e'.1.symm,by simp [qv,hs.length],λi s e=>?_⟩,⟨rfl,rfl⟩,by simp [qv],rfl,lf,⟨by simp [qv],rfl⟩⟩;rw [ad];cases i with
  |zero=>cases e;trivial
  |succ i=>
   rw [getElem?_cons_succ] at e;by_cases hi:i<ds.length
   ·rw [List.getElem?_append_left (by simpa using hi),getElem?_map] at e;obtain ⟨d2,e3,rfl⟩:=za3 e;obtain ⟨x,e5,hx⟩:=hs.get e3;refine ⟨x,?_,hx⟩;unfold qv;rw [List.getElem?_append_left (by simp [hs.length];exact hi),getElem?_map,getElem?_cons_succ,e5];rfl
   ·rw [List.getElem?_append_right (by simpa using hi),List.getElem?_replicate] at e;split at e<;>cases e
    trivial
 have xe:∀ {G'},Ex (rs (λb=>b=a) G) G'->Ext a G G':=λe b o n x=>e b o (by rw [zx (D:=λb=>b=a) n];exact x);refine b.ok r hw λo m hq=>?_;cases o with
 |rt d f=>
  intro x G' E L Dx0 N;have Dx:=Dx0;rw [rr] at Dx;obtain ⟨hq1,m2,hm,hq2⟩:=hq;refine h x d G' m2 hq2 (xe E) (L.mono (by omega)) Dx λz=>?_;rcases N (hq1 z) with h2|⟨p,xs,ds',h1,h2,c,g,f'⟩
  ·exact .inl h2
  have np:p≠a:=by
   rintro rfl;rw [h1] at Dx0;cases Dx0 with
   |lst g0 _=>exact (qm g0).1 (.inr rfl)
   |clo g0 _=>exact (qm g0).1 (.inr rfl)
  refine .inr ⟨p,xs,ds',h1,h2,by rw [zx (D:=λb=>b=a) np] at c;exact c,g,f'.up (zC λb z=>?_)⟩;rcases z with z|z
  ·exact .inl ((DD b).mpr z)
  ·exact .inr z
 |nx ρ=>
  obtain ⟨hq1,m2,hm,hq2⟩:=hq;exact λA τ G' r'=>h .non .none G' m2 hq2 (xe r'.r.ex) (r'.lf.mono (by omega)) .non λz=>by rw [hq1] at z;cases z
 |bk ρ=>exact hq.elim
 |ct ρ=>exact hq.elim
end Pu
namespace Pv
open PySem L2 L3 Pu
end Pv
namespace Pu
open PySem L2 L3
open Bk (Lf Ext)
def okW:QO:=λo _=>match o with|.nx _=>True|.ct _=>True|_=>False
def qnU (K:Int):TE3:=o3 Z3 (c3 (.int 1)) (cb3 qfL (qd (c3 (.int K)) (qd (cb3 U1 (qd (v3 0) ql)) ql)))
def qiS {i:Nat} {τ:St3} {t:T} {G:Gp} {q:Q3} (h:τ[i]?=some (some t)):v3 i τ G q=q t G:=by unfold v3;rw [h]
def qoe (K:Int) (R:TS3):TS3:=qM (ET (J7 (qd (qnU K) ql)) (gn3 1) (qM (zr (cb3 Bk.Q2 (qd (v3 0) (qd (v3 1) ql))) (gn3 2)) R)) (zt (c3 (.bl true)))
def qdS {R:TS3} (b:PwS 2 R) (N:List Str) (K:Int) (M:Nat) (hK:0<=K/\K<=60) (hN:N.length=M+3) (h:∀ k:Nat,k<=60->b.w ([.un,.sh (.int k),.un]++List.replicate M .un) 0 okW):∀ ts G q,RF ts G q->ts.length=1/\qoe K R { nx:=λ_ G'=>q .non G',rt:=q } (qv N ts) G:=by
 rintro ts G q ⟨a,ns,rfl,hG,hl,hq⟩;refine ⟨rfl,?_⟩;have s0:(qv N [T.ref a])[0]?=some (some (.ref a)):=by simp [qv]
 have gl:getL G a=some (ns.map T.int):=by unfold getL;rw [hG]
 simp only [qoe,qM,ET,J7,qnU,qd,ql,o3,c3,cb3,v3,s0,U1,gl,qfL,Z3,length_map];have cnt:((1+(if ((ns.length:Nat):Int)<K then ((ns.length:Nat):Int) else K)).toNat)<=61:=by split<;>omega
 refine ⟨⟨by split<;>omega,by split<;>omega⟩,?_⟩;refine qcp _ (λ_ τ G'=>G' a=some (.frz (ns.map T.int))/\τ[0]?=some (some (.ref a))/\τ.length=M+3) ⟨hG,s0,by simp [qv,hN]⟩ (λ_ _ _ _ _=>True.intro) ?_ ?_
 ·rintro i z τ G' nx hz ⟨gA,t0,tl⟩ hn;obtain ⟨hi,rfl⟩:=qg7 hz;have hi2:i<=60:=by omega
  have t1:(τ.set 1 (some (T.int (0+(i:Int)))))[0]?=some (some (.ref a)):=by rw [getElem?_set,if_neg (by omega)];exact t0
  have t2:(τ.set 1 (some (T.int (0+(i:Int)))))[1]?=some (some (T.int (0+(i:Int)))):=by rw [getElem?_set,if_pos rfl,if_pos (by omega)]
  show v3 0 (τ.set 1 (some (T.int (0+(i:Int))))) G' (λx G1=>v3 1 (τ.set 1 (some (T.int (0+(i:Int))))) G1 λy G2=>Bk.Q2 [x,y] G2 λz G3=>R _ ((τ.set 1 (some (T.int (0+(i:Int))))).set 2 (some z)) G3);rw [qiS t1,qiS t2];refine ⟨a,_,ns,rfl,gA,hl,by omega,by omega,λp o c hp ho=>?_⟩;have pa:a≠p:=by rintro rfl;rw [gA] at hp;cases hp
  have r:RL 2 p (some (some (.ref a)),M+3) (λ_=>False) G' (λj q=>j=2/\q=p) ((τ.set 1 (some (T.int (0+(i:Int))))).set 2 (some (.ref p))) ([.un,.sh (.int i),.un]++List.replicate M .un) (gu G' p (.lst [.int o,.int c,.int 0])) 0:=by
   refine ⟨⟨QC hp,λb z=>z.elim,λj q e=>by rw [e.2];exact hp,λj q e=>by rw [e.2,qD];simp,λj k q e e'=>e.1.trans e'.1.symm,by simp [tl],λj s e=>?_⟩,⟨rfl,rfl⟩,by rw [getElem?_set,if_pos rfl,if_pos (by simp;omega)],rfl,⟨o,c,0,qD,ho,by omega,by omega⟩,⟨by rw [getElem?_set,if_neg (by omega)];exact t1,by simp [tl]⟩⟩
   match j,e with
   |0,e=>cases e;trivial
   |1,e=>
    cases e;refine ⟨.int (0+(i:Int)),by rw [getElem?_set,if_neg (by omega)];exact t2,?_⟩;rw [Int.zero_add];exact .int _
   |2,e=>cases e;trivial
   |j+3,e=>
    simp only [cons_append,List.nil_append,getElem?_cons_succ,List.getElem?_replicate] at e;split at e<;>cases e
    trivial
  refine b.ok r (h i hi2) λo' m ho'=>?_;cases o' with
  |nx ρ'=>exact λA τ' G2 r2=>hn _ _ ⟨r2.r.ex _ _ gA,r2.tz.1,r2.tz.2⟩
  |ct ρ'=>exact λA τ' G2 r2=>hn _ _ ⟨r2.r.ex _ _ gA,r2.tz.1,r2.tz.2⟩
  |bk ρ'=>exact ho'.elim
  |rt d f=>exact ho'.elim
 ·rintro τ G' ⟨gA,t0,tl⟩;exact hq G'
def qml {G:Gp} {ts:List T} {i:Int} (h:Dqs G ts [.int i]):ts=[.int i]:=by
 cases h with
 |cons a b=>cases b;cases a;rfl
def lfc {G:Gp} {a:Addr} {n c:Nat} (h:Lf G a ((n:Int)+(c:Int))):Lf G a ((n+c:Nat):Int):=by rw [Int.natCast_add];exact h
def SQ:DrD Bk.jh:=⟨λds n Q=>∃ m:Int,ds=[.int m]/\(1<=m/\m<1073741824)/\n<1000000000/\∀ d:Int,0<=d->d<m->Q (.int d) (n+1),false,
 λ⟨m,h1,h2,h3,h4⟩ k=>⟨m,h1,h2,h3,λd x y=>k _ _ (h4 d x y)⟩,λ{D G a n ts ds q Q} lf da hd hs ⟨m,h1,h2,h3,h4⟩ k=>by
 subst h1;have:=qml hs;subst this;exact ⟨a,n,m,rfl,h2.1,h2.2,lf,by omega,λd G' x y L E=>k _ _ G' (n+1) (h4 d x y) E (lfc (c:=1) L) (.int d) (λz=>by cases z)⟩⟩
theorem qdq:∀ {n:Nat} {d:PyData},Bk.YX n d->noC d=true
 |_,.none,_=>rfl
 |_,.bool _,_=>rfl
 |_,.int _,_=>rfl
 |_,.str _,_=>rfl
 |n+1,.list ds,h=>by unfold noC;exact YK.mpr λx hx=>qdq (h.2 x hx)
 |n+1,.tuple ds,h=>by unfold noC;exact YK.mpr λx hx=>qdq (h.2 x hx)
 |0,.list ds,h=>h.elim
 |0,.tuple ds,h=>h.elim
 |0,.dict _,h=>h.elim
 |_+1,.dict _,h=>h.elim
def qiq (n:Nat):FnD (Bk.jf (n+1)):=⟨λds=>match ds with|[d,e]=>cif (d=e/\Bk.YX n d) (some (.bool true)) none|_=>none,false,λ{D G xs ds v q} hx hd hf k=>by
 split at hf
 ·unfold cif at hf;split at hf
  ·rename_i c;cases hf;obtain ⟨rfl,c⟩:=c;cases hx with
   |cons x b=>cases b with
    |cons y b=>
     cases b;exact ⟨_,_,_,rfl,(x.up JN).dp (qdq c),(y.up JN).dp (qdq c),c,λG' E=>k _ _ E (.bl true) (λz=>by cases z)⟩
  ·cases hf
 ·cases hf⟩
def qg5 {n:Nat} {d:PyData} (h:Bk.YX n d):(qiq n).f [d,d]=some (.bool true):=qT ⟨rfl,h⟩
def qiG {l:Nat} {t:TE3} {b:PuE t}:(eOf (l:=l) b).w=λρ n Q=>∃ d,b.f ρ=some d/\Q d n:=id rfl
def qiH {l:Nat} {t:TT3} {b:PuC t}:(cOf (l:=l) b).w=λρ n Q=>∃ d,b.f ρ=some d/\Q d n:=id rfl
def qh9 {l:Nat} {t:TA3} {b:PuA t}:(aOf (l:=l) b).w=λρ n Q=>∃ d,b.f ρ=some d/\Q d n:=id rfl
def qi1 {l:Nat} {t:TI3} {b:PuI t}:(iOf (l:=l) b).w=λρ n Q=>∃ d,b.f ρ=some d/\Q d n:=id rfl
def qn6 {l:Nat} {r:R3} {ta tb:TE3} {R:OpD r} {a:PwE l ta} {b:PwE l tb}:(eO R a b).w=λρ n Q=>a.w ρ n λx n1=>b.w ρ n1 λy n2=>∃ v,R.f x y=some v/\Q v n2:=id rfl
def qat {l:Nat} {ta:TE3} {tr:TA3} {a:PwE l ta} {r:PwA l tr}:(RA a r).w=λρ n Q=>a.w ρ n λx n1=>r.w ρ n1 λxs n2=>Q (x::xs) n2:=id rfl
def qfJ {l:Nat} {t:TA3} {b:PwA l t} {hn:Tru (Nat.ble b.k 1000)}:(qmR b hn).w=λρ n Q=>b.w ρ n λxs n1=>Q (.tuple xs) n1:=id rfl
def qlk {l:Nat} {r:List T->Gp->Q3->Prop} {t:TA3} {R:DrD r} {b:PwA l t}:(eDr R b).w=λρ n Q=>b.w ρ n λxs n1=>R.W xs n1 Q:=id rfl
def qn9 {l:Nat} {t:TA3} {b:PwA l t}:(iR b).w=λρ n Q=>b.w ρ n λxs n1=>∃ ds,qf0 xs=some ds/\Q ds n1:=id rfl
def qis {l:Nat} {t:TA3} {b:PwA l t}:(iR b).nm=true:=id rfl
def qfW {l:Nat} {t:TI3} {b:PuI t}:(iOf (l:=l) b).nm=b.nm:=id rfl
def qfr {l:Nat} {t:TE3} {b:PuE t}:(eOf (l:=l) b).nw=b.nw:=id rfl
def qk8 {l:Nat} {r:R3} {ta tb:TE3} {R:OpD r} {a:PwE l ta} {b:PwE l tb}:(eO R a b).nw=R.nw:=id rfl
def qbW {l:Nat} {t:TA3} {b:PwA l t} {hn:Tru (Nat.ble b.k 1000)}:(qmR b hn).nw=false:=id rfl
def qbK {l:Nat}:(qaJ (l:=l)).w=λρ n Q=>Q (.nx ρ) n:=id rfl
def qfi {b:Rho->Nat->QO->Prop} {Q:QO} {ρ:Rho} {n:Nat}:sqw b Q (.nx ρ) n=b ρ n Q:=id rfl
def qf3 {b:Rho->Nat->QO->Prop} {Q:QO} {d:PyData} {f:Bool} {n:Nat}:sqw b Q (.rt d f) n=Q (.rt d f) n:=id rfl
def qiB {l:Nat} {c:TT3} {t u:TS3} {pc:PwC l c} {x:PwS l t} {y:PwS l u}:(wIf pc x y).w=λρ n Q=>pc.w ρ n λk n1=>if k then x.w ρ n1 Q else y.w ρ n1 Q:=id rfl
def qfN {l:Nat} {t:TE3} {x:PwE l t}:(qjy x).w=λρ n Q=>x.w ρ n λd n1=>Q (.rt d x.nw) n1:=id rfl
def qaf {l:Nat} {i:Nat}:(qjV (l:=l) i).w=λρ n Q=>∃ d b,qcR ρ i=some (.rt d b)/\Q (.rt d b) n:=id rfl
def qeB {l:Nat} {t:TE3} {x:PwE l t} {i:Nat} {m:List Bool} {hm:Tru (x.fv.all (mkb m))} {hl:Tru (!mkb m l&&(i != l&&i != 0))}:(qhG x i m hm hl).w=λρ n Q=>x.w ρ n λd n1=>Q (.nx (LD m x.nw i d ρ)) n1:=id rfl
def qcH {l:Nat} {t:TE3} {g:TG3} {x:PwE l t} {pg:PuG g} {m:List Bool} {hm:Tru (x.fv.all (mkb m))} {hl:Tru (!mkb m l&&pg.tg.all (λi=>i != l&&i != 0))}:(qkO x pg m hm hl).w=λρ n Q=>x.w ρ n λd n1=>∃ bs,pg.f d=some bs/\Q (.nx (jM (dm m ρ) bs)) n1:=id rfl
def qfQ {l:Nat} {t:TA3} {x:PwA l t} {i j:Nat} {m:List Bool} {hm:Tru (x.fv.all (mkb m))} {hl:Tru (!mkb m l&&((i != l&&i != 0)&&(j != l&&j != 0)))}:(qn7 x i j m hm hl).w=λρ n Q=>x.w ρ n λds n1=>∃ o,qlR i j m ds ρ=some o/\Q o n1:=id rfl
def qeH {l:Nat} {t:TE3} {x:PwE l t} {i:Nat} {m:List Bool} {hm:Tru (x.fv.all (mkb m))} {hl:Tru (!mkb m l)}:(qmK x i m hm hl).w=λρ n Q=>∃ ds,slot ρ i=some ds/\x.w ρ n λd n1=>slot (dmS m d ρ) i=some ds/\ds.length<16777216/\Q (.nx ((dmS m d ρ).set i (.ow (ds++[d])))) n1:=id rfl
def qfS {l:Nat} {wi:TI3} {g:TG3} {tb:TS3} {pi:PwI l wi} {pg:PuG g} {pb:PwS l tb} {m:List Bool} {hm:Tru (pi.fv.all (mkb m))} {hl:Tru (!mkb m l&&pg.tg.all (λi=>i != l&&i != 0))}:(qlM pi pg pb m hm hl).w=λρ n Q=>pi.w ρ n λds n1=>qdP pg.f pb.w ds (if pi.nm then ρ else dm m ρ) n1 Q:=id rfl
def qbz {ds:List PyData} {n:Nat} {Q:QD}:SQ.W ds n Q=(∃ m:Int,ds=[.int m]/\(1<=m/\m<1073741824)/\n<1000000000/\∀ d:Int,0<=d->d<m->Q (.int d) (n+1)):=id rfl
def qlm {w:Wm} {fr:Bool}:(dSp w fr).W=w.W:=id rfl
def qcx {Q:QD} {d:PyData} {b:Bool} {n:Nat}:qkM false Q (.rt d b) n=∃ m,n<=m/\Q d m:=propext ⟨λh=>h.2,λh=>⟨λz=>(y6 z).elim,h⟩⟩
def qfd {Q:QD} {d:PyData} {n:Nat}:qkM true Q (.rt d true) n=∃ m,n<=m/\Q d m:=propext ⟨λh=>h.2,λh=>⟨λ_=>rfl,h⟩⟩
def qfA {ρ:Rho} {n:Nat}:okW (.nx ρ) n=True:=id rfl
def qjM {α:Type} {v:α} {P:α->Prop}:(∃ d,some v=some d/\P d)=P v:=propext ⟨λ⟨d,h1,h2⟩=>by cases h1;exact h2,λh=>⟨v,rfl,h⟩⟩
def qfl {v:Int} {P:Int->Prop}:(∃ m:Int,[PyData.int v]=[.int m]/\P m)=P v:=propext ⟨λ⟨d,h1,h2⟩=>by cases h1;exact h2,λh=>⟨v,rfl,h⟩⟩
def qkF {d:PyData} {b:Bool} {P:PyData->Bool->Prop}:(∃ d' b',some (Ot.rt d b)=some (.rt d' b')/\P d' b')=P d b:=propext ⟨λ⟨x,y,h1,h2⟩=>by cases h1;exact h2,λh=>⟨d,b,rfl,h⟩⟩
def Y9 {l:Nat} {t u:TS3} {x:PwS l t} {y:PwS l u} {ρ:Rho} {n:Nat} {Q:QO} (h:∀ Y:Rho->Nat->QO->Prop,Y=y.w->x.w ρ n (sqw Y Q)):(KD x y).w ρ n Q:=h _ rfl
structure Mn (bw:Rho->Nat->QO->Prop):Prop where
 h:∀ ρ n (Q Q':QO),bw ρ n Q->(∀ o m,Q o m->Q' o m)->bw ρ n Q'
def PwS.mn {l:Nat} {t:TS3} (b:PwS l t):Mn b.w:=⟨λ_ _ _ _ h k=>b.mono h k⟩
section
variable {l:Nat} {g:TG3} {tb:TS3}
def CP {gf:PyData->Option (List (Nat×PyData))} {bw:Rho->Nat->QO->Prop} {α:Type} {f:α->PyData} (xs:List α) (mono:Mn bw) (I:Nat->Rho->Nat->Prop) {ρ:Rho} {n:Nat} {Q:QO} (h0:I 0 ρ n)
  (hs:∀ i x ρ n,xs[i]?=some x->I i ρ n->∃ bs,gf (f x)=some bs/\bw (jM ρ bs) n λo m=>match o with|.nx ρ'=>I (i+1) ρ' m|.ct ρ'=>I (i+1) ρ' m|.bk ρ'=>Q (.nx ρ') m|.rt d b=>Q (.rt d b) m)
  (k:∀ ρ n,I xs.length ρ n->Q (.nx ρ) n):qdP gf bw (xs.map f) ρ n Q:=by
 have key:∀ (r:List α) (i:Nat) (ρ:Rho) (n:Nat),xs.drop i=r->i<=xs.length->I i ρ n->qdP gf bw (r.map f) ρ n Q:=by
  intro r;induction r with
  |nil=>
   intro i ρ n e hi h;have:i=xs.length:=by
    have:=congrArg List.length e;simp at this;omega
   subst this;exact k ρ n h
  |cons x r ih=>
   intro i ρ n e hi h;have hl:i<xs.length:=by
    have:=congrArg List.length e;simp at this;omega
   have e':=List.drop_eq_getElem_cons hl;rw [e] at e';injection e' with e1 e2;obtain ⟨bs,h1,h2⟩:=hs i x ρ n (by rw [y9 hl,e1]) h;refine ⟨bs,h1,mono.h _ _ _ _ h2 λo m h=>?_⟩;cases o with
   |nx ρ'=>exact ih (i+1) ρ' m e2.symm hl h
   |ct ρ'=>exact ih (i+1) ρ' m e2.symm hl h
   |bk ρ'=>exact h
   |rt d b=>exact h
 exact key xs 0 ρ n (by simp) (Nat.zero_le _) h0
end
def qaB {α β:Type} {x:α} {f:α->Option β}:(some x).bind f=f x:=id rfl
def qew {α β:Type} {x:α} {f:α->β}:(some x).map f=some (f x):=id rfl
def qi3 {α:Type} {x:α} {r:List α}:(x::r).length=r.length+1:=id rfl
def qkw {α:Type}:([]:List α).length=0:=id rfl
def qii {α:Type} {x y:α} {r:List α}:(x::r).set 0 y=y::r:=id rfl
def qkX {α:Type} {x y:α} {r:List α} {i:Nat}:(x::r).set (i+1) y=x::r.set i y:=id rfl
def qkp {α:Type} {r:List α}:r++[]=r:=List.append_nil r
def qi5 {α:Type} {x:α} {r s:List α}:(x::r)++s=x::(r++s):=id rfl
def qly {α:Type} {s:List α}:[]++s=s:=id rfl
def qjn {n:Nat}:0+n=n:=Nat.zero_add n
def qli {p:Prop}:(True/\p)=p:=true_and p
def qjt {α:Type} {a b:α} {i:Decidable True}:@ite α True i a b=a:=if_pos trivial
def qjk {α:Type} {a b:α} {i:Decidable False}:@ite α False i a b=b:=if_neg not_false
def qkq:(false=true)=False:=Bool.false_eq_true
def qjv:(!true)=false:=id rfl
def qk0:(!false)=true:=id rfl
def qj3 {i:Decidable True}:@decide True i=true:=decide_true i
def qij {b:Bool}:(true||b)=true:=Bool.true_or b
def qlw {b:Bool}:(b||false)=b:=Bool.or_false b
def qk9 {b:Bool}:(false||b)=b:=Bool.false_or b
def qkt {b:Bool}:(true&&b)=b:=Bool.true_and b
def qif {b:Bool}:(false&&b)=false:=Bool.false_and b
def qj1 {b:Bool}:(b&&false)=false:=Bool.and_false b
def ai{a b:Prop}(x:a)(y:b):a/\b:=⟨x,y⟩
def pwA:=(ai (ai (ai (ai (ai (ai (ai @Pu.qiG (ai @Pu.qiH @Pu.qh9)) (ai @Pu.qi1 (ai @Pu.qn6 @Pu.qat))) (ai (ai @Pu.qfJ (ai @Pu.qlk @Pu.qn9)) (ai @Pu.qis (ai @Pu.qfW @Pu.qfr)))) (ai (ai (ai @Pu.qk8 (ai @Pu.qbW @Pu.qbK)) (ai @Pu.qfi (ai @Pu.qf3 @Pu.qiB))) (ai (ai @Pu.qfN (ai @Pu.qaf @Pu.qeB)) (ai (ai @Pu.qcH @Pu.qfQ) (ai @Pu.qeH @Pu.qfS))))) (ai (ai (ai (ai @Pu.qbz (ai @Pu.qlm @Pu.qcx)) (ai @Pu.qfd (ai @Pu.qfA @Pu.qfl))) (ai (ai @Pu.qkF (ai @Pu.qjB @Pu.qoj)) (ai @Pu.qfM (ai @Pu.qi4 @Pu.qer)))) (ai (ai (ai @Pu.qf1 (ai @Pu.qon @Pu.qfE)) (ai @Pu.qcf (ai @Pu.qfx @Pu.qfV))) (ai (ai @Pu.qaM (ai @Pu.qll @Pu.qeN)) (ai (ai @Pu.qlG @Pu.qet) (ai @Pu.qjw @Pu.qcs)))))) (ai (ai (ai (ai (ai @Pu.qbu (ai @Pu.qie @Pu.qkz)) (ai @Pu.qfq (ai @Pu.qe1 @Pu.qk4))) (ai (ai @Pu.qlf (ai @Pu.qjb @Pu.qjf)) (ai @Pu.qeI (ai @Pu.qeK @Pu.qft)))) (ai (ai (ai @Pu.qfP (ai @Pu.qe6 @Pu.qfK)) (ai @Pu.qav (ai @Pu.qaD @Pu.qj6))) (ai (ai @Pu.qi9 (ai @Pu.qh8 @Pu.qeG)) (ai (ai @Pu.qaP @Pu.qaw) (ai @Pu.qe2 @Pu.qfa))))) (ai (ai (ai (ai @Pu.qbx (ai @Pu.MR @Pu.qeU)) (ai @Pu.qe4 (ai @Pu.qbP @Pu.qam))) (ai (ai @Pu.L7 (ai @Pu.qbI @Pu.qnM)) (ai @Pu.qfu (ai @Pu.qce @Pu.qe7)))) (ai (ai (ai @Pu.qbh (ai @Pu.qga @Pu.qiQ)) (ai @Pu.qep (ai @Pu.qcE @Pu.qeQ))) (ai (ai @Pu.qbt (ai @Pu.qeS @Pu.qeL)) (ai (ai @Pu.qfn @Pu.qeP) (ai @Pu.qio @Pu.qjR))))))) (ai (ai (ai (ai (ai (ai @Pu.qbk (ai @Pu.qfD @Pu.qcz)) (ai @Pu.qk1 (ai @Pu.qbC @Pu.qaU))) (ai (ai @Pu.MS (ai @Pu.LO @Pu.K2)) (ai @Pu.qfO (ai @Pu.qey @Pu.qak)))) (ai (ai (ai @Pu.qan (ai @Pu.qbj @Pu.qaT)) (ai @Pu.LZ (ai @Pu.RR @Pu.MQ))) (ai (ai @Pu.LX (ai @Pu.qeT @Pu.qf5)) (ai (ai @Pu.qn5 @Pu.qok) (ai @Pu.qjj @Pu.qk3))))) (ai (ai (ai (ai @Pu.qaz (ai @Pu.qfh @Pu.qbp)) (ai @Pu.qa7 (ai @Pu.qe0 @Pu.qkl))) (ai (ai @Pu.qkx (ai @Pu.at0 @Pu.at1)) (ai @Pu.at2 (ai @Pu.eqS @Pu.eqI)))) (ai (ai (ai @Pu.qjm (ai @Pu.qnX @Pu.qgd)) (ai @Pu.qfs (ai @Pu.qgf @Pu.qai))) (ai (ai @Pu.qes (ai @Pu.qjX @Pu.qkT)) (ai (ai @Pu.qfz @Pu.qge) (ai @Pu.qfk @Pu.qeY)))))) (ai (ai (ai (ai (ai @Pu.qfj (ai @Pu.qcc @Pu.qfb)) (ai @Pu.qfF (ai @Pu.qir @Pu.qid))) (ai (ai @Pu.qf9 (ai @Pu.qjH @Pu.qiJ)) (ai @Pu.qfp (ai @Pu.qfU @Pu.qlg)))) (ai (ai (ai @Pu.qkP (ai @Pu.qoa @Pu.qnO)) (ai @Pu.qog (ai @Pu.qjJ @Pu.qlD))) (ai (ai @Pu.qjs (ai @Pu.qjp @Pu.qkc)) (ai (ai @Pu.qnK @Pu.qeu) (ai @Pu.qgc @Pu.qfG))))) (ai (ai (ai (ai @Pu.qeA (ai @Pu.qjM @Pu.qaB)) (ai @Pu.qew (ai @Pu.qi3 @Pu.qkw))) (ai (ai @Pu.qii (ai @Pu.qkX @Pu.qkp)) (ai @Pu.qi5 (ai @Pu.qly @Pu.qjn)))) (ai (ai (ai @Pu.qli (ai @Pu.qjt @Pu.qjk)) (ai @Pu.qkq (ai @Pu.qjv @Pu.qk0))) (ai (ai @Pu.qj3 (ai @Pu.qij @Pu.qlw)) (ai (ai @Pu.qk9 @Pu.qkt) (ai @Pu.qif @Pu.qj1))))))))
end Pu
namespace Pu
open PySem L2 L3
def qaY:PyData->Option PyData
 |.list xs=>(YB xs).bind λns=>cif (ns.length<=306/\(dd ns).length<64) (some (.list ((srt (dd ns)).map PyData.int))) none
 |_=>none
def qiD {te:TE3} (a:PuE te):PuE (qhD te):=⟨λρ=>(a.f ρ).bind qaY,a.fv,true,λhv hd hf k=>by
 obtain ⟨d,e1,hf⟩:=obb hf;refine a.ok hv hd e1 λx' G1 E1 D1 _=>?_;unfold qaY at hf;split at hf
 ·obtain ⟨ns,e,hf⟩:=obb hf;unfold cif at hf;split at hf
  ·rename_i c;cases hf;cases D1 with
   |lst g hs=>
    have:=EB e;subst this;have:=hs.ints;subst this;simp only [ze (qm g).2,EO];refine ⟨c.1,c.2,λl ms hl hp hs=>?_⟩;have:ms=srt (dd ns):=LL (hp.trans (CG (dd ns)).symm) hs (qiC (dd ns));subst this;exact k _ _ (E1.trans (QC hl)) (UY (hd.up E1) hl (Dqs.ofInts _)) λ_=>(WW hl (Dqs.ofInts _)).back E1
  ·cases hf
 ·cases hf⟩
def qgr {te:TE3} {a:PuE te}:(qiD a).f=λρ=>(a.f ρ).bind qaY:=id rfl
open Bk (Lf Ext)
def the (S:PyData->Prop):Option PyData:=@dite _ (∃ v,S v) (Classical.propDecidable _) (λh=>some (Classical.choose h)) λ_=>none
end Pu
namespace Pu
open PySem L2 L3
open Bk (Lf Ext SD SDs KY K9 qa2 qeD LS X5)
end Pu
namespace Pu
open PySem L2 L3
def qb9 (st:Bool):List PyData->Option PyData
 |[.none]=>some (.str "None")
 |[.bool b]=>some (.str (if b=true then Str.ofString "True" else Str.ofString "False"))
 |[.int i]=>cif (i.natAbs.log2<1920) (some (.str (Str.ofString (toString i)))) none
 |[.str x]=>match st with
  |true=>some (.str x)
  |false=>cif ((reprText x).length<=sizeLine) (some (.str (reprText x))) none
 |[.list ds]=>cif (ShW (.list ds)) (some (.str (PyData.list ds).shown)) none
 |[.tuple ds]=>cif (ShW (.tuple ds)) (some (.str (PyData.tuple ds).shown)) none
 |_=>none
def j7 {α:Type} {c:Prop} {x:α} {d:α} (h:cif c (some x) none=some d):c/\x=d:=by
 unfold cif at h;split at h
 ·rename_i z;exact ⟨z,Option.some.inj h⟩
 ·cases h
def qhp (st:Bool):FnD (T8 st):=⟨qb9 st,false,λ{D G xs ds v q} hx hd hf k=>by
 cases hx with
 |nil=>cases hf
 |cons a b=>
  cases b with
  |cons b1 b2=>cases a<;>cases hf
  |nil=>
   have dp:=λn=>(a.up JN).dp n;have fin:∀ (x:Str) {w:PyData},w=v->w=.str x->q (.str x) G:=λx w e1 e2=>k _ _ Ex.refl (by rw [← e1,e2];exact .str _) (λz=>by cases z);cases a with
   |non=>exact fin _ (Option.some.inj hf) rfl
   |bl b=>exact fin _ (Option.some.inj hf) rfl
   |int i=>exact ⟨(j7 hf).1,fin _ (j7 hf).2 rfl⟩
   |str x=>
    cases st with
    |true=>exact fin _ (Option.some.inj hf) rfl
    |false=>exact ⟨(j7 hf).1,fin _ (j7 hf).2 rfl⟩
   |tup hs=>exact ⟨_,dp (qg3 (j7 hf).1.nd),(j7 hf).1,fin _ (j7 hf).2 rfl⟩
   |lst g hs=>exact ⟨_,dp (qg3 (j7 hf).1.nd),(j7 hf).1,fin _ (j7 hf).2 rfl⟩
   |clo g hs=>cases hf⟩
def qbE {st:Bool}:(qhp st).f=qb9 st:=id rfl
def qiK {st:Bool} {ds:List PyData} (h:ShW (.list ds)):qb9 st [.list ds]=some (.str (PyData.list ds).shown):=qT h
theorem qe5:∀ ks:List Int,NZ (ks.map PyData.int)=0
 |[]=>rfl
 |k::ks=>by simp only [map_cons,NZ,dpt,qe5 ks];rfl
def qgY {α:Type} (g:α->PyData) (xs:List α):∀ k,enD k (xs.map g)=(xs.zipIdx k).map λp=>PyData.tuple [.int (p.2:Int),g p.1]:=by
 induction xs with
 |nil=>intro k;rfl
 |cons x xs ih=>intro k;simp only [map_cons,enD,List.zipIdx_cons,ih (k+1)]
def qkh {xs:List PyData} {lo hi:Option Int}:slD (.list xs) lo hi=some (.list (NM xs lo hi)):=id rfl
def qff {xs ys:List PyData} (h:xs.length+ys.length<=16777216):qaX (.list xs) (.list ys)=some (.list (xs++ys)):=qT (by rw [y8];exact h)
def NH (d e:PyData):Option PyData:=match d,e with
 |.list ds,.int z=>(YB ds).map λns=>.int (match ns with|[]=>z|m::r=>mx (m::r))
 |_,_=>none
def qfI:OpD MV:=⟨NH,false,λ{D G x y d e v q} hx hy hd hf k=>by
 unfold NH at hf;split at hf
 ·obtain ⟨ns,e,hf⟩:=za3 hf;subst hf;cases hx;cases hy;rename_i g hs;have:=EB e;subst this;have:=hs.ints;subst this;simp only [MV,ze (qm g).2,EO];cases ns with
  |nil=>exact ⟨λ_=>k _ _ Ex.refl (.int _) (λz=>by cases z),λm hm=>(by cases hm)⟩
  |cons n r=>
   refine ⟨λz=>(by cases z),λm hm hl=>?_⟩;have:m=mx (n::r):=Int.le_antisymm (TL hm) (hl _ (WA (by simp)));subst this;exact k _ _ Ex.refl (.int _) (λz=>by cases z)
 ·cases hf⟩
def qd5:qfI.f=NH:=id rfl
def qkE {ns:List Int} {z:Int}:NH (.list (ns.map PyData.int)) (.int z)=some (.int (match ns with|[]=>z|m::r=>mx (m::r))):=by simp only [NH,DO,Option.map_some]
end Pu
namespace L3
open PySem PySem.Spec PyProof.Rows L2
section
variable {X:Cx}
end
end L3
namespace Pu
open PySem L2 L3
end Pu
namespace L3
open PySem PySem.Spec PyProof.Rows L2
section
variable {X:Cx}
end
section
variable {X:Cx} {a b:Expr} {ta tb:TE3} {pos:Pos}
end
end L3
namespace Pu
open PySem L2 L3
end Pu
namespace L3
open PySem PySem.Spec PyProof.Rows L2 PySem.SeqAt
section
variable {X:Cx} {a b:Expr} {ta tb:TE3} {pos:Pos}
end
end L3
namespace Pu
open PySem L2 L3
end Pu
namespace L3
open PySem PySem.Spec PyProof.Rows L2
section
variable {X:Cx} {a b e:Expr} {ta tb te:TE3} {pos:Pos}
end
end L3
namespace Pu
open PySem L2 L3
end Pu
namespace L3
open PySem PySem.Spec PyProof.Rows L2
section
variable {X:Cx} {a b:Expr} {ta tb:TE3} {pos:Pos}
end
end L3
namespace Pu
open PySem L2 L3
end Pu
namespace L3
open PySem PySem.Spec PyProof.Rows L2
section
variable {X:Cx}
end
end L3
namespace Pu
open PySem L2 L3
end Pu
namespace L3
open PySem PySem.Spec PyProof.Rows L2
def ev {α:Type}:List α->List α
 |[]=>[]
 |[x]=>[x]
 |x::_::r=>x::ev r
section
variable {X:Cx} {e el ek:Expr} {p2 pos:Pos}
end
end L3
namespace Pu
open PySem L2 L3
end Pu
namespace L3
open PySem PySem.Spec PyProof.Rows L2
section
variable {X:Cx} {pos:Pos} {e:Expr} {te:TE3}
end
end L3
namespace Pu
open PySem L2 L3
open Bk (Lf Ext)
end Pu
namespace L3
open PySem PySem.Spec PyProof.Rows L2
section
variable {X:Cx} {pos:Pos} {o i e:Expr} {to ti te:TE3}
end
section
variable {K:Frg} {G G':Gp} {H H':Hp}
def qmP (kvs:List (Int×T)):List Key:=kvs.map λp=>(Sum.inl p.1:Key)
def qm1 (kvs:List (Int×T)):List T:=kvs.map λp=>p.2
theorem HR.dct (hr:HR K G H) {p:Addr} {kvs:List (Int×T)} (g:G p=some (.dct kvs)):∃ vs,H p=some (.dK ((qmP kvs).zip vs))/\Rps K H (qm1 kvs) vs:=hr p _ g
end
section
variable {X:Cx} {pos:Pos} {o i e:Expr} {to ti te:TE3}
variable {es:List Expr} {t:TA3}
end
end L3
namespace Pu
open PySem L2 L3
section
variable {D:Addr->Prop} {G0 G G':Gp} {A A':Nat->Addr->Prop} {τ:St3} {ρ:Rho}
end
end Pu
namespace Hd
open PySem L2 L3 PySem.W PySem.Spec PySem.Calls PyProof.Rows
def c1 (P:Params) (M:Str) (q:Nat) (nm:Str) (t:Nat) (ln:Int) (r:Nat):Obj:=oD P 4 [(.str "__module__" (t+7),.str M q),(.str "__qualname__" (t+9),.str nm (t+8)),(.str "__firstlineno__" (t+11),.int ln (t+10)),(.str "__static_attributes__" (t+12),.ref (r+7))]
def c2 (nm:Str) (t:Nat) (ln:Int) (r:Nat):Obj:=oC [.str nm (t+2),.str nm (t+3),.str "/claim/cut.py" (t+4),.int ln 0,.int 0 0,.int 0 0,.int 0 0,.int 0 0,.ref (r+3),.bool false,.int 181 0,.ref (r+4),.none,.none,.none,.none,.int (t+5:Nat) 0,.int ln 0,.str "/claim/cut.py" (t+6)]
def c4 (P:Params) (M:Str) (q t:Nat) (ln:Int) (r:Nat):Obj:=oD P 2 [(.str "__module__" (t+7),.str M q),(.str "__firstlineno__" (t+11),.int ln (t+10)),(.str "__static_attributes__" (t+12),.ref (r+7)),(.str "__doc__" (t+13),.none)]
def c5 (nm:Str) (b t r:Nat):Obj:=⟨.type "type",none,.cls ({ name:=nm,bases:=[Value.ref b],mro:=[Value.ref (r+9),Value.ref b,Value.type "ValueError",Value.type "Exception",Value.type "BaseException",Value.type "object"],ns:=r+8,qualname:=nm }),#[some (.ref r),none,some (.str nm t),some (.str nm (t+8)),some (.builtin "ValueError.__new__"),some (.bool true)]⟩
def oM (P:Params) (n:Nat) (M:Str) (q:Nat) (es:List (Value×Value)):Obj:=oD P n ([(.str "__name__" 165,.str M q),(.str "__doc__" 166,.none),(.str "__package__" 167,.none),(.str "__loader__" 168,.builtin "__main__.__loader__#opaque"),(.str "__spec__" 169,.none),(.str "__annotations__" 170,.ref 6),(.str "__builtins__" 171,.ref 4),(.str "__file__" 173,.str "/claim/cut.py" 172),(.str "__cached__" 174,.none)]++es)
theorem e {K:Frg} {h:Heap} {mg:Str->Option Value} (X:K.In h) (G:h.Ns mainGlobals mg) (x:Str) (st:Stmt) (ps:List Str) (f:Addr) (pm cd:Value) (l:K.lookup f=some (oF x st pm cd):=by kernel_rfl) (c:PySem.W.codeIn K cd x=true:=by kernel_rfl) (k:PySem.W.keepIn K (.ref f)=true:=by kernel_rfl) (e:PySem.W.nsIn K mainGlobals x=some (some (.ref f)):=by kernel_rfl)
  (b:∀ (kV doc pm:Value) (an:Option Addr) (cdv ct:Value) (us:List Value),us.length=ps.length->bindArgs (PySem.W.fnOf x x (QA st) (zh st) (qg st) .none kV doc pm an cdv ct) ⟨us,[]⟩=pure (ps.zip us):=by exact λ_ _ _ _ _ _ us hl=>by first|(obtain ⟨_,rfl⟩:=Pu.qjx hl;rfl)|(obtain ⟨_,_,rfl⟩:=Pu.qms hl;rfl)|(obtain ⟨_,_,_,rfl⟩:=Pu.qnZ hl;rfl)|(obtain ⟨_,_,_,_,rfl⟩:=Pu.qn2 hl;rfl)|(obtain ⟨_,_,_,_,_,rfl⟩:=Pu.qnL hl;rfl)|(obtain ⟨_,_,_,_,_,_,rfl⟩:=Pu.qot hl;rfl)) :
  Fb K mg x st ps f (PySem.W.fnOf x x (QA st) (zh st) (qg st) .none .none .none pm none cd .none):=⟨qcv l c k,(qcv l c k).binds b,PySem.W.mg_of X G e⟩
end Hd
namespace Pu
open PySem L2 L3
open Bk (Lf Ext)
theorem qns {H H':Gp}:∀ {xs:List T} {ds:List PyData},Dqs H xs ds->ds.all EH=true->Dqs H' xs ds
 |_,_,.nil,_=>.nil
 |_,_,.cons a b,h=>by
  rw [List.all_cons,Bool.and_eq_true] at h;exact .cons (ZL a h.1) (qns b h.2)
def qoH {n j:Nat} (h:j<n):ixN n (j:Int)=some j:=by
 unfold ixN;rw [if_pos (by omega),if_pos (by omega)];simp
def RS.giveup {D:Addr->Prop} {G0 G:Gp} {A:Nat->Addr->Prop} {τ:St3} {ρ:Rho} (h:RS D G0 A τ ρ G) (j:Nat):RS D G0 A τ (ρ.set j .un) G:=by
 refine ⟨h.ex,h.dm,h.fr,h.da,h.inj,by rw [List.length_set];exact h.len,λi s e=>?_⟩;rw [getElem?_set] at e;split at e
 ·split at e<;>cases e
  trivial
 ·exact h.sl i s e
def MC (i:Nat) (d:PyData) (ρ:Rho):Option Ot:=match d with
 |.list ds=>if ds.all EH then some (.nx (ρ.set i (.ow ds))) else none
 |_=>none
def qbd {t:TE3} (a:PuE t) (i:Nat) (hn:Tru a.nw):PuS (zr t (gn3 i)):=⟨λ_ ρ=>(a.f ρ).bind λd=>MC i d ρ,λ{D G0 A τ ρ G n o e} h hf k=>by
 obtain ⟨d,e1,hf⟩:=obb hf;refine a.ok (h.viewAll _) h.domD e1 λx G1 E1 D1 N1=>?_;show e.nx (τ.set i (some x)) G1;unfold MC at hf;split at hf
 ·rename_i ds;split at hf
  ·rename_i hl;cases hf;rcases N1 hn.h with z|⟨p,xs,ds',rfl,e',gp,gp',hs⟩
   ·cases z
   cases e';exact k _ _ _ (h.upd i (B:=λb=>b=p) (W:=λ_=>False) (λb o _ z=>E1 b o z) (λ_ z=>z.elim) (λb z=>by subst z;exact ⟨.inr gp,by rw [gp'];simp⟩) λ_=>⟨p,xs,rfl,rfl,gp',qns hs hl⟩)
  ·cases hf
 ·cases hf⟩
def qdm {t:TE3} {a:PuE t} {i:Nat} {hn:Tru a.nw}:(qbd a i hn).f=λ_ ρ=>(a.f ρ).bind λd=>MC i d ρ:=id rfl
def PWn (F:List PyData->Option PyData):Sp3:=λts G q=>∃ (D:Addr->Prop) (ds:List PyData) (r:PyData),Dqs (rs D G) ts ds/\Dom D G/\F ds=some r/\∀ x G',Ex G G'->Dq (rs (λb=>G b≠none) G') x r->q x G'
structure PuW (t:TS3) where
 f:Nat->Rho->Option PyData
 ok:∀ {D G0 A τ ρ G n r} {e:Ends3},RS D G0 A τ ρ G->f n ρ=some r->(∀ x G',Ex G0 G'->Dq (rs (λb=>G0 b≠none) G') x r->e.rt x G')->t e τ G
def Sl.iso:Sl->Sl
 |.sh d=>if EH d then .sh d else .un
 |.ow ds=>if ds.all EH then .sh (.list ds) else .un
 |_=>.un
def iso (ρ:Rho):Rho:=ρ.map Sl.iso
section
variable {D:Addr->Prop} {G0 G:Gp} {A:Nat->Addr->Prop} {τ:St3} {ρ:Rho}
theorem RS.iso (h:RS D G0 A τ ρ G):RS (λb=>G0 b≠none) G0 (λ_ _=>False) τ (Pu.iso ρ) G:=by
 refine ⟨h.ex,λb z=>z,λ_ _ z=>z.elim,λ_ _ z=>z.elim,λ_ _ _ z=>z.elim,by unfold Pu.iso;rw [length_map];exact h.len,λi s e=>?_⟩;unfold Pu.iso at e;rw [getElem?_map] at e;obtain ⟨s0,e0,rfl⟩:=za3 e;have k:=h.sl i s0 e0;cases s0 with
 |sh d=>
  unfold Sl.iso;dsimp only;split
  ·rename_i c;obtain ⟨x,a,b⟩:=k;exact ⟨x,a,ZL b c⟩
  ·trivial
 |ow ds=>
  unfold Sl.iso;dsimp only;split
  ·rename_i c;obtain ⟨p,xs,a,b,g,d⟩:=k;refine ⟨_,b,.lst ?_ (qns d c)⟩;rw [zx]
   ·exact g
   ·rintro (z|⟨_,z⟩)
    ·exact z (h.fr i p a)
    ·exact z
  ·trivial
 |un=>trivial
 |dc _=>trivial
 |on _=>trivial
 |rg _=>trivial
end
def qmF (g:Rho->Option Ot):Ot->Option PyData
 |.nx ρ=>(g (iso ρ)).bind λo=>match o with
  |.rt d _=>some d
  |_=>none
 |_=>none
def qob {t u:TS3} (a:PuS t) (b:PuS u):PuW (qM t u):=⟨λn ρ=>(a.f n ρ).bind (qmF (b.f n)),λ{D G0 A τ ρ G n r e} h hf k=>by
 obtain ⟨o1,e1,hf⟩:=obb hf;refine a.ok h e1 ?_;cases o1 with
 |nx ρ'=>
  obtain ⟨o2,e2,hf⟩:=obb hf;refine λA' τ' G' h'=>b.ok h'.iso e2 ?_;cases o2 with
  |rt d fr=>cases hf;exact λx G2 E2 D2 _=>k x G2 E2 D2
  |nx _=>cases hf
  |bk _=>cases hf
  |ct _=>cases hf
 |bk ρ'=>cases hf
 |ct ρ'=>cases hf
 |rt d fr=>cases hf⟩
def qlX (f:Nat->Rho->Option PyData) (k N n:Nat) (ds:List PyData):Option PyData:=if ds.length=k then f n (st ds N) else none
def LB {t:TS3} (b:PuW t) (N:List Str) (k n:Nat):∀ ts G q,PWn (qlX b.f k N.length n) ts G q->ts.length=k/\t { nx:=λ_ G'=>q .non G',rt:=q } (qv N ts) G:=by
 rintro ts G q ⟨D,ds,r,hs,hd,hf,h⟩;unfold qlX at hf;split at hf
 ·rename_i hk;exact ⟨by rw [hs.length];exact hk,b.ok (qkm N hs hd) hf h⟩
 ·cases hf
section
variable {l:Nat}
def qlA (F:List PyData->Option PyData) {t:TA3} (b:PuA t) (i:Nat) (m:List Bool) (hm:Tru (b.fv.all (mkb m))) (hl:Tru (!mkb m l&&(i != l&&i != 0))):PwS l (zr (cb3 (PWn F) t) (gn3 i)):=⟨λρ n Q=>∃ ds r,b.f ρ=some ds/\F ds=some r/\Q (.nx ((dm m ρ).set i (.rg r))) n,λ⟨ds,r,h1,h2,h3⟩ k=>⟨ds,r,h1,h2,k _ _ h3⟩,λ{a z0 D G0 A τ ρ G n e Q} h ⟨ds,r,e1,e2,hq⟩ k=>by
 have hl':mkb m l=false/\i≠l/\i≠0:=by simpa using hl.h
 have k:=k _ _ hq;refine b.ok (h.ln hl'.1 hm).v (h.r.dem m).dom e1 λx G1 E1 D1=>?_;have h1:=(h.dem hl'.1).up (Bk.WG E1) (h.lf.ex E1);refine ⟨_,ds,r,D1,h1.r.dom,e2,λy G2 E2 R=>?_⟩;show e.nx (τ.set i (some y)) G2;refine k _ _ _ (h1.upd hl'.2.1 hl'.2.2 (B:=λb=>G1 b=none/\G2 b≠none) (λb o _ _ z=>E2 b o z) (h1.lf.ex E2) (λb z=>⟨.inr z.1,z.2⟩) λ_=>⟨y,rfl,R.up λb o z=>?_⟩);obtain ⟨z1,z2⟩:=qm z;rw [zx λy=>y ⟨Classical.not_not.mp z1,by rw [z2];simp⟩];exact z2⟩
def qhJ {F:List PyData->Option PyData} {t:TA3} {b:PuA t} {i:Nat} {m:List Bool} {hm:Tru (b.fv.all (mkb m))} {hl:Tru (!mkb m l&&(i != l&&i != 0))}:(qlA (l:=l) F b i m hm hl).w=λρ n Q=>∃ ds r,b.f ρ=some ds/\F ds=some r/\Q (.nx ((dm m ρ).set i (.rg r))) n:=id rfl
def qeF {tk t:TE3} (b:PuE tk) (a:PuE t) (i:Nat) (hb:Tru (b.fv.isEmpty)) (hf:Tru (a.fv.isEmpty)) (hl:Tru (i != l)):PwS l (ZZ (bm3 TQ (o3 ix3 (v3 i) tk) (qd t ql))):=⟨λρ n Q=>∃ ds es d,∃ kk:Nat,ρ[i]?=some (.rg (.tuple ds))/\b.f ρ=some (.int (kk:Int))/\ds[kk]?=some (.list es)/\es.length<1000000/\a.f ρ=some d/\Q (.nx (ρ.set i .un)) n,λ⟨ds,es,d,kk,h1,h0,h2,h3,h4,h5⟩ k=>⟨ds,es,d,kk,h1,h0,h2,h3,h4,k _ _ h5⟩,λ{a0 z0 D G0 A τ ρ G n e Q} h ⟨ds,es,d,kk,h1,h0,h2,h3,h4,hq⟩ k=>by
 have il:i≠l:=by simpa using hl.h
 obtain ⟨x,hx,Dx⟩:=h.r.sl i _ h1;cases Dx with
 |tup hs=>
  rename_i xs;simp only [ZZ,bm3,o3,v3,hx];refine b.ok (D:=AD D A) (ρ:=ρ) (λz hz=>by rw [List.isEmpty_iff.mp hb.h] at hz;cases hz) h.r.dom h0 λy G1 E1 D1 _=>?_;cases D1;have lk:kk<xs.length:=by rw [hs.length];exact (za4 h2).1
  obtain ⟨w,hw,Dw⟩:=hs.get h2;cases Dw with
  |lst gq ys=>
   rename_i q zs;obtain ⟨nq,gq⟩:=qm gq;have Aq:A i q:=Classical.not_not.mp nq;have at':atI xs (kk:Int)=some (.ref q):=by
    unfold atI;rw [qoH lk];exact hw
   simp only [ix3,at',ze (E1 _ _ gq),qd,ql];refine ⟨rfl,a.ok (D:=AD D A) (ρ:=ρ) (λz hz=>by rw [List.isEmpty_iff.mp hf.h] at hz;cases hz) (h.r.up E1).dom h4 λx2 G2 E2 D2 _=>?_⟩;have g2:=E2 _ _ (E1 _ _ gq);simp only [TQ,g2];refine ⟨by rw [ys.length,y8];omega,k _ _ hq A τ _ ?_⟩;have hi:i<ρ.length:=(za4 h1).1;have qa:q≠a0:=h.ne Aq h1 (by simp);have r2:=((h.r.up E1).up E2).giveup i;have r3:=r2.keep (G':=gu G2 q (.lst (zs++[x2]))) (W:=λb=>b=q) (λb o nb z=>by rw [zX nb];exact z) λb z=>⟨i,by rw [z];exact Aq,by rw [getElem?_set,if_pos rfl,if_pos hi],by rw [z,qD];simp⟩
   exact ⟨r3,h.al,h.tl,by rw [getElem?_set,if_neg il];exact h.ul,((h.lf.ex E1).ex E2).new qa,h.tz⟩⟩
def qdM {tk t:TE3} {b:PuE tk} {a:PuE t} {i:Nat} {hb:Tru (b.fv.isEmpty)} {hf:Tru (a.fv.isEmpty)} {hl:Tru (i != l)}:(qeF (l:=l) b a i hb hf hl).w=λρ n Q=>∃ ds es d,∃ kk:Nat,ρ[i]?=some (.rg (.tuple ds))/\b.f ρ=some (.int (kk:Int))/\ds[kk]?=some (.list es)/\es.length<1000000/\a.f ρ=some d/\Q (.nx (ρ.set i .un)) n:=id rfl
end
def rgd {d:PyData}:(Sl.rg d).d=some d:=id rfl
def qjY {t u:TS3} {a:PuS t} {b:PuS u}:(qob a b).f=λn ρ=>(a.f n ρ).bind (qmF (b.f n)):=id rfl
mutual
/-- no lists in it -/
def nRf:PyData->Bool
 |.tuple xs=>qha xs
 |d=>EH d
def qha:List PyData->Bool
 |[]=>true
 |x::r=>nRf x&&qha r
end
mutual
theorem qcm {H H':Gp}:∀ {d:PyData} {x:T},Dq H x d->nRf d=true->Dq H' x d
 |.tuple ds,x,h,s=>by
  unfold nRf at s;cases h with
  |tup hs=>exact .tup (LJ hs s)
 |.none,x,h,s=>ZL h rfl
 |.bool _,x,h,s=>ZL h rfl
 |.int _,x,h,s=>ZL h rfl
 |.str _,x,h,s=>ZL h rfl
 |.list _,x,h,s=>by unfold nRf at s;cases s
 |.dict _,x,h,s=>by unfold nRf at s;cases s
theorem LJ {H H':Gp}:∀ {ds:List PyData} {xs:List T},Dqs H xs ds->qha ds=true->Dqs H' xs ds
 |[],_,.nil,_=>.nil
 |d::ds,_,.cons a b,s=>by
  unfold qha at s;rw [Bool.and_eq_true] at s;exact .cons (qcm a s.1) (LJ b s.2)
end
def Sl.iso2:Sl->Sl
 |.sh d=>if nRf d then .sh d else .un
 |.rg d=>.sh d
 |_=>.un
def iso2 (ρ:Rho):Rho:=ρ.map Sl.iso2
theorem RS.iso2 {D:Addr->Prop} {G0 G:Gp} {A:Nat->Addr->Prop} {τ:St3} {ρ:Rho} (h:RS D G0 A τ ρ G):RS (λb=>G0 b≠none) G0 (λ_ _=>False) τ (Pu.iso2 ρ) G:=by
 refine ⟨h.ex,λb z=>z,λ_ _ z=>z.elim,λ_ _ z=>z.elim,λ_ _ _ z=>z.elim,by unfold Pu.iso2;rw [length_map];exact h.len,λi s e=>?_⟩;unfold Pu.iso2 at e;rw [getElem?_map] at e;obtain ⟨s0,e0,rfl⟩:=za3 e;have k:=h.sl i s0 e0;cases s0 with
 |sh d=>
  unfold Sl.iso2;dsimp only;split
  ·rename_i c;obtain ⟨x,a,b⟩:=k;exact ⟨x,a,qcm b c⟩
  ·trivial
 |rg d=>
  obtain ⟨x,a,b⟩:=k;refine ⟨x,a,b.up λq o z=>?_⟩;obtain ⟨n,z⟩:=qm z;have Aq:=Classical.not_not.mp n;rw [zx]
  ·exact z
  ·rintro (y|⟨_,y⟩)
   ·exact y (h.fr i q Aq)
   ·exact y
 |ow _=>trivial
 |un=>trivial
 |dc _=>trivial
 |on _=>trivial
def ql9:Option Ot->Option PyData
 |some (.rt d _)=>some d
 |_=>none
def qgk {t:TS3} (b:PuS t):PuW t:=⟨λn ρ=>ql9 (b.f n (iso2 ρ)),λ{D G0 A τ ρ G n r e} h hf k=>by
 cases hb:b.f n (Pu.iso2 ρ) with
 |none=>rw [hb] at hf;cases hf
 |some o=>
  rw [hb] at hf;refine b.ok h.iso2 hb ?_;cases o with
  |rt d fr=>cases hf;exact λx G2 E2 D2 _=>k x G2 E2 D2
  |nx _=>cases hf
  |bk _=>cases hf
  |ct _=>cases hf⟩
def nxB (g:Rho->Option PyData):Ot->Option PyData
 |.nx ρ=>g ρ
 |_=>none
def qhW {t u:TS3} (a:PuS t) (b:PuW u):PuW (qM t u):=⟨λn ρ=>(a.f n ρ).bind (nxB (b.f n)),λ{D G0 A τ ρ G n r e} h hf k=>by
 obtain ⟨o1,e1,hf⟩:=obb hf;refine a.ok h e1 ?_;cases o1 with
 |nx ρ'=>exact λA' τ' G' h'=>b.ok h' hf k
 |bk ρ'=>cases hf
 |ct ρ'=>cases hf
 |rt d fr=>cases hf⟩
def qhg {t:TS3} {b:PuS t}:(qgk b).f=λn ρ=>ql9 (b.f n (iso2 ρ)):=id rfl
def qi7 {t u:TS3} {a:PuS t} {b:PuW u}:(qhW a b).f=λn ρ=>(a.f n ρ).bind (nxB (b.f n)):=id rfl
def qhI (F:List PyData->Option PyData) {t:TA3} (b:PuA t) (i:Nat) (m:List Bool) (hm:Tru (b.fv.all (mkb m))):PuS (zr (cb3 (PWn F) t) (gn3 i)):=⟨λn ρ=>(b.f ρ).bind λds=>(F ds).map λr=>.nx ((dm m ρ).set i (.rg r)),λ{D G0 A τ ρ G n o e} h hf k=>by
 obtain ⟨ds,e1,hf⟩:=obb hf;obtain ⟨r,e2,rfl⟩:=za3 hf;refine b.ok (h.viewD hm) (h.dem m).dom e1 λx G1 E1 D1=>?_;have h1:=(h.dem m).up E1;refine ⟨_,ds,r,D1,h1.dom,e2,λy G2 E2 R=>?_⟩;show e.nx (τ.set i (some y)) G2;refine k _ _ _ (h1.upd i (W:=λ_=>False) (B:=λb=>G1 b=none/\G2 b≠none) (λb o _ z=>E2 b o z) (λ_ z=>z.elim) (λb z=>⟨.inr z.1,z.2⟩) λ_=>⟨y,rfl,R.up λb o z=>?_⟩);obtain ⟨z1,z2⟩:=qm z;rw [zx λy=>y ⟨Classical.not_not.mp z1,by rw [z2];simp⟩];exact z2⟩
def qhw {F:List PyData->Option PyData} {t:TA3} {b:PuA t} {i:Nat} {m:List Bool} {hm:Tru (b.fv.all (mkb m))}:(qhI F b i m hm).f=λ_ ρ=>(b.f ρ).bind λds=>(F ds).map λr=>.nx ((dm m ρ).set i (.rg r)):=id rfl
def whW (cf:Rho->Option Bool) (bw:Rho->Nat->QO->Prop):Nat->Rho->Nat->QO->Prop
 |0,_,_,_=>False
 |m+1,ρ,n,Q=>∃ k,cf ρ=some k/\if k=true then bw ρ n λo n1=>match o with
  |.nx ρ'=>whW cf bw m ρ' n1 Q
  |.ct ρ'=>whW cf bw m ρ' n1 Q
  |.bk ρ'=>Q (.nx ρ') n1
  |.rt d b=>Q (.rt d b) n1
  else Q (.nx ρ) n
theorem XW {l:Nat} {cf:Rho->Option Bool} {tb:TS3} (pb:PwS l tb):∀ {m:Nat} {ρ:Rho} {n:Nat} {Q Q':QO},whW cf pb.w m ρ n Q->(∀ o m,Q o m->Q' o m)->whW cf pb.w m ρ n Q'
 |0,_,_,_,_,h,_=>h
 |m+1,_,_,_,_,⟨k,e,h⟩,f=>⟨k,e,by
  split at h
  ·rename_i c;rw [if_pos c];exact pb.mono h λo n1 h=>by
    cases o with
    |nx ρ=>exact XW pb h f
    |ct ρ=>exact XW pb h f
    |bk ρ=>exact f _ _ h
    |rt d b=>exact f _ _ h
  ·rename_i c;rw [if_neg c];exact f _ _ h⟩
def wWh {l:Nat} {c:TT3} {tb:TS3} (M:Nat) (pc:PuC c) (pb:PwS l tb):PwS l (XD c tb):=⟨λρ n Q=>whW pc.f pb.w M ρ n Q,λh k=>XW pb h k,λ{a z0 D G0 A τ ρ G n e Q} h hw k=>by
 refine ⟨λm τ G=>∃ A ρ n,RL l a z0 D G0 A τ ρ G n/\whW pc.f pb.w m ρ n Q,⟨M,A,ρ,n,h,hw⟩,?_⟩;rintro m τ G ⟨A,ρ,n,h,hw⟩;cases m with
 |zero=>exact hw.elim
 |succ m=>
  obtain ⟨b,e1,hw⟩:=hw;have v:=h.all pc.fv;refine pc.ok v.v v.d e1 λG1 E1=>?_;have h1:=h.up (Bk.WG E1) (h.lf.ex E1);cases b with
  |true=>
   rw [if_pos rfl] at hw ⊢;refine ⟨λτ' G'=>∃ A' ρ' n',RL l a z0 D G0 A' τ' ρ' G' n'/\whW pc.f pb.w m ρ' n' Q,λτ' G' ⟨A',ρ',n',h',w'⟩=>⟨m,by omega,A',ρ',n',h',w'⟩,pb.ok h1 hw λo n2 q=>?_⟩;cases o with
   |nx ρ'=>exact λA' τ' G' r=>⟨A',ρ',n2,r,q⟩
   |ct ρ'=>exact λA' τ' G' r=>⟨A',ρ',n2,r,q⟩
   |bk ρ'=>exact k _ _ q
   |rt d fr=>exact k _ _ q
  |false=>
   rw [if_neg y6] at hw ⊢;exact k _ _ hw _ _ _ h1⟩
def qm5 {l:Nat} {c:TT3} {tb:TS3} {M:Nat} {pc:PuC c} {pb:PwS l tb}:(wWh M pc pb).w=λρ n Q=>whW pc.f pb.w M ρ n Q:=id rfl
end Pu
namespace Pv
open PySem L2 L3 Pu
def jS {lo:Int} {n i:Nat} {x:Int} (h:(WH lo n)[i]?=some x):i<n/\x=lo+i:=by
 unfold WH at h;rw [getElem?_map] at h;obtain ⟨k,e1,e2⟩:=za3 h;obtain ⟨hl,hk⟩:=za4 e1;simp at hl hk;subst hk;exact ⟨hl,e2.symm⟩
def JJ (lo:Int) (n:Nat):(WH lo n).length=n:=by simp [WH]
def qgx {lo:Int} {n i:Nat} (h:i<n):(WH lo n)[i]?=some (lo+i):=by simp [WH,h]
def MG {n m:Int} (hn:0<=n) (hm:0<=m):Builtin.bitAnd n m=2*Builtin.bitAnd (n/2) (m/2)+n%2*(m%2):=by
 rw [PySem.W.kbt_halves n m];have h1:n%2=0\/n%2=1:=by omega
 have h2:m%2=0\/m%2=1:=by omega
 rcases h1 with h1|h1<;>rcases h2 with h2|h2<;>simp [h1,h2]
def YS {x y:Int} (hx:0<=x) (hy:0<=y):0<=Builtin.bitXor x y/\Builtin.bitXor x y%2=(x%2+y%2)%2/\Builtin.bitXor x y/2=Builtin.bitXor (x/2) (y/2):=by
 have a:=MG hx hy;have b:=PyProof.Rows.bitXor_and x y;have c:=PyProof.Rows.bitXor_and (x/2) (y/2);have r:=PyProof.Rows.bitAnd_range (x/2) (show 0<=y/2 by omega);have r2:=PyProof.Rows.bitAnd_range (y/2) (show 0<=x/2 by omega);have h1:x%2=0\/x%2=1:=by omega
 have h2:y%2=0\/y%2=1:=by omega
 have p:x%2*(y%2)=0/\(x%2=0\/y%2=0)\/x%2*(y%2)=1/\x%2=1/\y%2=1:=by rcases h1 with h1|h1<;>rcases h2 with h2|h2<;>simp [h1,h2]
 have s:=PyProof.Rows.bitAnd_range x hy;have cm:Builtin.bitAnd x y=Builtin.bitAnd y x:=by
  have:=PyProof.Rows.bitXor_and y x;exact PyProof.Rows.bitAnd_comm x y
 have s2:=PyProof.Rows.bitAnd_range y hx;omega
theorem qbS:∀ (k:Nat) (x y:Int),0<=x->x<2 ^ k->0<=y->y<2 ^ k->Builtin.bitXor x y<2 ^ k
 |0,x,y,h0,h1,h2,h3=>by
  simp at h1 h3;have e1:x=0:=by omega
  have e2:y=0:=by omega
  subst e1;subst e2;rw [PyProof.Rows.bitXor_self];decide
 |k+1,x,y,h0,h1,h2,h3=>by
  rw [Int.pow_succ] at h1 h3 ⊢;have ih:=qbS k (x/2) (y/2) (by omega) (by omega) (by omega) (by omega);obtain ⟨z0,z1,z2⟩:=YS h0 h2;rw [← z2] at ih;omega
def fl (ks:List Int):List Int:=ks.foldl (λacc m=>acc++acc.map λf=>Builtin.bitXor f m) [0]
def YE (ks:List Int) (m:Int):fl (ks++[m])=fl ks++(fl ks).map λf=>Builtin.bitXor f m:=by simp [fl]
def Z2 {n:Nat} {ks:List Int} (h:ks.length=n+1):∃ (k':List Int) (m:Int),ks=k'++[m]/\k'.length=n:=by
 have hne:ks≠[]:=by rintro rfl;simp at h
 exact ⟨ks.dropLast,ks.getLast hne,(List.dropLast_concat_getLast hne).symm,by simp [h]⟩
def SU:∀ (n:Nat) (ks:List Int),ks.length=n->(fl ks).length=2 ^ n:=by
 intro n;induction n with
 |zero=>intro ks h;have:=List.eq_nil_of_length_eq_zero h;subst this;rfl
 |succ n ih=>
  intro ks h;obtain ⟨k',m,rfl,hl⟩:=Z2 h;rw [YE,length_append,length_map,ih k' hl,Nat.pow_succ];omega
def qoL {ks:List Int} (hl:ks.length<=8):VR [.list (ks.map PyData.int)]=some (.list ((fl ks).map PyData.int)):=by
 rw [qdh]
 try simp only [Pu.pwA,CU]
 refine jt (Q:=λo=>Q4 true o=_) ks (λi ρ=>∃ s2,ρ=[.sh (.list (ks.map PyData.int)),.ow ((fl (ks.take i)).map PyData.int),s2]) ⟨_,rfl⟩ ?_ ?_
 ·rintro i m ρ hx ⟨s2,rfl⟩;have hi:=(za4 hx).1;have tk:ks.take (i+1)=ks.take i++[m]:=by rw [List.take_succ,hx];rfl
  have ln:=SU i (ks.take i) (by simp;omega);have l8:2 ^ i<=2 ^ 8:=Nat.pow_le_pow_right (by omega) (by omega)
  try simp only [Pu.pwA]
  rw [DY (ds:=(fl (ks.take i)).map PyData.int) (fs:=((fl (ks.take i)).map λf=>Builtin.bitXor f m).map PyData.int) rfl (by
   rw [map_map];refine V5 λf hf=>?_
   try simp only [Pu.pwA,S0,Function.comp_def]) (by simp;omega)]
  try simp only [Pu.pwA]
  rw [qiL (by simp;omega)]
  try simp only [Pu.pwA]
  rw [tk,YE,List.map_append];exact ⟨_,rfl⟩
 ·rintro ρ ⟨s2,rfl⟩;rw [List.take_length]
  try simp only [Pu.pwA]
theorem C6:∀ (ms:List Int) (k:Nat),enD k (ms.map PyData.int)=(ms.zipIdx k).map λp=>PyData.tuple [.int (p.2:Int),.int p.1]
 |[],k=>rfl
 |m::ms,k=>by simp only [map_cons,enD,List.zipIdx_cons,C6 ms (k+1)]
def nm (s:Nat) (ks:List Int):Int:=(ks.zipIdx 0).foldl (λa p=>Builtin.bitXor a (p.1*((s/2 ^ p.2%2:Nat):Int))) 0
def QY (s:Nat) (ks:List Int) (m:Int):nm s (ks++[m])=Builtin.bitXor (nm s ks) (m*((s/2 ^ ks.length%2:Nat):Int)):=by
 simp [nm,List.zipIdx_append]
def qdZ {s r:Nat}:∀ (n:Nat) (ks:List Int),ks.length=n->(∀ t,t<n->s/2 ^ t%2=r/2 ^ t%2)->nm s ks=nm r ks:=by
 intro n;induction n with
 |zero=>intro ks h _;have:=List.eq_nil_of_length_eq_zero h;subst this;rfl
 |succ n ih=>
  intro ks h hb;obtain ⟨k',m,rfl,hl⟩:=Z2 h;rw [QY,QY,ih k' hl λt ht=>hb t (by omega),hl,hb n (by omega)]
def qdG {n t r:Nat} (h:t<n):(2 ^ n+r)/2 ^ t%2=r/2 ^ t%2:=by
 have e:2 ^ n=2 ^ t*(2*2 ^ (n-t-1)):=by
  rw [← Nat.mul_assoc,Nat.mul_comm (2 ^ t) 2,Nat.mul_assoc,← Nat.pow_add,← Nat.pow_succ'];congr 1;omega
 rw [e,Nat.mul_add_div (Nat.pow_pos (by omega))];omega
def qdd {x:Int} (h:0<=x):Builtin.bitXor x 0=x:=by
 have a:=PyProof.Rows.bitXor_and x 0;have b:=PyProof.Rows.bitAnd_range x (show (0:Int)<=0 by omega);omega
def qc1:∀ (n:Nat) (ks:List Int),ks.length=n->(∀ m∈ks,0<=m)->∀ f∈fl ks,0<=f:=by
 intro n;induction n with
 |zero=>intro ks h _ f hf;have:=List.eq_nil_of_length_eq_zero h;subst this;simp [fl] at hf;omega
 |succ n ih=>
  intro ks h hm f hf;obtain ⟨k',m,rfl,hl⟩:=Z2 h;rw [YE] at hf;have ih':=ih k' hl λz hz=>hm z (by simp [hz]);rcases List.mem_append.mp hf with hf|hf
  ·exact ih' f hf
  ·obtain ⟨g,hg,rfl⟩:=mem_map.mp hf;exact (YS (ih' g hg) (hm m (by simp))).1
def qno:∀ (n:Nat) (ks:List Int),ks.length=n->(∀ m∈ks,0<=m)->∀ s,s<2 ^ n->(fl ks)[s]?=some (nm s ks):=by
 intro n;induction n with
 |zero=>
  intro ks h _ s hs;have:=List.eq_nil_of_length_eq_zero h;subst this;have:s=0:=by simpa using hs
  subst this;rfl
 |succ n ih=>
  intro ks h hm s hs;obtain ⟨k',m,rfl,hl⟩:=Z2 h;have hm':∀ z∈k',0<=z:=λz hz=>hm z (by simp [hz]);have ln:=SU n k' hl;rw [YE,QY,hl];rcases Nat.lt_or_ge s (2 ^ n) with z|z
  ·rw [List.getElem?_append_left (by omega),ih k' hl hm' s z];have e:s/2 ^ n%2=0:=by rw [Nat.div_eq_of_lt z]
   have nn:0<=nm s k':=qc1 n k' hl hm' _ (v9 (ih k' hl hm' s z));rw [e];simp only [Int.natCast_zero,Int.mul_zero];rw [qdd nn]
  ·obtain ⟨r,rfl⟩:∃ r,s=2 ^ n+r:=⟨s-2 ^ n,by omega⟩
   rw [Nat.pow_succ] at hs;have hr:r<2 ^ n:=by omega
   rw [List.getElem?_append_right (by omega),ln,Nat.add_sub_cancel_left,getElem?_map,ih k' hl hm' r hr];have e:(2 ^ n+r)/2 ^ n%2=1:=by
    rw [Nat.add_div_left _ (Nat.pow_pos (by omega)),Nat.div_eq_of_lt hr]
   rw [e,qdZ n k' hl λt ht=>qdG ht];simp
def qmC {ks:List Int} (hm:∀ m∈ks,0<=m):fl ks=(List.range (2 ^ ks.length)).map λs=>nm s ks:=by
 refine List.ext_getElem? λs=>?_;have ln:=SU ks.length ks rfl;rcases Nat.lt_or_ge s (2 ^ ks.length) with z|z
 ·rw [qno ks.length ks rfl hm s z,getElem?_map,List.getElem?_range z];rfl
 ·rw [List.getElem?_eq_none (by omega),List.getElem?_eq_none (by simp;omega)]
def qdW (x y:Int):Builtin.bitXor x y=Builtin.bitXor y x:=by
 rw [PyProof.Rows.bitXor_and x y,PyProof.Rows.bitXor_and y x,PyProof.Rows.bitAnd_comm x y];omega
def XM (a:Nat):∀ b:Nat,Builtin.bitXor (a:Int) (b:Int)=((a ^^^ b:Nat):Int):=by
 induction a using Nat.strongRecOn with
 |ind a ih=>
  intro b;by_cases h:a=0
  ·subst h;rw [qdW,Nat.zero_xor];exact qdd (Int.natCast_nonneg b)
  ·have s:=YS (Int.natCast_nonneg a) (Int.natCast_nonneg b);have i:=ih (a/2) (by omega) (b/2);have d:=Nat.xor_div_two (a:=a) (b:=b);have m:=Nat.xor_mod_two_eq_one (a:=a) (b:=b);rw [← d] at i;have e1:((a/2:Nat):Int)=(a:Int)/2:=by omega
   have e2:((b/2:Nat):Int)=(b:Int)/2:=by omega
   rw [e1,e2] at i;omega
theorem xor_assoc {x y z:Int} (hx:0<=x) (hy:0<=y) (hz:0<=z):Builtin.bitXor (Builtin.bitXor x y) z=Builtin.bitXor x (Builtin.bitXor y z):=by
 obtain ⟨a,rfl⟩:=Int.eq_ofNat_of_zero_le hx;obtain ⟨b,rfl⟩:=Int.eq_ofNat_of_zero_le hy;obtain ⟨c,rfl⟩:=Int.eq_ofNat_of_zero_le hz;rw [XM,XM,XM,XM,Nat.xor_assoc]
def qcn {x y:Int} (hx:0<=x) (hy:0<=y):Builtin.bitXor (Builtin.bitXor x y) y=x:=by
 rw [xor_assoc hx hy hy,PyProof.Rows.bitXor_self,qdd hx]
def qb3 {x y m:Int} (hx:0<=x) (hy:0<=y) (hm:0<=m) (h:Builtin.bitXor x m=Builtin.bitXor y m):x=y:=by
 rw [← qcn hx hm,h,qcn hy hm]
def qoX:∀ (n:Nat) (cs:List Int),cs.length=n->∃ r,fl cs=0::r:=by
 intro n;induction n with
 |zero=>intro cs h;have:=List.eq_nil_of_length_eq_zero h;subst this;exact ⟨_,rfl⟩
 |succ n ih=>
  intro cs h;obtain ⟨k',m,rfl,hl⟩:=Z2 h;obtain ⟨r,e⟩:=ih k' hl;rw [YE,e];exact ⟨_,rfl⟩
end Pv
namespace K48
open PySem L2 L3 Bk
def top (i : Nat) : Stmt := PySem.Challenge.pw_bankwalk_k48_least_bits.main.body.getD i (.Pass ⟨0,0,0,0⟩)
variable {P:Program} {w:World} {K:Frg} {mg:Str->Option Value} {base:Heap} {f:Addr} {fd:FuncData} {k:Nat} {sp:Sp3}
section
variable (m0:mg "isinstance" = none) (m1:mg "bool" = none) (m2:mg "int" = none) (m3:mg "enumerate" = none) {S4:Sp3} (V4:Fn3 P w K mg base k "flips" S4) (m5:mg "max" = none) (m6:mg "min" = none) {S7:Sp3} (V7:Fn3 P w K mg base k "led_to" S7) (m8:mg "len" = none) {S9:Sp3} (V9:Fn3 P w K mg base k "is_led_to_0" S9) {S10:Sp3} (V10:Fn3 P w K mg base k "is_number" S10) {S11:Nat->Option Sp3} (V11:WD P w K mg base k S11) {S12:Sp3} (V12:Fn3 P w K mg base k "searched" S12) (m13:mg "range" = none) (m14:mg "tuple" = none) {S15:Sp3} (V15:Fn3 P w K mg base k "span_flips" S15) (l_0:TZ K 0=some (Hd.R8 "image_for.<locals>.<lambda>" (top 12) 0)) (l_1:TZ K 1=some (Hd.R8 "image_for.<locals>.<lambda>" (top 12) 1)) (T_image_for:TabAt K mg base 72 "image_for.<locals>.<lambda>") {S19:Sp3} (V19:Fn3 P w K mg base k "is_tree" S19) (l_2:TZ K 2=some (Hd.R8 "shows_no_image.<locals>.<lambda>" (top 18) 0)) (l_3:TZ K 3=some (Hd.R8 "shows_no_image.<locals>.<lambda>" (top 18) 1)) (T_shows_no_image:TabAt K mg base 98 "shows_no_image.<locals>.<lambda>") {S23:Sp3} (V23:Fn3 P w K mg base k "image_for" S23) (m24:mg "abs" = none) {S25:Sp3} (V25:Fn3 P w K mg base k "_law_mix" S25) {S26:Sp3} (V26:Fn3 P w K mg base k "_law_same" S26) (m27:mg "list" = none) (m28:mg "zip" = none) (m29:mg "all" = none) (m30:mg "str" = none) {S31:Sp3} (V31:Fn3 P w K mg base k "_law_two" S31) {S32:Sp3} (V32:Fn3 P w K mg base k "_law_pick" S32) {S33:Sp3} (V33:Fn3 P w K mg base k "_law_flips" S33) (m34:mg "sorted" = none) (m35:mg "set" = none) {S36:Sp3} (V36:Fn3 P w K mg base k "_law_led" S36) {S37:Sp3} (V37:Fn3 P w K mg base k "_law_spans" S37) {S38:Sp3} (V38:Fn3 P w K mg base k "_law_last" S38) {S39:Sp3} (V39:Fn3 P w K mg base k "_law_bars" S39) {S40:Sp3} (V40:Fn3 P w K mg base k "_law_whole" S40) {S41:Sp3} (V41:Fn3 P w K mg base k "_law_serves" S41) {S42:Sp3} (V42:Fn3 P w K mg base k "_law_bad" S42) {S43:Sp3} (V43:Fn3 P w K mg base k "shows_no_image" S43) {S44:Sp3} (V44:Fn3 P w K mg base k "_law_left" S44) {S45:Sp3} (V45:Fn3 P w K mg base k "_law_lot" S45) {S46:Sp3} (V46:Fn3 P w K mg base k "_law_first_row" S46) {S47:Sp3} (V47:Fn3 P w K mg base k "least_bits" S47) {S48:Sp3} (V48:Fn3 P w K mg base k "_law_paper_right" S48) {S49:Sp3} (V49:Fn3 P w K mg base k "image_choices" S49) {S50:Sp3} (V50:Fn3 P w K mg base k "first_led_to_0" S50) {S51:Sp3} (V51:Fn3 P w K mg base k "is_lost" S51)
abbrev j5:Stmt:=top 1
abbrev Q5:List Str:=["thing"]
abbrev J3:List Str:=["thing"]
def RQ:FnScope Q5 J3 (qg j5):=Hd.sc0
def R4 (E:Hd.Fb K mg "is_number" j5 J3 f fd) (read:Rd sp 1 (Bk.je) Q5):Fn3 P w K mg base (k+1) "is_number" sp:=
 Hd.jfE E RQ read λcdv A outer s H E hr=>(qj (qp (JS (ju (qc 0) rfl m0 rfl m2 PyProof.Rows.boot_int) (DZ (qbq (ju (qc 0) rfl m0 rfl m1 PyProof.Rows.boot_bool))))))
abbrev EM:Stmt:=top 5
abbrev qcK:List Str:=["marks","told","mark"]
abbrev KB:List Str:=["marks"]
def EL:FnScope qcK KB (qg EM):=Hd.sc0
def qdg (E:Hd.Fb K mg "flips" EM KB f fd) (read:Rd sp 1 (Pv.TN) qcK):Fn3 P w K mg base (k+1) "flips" sp:=
 Hd.jfE E EL read λcdv A outer s H E hr=>(qh (qu 1 EL.nd (zo (qb qi qe))) (qh (jk PassesOwn.never rfl (ZI (qc 0)) (qx (i:=2) (EL.nd)) (qj (qu 1 EL.nd (zb (qc 1) (TJ ["flip","mark"] [none,some 2] rfl (ZI (qc 1)) (λ_ _ _=>(jgn 0)) (λ_ _ _=>UR) (λ_ _ _=>(K4 (qc 0) (qc 1))) (by kernel_rfl) (by kernel_rfl)))))) (qj (qp (qc 1)))))
abbrev VF:Stmt:=top 7
abbrev EC:List Str:=["numbers","x","told","t","number"]
abbrev CH:List Str:=["numbers","x"]
def ZS:FnScope EC CH (qg VF):=Hd.sc0
def XO:TS3:=(qM (zr (c3 (.int 0)) (gn3 2)) (qM (ET (EW (qd (v3 0) ql)) (YW 2 (qV (gn3 3) (qV (gn3 4) YT))) (ZO (tb3 (o3 (ZM false) (o3 (iI Builtin.bitAnd) (o3 (iC (λ_ j=>0<=j) (λi j=>i/2 ^ j.toNat)) (v3 1) (v3 3)) (c3 (.int 1))) (c3 (.int 1)))) (zr (o3 (iI Builtin.bitXor) (v3 2) (v3 4)) (gn3 2)) zp)) (zt (v3 2))))
def qbG (E:Hd.Fb K mg "led_to" VF CH f fd) (read:Rd sp 2 (XO) EC):Fn3 P w K mg base (k+1) "led_to" sp:=
 Hd.jfE E ZS read λcdv A outer s H E hr=>(qh (qu 2 ZS.nd qi) (qh (jk PassesOwn.never rfl (EV rfl m3 (qb (qc 0) qe)) (VM rfl (zc (qx (i:=3) (ZS.nd)) (zc (qx (i:=4) (ZS.nd)) YV))) (qj (js (qW (jD hr.units) zN (qgS (qjZ (qc 1) (qc 3)) qi) qi (qE _)) (qj (qu 2 ZS.nd (K4 (qc 2) (qc 4)))) zl))) (qj (qp (qc 2)))))
abbrev jA:Stmt:=top 8
abbrev jT:List Str:=["spans"]
abbrev ZQ:List Str:=["spans"]
def CV:FnScope jT ZQ (qg jA):=Hd.sc0
def ZU (S4:Sp3):TS3:=(zt (qjz (VN (v3 0)) (gn3 0) tt3 (VN (qh4 (cb3 S4 (qd (v3 0) ql)) (sp3 (c3 (.int 1))) np3)) (gn3 1) tt3 (v3 1) [none,none]))
def X8 (E:Hd.Fb K mg "span_flips" jA ZQ f fd) (read:Rd sp 1 (ZU S4) jT):Fn3 P w K mg base (k+1) "span_flips" sp:=
 Hd.jfE E CV read λcdv A outer s H E hr=>(qj (qp (qiI ["span","flip"] [none,none] rfl (ZI (qc 0)) (λ_ _ _=>(jgn 0)) (λ_ _ _=>UR) (λ_ _ _=>(ZI (C5 (qk V4 hr rfl (qb (qc 0) qe)) (KN qi) T4))) (λ_ _ _=>(jgn 1)) (λ_ _ _=>UR) (λ_ _ _=>(qc 1)) (by kernel_rfl) (by kernel_rfl))))
abbrev zJ:Stmt:=top 9
abbrev zZ:List Str:=["bits","row","power"]
abbrev jL:List Str:=["bits","row"]
def ZJ:FnScope zZ jL (qg zJ):=Hd.sc0
def jI:TS3:=(qM (zr (o3 (iC qbo (λi j=>i*2 ^ j.toNat)) (c3 (.int 1)) (bl3 (o3 MV (v3 1) (c3 (.int 0))))) (gn3 2)) (zt (cb3 qfL (qd (o3 Z3 (v3 2) (c3 (.int 1))) (qd (o3 (iC qbo (λi j=>i*2 ^ j.toNat)) (c3 (.int 1)) (v3 0)) ql)))))
def U3 (E:Hd.Fb K mg "image_choices" zJ jL f fd) (read:Rd sp 2 (jI) zZ):Fn3 P w K mg base (k+1) "image_choices" sp:=
 Hd.jfE E ZJ read λcdv A outer s H E hr=>(qh (qu 2 ZJ.nd (qeR qi (RB (qgv rfl rfl m5 (qc 1) qi)))) (qj (qp (qA (WB rfl) T3 rfl m6 PyProof.Rows.boot_min (qb (zb (qc 2) qi) (qb (qeR qi (qc 0)) qe))))))
abbrev jj:Stmt:=top 10
abbrev jx:List Str:=["row","flip"]
abbrev QR:List Str:=["row","flip"]
def WO:FnScope jx QR (qg jj):=Hd.sc0
def Q7 (S7:Sp3):TS3:=(zt (VQ (o3 (ZM false) (bl3 (v3 1)) (cb3 U1 (qd (v3 0) ql))) (o3 (ZM false) (cb3 S7 (qd (v3 0) (qd (v3 1) ql))) (c3 (.int 0)))))
def WP (E:Hd.Fb K mg "is_led_to_0" jj QR f fd) (read:Rd sp 2 (Q7 S7) jx):Fn3 P w K mg base (k+1) "is_led_to_0" sp:=
 Hd.jfE E WO read λcdv A outer s H E hr=>(qj (qp (JS (QF (jD hr.units) zN (RB (qc 1)) (qA za zO rfl m8 PySem.boot_len (qb (qc 0) qe)) (qE _)) (DZ (QF (jD hr.units) zN (qk V7 hr rfl (qb (qc 0) (qb (qc 1) qe))) qi (qE _))))))
abbrev zw:Stmt:=top 11
abbrev zG:List Str:=["away","row","flip"]
abbrev jq:List Str:=["away","row"]
def QH:FnScope zG jq (qg zw):=Hd.sc0
def jr (S9:Sp3):TS3:=(qM (ET (VN (v3 0)) (gn3 2) (ZO (tb3 (cb3 S9 (qd (v3 1) (qd (v3 2) ql)))) (zt (v3 2)) zp)) (zt (c3 .non)))
def UJ (E:Hd.Fb K mg "first_led_to_0" zw jq f fd) (read:Rd sp 2 (jr S9) zG):Fn3 P w K mg base (k+1) "first_led_to_0" sp:=
 Hd.jfE E QH read λcdv A outer s H E hr=>(qh (jk PassesOwn.never rfl (ZI (qc 0)) (qx (i:=2) (QH.nd)) (qj (js (jG (qk V9 hr rfl (qb (qc 1) (qb (qc 2) qe)))) (qj (qp (qc 2))) zl))) (qj (qp JP)))
abbrev JF:Stmt:=top 17
abbrev YJ:List Str:=["away","row","thing"]
abbrev DA:List Str:=["away","row","thing"]
def NT:FnScope YJ DA (qg JF):=Hd.sc0
def ER (S9:Sp3) (S10:Sp3):TS3:=(zt (VQ (cb3 S10 (qd (v3 2) ql)) (VQ (o3 (in3 false) (v3 2) (v3 0)) (cb3 S9 (qd (v3 1) (qd (v3 2) ql))))))
def N7 (E:Hd.Fb K mg "is_lost" JF DA f fd) (read:Rd sp 3 (ER S9 S10) YJ):Fn3 P w K mg base (k+1) "is_lost" sp:=
 Hd.jfE E NT read λcdv A outer s H E hr=>(qj (qp (JS (qk V10 hr rfl (qb (qc 2) qe)) (JS (QF D0 S6 (qc 2) (qc 0) (by with_unfolding_all rfl)) (DZ (qk V9 hr rfl (qb (qc 1) (qb (qc 2) qe))))))))
abbrev QQ:Stmt:=top 3
abbrev JA:List Str:=["many","choices","bar","row","node","number","longer","part","kind"]
abbrev V1:List Str:=["many","choices","bar","row"]
def zL:FnScope JA V1 (qg QQ):=Hd.sc0
def VZ (S11:Nat->Option Sp3) (S12:Sp3):TS3:=(qM (ZO (tb3 (o3 (ZM false) (cb3 U1 (qd (v3 3) ql)) (v3 0))) (zt (qcW (qd (c3 (.str "row")) (qd (v3 3) ql)))) zp) (qM (zr (UM ql) (gn3 4)) (qM (ET (J7 (qd (cv3 S11 (v3 1) (qd (v3 3) ql)) ql)) (gn3 5) (qM (zr (o3 Z3 (v3 3) (UM (qd (v3 5) ql))) (gn3 6)) (qM (zr (cv3 S11 (v3 2) (qd (v3 6) ql)) (gn3 7)) (qM (ZO (tb3 (o3 (qcV false) (v3 7) (c3 .non))) (qM (zr (cb3 S12 (qd (v3 0) (qd (v3 1) (qd (v3 2) (qd (v3 6) ql))))) (YW 2 (qV (gn3 8) (qV (gn3 7) YT)))) (ZO (tb3 (o3 (ZM false) (v3 8) (c3 (.str "row")))) (zt (qcW (qd (c3 (.str "row")) (qd (v3 7) ql)))) zp)) zp) (ZZ (bm3 TQ (v3 4) (qd (v3 7) ql))))))) (zt (qcW (qd (c3 (.str "none")) (qd (cb3 SN (qd (v3 4) ql)) ql)))))))
def TX (E:Hd.Fb K mg "searched" QQ V1 f fd) (read:Rd sp 4 (VZ S11 S12) JA):Fn3 P w K mg base (k+1) "searched" sp:=
 Hd.jfE E zL read λcdv A outer s H E hr=>(qh (js (qW (jD hr.units) zN (qA za zO rfl m8 PySem.boot_len (qb (qc 3) qe)) (qc 0) (qE _)) (qj (qp (DM (qb UW (qb (qc 3) qe))))) zl) (qh (qu 4 zL.nd (zo qe)) (qh (jk PassesOwn.never rfl (zT rfl m13 (qb (EJ V11 hr (qc 1) (qb (qc 3) qe)) qe) (h1:=by intro _ _ _ h;simpa [qd,ql] using h)) (qx (i:=5) (zL.nd)) (qh (qu 6 zL.nd (zb (qc 3) (zo (qb (qc 5) qe)))) (qh (qu 7 zL.nd (EJ V11 hr (qc 2) (qb (qc 6) qe))) (qh (js (qW W2 VV (qc 7) JP (qE _)) (qh (RW (qk V12 hr rfl (qb (qc 0) (qb (qc 1) (qb (qc 2) (qb (qc 6) qe))))) (VM rfl (zc (qx (i:=8) (zL.nd)) (zc (qx (i:=7) (zL.nd)) YV)))) (qj (js (qW (jD hr.units) zN (qc 8) UW (qE _)) (qj (qp (DM (qb UW (qb (qc 7) qe))))) zl))) zl) (qj (J4 (Z4 (qc 4) (qb (qc 7) qe)))))))) (qj (qp (DM (qb UW (qb (YN CW qbD rfl m14 PyProof.Rows.boot_tuple (qb (qc 4) qe)) qe))))))))
abbrev jR:Stmt:=top 12
abbrev ZG:List Str:=["wide","bits","spans","away","kind","found"]
abbrev YC:List Str:=["wide","bits","spans"]
def jW:FnScope ZG YC (qg jR):=Hd.sc0
def YA (S15:Sp3) (S12:Sp3):TS3:=(qM (zr (cb3 S15 (qd (v3 2) ql)) (gn3 3)) (qM (zr (cl2 S12 (v3 0) (qd (UM ql) ql) 0 1 [1] [3]) (YW 2 (qV (gn3 4) (qV (gn3 5) YT)))) (qM (ZO (tb3 (o3 (ZM false) (v3 4) (c3 (.str "none")))) (zt (qcW (qd (c3 (.str "none")) (qd (v3 5) ql)))) zp) (zt (qcW (qd (c3 (.str "image")) (qd (v3 5) ql)))))))
def S5 (E:Hd.Fb K mg "image_for" jR YC f fd) (hc:fd.code=.ref 72) (read:Rd sp 3 (YA S15 S12) ZG):Fn3 P w K mg base (k+1) "image_for" sp:=
 Hd.qor E hc jW read λA outer s H E hr=>(qh (qu 3 jW.nd (qk V15 hr rfl (qb (qc 2) qe))) (qh (RW (qev [1] [3] V12 hr rfl T_image_for l_0 l_1 (qc 0) (qb (zo qe) qe)) (VM rfl (zc (qx (i:=4) (jW.nd)) (zc (qx (i:=5) (jW.nd)) YV)))) (qh (js (qW (jD hr.units) zN (qc 4) UW (qE _)) (qj (qp (DM (qb UW (qb (qc 5) qe))))) zl) (qj (qp (DM (qb UW (qb (qc 5) qe))))))))
abbrev JE:Stmt:=top 15
abbrev Y7:List Str:=["many","choices","is_bar","row","thing","number","part","longer"]
abbrev DB:List Str:=["many","choices","is_bar","row","thing"]
def JC:FnScope Y7 DB (qg JE):=Hd.sc0
def D7 (S11:Nat->Option Sp3) (S19:Sp3):TS3:=(qM (ZO (or3 (tb3 (o3 (ZM false) (cb3 U1 (qd (v3 3) ql)) (v3 0))) (or3 (TB (tb3 (WJ (λt=>jN t "tuple") (v3 4)))) (tb3 (o3 (ZM true) (cb3 U1 (qd (v3 4) ql)) (cv3 S11 (v3 1) (qd (v3 3) ql)))))) (zt (c3 (.bl false))) zp) (qM (ET (EW (qd (v3 4) ql)) (YW 2 (qV (gn3 5) (qV (gn3 6) YT))) (qM (zr (o3 Z3 (v3 3) (UM (qd (v3 5) ql))) (gn3 7)) (ZO (qmf (TB (tb3 (cv3 S11 (v3 2) (qd (v3 7) (qd (v3 6) ql))))) (TB (tb3 (cb3 S19 (qd (v3 0) (qd (v3 1) (qd (v3 2) (qd (v3 7) (qd (v3 6) ql))))))))) (zt (c3 (.bl false))) zp))) (zt (c3 (.bl true)))))
def MY (E:Hd.Fb K mg "is_tree" JE DB f fd) (read:Rd sp 5 (D7 S11 S19) Y7):Fn3 P w K mg base (k+1) "is_tree" sp:=
 Hd.jfE E JC read λcdv A outer s H E hr=>(qh (js (jpt (DX (qW (jD hr.units) zN (qA za zO rfl m8 PySem.boot_len (qb (qc 3) qe)) (qc 0) (qE _)) (DX (ZW (jG (ju (qc 4) rfl m0 rfl m14 PyProof.Rows.boot_tuple))) (UO (qW (YQ hr.units) ZD (qA za zO rfl m8 PySem.boot_len (qb (qc 4) qe)) (EJ V11 hr (qc 1) (qb (qc 3) qe)) (qE _)))))) (qj (qp J5)) zl) (qh (jk PassesOwn.never rfl (EV rfl m3 (qb (qc 4) qe)) (VM rfl (zc (qx (i:=5) (JC.nd)) (zc (qx (i:=6) (JC.nd)) YV))) (qh (qu 7 JC.nd (zb (qc 3) (zo (qb (qc 5) qe)))) (qj (js (jpt (qke (ZW (jG (EJ V11 hr (qc 2) (qb (qc 7) (qb (qc 6) qe))))) (qhr (ZW (jG (qk V19 hr rfl (qb (qc 0) (qb (qc 1) (qb (qc 2) (qb (qc 7) (qb (qc 6) qe))))))))))) (qj (qp J5)) zl)))) (qj (qp J5))))
abbrev zA:Stmt:=top 18
abbrev zI:List Str:=["wide","bits","spans","thing","away"]
abbrev jo:List Str:=["wide","bits","spans","thing"]
def QI:FnScope zI jo (qg zA):=Hd.sc0
def jp (S15:Sp3) (S19:Sp3):TS3:=(qM (zr (cb3 S15 (qd (v3 2) ql)) (gn3 4)) (zt (cl2 S19 (v3 0) (qd (UM ql) (qd (v3 3) ql)) 2 3 [1] [4])))
def UE (E:Hd.Fb K mg "shows_no_image" zA jo f fd) (hc:fd.code=.ref 98) (read:Rd sp 4 (jp S15 S19) zI):Fn3 P w K mg base (k+1) "shows_no_image" sp:=
 Hd.qor E hc QI read λA outer s H E hr=>(qh (qu 4 QI.nd (qk V15 hr rfl (qb (qc 2) qe))) (qj (qp (qev [1] [4] V19 hr rfl T_shows_no_image l_2 l_3 (qc 0) (qb (zo qe) (qb (qc 3) qe))))))
abbrev jw:Stmt:=top 13
abbrev jP:List Str:=["wide","spans","bits","paper","told"]
abbrev ZP:List Str:=["wide","spans"]
def qQ:FnScope jP ZP (qg jw):=Hd.sc0
def ZX (S23:Sp3):TS3:=(qM (zr (c3 (.int 0)) (gn3 2)) (qM (zr (c3 .non) (gn3 3)) (qM (zr (cb3 S23 (qd (v3 0) (qd (v3 2) (qd (v3 1) ql)))) (gn3 4)) (qM (XD (tb3 (o3 (ZM false) (o3 ix3 (v3 4) (c3 (.int 0))) (c3 (.str "none")))) (qM (zr (o3 ix3 (v3 4) (c3 (.int 1))) (gn3 3)) (qM (qjK 2 (iI (·+·)) (c3 (.int 1))) (zr (cb3 S23 (qd (v3 0) (qd (v3 2) (qd (v3 1) ql)))) (gn3 4))))) (qM (ZO (tb3 (o3 (in3 false) (v3 2) (lc3 (VN (v3 1)) (gn3 0) tt3 (cb3 U1 (qd (v3 0) ql)) [none]))) (zr (c3 .non) (gn3 3)) zp) (zt (qcW (qd (v3 2) (qd (o3 ix3 (v3 4) (c3 (.int 1))) (qd (v3 3) ql))))))))))
def CY (E:Hd.Fb K mg "least_bits" jw ZP f fd) (read:Rd sp 2 (ZX S23) jP):Fn3 P w K mg base (k+1) "least_bits" sp:=
 Hd.jfE E qQ read λcdv A outer s H E hr=>(qh (qu 2 qQ.nd qi) (qh (qu 3 qQ.nd JP) (qh (qu 4 qQ.nd (qk V23 hr rfl (qb (qc 0) (qb (qc 2) (qb (qc 1) qe))))) (qh (MD PassesOwn.never (qW (jD hr.units) zN (ZT (qc 4) qi) UW (qE _)) (qh (qu 3 qQ.nd (ZT (qc 4) qi)) (qh (qbO 2 qQ.nd qi) (qj (qu 4 qQ.nd (qk V23 hr rfl (qb (qc 0) (qb (qc 2) (qb (qc 1) qe))))))))) (qh (js (qW D0 S6 (qc 2) (TJ ["span"] [none] rfl (ZI (qc 1)) (λ_ _ _=>(jgn 0)) (λ_ _ _=>UR) (λ_ _ _=>(qA za zO rfl m8 PySem.boot_len (qb (qc 0) qe))) (by kernel_rfl) (by kernel_rfl)) (by with_unfolding_all rfl)) (qj (qu 3 qQ.nd JP)) zl) (qj (qp (DM (qb (qc 2) (qb (ZT (qc 4) qi) (qb (qc 3) qe)))))))))))
abbrev Z8:Stmt:=top 20
abbrev SV:List Str:=["_law_cell","_law_k","_law_m"]
abbrev DC:List Str:=["_law_cell","_law_k"]
def W6:FnScope SV DC (qg Z8):=Hd.sc0
def M7 (E:Hd.Fb K mg "_law_mix" Z8 DC f fd) (read:Rd sp 2 (Bk.DU) SV):Fn3 P w K mg base (k+1) "_law_mix" sp:=
 Hd.jfE E W6 read λcdv A outer s H E hr=>(qh (qu 2 W6.nd (DF (YR (zb (zb (DF (qc 0) qi) (YR (YR (qc 1) (qc 1)) qi)) qi) qi) qi)) (qj (qp (DF (YR (qc 2) (qc 2)) qi))))
abbrev QW:Stmt:=top 21
abbrev WY:List Str:=["_law_script","_law_k","_law_cell","_law_own"]
abbrev UD:List Str:=["_law_script","_law_k"]
def J0:FnScope WY UD (qg QW):=Hd.sc0
def T7 (E:Hd.Fb K mg "_law_left" QW UD f fd) (read:Rd sp 2 (Bk.V2) WY):Fn3 P w K mg base (k+1) "_law_left" sp:=
 Hd.jfE E J0 read λcdv A outer s H E hr=>(qh (qu 2 J0.nd (qhh (qW qgU UV (qc 1) (qA za zO rfl m8 PySem.boot_len (qb (qc 0) qe)) (qE _)) (ZT (qc 0) (qc 1)) qi)) (qh (qu 3 J0.nd (qhh (qW qim UV (qA LY qa5 rfl m24 PyProof.Rows.boot_abs (qb (qc 2) qe)) (qjr qi qi) (qE _)) (qA LY qa5 rfl m24 PyProof.Rows.boot_abs (qb (qc 2) qe)) qi)) (qj (qp (zo (qb (qc 3) (qb (zb (qc 2) (YR qi (qc 1))) (qb qi qe))))))))
abbrev QS:Stmt:=top 22
abbrev W4:List Str:=["_law_left_here","_law_many","_law_digit"]
abbrev VW:List Str:=["_law_left_here","_law_many"]
def DW:FnScope W4 VW (qg QS):=Hd.sc0
def KL (E:Hd.Fb K mg "_law_pick" QS VW f fd) (read:Rd sp 2 (Bk.VS S25) W4):Fn3 P w K mg base (k+1) "_law_pick" sp:=
 Hd.jfE E DW read λcdv A outer s H E hr=>(qh (RW (zb (ZT (qc 0) qi) qi) (qex (qc 0) qi)) (qh (js (qW qmk UV (ZT (qc 0) qi) qi (qE _)) (qh (qu 2 DW.nd (DF (ZT (qc 0) qi) (qc 1))) (qh (RW (MN (ZT (qc 0) qi) (qc 1)) (qex (qc 0) qi)) (qj (qp (qc 2))))) zl) (qj (qp (DF (MN (qk V25 hr rfl (qb (qk V25 hr rfl (qb (ZT (qc 0) qi) (qb (ZT (qc 0) qi) qe))) (qb (zb (ZT (qc 0) qi) qi) qe))) qi) (qc 1))))))
abbrev ZB:Stmt:=top 23
abbrev XE:List Str:=["_law_found","_law_due"]
abbrev UA:List Str:=["_law_found","_law_due"]
def KF:FnScope XE UA (qg ZB):=Hd.sc0
def QU (E:Hd.Fb K mg "_law_same" ZB UA f fd) (read:Rd sp 2 (Bk.W0 S26) XE):Fn3 P w K mg base (k+1) "_law_same" sp:=
 Hd.jfE E KF read λcdv A outer s H E hr=>(qh (js (jG (qbb (qc 1) rfl m0 rfl m27 PyProof.Rows.boot_list rfl m14 PyProof.Rows.boot_tuple)) (qh (js (jpt (DX (qW (YQ hr.units) ZD (ju (qc 0) rfl m0 rfl m27 PyProof.Rows.boot_list) (ju (qc 1) rfl m0 rfl m27 PyProof.Rows.boot_list) (qE _)) (UO (qW (YQ hr.units) ZD (ju (qc 0) rfl m0 rfl m14 PyProof.Rows.boot_tuple) (ju (qc 1) rfl m0 rfl m14 PyProof.Rows.boot_tuple) (qE _))))) (qj (qp J5)) zl) (qj (qp (JS (QF (jD hr.units) zN (qA za zO rfl m8 PySem.boot_len (qb (qc 0) qe)) (qA za zO rfl m8 PySem.boot_len (qb (qc 1) qe)) (qE _)) (DZ (qA (JQ rfl) qbB rfl m29 PyProof.Rows.boot_all (qb (TJ ["_law_one","_law_other"] [none,none] rfl (qjG rfl m28 (qb (qc 0) (qb (qc 1) qe))) (λ_ _ _=>(VM rfl (zc (jgn 0) (zc (jgn 1) YV)))) (λ_ _ _=>UR) (λ_ _ _=>(qk V26 hr rfl (qb (qc 0) (qb (qc 1) qe)))) (by kernel_rfl) (by kernel_rfl)) qe))))))) zl) (qh (js (jpt (DX (qW W2 VV (qc 1) JP (qE _)) (UO (jG (qbb (qc 1) rfl m0 rfl m30 PyProof.Rows.boot_str rfl m1 PyProof.Rows.boot_bool))))) (qj (qp (JS (QF (jD hr.units) zN (qc 0) (qc 1) (qE _)) (JS (QF (jD hr.units) zN (ju (qc 0) rfl m0 rfl m1 PyProof.Rows.boot_bool) (ju (qc 1) rfl m0 rfl m1 PyProof.Rows.boot_bool) (qE _)) (DZ (QF (jD hr.units) zN (QF W2 VV (qc 0) JP (qE _)) (QF W2 VV (qc 1) JP (qE _)) (qE _))))))) zl) (qj (qp (JS (ju (qc 0) rfl m0 rfl m2 PyProof.Rows.boot_int) (JS (qbq (ju (qc 0) rfl m0 rfl m1 PyProof.Rows.boot_bool)) (DZ (QF (jD hr.units) zN (qc 0) (qc 1) (qE _)))))))))
abbrev Z6:Stmt:=top 24
abbrev Y0:List Str:=["_law_t"]
abbrev WC:List Str:=["_law_t"]
def N0:FnScope Y0 WC (qg Z6):=Hd.sc0
def DE:TS3:=(zt (o3 ix3 (UM (qd (c3 (.int 1)) (qd (c3 (.int 2)) (qd (c3 (.int 4)) (qd (c3 (.int 8)) (qd (c3 (.int 16)) (qd (c3 (.int 32)) (qd (c3 (.int 64)) (qd (c3 (.int 128)) (qd (c3 (.int 256)) ql)))))))))) (v3 0)))
def NL (E:Hd.Fb K mg "_law_two" Z6 WC f fd) (read:Rd sp 1 (DE) Y0):Fn3 P w K mg base (k+1) "_law_two" sp:=
 Hd.jfE E N0 read λcdv A outer s H E hr=>(qj (qp (ZT (zo (qb qi (qb qi (qb qi (qb qi (qb qi (qb qi (qb qi (qb qi (qb qi qe)))))))))) (qc 0))))
abbrev jO:Stmt:=top 25
abbrev Q9:List Str:=["_law_marks","_law_found","_law_s","_law_one","_law_t","_law_mark"]
abbrev JW:List Str:=["_law_marks"]
def zm:FnScope Q9 JW (qg jO):=Hd.sc0
def J8 (S31:Sp3):TS3:=(qM (zr (UM ql) (gn3 1)) (qM (ET (J7 (qd (cb3 S31 (qd (cb3 U1 (qd (v3 0) ql)) ql)) ql)) (gn3 2) (qM (zr (c3 (.int 0)) (gn3 3)) (qM (ET (EW (qd (v3 0) ql)) (YW 2 (qV (gn3 4) (qV (gn3 5) YT))) (zr (o3 (iI Builtin.bitXor) (v3 3) (o3 (iC EF (·*·)) (v3 5) (o3 (iC (λ_ j=>0<j) (·%·)) (o3 (iC qdA (·/·)) (v3 2) (cb3 S31 (qd (v3 4) ql))) (c3 (.int 2))))) (gn3 3))) (ZZ (bm3 TQ (v3 1) (qd (v3 3) ql)))))) (zt (v3 1))))
def RP (E:Hd.Fb K mg "_law_flips" jO JW f fd) (read:Rd sp 1 (J8 S31) Q9):Fn3 P w K mg base (k+1) "_law_flips" sp:=
 Hd.jfE E zm read λcdv A outer s H E hr=>(qh (qu 1 zm.nd (zo qe)) (qh (jk PassesOwn.never rfl (zT rfl m13 (qb (qk V31 hr rfl (qb (qA za zO rfl m8 PySem.boot_len (qb (qc 0) qe)) qe)) qe) (h1:=by intro _ _ _ h;simpa [qd,ql] using h)) (qx (i:=2) (zm.nd)) (qh (qu 3 zm.nd qi) (qh (jk PassesOwn.never rfl (EV rfl m3 (qb (qc 0) qe)) (VM rfl (zc (qx (i:=4) (zm.nd)) (zc (qx (i:=5) (zm.nd)) YV))) (qj (qu 3 zm.nd (K4 (qc 3) (YR (qc 5) (DF (MN (qc 2) (qk V31 hr rfl (qb (qc 4) qe))) qi)))))) (qj (J4 (Z4 (qc 1) (qb (qc 3) qe))))))) (qj (qp (qc 1)))))
abbrev j4:Stmt:=top 26
abbrev Q1:List Str:=["_law_left_here","_law_wide","_law_found","_law_turn","_law_span","_law_more","_law_mark"]
abbrev J9:List Str:=["_law_left_here","_law_wide"]
def zQ:FnScope Q1 J9 (qg j4):=Hd.sc0
def J2 (S32:Sp3) (S31:Sp3) (S33:Sp3):TS3:=(qM (zr (UM ql) (gn3 2)) (qM (ET (J7 (qd (cb3 S32 (qd (v3 0) (qd (c3 (.int 5)) ql))) ql)) (gn3 3) (qM (zr (UM ql) (gn3 4)) (qM (ET (J7 (qd (cb3 S32 (qd (v3 0) (qd (c3 (.int 4)) ql))) ql)) (gn3 5) (qM (zr (o3 Z3 (c3 (.int 1)) (cb3 S32 (qd (v3 0) (qd (o3 (iI (·-·)) (cb3 S31 (qd (v3 1) ql)) (c3 (.int 1))) ql)))) (gn3 6)) (ZO (tb3 (o3 (in3 true) (v3 6) (cb3 S33 (qd (v3 4) ql)))) (ZZ (bm3 TQ (v3 4) (qd (v3 6) ql))) zp))) (ZZ (bm3 TQ (v3 2) (qd (v3 4) ql)))))) (zt (v3 2))))
def SY (E:Hd.Fb K mg "_law_spans" j4 J9 f fd) (read:Rd sp 2 (J2 S32 S31 S33) Q1):Fn3 P w K mg base (k+1) "_law_spans" sp:=
 Hd.jfE E zQ read λcdv A outer s H E hr=>(qh (qu 2 zQ.nd (zo qe)) (qh (jk PassesOwn.never rfl (zT rfl m13 (qb (qk V32 hr rfl (qb (qc 0) (qb qi qe))) qe) (h1:=by intro _ _ _ h;simpa [qd,ql] using h)) (qx (i:=3) (zQ.nd)) (qh (qu 4 zQ.nd (zo qe)) (qh (jk PassesOwn.never rfl (zT rfl m13 (qb (qk V32 hr rfl (qb (qc 0) (qb qi qe))) qe) (h1:=by intro _ _ _ h;simpa [qd,ql] using h)) (qx (i:=5) (zQ.nd)) (qh (qu 6 zQ.nd (zb qi (qk V32 hr rfl (qb (qc 0) (qb (K7 (qk V31 hr rfl (qb (qc 1) qe)) qi) qe))))) (qj (js (qW UT S6 (qc 6) (qk V33 hr rfl (qb (qc 4) qe)) (by with_unfolding_all rfl)) (qj (J4 (Z4 (qc 4) (qb (qc 6) qe)))) zl)))) (qj (J4 (Z4 (qc 2) (qb (qc 4) qe))))))) (qj (qp (qc 2)))))
abbrev JL:Stmt:=top 27
abbrev YU:List Str:=["_law_spans_here","_law_found","_law_span"]
abbrev DR:List Str:=["_law_spans_here"]
def UB:FnScope YU DR (qg JL):=Hd.sc0
def DN (S33:Sp3):TS3:=(qM (zr (UM ql) (gn3 1)) (qM (ET (VN (v3 0)) (gn3 2) (ZZ (bm3 qgB (v3 1) (qd (qh4 (cb3 S33 (qd (v3 2) ql)) (sp3 (c3 (.int 1))) np3) ql)))) (zt (qhD (v3 1)))))
def NR (E:Hd.Fb K mg "_law_bad" JL DR f fd) (read:Rd sp 1 (DN S33) YU):Fn3 P w K mg base (k+1) "_law_bad" sp:=
 Hd.jfE E UB read λcdv A outer s H E hr=>(qh (qu 1 UB.nd (zo qe)) (qh (jk PassesOwn.never rfl (ZI (qc 0)) (qx (i:=2) (UB.nd)) (qj (J4 (RU (qc 1) (qb (C5 (qk V33 hr rfl (qb (qc 2) qe)) (KN qi) T4) qe))))) (qj (qp (NX rfl rfl m34 rfl m35 (qc 1))))))
abbrev Z9:Stmt:=top 28
abbrev VH:List Str:=["_law_numbers","_law_x","_law_found","_law_t","_law_number"]
abbrev EZ:List Str:=["_law_numbers","_law_x"]
def QG:FnScope VH EZ (qg Z9):=Hd.sc0
def DT (S31:Sp3):TS3:=(qM (zr (c3 (.int 0)) (gn3 2)) (qM (ET (EW (qd (v3 0) ql)) (YW 2 (qV (gn3 3) (qV (gn3 4) YT))) (zr (o3 (iI Builtin.bitXor) (v3 2) (o3 (iC EF (·*·)) (v3 4) (o3 (iC (λ_ j=>0<j) (·%·)) (o3 (iC qdA (·/·)) (v3 1) (cb3 S31 (qd (v3 3) ql))) (c3 (.int 2))))) (gn3 2))) (zt (v3 2))))
def NG (E:Hd.Fb K mg "_law_led" Z9 EZ f fd) (read:Rd sp 2 (DT S31) VH):Fn3 P w K mg base (k+1) "_law_led" sp:=
 Hd.jfE E QG read λcdv A outer s H E hr=>(qh (qu 2 QG.nd qi) (qh (jk PassesOwn.never rfl (EV rfl m3 (qb (qc 0) qe)) (VM rfl (zc (qx (i:=3) (QG.nd)) (zc (qx (i:=4) (QG.nd)) YV))) (qj (qu 2 QG.nd (K4 (qc 2) (YR (qc 4) (DF (MN (qc 1) (qk V31 hr rfl (qb (qc 3) qe))) qi)))))) (qj (qp (qc 2)))))
abbrev Q6:Stmt:=top 29
abbrev JM:List Str:=["_law_numbers","_law_bits","_law_top","_law_turn"]
abbrev UG:List Str:=["_law_numbers","_law_bits"]
def QT:FnScope JM UG (qg Q6):=Hd.sc0
def VT (S31:Sp3):TS3:=(qM (zr (c3 (.int 1)) (gn3 2)) (qM (ET (J7 (qd (c3 (.int 6)) ql)) (gn3 3) (ZO (tb3 (o3 (iB λi j=>decide (j<=i)) (cb3 qae (qd (o3 Z3 (v3 0) (UM (qd (c3 (.int 0)) ql))) ql)) (v3 2))) (zr (o3 (iC EF (·*·)) (c3 (.int 2)) (v3 2)) (gn3 2)) zp)) (zt (cb3 qfL (qd (v3 2) (qd (o3 (iI (·-·)) (cb3 S31 (qd (v3 1) ql)) (c3 (.int 1))) ql))))))
def KZ (E:Hd.Fb K mg "_law_last" Q6 UG f fd) (read:Rd sp 2 (VT S31) JM):Fn3 P w K mg base (k+1) "_law_last" sp:=
 Hd.jfE E QT read λcdv A outer s H E hr=>(qh (qu 2 QT.nd qi) (qh (jk PassesOwn.never rfl (zT rfl m13 (qb qi qe) (h1:=by intro _ _ _ h;simpa [qd,ql] using h)) (qx (i:=3) (QT.nd)) (qj (js (qW qim UV (qA (qct rfl) qdB rfl m5 PyProof.Rows.boot_max (qb (zb (qc 0) (zo (qb qi qe))) qe)) (qc 2) (qE _)) (qj (qu 2 QT.nd (YR qi (qc 2)))) zl))) (qj (qp (qA (WB rfl) T3 rfl m6 PyProof.Rows.boot_min (qb (qc 2) (qb (K7 (qk V31 hr rfl (qb (qc 1) qe)) qi) qe)))))))
abbrev jz:Stmt:=top 30
abbrev jY:List Str:=["_law_bad_here","_law_numbers"]
abbrev ZV:List Str:=["_law_bad_here","_law_numbers"]
def CD:FnScope jY ZV (qg jz):=Hd.sc0
def ZR (S36:Sp3):TS3:=(zt (cb3 qdR (qd (lc3 (VN (v3 0)) (gn3 0) tt3 (o3 (ZM true) (cb3 S36 (qd (v3 1) (qd (v3 0) ql))) (c3 (.int 0))) [none,some 1]) ql)))
def X3 (E:Hd.Fb K mg "_law_serves" jz ZV f fd) (read:Rd sp 2 (ZR S36) jY):Fn3 P w K mg base (k+1) "_law_serves" sp:=
 Hd.jfE E CD read λcdv A outer s H E hr=>(qj (qp (qA (JQ rfl) qbB rfl m29 PyProof.Rows.boot_all (qb (TJ ["_law_one","_law_numbers"] [none,some 1] rfl (ZI (qc 0)) (λ_ _ _=>(jgn 0)) (λ_ _ _=>UR) (λ_ _ _=>(QF (YQ hr.units) ZD (qk V36 hr rfl (qb (qc 1) (qb (qc 0) qe))) qi (qE _))) (by kernel_rfl) (by kernel_rfl)) qe))))
abbrev JH:Stmt:=top 31
abbrev VE:List Str:=["_law_left_here","_law_wide"]
abbrev DS:List Str:=["_law_left_here"]
def W5:FnScope VE DS (qg JH):=Hd.sc0
def DJ (S32:Sp3) (S37:Sp3):TS3:=(qM (zr (o3 Z3 (c3 (.int 1)) (cb3 S32 (qd (v3 0) (qd (o3 ix3 (UM (qd (c3 (.int 3)) (qd (c3 (.int 3)) (qd (c3 (.int 3)) (qd (c3 (.int 3)) (qd (c3 (.int 4)) (qd (c3 (.int 4)) (qd (c3 (.int 4)) (qd (c3 (.int 5)) ql))))))))) (cb3 S32 (qd (v3 0) (qd (c3 (.int 8)) ql)))) ql)))) (gn3 1)) (zt (qcW (qd (v3 1) (qd (cb3 S32 (qd (v3 0) (qd (o3 ix3 (UM (qd (c3 (.int 3)) (qd (c3 (.int 4)) (qd (c3 (.int 6)) ql)))) (cb3 S32 (qd (v3 0) (qd (c3 (.int 3)) ql)))) ql))) (qd (cb3 S37 (qd (v3 0) (qd (v3 1) ql))) ql))))))
def NP (E:Hd.Fb K mg "_law_lot" JH DS f fd) (read:Rd sp 1 (DJ S32 S37) VE):Fn3 P w K mg base (k+1) "_law_lot" sp:=
 Hd.jfE E W5 read λcdv A outer s H E hr=>(qh (qu 1 W5.nd (zb qi (qk V32 hr rfl (qb (qc 0) (qb (ZT (zo (qb qi (qb qi (qb qi (qb qi (qb qi (qb qi (qb qi (qb qi qe))))))))) (qk V32 hr rfl (qb (qc 0) (qb qi qe)))) qe))))) (qj (qp (DM (qb (qc 1) (qb (qk V32 hr rfl (qb (qc 0) (qb (ZT (zo (qb qi (qb qi (qb qi qe)))) (qk V32 hr rfl (qb (qc 0) (qb qi qe)))) qe))) (qb (qk V37 hr rfl (qb (qc 0) (qb (qc 1) qe))) qe)))))))
abbrev j3:Stmt:=top 33
abbrev QP:List Str:=["_law_thing"]
abbrev J1:List Str:=["_law_thing"]
def RI:FnScope QP J1 (qg j3):=Hd.sc0
def SL (E:Hd.Fb K mg "_law_whole" j3 J1 f fd) (read:Rd sp 1 (Bk.je) QP):Fn3 P w K mg base (k+1) "_law_whole" sp:=
 Hd.jfE E RI read λcdv A outer s H E hr=>(qj (qp (JS (ju (qc 0) rfl m0 rfl m2 PyProof.Rows.boot_int) (DZ (qbq (ju (qc 0) rfl m0 rfl m1 PyProof.Rows.boot_bool))))))
abbrev QX:Stmt:=top 32
abbrev JI:List Str:=["_law_wide","_law_bits","_law_bad_here","_law_numbers","_law_thing","_law_high","_law_number","_law_arm","_law_more"]
abbrev UC:List Str:=["_law_wide","_law_bits","_law_bad_here","_law_numbers","_law_thing"]
def jH:FnScope JI UC (qg QX):=Hd.sc0
def VY (S38:Sp3) (S31:Sp3) (S39:Sp3) (S40:Sp3) (S36:Sp3):TS3:=(qM (ZO (or3 (TB (tb3 (WJ (λt=>jN t "tuple") (v3 4)))) (tb3 (o3 (ZM true) (cb3 U1 (qd (v3 4) ql)) (o3 Z3 (cb3 S38 (qd (v3 3) (qd (v3 1) ql))) (c3 (.int 1)))))) (zt (c3 (.bl false))) zp) (qM (zr (cb3 S31 (qd (cb3 U1 (qd (v3 3) ql)) ql)) (gn3 5)) (qM (ET (EW (qd (v3 4) ql)) (YW 2 (qV (gn3 6) (qV (gn3 7) YT))) (qM (zr (o3 Z3 (v3 3) (UM (qd (v3 6) ql))) (gn3 8)) (ZO (tb3 (WJ (λt=>jN t "tuple") (v3 7))) (ZO (or3 (tb3 (o3 (ZM false) (cb3 U1 (qd (v3 8) ql)) (v3 0))) (TB (tb3 (cb3 S39 (qd (v3 0) (qd (v3 1) (qd (v3 2) (qd (v3 8) (qd (v3 7) ql))))))))) (zt (c3 (.bl false))) zp) (ZO (or3 (TB (tb3 (cb3 S40 (qd (v3 7) ql)))) (or3 (tb3 (o3 (in3 true) (v3 7) (v3 2))) (TB (tb3 (ch3 (iB λi j=>decide (i<=j)) (iB λi j=>decide (i<j)) (v3 5) (v3 7) (o3 (iC EF (·*·)) (c3 (.int 2)) (v3 5))))))) (zt (c3 (.bl false))) (ZO (tb3 (o3 (ZM true) (cb3 S36 (qd (v3 8) (qd (v3 7) ql))) (c3 (.int 0)))) (zt (c3 (.bl false))) zp))))) (zt (c3 (.bl true))))))
def KS (E:Hd.Fb K mg "_law_bars" QX UC f fd) (read:Rd sp 5 (VY S38 S31 S39 S40 S36) JI):Fn3 P w K mg base (k+1) "_law_bars" sp:=
 Hd.jfE E jH read λcdv A outer s H E hr=>(qh (js (jpt (DX (ZW (jG (ju (qc 4) rfl m0 rfl m14 PyProof.Rows.boot_tuple))) (UO (qW (YQ hr.units) ZD (qA za zO rfl m8 PySem.boot_len (qb (qc 4) qe)) (zb (qk V38 hr rfl (qb (qc 3) (qb (qc 1) qe))) qi) (qE _))))) (qj (qp J5)) zl) (qh (qu 5 jH.nd (qk V31 hr rfl (qb (qA za zO rfl m8 PySem.boot_len (qb (qc 3) qe)) qe))) (qh (jk PassesOwn.never rfl (EV rfl m3 (qb (qc 4) qe)) (VM rfl (zc (qx (i:=6) (jH.nd)) (zc (qx (i:=7) (jH.nd)) YV))) (qh (qu 8 jH.nd (zb (qc 3) (zo (qb (qc 6) qe)))) (qj (js (jG (ju (qc 7) rfl m0 rfl m14 PyProof.Rows.boot_tuple)) (qj (js (jpt (DX (qW (jD hr.units) zN (qA za zO rfl m8 PySem.boot_len (qb (qc 8) qe)) (qc 0) (qE _)) (UO (ZW (jG (qk V39 hr rfl (qb (qc 0) (qb (qc 1) (qb (qc 2) (qb (qc 8) (qb (qc 7) qe))))))))))) (qj (qp J5)) zl)) (qj (js (jpt (DX (ZW (jG (qk V40 hr rfl (qb (qc 7) qe)))) (DX (qW UT S6 (qc 7) (qc 2) (by with_unfolding_all rfl)) (UO (ZW (LQ qic UV qgU UV (qc 5) (qc 7) (YR qi (qc 5)))))))) (qj (qp J5)) (qj (js (qW (YQ hr.units) ZD (qk V36 hr rfl (qb (qc 8) (qb (qc 7) qe))) qi (qE _)) (qj (qp J5)) zl)))))))) (qj (qp J5)))))
abbrev zH:Stmt:=top 34
abbrev ja:List Str:=["_law_wide","_law_bits","_law_bad_here","_law_rows","_law_t","_law_longer","_law_some","_law_row","_law_made"]
abbrev jF:List Str:=["_law_wide","_law_bits","_law_bad_here"]
def qC:FnScope ja jF (qg zH):=Hd.sc0
def jK (S31:Sp3) (S38:Sp3) (S41:Sp3):TS3:=(qM (zr (UM (qd (UM ql) ql)) (gn3 3)) (qM (ET (J7 (qd (v3 0) ql)) (gn3 4) (qM (zr (UM ql) (gn3 5)) (qM (zr (lc3 (VN (v3 2)) (gn3 0) (tb3 (ch3 (iB λi j=>decide (i<=j)) (iB λi j=>decide (i<j)) (cb3 S31 (qd (v3 1) ql)) (v3 0) (cb3 S31 (qd (o3 Z3 (v3 1) (c3 (.int 1))) ql)))) (v3 0) [none,some 4]) (gn3 6)) (qM (ET (VN (v3 3)) (gn3 7) (qM (zr (lc3 (J7 (qd (o3 Z3 (cb3 S38 (qd (v3 7) (qd (v3 1) ql))) (c3 (.int 1))) ql)) (gn3 0) tt3 (o3 Z3 (v3 1) (UM (qd (v3 0) ql))) [none,some 7]) (gn3 8)) (ZZ (bm3 qgB (v3 5) (qd (lc3 (VN (v3 8)) (gn3 0) (tb3 (cb3 S41 (qd (v3 1) (qd (v3 0) ql)))) (v3 0) [none,some 6]) ql))))) (zr (v3 5) (gn3 3)))))) (zt (if3 (tb3 (o3 (ZM true) (v3 3) (UM ql))) (o3 ix3 (v3 3) (c3 (.int 0))) (c3 .non)))))
def U5 (E:Hd.Fb K mg "_law_first_row" zH jF f fd) (read:Rd sp 3 (jK S31 S38 S41) ja):Fn3 P w K mg base (k+1) "_law_first_row" sp:=
 Hd.jfE E qC read λcdv A outer s H E hr=>(qh (qu 3 qC.nd (zo (qb (zo qe) qe))) (qh (jk PassesOwn.never rfl (zT rfl m13 (qb (qc 0) qe) (h1:=by intro _ _ _ h;simpa [qd,ql] using h)) (qx (i:=4) (qC.nd)) (qh (qu 5 qC.nd (zo qe)) (qh (qu 6 qC.nd (TJ ["_law_one","_law_t"] [none,some 4] rfl (ZI (qc 2)) (λ_ _ _=>(jgn 0)) (λ_ _ _=>qfB (LQ qic UV qgU UV (qk V31 hr rfl (qb (qc 1) qe)) (qc 0) (qk V31 hr rfl (qb (zb (qc 1) qi) qe)))) (λ_ _ _=>(qc 0)) (by kernel_rfl) (by kernel_rfl))) (qh (jk PassesOwn.never rfl (ZI (qc 3)) (qx (i:=7) (qC.nd)) (qh (qdH 8 ["_law_number","_law_row"] [none,some 7] rfl qC.nd (zT rfl m13 (qb (zb (qk V38 hr rfl (qb (qc 7) (qb (qc 1) qe))) qi) qe) (h1:=by intro _ _ _ h;simpa [qd,ql] using h)) (λ_ _ _=>(jgn 0)) (λ_ _ _=>UR) (λ_ _ _=>(zb (qc 1) (zo (qb (qc 0) qe)))) (by kernel_rfl) (by kernel_rfl) rfl rfl) (qj (J4 (RU (qc 5) (qb (TJ ["_law_one","_law_some"] [none,some 6] rfl (ZI (qc 8)) (λ_ _ _=>(jgn 0)) (λ_ _ _=>qfB (jG (qk V41 hr rfl (qb (qc 1) (qb (qc 0) qe))))) (λ_ _ _=>(qc 0)) (by kernel_rfl) (by kernel_rfl)) qe)))))) (qj (qu 3 qC.nd (qc 5))))))) (qj (qp (qhh (qW (YQ hr.units) ZD (qc 3) (zo qe) (qE _)) (ZT (qc 3) qi) JP)))))
abbrev zi:Stmt:=top 35
abbrev zz:List Str:=["_law_wide","_law_bits","_law_spans_here","_law_paper"]
abbrev jd:List Str:=["_law_wide","_law_bits","_law_spans_here","_law_paper"]
def Y8:FnScope zz jd (qg zi):=Hd.sc0
def ji (S42:Sp3) (S39:Sp3) (S43:Sp3):TS3:=(qM (ZO (or3 (tb3 (o3 (ZM false) (v3 1) (c3 (.int 0)))) (tb3 (o3 (in3 false) (v3 1) (lc3 (VN (v3 2)) (gn3 0) tt3 (cb3 U1 (qd (v3 0) ql)) [none])))) (zt (o3 (qcV false) (v3 3) (c3 .non))) zp) (qM (ZO (TB (tb3 (cb3 S39 (qd (v3 0) (qd (o3 (iI (·-·)) (v3 1) (c3 (.int 1))) (qd (cb3 S42 (qd (v3 2) ql)) (qd (UM ql) (qd (v3 3) ql)))))))) (zt (c3 (.bl false))) zp) (zt (o3 (qm6 false) (cb3 S43 (qd (v3 0) (qd (o3 (iI (·-·)) (v3 1) (c3 (.int 1))) (qd (v3 2) (qd (v3 3) ql))))) (c3 (.bl true))))))
def VJ (E:Hd.Fb K mg "_law_paper_right" zi jd f fd) (read:Rd sp 4 (ji S42 S39 S43) zz):Fn3 P w K mg base (k+1) "_law_paper_right" sp:=
 Hd.jfE E Y8 read λcdv A outer s H E hr=>(qh (js (jpt (DX (qW (jD hr.units) zN (qc 1) qi (qE _)) (UO (qW D0 S6 (qc 1) (TJ ["_law_span"] [none] rfl (ZI (qc 2)) (λ_ _ _=>(jgn 0)) (λ_ _ _=>UR) (λ_ _ _=>(qA za zO rfl m8 PySem.boot_len (qb (qc 0) qe))) (by kernel_rfl) (by kernel_rfl)) (by with_unfolding_all rfl))))) (qj (qp (QF W2 VV (qc 3) JP (qE _)))) zl) (qh (js (ZW (jG (qk V39 hr rfl (qb (qc 0) (qb (K7 (qc 1) qi) (qb (qk V42 hr rfl (qb (qc 2) qe)) (qb (zo qe) (qb (qc 3) qe)))))))) (qj (qp J5)) zl) (qj (qp (QF qj9 qhV (qk V43 hr rfl (qb (qc 0) (qb (K7 (qc 1) qi) (qb (qc 2) (qb (qc 3) qe))))) J5 (qE _))))))
abbrev JR:Stmt:=top 36
abbrev qdK:List Str:=["_law_script","_law_k","_law_left_here","_law_wide","_law_bits","_law_spans_here","_law_kept","_law_bad_here","_law_due","_law_turn","_law_found"]
abbrev qiO:List Str:=["_law_script"]
def ZY:FnScope qdK qiO (qg JR):=Hd.sc0
def qg9 (S44:Sp3) (S45:Sp3) (S42:Sp3) (S46:Sp3) (S47:Sp3) (S26:Sp3) (S48:Sp3):TS3:=(qM (ET (J7 (qd (o3 Z3 (c3 (.int 1)) (cb3 qfL (qd (c3 (.int 4)) (qd (cb3 U1 (qd (v3 0) ql)) ql)))) ql)) (gn3 1) (qM (zr (cb3 S44 (qd (v3 0) (qd (v3 1) ql))) (gn3 2)) (qM (zr (cb3 S45 (qd (v3 2) ql)) (YW 3 (qV (gn3 3) (qV (gn3 4) (qV (gn3 5) YT))))) (qM (qlZ 6 7 (qd (cb3 (T8 true) (qd (v3 5) ql)) (qd (cb3 S42 (qd (v3 5) ql)) ql))) (qM (zr (c3 (.int 0)) (gn3 8)) (qM (XD (tb3 (o3 (qcV false) (cb3 S46 (qd (v3 3) (qd (v3 8) (qd (v3 7) ql)))) (c3 .non))) (zr (o3 Z3 (v3 8) (c3 (.int 1))) (gn3 8))) (ET (J7 (qd (c3 (.int 2)) ql)) (gn3 9) (qM (zr (cb3 S47 (qd (v3 3) (qd (v3 5) ql))) (gn3 10)) (qM (ZO (or3 (TB (tb3 (WJ (λt=>jN t "tuple") (v3 10)))) (or3 (tb3 (o3 (ZM true) (cb3 U1 (qd (v3 10) ql)) (c3 (.int 3)))) (tb3 (o3 (ZM true) (cb3 (T8 true) (qd (v3 5) ql)) (v3 6))))) (zt (c3 (.bl false))) zp) (qM (ZO (TB (tb3 (cb3 S26 (qd (cb3 M2 (qd (qh4 (v3 10) np3 (sp3 (c3 (.int 2)))) ql)) (qd (UM (qd (v3 8) (qd (cb3 S46 (qd (v3 3) (qd (v3 8) (qd (v3 7) ql)))) ql))) ql))))) (zt (c3 (.bl false))) zp) (qM (ZO (TB (tb3 (cb3 S48 (qd (v3 3) (qd (v3 8) (qd (v3 5) (qd (o3 ix3 (v3 10) (c3 (.int 2))) ql))))))) (zt (c3 (.bl false))) zp) (ZZ (bm3 TQ (o3 ix3 (v3 10) (c3 (.int 1))) (qd (c3 (.int 1)) ql)))))))))))))) (zt (c3 (.bl true))))
def qib (F:Fun K "law" "law" JR f fd) (read:Rd sp 1 (qg9 S44 S45 S42 S46 S47 S26 S48) qdK):FnOk P w K mg base CX0 (k+1) f fd qiO (lSp K sp):=
 qeb (t3:=(qg9 S44 S45 S42 S46 S47 S26 S48)) F ZY (λcdv A outer s H E hr=>(qh (jk PassesOwn.never rfl (zT rfl m13 (qb (zb qi (qA (WB rfl) T3 rfl m6 PyProof.Rows.boot_min (qb qi (qb (qA za zO rfl m8 PySem.boot_len (qb (qc 0) qe)) qe)))) qe) (h1:=by intro _ _ _ h;simpa [qd,ql] using h)) (qx (i:=1) (ZY.nd)) (qh (qu 2 ZY.nd (qk V44 hr rfl (qb (qc 0) (qb (qc 1) qe)))) (qh (RW (qk V45 hr rfl (qb (qc 2) qe)) (VM rfl (zc (qx (i:=3) (ZY.nd)) (zc (qx (i:=4) (ZY.nd)) (zc (qx (i:=5) (ZY.nd)) YV))))) (qh (qlz (i:=6) (j:=7) rfl ZY.nd rfl rfl (by decide) rfl rfl (qb (YN (DL hr.gd hr.units) MJ rfl m30 PyProof.Rows.boot_str (qb (qc 5) qe)) (qb (qk V42 hr rfl (qb (qc 5) qe)) qe))) (qh (qu 8 ZY.nd qi) (qh (MD PassesOwn.never (qW W2 VV (qk V46 hr rfl (qb (qc 3) (qb (qc 8) (qb (qc 7) qe)))) JP (qE _)) (qj (qu 8 ZY.nd (zb (qc 8) qi)))) (qj (jk PassesOwn.never rfl (zT rfl m13 (qb qi qe) (h1:=by intro _ _ _ h;simpa [qd,ql] using h)) (qx (i:=9) (ZY.nd)) (qh (qu 10 ZY.nd (qk V47 hr rfl (qb (qc 3) (qb (qc 5) qe)))) (qh (js (jpt (DX (ZW (jG (ju (qc 10) rfl m0 rfl m14 PyProof.Rows.boot_tuple))) (DX (qW (YQ hr.units) ZD (qA za zO rfl m8 PySem.boot_len (qb (qc 10) qe)) qi (qE _)) (UO (qW (YQ hr.units) ZD (YN (DL hr.gd hr.units) MJ rfl m30 PyProof.Rows.boot_str (qb (qc 5) qe)) (qc 6) (qE _)))))) (qj (qp J5)) zl) (qh (js (ZW (jG (qk V26 hr rfl (qb (YN RT qee rfl m27 PyProof.Rows.boot_list (qb (C5 (qc 10) T4 (KN qi)) qe)) (qb (zo (qb (qc 8) (qb (qk V46 hr rfl (qb (qc 3) (qb (qc 8) (qb (qc 7) qe)))) qe))) qe))))) (qj (qp J5)) zl) (qh (js (ZW (jG (qk V48 hr rfl (qb (qc 3) (qb (qc 8) (qb (qc 5) (qb (ZT (qc 10) qi) qe))))))) (qj (qp J5)) zl) (qj (J4 (Z4 (ZT (qc 10) qi) (qb qi qe)))))))))))))))) (qj (qp J5)))) read
def qnI {S:Sp3} (rd:∀ ts G q,S ts G q->ts.length=2/\((cb3 S49 (qd (v3 1) (qd (v3 0) ql))):TE3) (ts.map some) G q):Lam3 P w K mg base k 0 S:=
 XT l_0 rfl (by kernel_rfl) (λ_ _ _ _ us hl=>by obtain ⟨_,rfl⟩:=Pu.qjx hl;rfl) (λA outer s H E f c clos hr=>(qk V49 hr rfl (qb (qc 1) (qb (qc 0) qe)))) rd
def qmU {S:Sp3} (rd:∀ ts G q,S ts G q->ts.length=2/\((cb3 S50 (qd (v3 1) (qd (v3 0) ql))):TE3) (ts.map some) G q):Lam3 P w K mg base k 1 S:=
 XT l_1 rfl (by kernel_rfl) (λ_ _ _ _ us hl=>by obtain ⟨_,rfl⟩:=Pu.qjx hl;rfl) (λA outer s H E f c clos hr=>(qk V50 hr rfl (qb (qc 1) (qb (qc 0) qe)))) rd
def qnc {S:Sp3} (rd:∀ ts G q,S ts G q->ts.length=2/\((cb3 S49 (qd (v3 1) (qd (v3 0) ql))):TE3) (ts.map some) G q):Lam3 P w K mg base k 2 S:=
 XT l_2 rfl (by kernel_rfl) (λ_ _ _ _ us hl=>by obtain ⟨_,rfl⟩:=Pu.qjx hl;rfl) (λA outer s H E f c clos hr=>(qk V49 hr rfl (qb (qc 1) (qb (qc 0) qe)))) rd
def qmd {S:Sp3} (rd:∀ ts G q,S ts G q->ts.length=3/\((cb3 S51 (qd (v3 2) (qd (v3 0) (qd (v3 1) ql)))):TE3) (ts.map some) G q):Lam3 P w K mg base k 3 S:=
 XT l_3 rfl (by kernel_rfl) (λ_ _ _ _ us hl=>by obtain ⟨_,_,rfl⟩:=Pu.qms hl;rfl) (λA outer s H E f c clos hr=>(qk V51 hr rfl (qb (qc 2) (qb (qc 0) (qb (qc 1) qe))))) rd
end
end K48
namespace K48
open PySem L2 L3 Pu
def jE:PuS (Bk.je):=(JT (TR (qdF (λt=>jN t "int") (bV 0)) (qg2 (qdF (λt=>jN t "bool") (bV 0)))))
def zM:List PyData->Option PyData:=Pu.run jE.f 1 1 1000000000 false
def C9:Rd (PSp zM false) 1 (Bk.je) Q5:=qR jE Q5 1 1000000000 false
def UX {x0:PyData}:zM [x0]=Q4 false (jE.f 1000000000 [.sh x0]):=id rfl
def EA:PuS (K48.XO):=(jX (YG (zj 0) 2 [] ⟨rfl⟩) (jX (LK (KW (qf (bV 0) qy)) (qby 2 (QM (gN 3) (QM (gN 4) qaq))) (sIf (bTb (bO (C7 false) (bO (opI Builtin.bitAnd) (bO (opC (λ_ j=>0<=j) (λi j=>i/2 ^ j.toNat)) (bV 1) (bV 3)) (zj 1)) (zj 1))) (YG (bO (opI Builtin.bitXor) (bV 2) (bV 4)) 2 [false,false,true,false,true] ⟨rfl⟩) JO) [true] ⟨rfl⟩) (M6 2)))
def JB:List PyData->Option PyData:=Pu.run EA.f 2 5 1000000000 false
def qaL:Rd (PSp JB false) 2 (K48.XO) EC:=qR EA EC 2 1000000000 false
def qbH {x0 x1:PyData}:JB [x0,x1]=Q4 false (EA.f 1000000000 [.sh x0,.sh x1,.un,.un,.un]):=id rfl
def jZ:PuS (K48.ZU (PSp Pv.VR true)):=(JT (qnb (LP (bV 0)) (gN 0) bTt (LP (bSl (qz (qX Pv.VR true) (qf (bV 0) qy)) (bSp (zj 1)) bNp)) (gN 1) bTt (bV 1) [none,none] ⟨rfl⟩ ⟨rfl⟩ ⟨rfl⟩))
def qF:List PyData->Option PyData:=Pu.run jZ.f 1 1 1000000000 true
def CJ:Rd (PSp qF true) 1 (K48.ZU (PSp Pv.VR true)) jT:=qR jZ jT 1 1000000000 true
def CT {x0:PyData}:qF [x0]=Q4 true (jZ.f 1000000000 [.sh x0]):=id rfl
def z9:PuS (K48.jI):=(jX (YG (bO (opC qbo (λi j=>i*2 ^ j.toNat)) (zj 1) (qna (bO qfI (bV 1) (zj 0)))) 2 [false,true] ⟨rfl⟩) (JT (qz ql2 (qf (bO C4 (bV 2) (zj 1)) (qf (bO (opC qbo (λi j=>i*2 ^ j.toNat)) (zj 1) (bV 0)) qy)))))
def qB:List PyData->Option PyData:=Pu.run z9.f 2 3 1000000000 false
def U2:Rd (PSp qB false) 2 (K48.jI) zZ:=qR z9 zZ 2 1000000000 false
def UZ {x0 x1:PyData}:qB [x0,x1]=Q4 false (z9.f 1000000000 [.sh x0,.sh x1,.un]):=id rfl
def jy:PuS (K48.Q7 (PSp JB false)):=(JT (TR (bO (C7 false) (qna (bV 1)) (qz N8 (qf (bV 0) qy))) (bO (C7 false) (qz (qX JB false) (qf (bV 0) (qf (bV 1) qy))) (zj 0))))
def qI:List PyData->Option PyData:=Pu.run jy.f 2 2 1000000000 false
def WS:Rd (PSp qI false) 2 (K48.Q7 (PSp JB false)) jx:=qR jy jx 2 1000000000 false
def WN {x0 x1:PyData}:qI [x0,x1]=Q4 false (jy.f 1000000000 [.sh x0,.sh x1]):=id rfl
def zF:PuS (K48.jr (PSp qI false)):=(jX (LK (LP (bV 0)) (gN 2) (sIf (bTb (qz (qX qI false) (qf (bV 1) (qf (bV 2) qy)))) (M6 2) JO) [true] ⟨rfl⟩) (JT qdQ))
def qP:List PyData->Option PyData:=Pu.run zF.f 2 3 1000000000 false
def V6:Rd (PSp qP false) 2 (K48.jr (PSp qI false)) zG:=qR zF zG 2 1000000000 false
def V0 {x0 x1:PyData}:qP [x0,x1]=Q4 false (zF.f 1000000000 [.sh x0,.sh x1,.un]):=id rfl
def Z1:PuS (K48.ER (PSp qI false) (PSp zM false)):=(JT (TR (qz (qX zM false) (qf (bV 2) qy)) (TR (bO (qh5 false) (bV 2) (bV 0)) (qz (qX qI false) (qf (bV 1) (qf (bV 2) qy))))))
def QE:List PyData->Option PyData:=Pu.run Z1.f 3 3 1000000000 false
def NF:Rd (PSp QE false) 3 (K48.ER (PSp qI false) (PSp zM false)) YJ:=qR Z1 YJ 3 1000000000 false
def N6 {x0 x1 x2:PyData}:QE [x0,x1,x2]=Q4 false (Z1.f 1000000000 [.sh x0,.sh x1,.sh x2]):=id rfl
def qlT:PuE (cb3 (PSp qB false) (qd (v3 1) (qd (v3 0) ql))):=(qz (qX qB false) (qf (bV 1) (qf (bV 0) qy)))
def qj7:List PyData->Option PyData:=qh6 qlT.f 2
def qmA:∀ ts G q,PSp qj7 false ts G q->ts.length=2/\((cb3 (PSp qB false) (qd (v3 1) (qd (v3 0) ql))):TE3) (ts.map some) G q:=XJ qlT 2
def qnn {x0 x1:PyData}:qj7 [x0,x1]=qlT.f [.sh x0,.sh x1]:=id rfl
def ql4:PuE (cb3 (PSp qP false) (qd (v3 1) (qd (v3 0) ql))):=(qz (qX qP false) (qf (bV 1) (qf (bV 0) qy)))
def qj4:List PyData->Option PyData:=qh6 ql4.f 2
def qmq:∀ ts G q,PSp qj4 false ts G q->ts.length=2/\((cb3 (PSp qP false) (qd (v3 1) (qd (v3 0) ql))):TE3) (ts.map some) G q:=XJ ql4 2
def qnr {x0 x1:PyData}:qj4 [x0,x1]=ql4.f [.sh x0,.sh x1]:=id rfl
def ql0:PuE (cb3 (PSp qB false) (qd (v3 1) (qd (v3 0) ql))):=(qz (qX qB false) (qf (bV 1) (qf (bV 0) qy)))
def qiy:List PyData->Option PyData:=qh6 ql0.f 2
def qnw:∀ ts G q,PSp qiy false ts G q->ts.length=2/\((cb3 (PSp qB false) (qd (v3 1) (qd (v3 0) ql))):TE3) (ts.map some) G q:=XJ ql0 2
def qnx {x0 x1:PyData}:qiy [x0,x1]=ql0.f [.sh x0,.sh x1]:=id rfl
def qlQ:PuE (cb3 (PSp QE false) (qd (v3 2) (qd (v3 0) (qd (v3 1) ql)))):=(qz (qX QE false) (qf (bV 2) (qf (bV 0) (qf (bV 1) qy))))
def qlc:List PyData->Option PyData:=qh6 qlQ.f 3
def qmN:∀ ts G q,PSp qlc false ts G q->ts.length=3/\((cb3 (PSp QE false) (qd (v3 2) (qd (v3 0) (qd (v3 1) ql)))):TE3) (ts.map some) G q:=XJ qlQ 3
def qnA {x0 x1 x2:PyData}:qlc [x0,x1,x2]=qlQ.f [.sh x0,.sh x1,.sh x2]:=id rfl
def PhL:PhD:=λi=>[qj7,qj4,qiy,qlc][i]?
def QL (Ff:List PyData->Option PyData):PuS (K48.VZ (phS PhL) (PSp Ff false)):=(jX (sIf (bTb (bO (C7 false) (qz N8 (qf (bV 3) qy)) (bV 0))) (JT (qc4 (qf (qd7 "row") (qf (bV 3) qy)) ⟨rfl⟩)) JO) (jX (YG (ED qy ⟨rfl⟩) 4 [] ⟨rfl⟩) (jX (LK (qeE (qf (bCv PhL (bV 1) (qf (bV 3) qy)) qy)) (gN 5) (jX (YG (bO US (bV 3) (ED (qf (bV 5) qy) ⟨rfl⟩)) 6 [false,false,false,true,false,true] ⟨rfl⟩) (jX (YG (bCv PhL (bV 2) (qf (bV 6) qy)) 7 [false,false,true,false,false,false,true] ⟨rfl⟩) (jX (sIf (bTb (bO (qay false) (bV 7) qdQ)) (jX (qgq (qz (qX Ff false) (qf (bV 0) (qf (bV 1) (qf (bV 2) (qf (bV 6) qy))))) (qby 2 (QM (gN 8) (QM (gN 7) qaq))) [true,true,true,false,false,false,true] ⟨rfl⟩) (sIf (bTb (bO (C7 false) (bV 8) (qd7 "row"))) (JT (qc4 (qf (qd7 "row") (qf (bV 7) qy)) ⟨rfl⟩)) JO)) JO) (qnf (bV 7) 4 [false,false,false,false,false,false,false,true] ⟨rfl⟩)))) [false,true,false,true] ⟨rfl⟩) (JT (qc4 (qf (qd7 "none") (qf (qz qnW (qf (bV 4) qy)) qy)) ⟨rfl⟩)))))
def qN:Nat->List PyData->Option PyData
 |0=>λ_=>none
 |j+1=>Pu.run (QL (qN j)).f 4 9 1000000000 false
def KR (j:Nat):Rd (PSp (qN (j+1)) false) 4 (K48.VZ (phS PhL) (PSp (qN j) false)) JA:=qR (QL (qN j)) JA 4 1000000000 false
def TU {j:Nat} {x0 x1 x2 x3:PyData}:qN (j+1) [x0,x1,x2,x3]=Q4 false ((QL (qN j)).f 1000000000 [.sh x0,.sh x1,.sh x2,.sh x3,.un,.un,.un,.un,.un]):=id rfl
def ZE:PuW (K48.YA (PSp qF true) (PSp (qN 6) false)):=(qob (qbd (qz (qX qF true) (qf (bV 2) qy)) 3 ⟨rfl⟩) (jX (qgq (qmy (qN 6) false (bV 0) (qf (ED qy ⟨rfl⟩) qy) 0 1 [1] [3]) (qby 2 (QM (gN 4) (QM (gN 5) qaq))) [true,true,false,true] ⟨rfl⟩) (jX (sIf (bTb (bO (C7 false) (bV 4) (qd7 "none"))) (JT (qc4 (qf (qd7 "none") (qf (bV 5) qy)) ⟨rfl⟩)) JO) (JT (qc4 (qf (qd7 "image") (qf (bV 5) qy)) ⟨rfl⟩)))))
def qS:List PyData->Option PyData:=Pu.qlX ZE.f 3 6 1000000000
def RD:Rd (PWn qS) 3 (K48.YA (PSp qF true) (PSp (qN 6) false)) ZG:=LB ZE ZG 3 1000000000
def SB {x0 x1 x2:PyData}:qS [x0,x1,x2]=ZE.f 1000000000 [.sh x0,.sh x1,.sh x2,.un,.un,.un]:=id rfl
def jJ (Ff:List PyData->Option PyData):PuS (K48.D7 (phS PhL) (PSp Ff false)):=(jX (sIf (bOr (bTb (bO (C7 false) (qz N8 (qf (bV 3) qy)) (bV 0))) (bOr (qaa (bTb (qdF (λt=>jN t "tuple") (bV 4)))) (bTb (bO (C7 true) (qz N8 (qf (bV 4) qy)) (bCv PhL (bV 1) (qf (bV 3) qy)))))) (JT (bBl false)) JO) (jX (LK (KW (qf (bV 4) qy)) (qby 2 (QM (gN 5) (QM (gN 6) qaq))) (jX (YG (bO US (bV 3) (ED (qf (bV 5) qy) ⟨rfl⟩)) 7 [false,false,false,true,false,true] ⟨rfl⟩) (sIf (qnS (qaa (bTb (bCv PhL (bV 2) (qf (bV 7) (qf (bV 6) qy))))) (qaa (bTb (qz (qX Ff false) (qf (bV 0) (qf (bV 1) (qf (bV 2) (qf (bV 7) (qf (bV 6) qy))))))))) (JT (bBl false)) JO)) [false,false,false,false,true] ⟨rfl⟩) (JT (bBl true))))
def zq:Nat->List PyData->Option PyData
 |0=>λ_=>none
 |j+1=>Pu.run (jJ (zq j)).f 5 8 1000000000 false
def MX (j:Nat):Rd (PSp (zq (j+1)) false) 5 (K48.D7 (phS PhL) (PSp (zq j) false)) Y7:=qR (jJ (zq j)) Y7 5 1000000000 false
def NJ {j:Nat} {x0 x1 x2 x3 x4:PyData}:zq (j+1) [x0,x1,x2,x3,x4]=Q4 false ((jJ (zq j)).f 1000000000 [.sh x0,.sh x1,.sh x2,.sh x3,.sh x4,.un,.un,.un]):=id rfl
def zK:PuS (K48.jp (PSp qF true) (PSp (zq 6) false)):=(jX (YG (qz (qX qF true) (qf (bV 2) qy)) 4 [false,false,true] ⟨rfl⟩) (JT (qmy (zq 6) false (bV 0) (qf (ED qy ⟨rfl⟩) (qf (bV 3) qy)) 2 3 [1] [4])))
def qO:List PyData->Option PyData:=Pu.run zK.f 4 5 1000000000 false
def VP:Rd (PSp qO false) 4 (K48.jp (PSp qF true) (PSp (zq 6) false)) zI:=qR zK zI 4 1000000000 false
def VX {x0 x1 x2 x3:PyData}:qO [x0,x1,x2,x3]=Q4 false (zK.f 1000000000 [.sh x0,.sh x1,.sh x2,.sh x3,.un]):=id rfl
def j2:PuW (K48.ZX (PWn qS)):=(qhW (YG (zj 0) 2 [] ⟨rfl⟩) (qhW (YG qdQ 3 [] ⟨rfl⟩) (qhW (qhI qS (qf (bV 0) (qf (bV 2) (qf (bV 1) qy))) 4 [true,true,true] ⟨rfl⟩) (qhW (sWh (bTb (bO (C7 false) (bO qcb (bV 4) (zj 0)) (qd7 "none"))) (jX (YG (bO qcb (bV 4) (zj 1)) 3 [false,false,false,false,true] ⟨rfl⟩) (jX (qn3 (zj 1) 2) (qhI qS (qf (bV 0) (qf (bV 2) (qf (bV 1) qy))) 4 [true,true,true] ⟨rfl⟩)))) (qhW (sIf (bTb (bO (qh5 false) (bV 2) (bLc (LP (bV 1)) (gN 0) bTt (qz N8 (qf (bV 0) qy)) [none] ⟨rfl⟩))) (YG qdQ 3 [] ⟨rfl⟩) JO) (qgk (JT (qc4 (qf (bV 2) (qf (bO qcb (bV 4) (zj 1)) (qf (bV 3) qy))) ⟨rfl⟩))))))))
def zS:List PyData->Option PyData:=Pu.qlX j2.f 2 5 1000000000
def XY:Rd (PWn zS) 2 (K48.ZX (PWn qS)) jP:=LB j2 jP 2 1000000000
def CL {x0 x1:PyData}:zS [x0,x1]=j2.f 1000000000 [.sh x0,.sh x1,.un,.un,.un]:=id rfl
def YM:PuS (K48.DE):=(JT (bO qcb (ED (qf (zj 1) (qf (zj 2) (qf (zj 4) (qf (zj 8) (qf (zj 16) (qf (zj 32) (qf (zj 64) (qf (zj 128) (qf (zj 256) qy))))))))) ⟨rfl⟩) (bV 0)))
def qt:List PyData->Option PyData:=Pu.run YM.f 1 1 1000000000 false
def NB:Rd (PSp qt false) 1 (K48.DE) Y0:=qR YM Y0 1 1000000000 false
def NE {x0:PyData}:qt [x0]=Q4 false (YM.f 1000000000 [.sh x0]):=id rfl
def QZ:PuS (K48.J8 (PSp qt false)):=(jX (YG (ED qy ⟨rfl⟩) 1 [] ⟨rfl⟩) (jX (LK (qeE (qf (qz (qX qt false) (qf (qz N8 (qf (bV 0) qy)) qy)) qy)) (gN 2) (jX (YG (zj 0) 3 [] ⟨rfl⟩) (jX (LK (KW (qf (bV 0) qy)) (qby 2 (QM (gN 4) (QM (gN 5) qaq))) (YG (bO (opI Builtin.bitXor) (bV 3) (bO (opC EF (·*·)) (bV 5) (bO (opC (λ_ j=>0<j) (·%·)) (bO (opC qdA (·/·)) (bV 2) (qz (qX qt false) (qf (bV 4) qy))) (zj 2)))) 3 [false,false,true,true,true,true] ⟨rfl⟩) [true] ⟨rfl⟩) (qnf (bV 3) 1 [false,false,false,true] ⟨rfl⟩))) [true] ⟨rfl⟩) (M6 1)))
def zd:List PyData->Option PyData:=Pu.run QZ.f 1 6 1000000000 true
def R7:Rd (PSp zd true) 1 (K48.J8 (PSp qt false)) Q9:=qR QZ Q9 1 1000000000 true
def RE {x0:PyData}:zd [x0]=Q4 true (QZ.f 1000000000 [.sh x0,.un,.un,.un,.un,.un]):=id rfl
def j9:=((KD (qhG (eO C4 (eOf (zj 1)) (eDr SQ (aOf (qf (bO (opI (·-·)) (qz (qX qt false) (qf (bV 1) qy)) (zj 1)) qy)))) 6 [false,true] ⟨rfl⟩ ⟨rfl⟩) (wIf (cOf (bTb (bO (qh5 true) (bV 6) (qz (qX zd true) (qf (bV 4) qy))))) (qmK (eOf (bV 6)) 4 [false,false,false,false,false,false,true] ⟨rfl⟩ ⟨rfl⟩) qaJ)):PwS 0 _)
def QB:=((KD (qhG (eOf (ED qy ⟨rfl⟩)) 4 [] ⟨rfl⟩ ⟨rfl⟩) (KD (qlM (iR (RA (eDr SQ (aOf (qf (zj 4) qy))) (aOf qy))) (gN 5) j9 [] ⟨rfl⟩ ⟨rfl⟩) (qmK (eOf (bV 4)) 2 [false,false,false,false,true] ⟨rfl⟩ ⟨rfl⟩))):PwS 0 _)
def QV:PwS 0 (K48.J2 Bk.jh (PSp qt false) (PSp zd true)):=(KD (qhG (eOf (ED qy ⟨rfl⟩)) 2 [] ⟨rfl⟩ ⟨rfl⟩) (KD (qlM (iR (RA (eDr SQ (aOf (qf (zj 5) qy))) (aOf qy))) (gN 3) QB [] ⟨rfl⟩ ⟨rfl⟩) (qjV 2)))
def jc:Wm:=qnd QV 2 7 true
def RJ:Rd (DSp jc.W true) 2 (K48.J2 Bk.jh (PSp qt false) (PSp zd true)) Q1:=qbs QV Q1 2 true
def RO {x0:PyData} {n:Nat} {Q:QD}:jc.W [x0] n Q=(2=2/\QV.w [.un,.sh x0,.un,.un,.un,.un,.un] n (qkM true Q)):=id rfl
def YI:PuS (K48.DN (PSp zd true)):=(jX (YG (ED qy ⟨rfl⟩) 1 [] ⟨rfl⟩) (jX (LK (LP (bV 0)) (gN 2) (qnE (bSl (qz (qX zd true) (qf (bV 2) qy)) (bSp (zj 1)) bNp) 1 [false,false,true] ⟨rfl⟩) [true] ⟨rfl⟩) (JT (qiD (bV 1)))))
def zW:List PyData->Option PyData:=Pu.run YI.f 1 3 1000000000 true
def MW:Rd (PSp zW true) 1 (K48.DN (PSp zd true)) YU:=qR YI YU 1 1000000000 true
def M0 {x0:PyData}:zW [x0]=Q4 true (YI.f 1000000000 [.sh x0,.un,.un]):=id rfl
def Y6:PuS (K48.DT (PSp qt false)):=(jX (YG (zj 0) 2 [] ⟨rfl⟩) (jX (LK (KW (qf (bV 0) qy)) (qby 2 (QM (gN 3) (QM (gN 4) qaq))) (YG (bO (opI Builtin.bitXor) (bV 2) (bO (opC EF (·*·)) (bV 4) (bO (opC (λ_ j=>0<j) (·%·)) (bO (opC qdA (·/·)) (bV 1) (qz (qX qt false) (qf (bV 3) qy))) (zj 2)))) 2 [false,true,true,true,true] ⟨rfl⟩) [true] ⟨rfl⟩) (M6 2)))
def zU:List PyData->Option PyData:=Pu.run Y6.f 2 5 1000000000 false
def NV:Rd (PSp zU false) 2 (K48.DT (PSp qt false)) VH:=qR Y6 VH 2 1000000000 false
def MZ {x0 x1:PyData}:zU [x0,x1]=Q4 false (Y6.f 1000000000 [.sh x0,.sh x1,.un,.un,.un]):=id rfl
def JK:PuS (K48.VT (PSp qt false)):=(jX (YG (zj 1) 2 [] ⟨rfl⟩) (jX (LK (qeE (qf (zj 6) qy)) (gN 3) (sIf (bTb (bO (opB λi j=>decide (j<=i)) (qz qin (qf (bO US (bV 0) (ED (qf (zj 0) qy) ⟨rfl⟩)) qy)) (bV 2))) (YG (bO (opC EF (·*·)) (zj 2) (bV 2)) 2 [false,false,true] ⟨rfl⟩) JO) [] ⟨rfl⟩) (JT (qz ql2 (qf (bV 2) (qf (bO (opI (·-·)) (qz (qX qt false) (qf (bV 1) qy)) (zj 1)) qy))))))
def zg:List PyData->Option PyData:=Pu.run JK.f 2 4 1000000000 false
def KO:Rd (PSp zg false) 2 (K48.VT (PSp qt false)) JM:=qR JK JM 2 1000000000 false
def TH {x0 x1:PyData}:zg [x0,x1]=Q4 false (JK.f 1000000000 [.sh x0,.sh x1,.un,.un]):=id rfl
def jU:PuS (K48.ZR (PSp zU false)):=(JT (qz qmZ (qf (bLc (LP (bV 0)) (gN 0) bTt (bO (C7 true) (qz (qX zU false) (qf (bV 1) (qf (bV 0) qy))) (zj 0)) [none,some 1] ⟨rfl⟩) qy)))
def zR:List PyData->Option PyData:=Pu.run jU.f 2 2 1000000000 false
def CB:Rd (PSp zR false) 2 (K48.ZR (PSp zU false)) jY:=qR jU jY 2 1000000000 false
def CO {x0 x1:PyData}:zR [x0,x1]=Q4 false (jU.f 1000000000 [.sh x0,.sh x1]):=id rfl
def VG:PwS 0 (K48.DJ Bk.jh (DSp jc.W true)):=(KD (qhG (eO C4 (eOf (zj 1)) (eDr SQ (RA (eO qcb (eOf (ED (qf (zj 3) (qf (zj 3) (qf (zj 3) (qf (zj 3) (qf (zj 4) (qf (zj 4) (qf (zj 4) (qf (zj 5) qy)))))))) ⟨rfl⟩)) (eDr SQ (aOf (qf (zj 8) qy)))) (aOf qy)))) 1 [] ⟨rfl⟩ ⟨rfl⟩) (qjy (qmR (RA (eOf (bV 1)) (RA (eDr SQ (RA (eO qcb (eOf (ED (qf (zj 3) (qf (zj 4) (qf (zj 6) qy))) ⟨rfl⟩)) (eDr SQ (aOf (qf (zj 3) qy)))) (aOf qy))) (RA (eDr (dSp jc true) (aOf (qf (bV 1) qy))) (aOf qy)))) ⟨rfl⟩)))
def QK:Wm:=qnd VG 1 2 false
def NW:Rd (DSp QK.W false) 1 (K48.DJ Bk.jh (DSp jc.W true)) VE:=qbs VG VE 1 false
def M8 {n:Nat} {Q:QD}:QK.W [] n Q=(0+1=1/\VG.w [.un,.un] n (qkM false Q)):=id rfl
def Q0:PuS (Bk.je):=(JT (TR (qdF (λt=>jN t "int") (bV 0)) (qg2 (qdF (λt=>jN t "bool") (bV 0)))))
def jg:List PyData->Option PyData:=Pu.run Q0.f 1 1 1000000000 false
def RH:Rd (PSp jg false) 1 (Bk.je) QP:=qR Q0 QP 1 1000000000 false
def SH {x0:PyData}:jg [x0]=Q4 false (Q0.f 1000000000 [.sh x0]):=id rfl
def jC (Ff:List PyData->Option PyData):PuS (K48.VY (PSp zg false) (PSp qt false) (PSp Ff false) (PSp jg false) (PSp zU false)):=(jX (sIf (bOr (qaa (bTb (qdF (λt=>jN t "tuple") (bV 4)))) (bTb (bO (C7 true) (qz N8 (qf (bV 4) qy)) (bO C4 (qz (qX zg false) (qf (bV 3) (qf (bV 1) qy))) (zj 1))))) (JT (bBl false)) JO) (jX (YG (qz (qX qt false) (qf (qz N8 (qf (bV 3) qy)) qy)) 5 [false,false,false,true] ⟨rfl⟩) (jX (LK (KW (qf (bV 4) qy)) (qby 2 (QM (gN 6) (QM (gN 7) qaq))) (jX (YG (bO US (bV 3) (ED (qf (bV 6) qy) ⟨rfl⟩)) 8 [false,false,false,true,false,false,true] ⟨rfl⟩) (sIf (bTb (qdF (λt=>jN t "tuple") (bV 7))) (sIf (bOr (bTb (bO (C7 false) (qz N8 (qf (bV 8) qy)) (bV 0))) (qaa (bTb (qz (qX Ff false) (qf (bV 0) (qf (bV 1) (qf (bV 2) (qf (bV 8) (qf (bV 7) qy))))))))) (JT (bBl false)) JO) (sIf (bOr (qaa (bTb (qz (qX jg false) (qf (bV 7) qy)))) (bOr (bTb (bO (qh5 true) (bV 7) (bV 2))) (qaa (bTb (bCh (opB λi j=>decide (i<=j)) (opB λi j=>decide (i<j)) (bV 5) (bV 7) (bO (opC EF (·*·)) (zj 2) (bV 5))))))) (JT (bBl false)) (sIf (bTb (bO (C7 true) (qz (qX zU false) (qf (bV 8) (qf (bV 7) qy))) (zj 0))) (JT (bBl false)) JO)))) [false,false,false,false,true] ⟨rfl⟩) (JT (bBl true)))))
def qU:Nat->List PyData->Option PyData
 |0=>λ_=>none
 |j+1=>Pu.run (jC (qU j)).f 5 9 1000000000 false
def TV (j:Nat):Rd (PSp (qU (j+1)) false) 5 (K48.VY (PSp zg false) (PSp qt false) (PSp (qU j) false) (PSp jg false) (PSp zU false)) JI:=qR (jC (qU j)) JI 5 1000000000 false
def K1 {j:Nat} {x0 x1 x2 x3 x4:PyData}:qU (j+1) [x0,x1,x2,x3,x4]=Q4 false ((jC (qU j)).f 1000000000 [.sh x0,.sh x1,.sh x2,.sh x3,.sh x4,.un,.un,.un,.un]):=id rfl
def zV:PuS (K48.jK (PSp qt false) (PSp zg false) (PSp zR false)):=(jX (YG (ED (qf (ED qy ⟨rfl⟩) qy) ⟨rfl⟩) 3 [] ⟨rfl⟩) (jX (LK (qeE (qf (bV 0) qy)) (gN 4) (jX (YG (ED qy ⟨rfl⟩) 5 [] ⟨rfl⟩) (jX (YG (bLc (LP (bV 2)) (gN 0) (bTb (bCh (opB λi j=>decide (i<=j)) (opB λi j=>decide (i<j)) (qz (qX qt false) (qf (bV 1) qy)) (bV 0) (qz (qX qt false) (qf (bO C4 (bV 1) (zj 1)) qy)))) (bV 0) [none,some 4] ⟨rfl⟩) 6 [false,false,true,false,true] ⟨rfl⟩) (jX (LK (LP (bV 3)) (gN 7) (jX (YG (bLc (qeE (qf (bO C4 (qz (qX zg false) (qf (bV 7) (qf (bV 1) qy))) (zj 1)) qy)) (gN 0) bTt (bO US (bV 1) (ED (qf (bV 0) qy) ⟨rfl⟩)) [none,some 7] ⟨rfl⟩) 8 [false,true,false,false,false,false,false,true] ⟨rfl⟩) (qnE (bLc (LP (bV 8)) (gN 0) (bTb (qz (qX zR false) (qf (bV 1) (qf (bV 0) qy)))) (bV 0) [none,some 6] ⟨rfl⟩) 5 [false,false,false,false,false,false,true,false,true] ⟨rfl⟩)) [false,false,false,true] ⟨rfl⟩) (YG (bV 5) 3 [false,false,false,false,false,true] ⟨rfl⟩)))) [true] ⟨rfl⟩) (JT (bIf (bTb (bO (C7 true) (bV 3) (ED qy ⟨rfl⟩))) (bO qcb (bV 3) (zj 0)) qdQ))))
def qG:List PyData->Option PyData:=Pu.run zV.f 3 9 1000000000 false
def U0:Rd (PSp qG false) 3 (K48.jK (PSp qt false) (PSp zg false) (PSp zR false)) ja:=qR zV ja 3 1000000000 false
def U7 {x0 x1 x2:PyData}:qG [x0,x1,x2]=Q4 false (zV.f 1000000000 [.sh x0,.sh x1,.sh x2,.un,.un,.un,.un,.un,.un]):=id rfl
def qK:PuS (K48.ji (PSp zW true) (PSp (qU 6) false) (PSp qO false)):=(jX (sIf (bOr (bTb (bO (C7 false) (bV 1) (zj 0))) (bTb (bO (qh5 false) (bV 1) (bLc (LP (bV 2)) (gN 0) bTt (qz N8 (qf (bV 0) qy)) [none] ⟨rfl⟩)))) (JT (bO (qay false) (bV 3) qdQ)) JO) (jX (sIf (qaa (bTb (qz (qX (qU 6) false) (qf (bV 0) (qf (bO (opI (·-·)) (bV 1) (zj 1)) (qf (qz (qX zW true) (qf (bV 2) qy)) (qf (ED qy ⟨rfl⟩) (qf (bV 3) qy)))))))) (JT (bBl false)) JO) (JT (bO (qgH false) (qz (qX qO false) (qf (bV 0) (qf (bO (opI (·-·)) (bV 1) (zj 1)) (qf (bV 2) (qf (bV 3) qy))))) (bBl true)))))
def qL:List PyData->Option PyData:=Pu.run qK.f 4 4 1000000000 false
def YO:Rd (PSp qL false) 4 (K48.ji (PSp zW true) (PSp (qU 6) false) (PSp qO false)) zz:=qR qK zz 4 1000000000 false
def YZ {x0 x1 x2 x3:PyData}:qL [x0,x1,x2,x3]=Q4 false (qK.f 1000000000 [.sh x0,.sh x1,.sh x2,.sh x3]):=id rfl
def qmr (zb0:Sp3) (za8:Sp3) (za9:Sp3) (zb4:Sp3) (zb3:Sp3) (zb2:Sp3):TS3:=(qM (zr (cb3 zb0 (qd (v3 2) ql)) (YW 3 (qV (gn3 3) (qV (gn3 4) (qV (gn3 5) YT))))) (qM (qlZ 6 7 (qd (cb3 (T8 true) (qd (v3 5) ql)) (qd (cb3 za8 (qd (v3 5) ql)) ql))) (qM (zr (c3 (.int 0)) (gn3 8)) (qM (XD (tb3 (o3 (qcV false) (cb3 za9 (qd (v3 3) (qd (v3 8) (qd (v3 7) ql)))) (c3 .non))) (zr (o3 Z3 (v3 8) (c3 (.int 1))) (gn3 8))) (ET (J7 (qd (c3 (.int 2)) ql)) (gn3 9) (qM (zr (cb3 zb4 (qd (v3 3) (qd (v3 5) ql))) (gn3 10)) (qM (ZO (or3 (TB (tb3 (WJ (λt=>jN t "tuple") (v3 10)))) (or3 (tb3 (o3 (ZM true) (cb3 U1 (qd (v3 10) ql)) (c3 (.int 3)))) (tb3 (o3 (ZM true) (cb3 (T8 true) (qd (v3 5) ql)) (v3 6))))) (zt (c3 (.bl false))) zp) (qM (ZO (TB (tb3 (cb3 zb3 (qd (cb3 M2 (qd (qh4 (v3 10) np3 (sp3 (c3 (.int 2)))) ql)) (qd (UM (qd (v3 8) (qd (cb3 za9 (qd (v3 3) (qd (v3 8) (qd (v3 7) ql)))) ql))) ql))))) (zt (c3 (.bl false))) zp) (qM (ZO (TB (tb3 (cb3 zb2 (qd (v3 3) (qd (v3 8) (qd (v3 5) (qd (o3 ix3 (v3 10) (c3 (.int 2))) ql))))))) (zt (c3 (.bl false))) zp) (ZZ (bm3 TQ (o3 ix3 (v3 10) (c3 (.int 1))) (qd (c3 (.int 1)) ql))))))))))))
def XG:=((qhG (eOf (bO C4 (bV 8) (zj 1))) 8 [false,false,false,false,false,false,false,false,true] ⟨rfl⟩ ⟨rfl⟩):PwS 2 _)
def XH:=((KD (qlA zS (qf (bV 3) (qf (bV 5) qy)) 10 [false,false,false,true,false,true] ⟨rfl⟩ ⟨rfl⟩) (KD (wIf (cOf (bOr (qaa (bTb (qdF (λt=>jN t "tuple") (bV 10)))) (bOr (bTb (bO (C7 true) (qz N8 (qf (bV 10) qy)) (zj 3))) (bTb (bO (C7 true) (qz (qhp true) (qf (bV 5) qy)) (bV 6)))))) (qjy (eOf (bBl false))) qaJ) (KD (wIf (cOf (qaa (bTb (qz (qiq 3) (qf (qz qop (qf (bSl (bV 10) bNp (bSp (zj 2))) qy)) (qf (ED (qf (bV 8) (qf (qz (qX qG false) (qf (bV 3) (qf (bV 8) (qf (bV 7) qy)))) qy)) ⟨rfl⟩) qy)))))) (qjy (eOf (bBl false))) qaJ) (KD (wIf (cOf (qaa (bTb (qz (qX qL false) (qf (bV 3) (qf (bV 8) (qf (bV 5) (qf (bO qcb (bV 10) (zj 2)) qy)))))))) (qjy (eOf (bBl false))) qaJ) (qeF (zj 1) (zj 1) 10 ⟨rfl⟩ ⟨rfl⟩ ⟨rfl⟩))))):PwS 2 _)
def qdf:PwS 2 (qmr (DSp QK.W false) (PSp zW true) (PSp qG false) (PWn zS) (Bk.jf 4) (PSp qL false)):=(KD (qkO (eDr (dSp QK false) (aOf qy)) (qby 3 (QM (gN 3) (QM (gN 4) (QM (gN 5) qaq)))) [] ⟨rfl⟩ ⟨rfl⟩) (KD (qn7 (aOf (qf (qz (qhp true) (qf (bV 5) qy)) (qf (qz (qX zW true) (qf (bV 5) qy)) qy))) 6 7 [false,false,false,false,false,true] ⟨rfl⟩ ⟨rfl⟩) (KD (qhG (eOf (zj 0)) 8 [] ⟨rfl⟩ ⟨rfl⟩) (KD (wWh 1000 (bTb (bO (qay false) (qz (qX qG false) (qf (bV 3) (qf (bV 8) (qf (bV 7) qy)))) qdQ)) XG) (qlM (iOf (qeE (qf (zj 2) qy))) (gN 9) XH [] ⟨rfl⟩ ⟨rfl⟩)))))
def qlC (h:∀ k:Nat,k<=60->qdf.w [.un,.sh (.int k),.un,.un,.un,.un,.un,.un,.un,.un,.un] 0 okW):Rd RF 1 (K48.qg9 Bk.Q2 (DSp QK.W false) (PSp zW true) (PSp qG false) (PWn zS) (Bk.jf 4) (PSp qL false)) qdK:=qdS qdf qdK 4 8 ⟨by decide,by decide⟩ rfl h
end K48
namespace K48
open PySem L2 L3 Pu Pv
def p2 {t:Nat} (h:t<=8):0<(2:Int) ^ t/\(2:Int) ^ t<=256:=by
 have h1:2 ^ t<=2 ^ 8:=Nat.pow_le_pow_right (by omega) h;have h2:0<2 ^ t:=Nat.pow_pos (by omega);have h3:((2 ^ t:Nat):Int)=2 ^ t:=by simp
 omega
def RM {t:Nat} (h:t<=8):qt [.int (t:Int)]=some (.int (2 ^ t)):=by
 have e:L2.atI [PyData.int 1,.int 2,.int 4,.int 8,.int 16,.int 32,.int 64,.int 128,.int 256] (t:Int)=some (.int (2 ^ t)):=by
  have:t=0\/t=1\/t=2\/t=3\/t=4\/t=5\/t=6\/t=7\/t=8:=by omega
  rcases this with rfl|rfl|rfl|rfl|rfl|rfl|rfl|rfl|rfl<;>rfl
 rw [NE]
 try simp only [Pu.pwA,YM,e]
def qod {ks:List Int} (hl:ks.length<=8) (hk:∀ m∈ks,0<=m):zd [.list (ks.map PyData.int)]=some (.list ((fl ks).map PyData.int)):=by
 have pw:=p2 hl;rw [RE]
 try simp (disch:=omega) only [Pu.pwA,QZ,length_map,RM hl,qfe]
 refine jt (Q:=λo=>Q4 true o=_) (WH 0 ((2:Int) ^ ks.length).toNat) (λi ρ=>∃ s2 s3 s4 s5,ρ=[.sh (.list (ks.map PyData.int)),.ow (((List.range i).map λs=>nm s ks).map PyData.int),s2,s3,s4,s5]) ⟨_,_,_,_,rfl⟩ ?_ ?_
 ·rintro i x ρ hx ⟨s2,s3,s4,s5,rfl⟩;obtain ⟨hi,rfl⟩:=jS hx
  try simp only [Pu.pwA,C6,Int.zero_add]
  refine jt (Q:=λo=>Nx o _) (ks.zipIdx 0) (λj ρ=>∃ s4 s5,ρ=[.sh (.list (ks.map PyData.int)),.ow (((List.range i).map λs=>nm s ks).map PyData.int),.sh (.int (i:Int)),.sh (.int (nm i (ks.take j))),s4,s5]) ⟨_,_,rfl⟩ ?_ ?_
  ·rintro j p ρ hp ⟨s4,s5,rfl⟩;rw [List.getElem?_zipIdx] at hp;obtain ⟨m,hm,rfl⟩:=za3 hp;have hj:=(za4 hm).1;have tk:ks.take (j+1)=ks.take j++[m]:=by rw [List.take_succ,hm];rfl
   have pj:=p2 (show j<=8 by omega);have e2:(i:Int)/2 ^ j%2=((i/2 ^ j%2:Nat):Int):=by simp
   have e3:((i/2 ^ j%2:Nat):Int)<2:=by omega
   have ln:(ks.take j).length=j:=by simp;omega
   have sn:=QY i (ks.take j) m;rw [ln] at sn;have e4:cI EF (·*·) (.int m) (.int ((i/2 ^ j%2:Nat):Int))=some (.int (m*((i/2 ^ j%2:Nat):Int))):=LG (by omega)
   try simp (disch:=omega) only [Pu.pwA,Nat.zero_add,RM (show j<=8 by omega),qfR,qeq,e2,e4]
   rw [tk,sn];exact ⟨_,_,rfl⟩
  ·rintro ρ ⟨s4,s5,rfl⟩;rw [List.length_zipIdx,List.take_length]
   try simp only [Pu.pwA]
   rw [DG (ds:=((List.range i).map λs=>nm s ks).map PyData.int) rfl (by simp;omega)]
   try simp only [Pu.pwA]
   rw [List.range_succ,List.map_append,List.map_append];exact ⟨_,_,_,_,rfl⟩
 ·rintro ρ ⟨s2,s3,s4,s5,rfl⟩;rw [JJ,qmC hk]
  try simp only [Pu.pwA]
  have:((2:Int) ^ ks.length).toNat=2 ^ ks.length:=by
   have h3:((2 ^ ks.length:Nat):Int)=2 ^ ks.length:=by simp
   omega
  rw [this]
def led:Nat->List Int->Nat->Int
 |_,[],_=>0
 |t,n::r,x=>Builtin.bitXor (n*((x/2 ^ t%2:Nat):Int)) (led (t+1) r x)
def qnT {ks:List Int} {x:Nat} (hl:ks.length<=8):zU [.list (ks.map PyData.int),.int (x:Int)]=some (.int (nm x ks)):=by
 rw [MZ]
 try simp only [Pu.pwA,Y6,C6]
 refine jt (Q:=λo=>Q4 false o=_) (ks.zipIdx 0) (λj ρ=>∃ s3 s4,ρ=[.sh (.list (ks.map PyData.int)),.sh (.int (x:Int)),.sh (.int (nm x (ks.take j))),s3,s4]) ⟨_,_,rfl⟩ ?_ ?_
 ·rintro j p ρ hp ⟨s3,s4,rfl⟩;rw [List.getElem?_zipIdx] at hp;obtain ⟨m,hm,rfl⟩:=za3 hp;have hj:=(za4 hm).1;have tk:ks.take (j+1)=ks.take j++[m]:=by rw [List.take_succ,hm];rfl
  have pj:=p2 (show j<=8 by omega);have e2:(x:Int)/2 ^ j%2=((x/2 ^ j%2:Nat):Int):=by simp
  have e3:((x/2 ^ j%2:Nat):Int)<2:=by omega
  have ln:(ks.take j).length=j:=by simp;omega
  have sn:=QY x (ks.take j) m;rw [ln] at sn;have e4:cI EF (·*·) (.int m) (.int ((x/2 ^ j%2:Nat):Int))=some (.int (m*((x/2 ^ j%2:Nat):Int))):=LG (by omega)
  try simp (disch:=omega) only [Pu.pwA,Nat.zero_add,RM (show j<=8 by omega),qfR,qeq,e2,e4]
  rw [tk,sn];exact ⟨_,_,rfl⟩
 ·rintro ρ ⟨s3,s4,rfl⟩;rw [List.length_zipIdx,List.take_length];rfl
def qnl {y:Int} (h:0<=y):Builtin.bitAnd y 1=y%2:=by
 have a:=MG h (show (0:Int)<=1 by omega);have r:=PyProof.Rows.bitAnd_range (y/2) (show (0:Int)<=0 by omega);rw [show (1:Int)/2=0 from rfl,show (1:Int)%2=1 from rfl] at a;omega
theorem qkV (x:Nat):∀ (j:Nat) {ks:List Int},ks.length=j->(∀ m∈ks,0<=m)->0<=nm x ks
 |0,ks,h,_=>by have:=List.length_eq_zero_iff.mp h;subst this;exact Int.le_refl 0
 |j+1,ks,h,hk=>by
  obtain ⟨r,m,rfl,hl⟩:=Z2 h;rw [QY];have h1:=qkV x j (ks:=r) (by simp at h;omega) λm hm=>hk m (by simp [hm]);have h2:0<=m*((x/2 ^ r.length%2:Nat):Int):=Int.mul_nonneg (hk m (by simp)) (by omega);exact (YS h1 h2).1
def qoT {ks:List Int} {x:Nat} (hk:∀ m∈ks,0<=m):JB [.list (ks.map PyData.int),.int (x:Int)]=some (.int (nm x ks)):=by
 rw [qbH]
 try simp only [Pu.pwA,EA,C6]
 refine jt (Q:=λo=>Q4 false o=_) (ks.zipIdx 0) (λj ρ=>∃ s3 s4,ρ=[.sh (.list (ks.map PyData.int)),.sh (.int (x:Int)),.sh (.int (nm x (ks.take j))),s3,s4]) ⟨_,_,rfl⟩ ?_ ?_
 ·rintro j p ρ hp ⟨s3,s4,rfl⟩;rw [List.getElem?_zipIdx] at hp;obtain ⟨m,hm,rfl⟩:=za3 hp;have hj:=(za4 hm).1;have tk:ks.take (j+1)=ks.take j++[m]:=by rw [List.take_succ,hm];rfl
  have e2:Builtin.bitAnd ((x:Int)/2 ^ j) 1=((x/2 ^ j%2:Nat):Int):=by rw [qnl (Int.ediv_nonneg (by omega) (Int.le_of_lt (Int.pow_pos (by omega))))];simp
  have ln:(ks.take j).length=j:=by simp;omega
  have sn:=QY x (ks.take j) m;rw [ln] at sn;have nn:0<=nm x (ks.take j):=qkV x _ rfl λm hm=>hk m (List.mem_of_mem_take hm);have e3:x/2 ^ j%2=0\/x/2 ^ j%2=1:=by omega
  try simp (disch:=omega) only [Pu.pwA,Nat.zero_add,qiX,Int.toNat_natCast,e2]
  rcases e3 with e3|e3
  ·have e4:decide (((x/2 ^ j%2:Nat):Int)=1)=false:=by rw [e3];rfl
   have e5:nm x (ks.take (j+1))=nm x (ks.take j):=by rw [tk,sn,e3];simpa using qdd nn
   try simp only [Pu.pwA,eqD_int]
   rw [if_neg (by rw [e4];exact y6),e5];exact ⟨_,_,rfl⟩
  ·have e4:decide (((x/2 ^ j%2:Nat):Int)=1)=true:=by rw [e3];rfl
   have e5:nm x (ks.take (j+1))=Builtin.bitXor (nm x (ks.take j)) m:=by rw [tk,sn,e3];simp
   try simp only [Pu.pwA,eqD_int]
   rw [if_pos e4,e5];exact ⟨_,_,rfl⟩
 ·rintro ρ ⟨s3,s4,rfl⟩;rw [List.length_zipIdx,List.take_length];rfl
def isl (ks:List Int) (x:Nat):Bool:=decide ((Builtin.Int.intBits (x:Int):Int)=(ks.length:Int))&&decide (nm x ks=0)
def qlW {ks:List Int} {x:Nat} (hk:∀ m∈ks,0<=m):qI [.list (ks.map PyData.int),.int (x:Int)]=some (.bool (isl ks x)):=by
 rw [WN]
 try simp only [Pu.pwA,jy,qoT hk,length_map]
 unfold isl;by_cases c:(Builtin.Int.intBits (x:Int):Int)=(ks.length:Int)
 ·rw [za2 c];simp [Pu.pwA]
 ·rw [za1 c];simp [Pu.pwA]
def tld:Option Nat->PyData
 |some x=>.int (x:Int)
 |none=>.none
def qnk {ks:List Int} (hk:∀ m∈ks,0<=m) {xs:List Nat}:qP [.list (xs.map λx:Nat=>PyData.int (x:Int)),.list (ks.map PyData.int)]=some (tld (xs.find? (isl ks))):=by
 rw [V0]
 try simp only [Pu.pwA,zF]
 cases h:xs.find? (isl ks) with
 |none=>
  have hn:=List.find?_eq_none.mp h;refine jt (Q:=λo=>Q4 false o=_) xs (λj ρ=>∃ s2,ρ=[.sh (.list (xs.map λx:Nat=>PyData.int (x:Int))),.sh (.list (ks.map PyData.int)),s2]) ⟨_,rfl⟩ ?_ ?_
  ·rintro j x ρ hx ⟨s2,rfl⟩;have e:isl ks x=false:=by simpa using hn x (v9 hx)
   try simp only [Pu.pwA,qlW hk,e]
   exact ⟨_,rfl⟩
  ·rintro ρ ⟨s2,rfl⟩;rfl
 |some x=>
  obtain ⟨hx,as,bs,e,ha⟩:=List.find?_eq_some_iff_append.mp h;have at_:xs[as.length]?=some x:=by rw [e];simp
  refine KP (Q:=λo=>Q4 false o=_) xs as.length x (.int (x:Int)) false at_ (λj ρ=>∃ s2,ρ=[.sh (.list (xs.map λx:Nat=>PyData.int (x:Int))),.sh (.list (ks.map PyData.int)),s2]) ⟨_,rfl⟩ ?_ ?_ rfl
  ·rintro j y ρ hj hy ⟨s2,rfl⟩;have e2:isl ks y=false:=by
    rw [e,List.getElem?_append_left hj] at hy;simpa using ha y (v9 hy)
   try simp only [Pu.pwA,qlW hk,e2]
   exact ⟨_,rfl⟩
  ·rintro ρ ⟨s2,rfl⟩
   try simp only [Pu.pwA,qlW hk,hx]
def gr (ks:List Int):Int:=match ks with|[]=>0|m::r=>mx (m::r)
def chn (b:Nat) (ks:List Int):Int:=if (2:Int) ^ b<2 ^ Builtin.Int.intBits (gr ks)+1 then 2 ^ b else 2 ^ Builtin.Int.intBits (gr ks)+1
def qnP {b:Nat} {ks:List Int} (hb:b<=1000) (h:Builtin.Int.intBits (gr ks)<=1000):qB [.int (b:Int),.list (ks.map PyData.int)]=some (.int (chn b ks)):=by
 rw [UZ];have e0:NH (.list (ks.map PyData.int)) (.int 0)=some (.int (gr ks)):=by rw [qkE];cases ks<;>rfl
 simp (disch:=first|omega|decide|(refine ⟨by omega,by omega,by decide⟩)) only [z9,qd5,e0,asI,qiv,Int.toNat_natCast,Int.one_mul,Pu.pwA];rfl
def FL0 {b:Nat} {ks:List Int} (hb:b<=1000) (h:Builtin.Int.intBits (gr ks)<=1000):qj7 [.list (ks.map PyData.int),.int (b:Int)]=some (.int (chn b ks)):=by
 rw [qnn]
 try simp only [Pu.pwA,qlT,qnP hb h]
def FL1 {ks:List Int} (hk:∀ m∈ks,0<=m) {xs:List Nat}:qj4 [.list (ks.map PyData.int),.list (xs.map λx:Nat=>PyData.int (x:Int))]=some (tld (xs.find? (isl ks))):=by
 rw [qnr]
 try simp only [Pu.pwA,ql4,qnk hk]
def YF {i:Int}:noC (.int i)=true:=by unfold noC;rfl
theorem SO:∀ (ks:List Int),EN (ks.map PyData.int)=true
 |[]=>by unfold EN;rfl
 |k::r=>by rw [map_cons];unfold EN;rw [YF,SO r];rfl
def ZF {ks:List Int}:noC (.list (ks.map PyData.int))=true:=by unfold noC;exact SO ks
def YL {x y:PyData} (hx:noC x=true) (hy:noC y=true):EN [x,y]=true:=by unfold EN;rw [hx];unfold EN;rw [hy];unfold EN;rfl
def qa4 {o:Option Nat}:noC (tld o)=true:=by cases o<;>(unfold tld noC;rfl)
def EY {xs:List Nat}:(xs.map λx:Nat=>PyData.int (x:Int))=(xs.map λx:Nat=>(x:Int)).map PyData.int:=by rw [map_map];rfl
def Fv0 {b:Nat} {ks:List Int} (hb:b<=1000) (h:Builtin.Int.intBits (gr ks)<=1000):Fv PhL (C8 0 [.int (b:Int)]) [.list (ks.map PyData.int)]=some (.int (chn b ks)):=by
 unfold Fv C8;simp only [cons_append,List.nil_append];rw [if_pos ⟨Int.le_refl _,YL ZF YF⟩];show (some qj7).bind _=_;rw [Option.bind_some,FL0 hb h,Option.bind_some,if_pos YF]
def Fv1 {ks:List Int} (hk:∀ m∈ks,0<=m) {xs:List Nat}:Fv PhL (C8 1 [.list (xs.map λx:Nat=>PyData.int (x:Int))]) [.list (ks.map PyData.int)]=some (tld (xs.find? (isl ks))):=by
 unfold Fv C8;simp only [cons_append,List.nil_append];rw [if_pos ⟨by decide,YL ZF (by rw [EY];exact ZF)⟩];show (some qj4).bind _=_;rw [Option.bind_some,FL1 hk,Option.bind_some,if_pos qa4]
def Z5:PyData->Bool
 |.none=>true
 |_=>false
def sr (many:Nat) (ch:List Int->Nat) (br:List Int->PyData):Nat->List Int->Bool×PyData
 |0,_=>(false,.none)
 |j+1,ks=>if ks.length=many then (true,.list (ks.map PyData.int)) else
  match (List.range (ch ks)).find? (λi:Nat=>Z5 (br (ks++[(i:Int)]))&&(sr many ch br j (ks++[(i:Int)])).1) with
  |some i=>(true,(sr many ch br j (ks++[(i:Int)])).2)
  |none=>(false,.tuple ((List.range (ch ks)).map λi:Nat=>if Z5 (br (ks++[(i:Int)])) then (sr many ch br j (ks++[(i:Int)])).2 else br (ks++[(i:Int)])))
def srd (r:Bool×PyData):PyData:=.tuple [.str (if r.1 then "row" else "none"),r.2]
def qhx {d:PyData}:qdT false d .none=some (.bool (Z5 d)):=by cases d<;>rfl
def pap (many:Nat) (ch:List Int->Nat) (br:List Int->PyData) (j:Nat) (ks:List Int) (i:Nat):PyData:=if Z5 (br (ks++[(i:Int)])) then (sr many ch br j (ks++[(i:Int)])).2 else br (ks++[(i:Int)])
def hit (many:Nat) (ch:List Int->Nat) (br:List Int->PyData) (j:Nat) (ks:List Int) (i:Nat):Bool:=Z5 (br (ks++[(i:Int)]))&&(sr many ch br j (ks++[(i:Int)])).1
def a7 {m:List Bool} {d:PyData} {ρ:Rho}:LD m false 7 d ρ=(if EH d then ρ else dm m ρ).set 7 (.sh d):=by unfold LD;split<;>rfl
def dm7 {s0 s1 s2 s3 s4 s5 s6 s8:Sl} {e d:PyData}:dmS [false,false,false,false,false,false,false,true] d [s0,s1,s2,s3,s4,s5,s6,.sh e,s8]=[s0,s1,s2,s3,s4,s5,s6,.sh e,s8]:=by unfold dmS;split<;>rfl
def qoP {many:Nat} {ch:List Int->Nat} {br:List Int->PyData} {C0 C1:PyData} {Ok:List Int->Prop} (h0:∀ ks,Ok ks->ks.length<many->Fv PhL C0 [.list (ks.map PyData.int)]=some (.int (ch ks:Int)))
  (h1:∀ ks,Ok ks->Fv PhL C1 [.list (ks.map PyData.int)]=some (br ks)) (hm:many<=1000) (hch:∀ ks,ch ks<=1000) (hok:∀ ks (i:Nat),Ok ks->ks.length<many->i<ch ks->Ok (ks++[(i:Int)])) :
  ∀ (j:Nat) (ks:List Int),Ok ks->ks.length<=many->many<ks.length+j->qN j [.int (many:Int),C0,C1,.list (ks.map PyData.int)]=some (srd (sr many ch br j ks)):=by
 intro j;induction j with
 |zero=>intro ks _ _ _;omega
 |succ j ih=>
  intro ks ok hl hj;rw [TU];have e0:((ks.length:Int)=(many:Int))↔ks.length=many:=by omega
  by_cases c:ks.length=many
  ·have e1:decide ((ks.length:Int)=(many:Int))=true:=za2 (e0.mpr c)
   try simp only [Pu.pwA,QL,length_map,e1]
   unfold sr;rw [if_pos c];rfl
  ·have e1:decide ((ks.length:Int)=(many:Int))=false:=za1 (λz=>c (e0.mp z));have hc:=hch ks;have kl:ks.length<many:=by omega
   try simp (disch:=omega) only [Pu.pwA,QL,length_map,e1,h0 ks ok (by omega),qfe,qdt,K6]
   have body:∀ i:Nat,i<ch ks->Fv PhL C1 [.list ((ks++[(i:Int)]).map PyData.int)]=some (br (ks++[(i:Int)]))/\qN j [.int (many:Int),C0,C1,.list ((ks++[(i:Int)]).map PyData.int)]=some (srd (sr many ch br j (ks++[(i:Int)]))):=λi hi=>
    ⟨h1 _ (hok ks i ok kl hi),ih _ (hok ks i ok kl hi) (by simp;omega) (by simp;omega)⟩
   have ct:∀ i:Nat,qaX (.list (ks.map PyData.int)) (.list [.int (i:Int)])=some (.list ((ks++[(i:Int)]).map PyData.int)):=λi=>by
    have mp:ks.map PyData.int++[PyData.int (i:Int)]=(ks++[(i:Int)]).map PyData.int:=by simp
    simp only [qaX,mp];exact qT (by rw [length_map,List.length_singleton,y8];omega)
   have unf:sr many ch br (j+1) ks=match (List.range (ch ks)).find? (hit many ch br j ks) with
    |some i=>(true,(sr many ch br j (ks++[(i:Int)])).2)
    |none=>(false,.tuple ((List.range (ch ks)).map (pap many ch br j ks))):=by
    rw [sr,if_neg c];rfl
   rw [unf];cases hf:(List.range (ch ks)).find? (hit many ch br j ks) with
   |none=>
    have hn:=List.find?_eq_none.mp hf;refine jt (Q:=λo=>Q4 false o=_) (WH 0 ((ch ks:Int)).toNat) (λi ρ=>∃ s5 s6 s7 s8,ρ=[.sh (.int (many:Int)),.sh C0,.sh C1,.sh (.list (ks.map PyData.int)),.ow ((List.range i).map (pap many ch br j ks)),s5,s6,s7,s8]) ⟨_,_,_,_,rfl⟩ ?_ ?_
    ·rintro i x ρ hx ⟨s5,s6,s7,s8,rfl⟩;obtain ⟨hi,rfl⟩:=jS hx;have hi':i<ch ks:=by omega
     obtain ⟨b1,b2⟩:=body i hi';have nh:hit many ch br j ks i=false:=by simpa using hn i (mem_range.mpr hi')
     have pa:(List.range (i+1)).map (pap many ch br j ks)=(List.range i).map (pap many ch br j ks)++[pap many ch br j ks i]:=by rw [List.range_succ,List.map_append];rfl
     try simp only [Pu.pwA,Int.zero_add,ct,b1,qhx,a7]
     have lr:((List.range i).map (pap many ch br j ks)).length<16777216:=by simp;omega
     cases hb:Z5 (br (ks++[(i:Int)])) with
     |true=>
      have hr:(sr many ch br j (ks++[(i:Int)])).1=false:=by unfold hit at nh;rw [hb] at nh;simpa using nh
      have pe:pap many ch br j ks i=(sr many ch br j (ks++[(i:Int)])).2:=by unfold pap;rw [if_pos hb]
      cases hs:EH (br (ks++[(i:Int)]))<;>try simp only [Pu.pwA,b2,srd,hr]
      all_goals rw [if_pos hb,if_neg (by decide)]
      all_goals try simp only [Pu.pwA,dm7]
      all_goals rw [DG (ds:=(List.range i).map (pap many ch br j ks)) rfl lr,pa,pe]
      all_goals exact ⟨_,_,_,_,rfl⟩
     |false=>
      have pe:pap many ch br j ks i=br (ks++[(i:Int)]):=by unfold pap;rw [hb];rfl
      cases hs:EH (br (ks++[(i:Int)]))<;>try simp only [Pu.pwA,b2,srd]
      all_goals rw [if_neg (by rw [hb];exact y6)]
      all_goals try simp only [Pu.pwA,dm7]
      all_goals rw [DG (ds:=(List.range i).map (pap many ch br j ks)) rfl lr,pa,pe]
      all_goals exact ⟨_,_,_,_,rfl⟩
    ·rintro ρ ⟨s5,s6,s7,s8,rfl⟩;rw [JJ]
     try simp only [Pu.pwA,Int.toNat_natCast,srd]
   |some n=>
    obtain ⟨hx,as,bs,e,ha⟩:=List.find?_eq_some_iff_append.mp hf;have at_:(List.range (ch ks))[as.length]?=some n:=by rw [e];simp
    have ne:as.length=n/\n<ch ks:=by
     obtain ⟨z1,z2⟩:=za4 at_;simp at z1 z2;omega
    have nb:∀ i,i<n->hit many ch br j ks i=false:=λi hi=>by
     have q:(List.range (ch ks))[i]?=some i:=by rw [List.getElem?_range (by omega)]
     rw [e,List.getElem?_append_left (by omega)] at q;simpa using ha i (v9 q)
    have hb':Z5 (br (ks++[(n:Int)]))=true/\(sr many ch br j (ks++[(n:Int)])).1=true:=by unfold hit at hx;simpa using hx
    refine KP (Q:=λo=>Q4 false o=_) (WH 0 ((ch ks:Int)).toNat) n (n:Int) (srd (true,(sr many ch br j (ks++[(n:Int)])).2)) false (by rw [qgx (by omega),Int.zero_add]) (λi ρ=>∃ s5 s6 s7 s8,ρ=[.sh (.int (many:Int)),.sh C0,.sh C1,.sh (.list (ks.map PyData.int)),.ow ((List.range i).map (pap many ch br j ks)),s5,s6,s7,s8]) ⟨_,_,_,_,rfl⟩ ?_ ?_ rfl
    ·rintro i x ρ hin hx ⟨s5,s6,s7,s8,rfl⟩;obtain ⟨hi,rfl⟩:=jS hx;have hi':i<ch ks:=by omega
     obtain ⟨b1,b2⟩:=body i hi';have nh:=nb i hin;have pa:(List.range (i+1)).map (pap many ch br j ks)=(List.range i).map (pap many ch br j ks)++[pap many ch br j ks i]:=by rw [List.range_succ,List.map_append];rfl
     try simp only [Pu.pwA,Int.zero_add,ct,b1,qhx,a7]
     have lr:((List.range i).map (pap many ch br j ks)).length<16777216:=by simp;omega
     cases hb:Z5 (br (ks++[(i:Int)])) with
     |true=>
      have hr:(sr many ch br j (ks++[(i:Int)])).1=false:=by unfold hit at nh;rw [hb] at nh;simpa using nh
      have pe:pap many ch br j ks i=(sr many ch br j (ks++[(i:Int)])).2:=by unfold pap;rw [if_pos hb]
      cases hs:EH (br (ks++[(i:Int)]))<;>try simp only [Pu.pwA,b2,srd,hr]
      all_goals rw [if_pos hb,if_neg (by decide)]
      all_goals try simp only [Pu.pwA,dm7]
      all_goals rw [DG (ds:=(List.range i).map (pap many ch br j ks)) rfl lr,pa,pe]
      all_goals exact ⟨_,_,_,_,rfl⟩
     |false=>
      have pe:pap many ch br j ks i=br (ks++[(i:Int)]):=by unfold pap;rw [hb];rfl
      cases hs:EH (br (ks++[(i:Int)]))<;>try simp only [Pu.pwA,b2,srd]
      all_goals rw [if_neg (by rw [hb];exact y6)]
      all_goals try simp only [Pu.pwA,dm7]
      all_goals rw [DG (ds:=(List.range i).map (pap many ch br j ks)) rfl lr,pa,pe]
      all_goals exact ⟨_,_,_,_,rfl⟩
    ·rintro ρ ⟨s5,s6,s7,s8,rfl⟩;obtain ⟨b1,b2⟩:=body n ne.2;obtain ⟨hb,hr⟩:=hb'
     try simp only [Pu.pwA,ct,b1,qhx,a7]
     cases hs:EH (br (ks++[(n:Int)]))<;>try simp only [Pu.pwA,b2,srd,hr]
     all_goals rw [if_pos hb]
     all_goals rfl
def Rw (b:Nat) (ks:List Int):Prop:=∀ m∈ks,0<=m/\m<2 ^ b
def CM {x:Int} {b:Nat} (h0:0<=x) (h:x<2 ^ b):Builtin.Int.intBits x<=b:=by
 unfold Builtin.Int.intBits;split
 ·omega
 ·rename_i c;have hx:x≠0:=by simpa using c
  have h2:x.natAbs<2 ^ b:=by
   have:((2 ^ b:Nat):Int)=2 ^ b:=by simp
   omega
  have:=(Nat.log2_lt (by omega:x.natAbs≠0)).mpr h2;omega
def qgM {b:Nat} {ks:List Int} (h:Rw b ks):0<=gr ks/\gr ks<2 ^ b:=by
 cases ks with
 |nil=>exact ⟨Int.le_refl 0,Int.pow_pos (by omega)⟩
 |cons m r=>exact h _ (WA (by simp))
def DQ {b:Nat} {ks:List Int}:0<=chn b ks/\chn b ks<=2 ^ b:=by
 have p:(0:Int)<2 ^ b:=Int.pow_pos (by omega);have q:(0:Int)<2 ^ Builtin.Int.intBits (gr ks):=Int.pow_pos (by omega);unfold chn;split<;>omega
def imd (r:Bool×PyData):PyData:=.tuple [.str (if r.1 then "image" else "none"),r.2]
def qoR {many b:Nat} {S:PyData} {xs:List Nat} (hm:many<=5) (hb:b<=9) (hs:qF [S]=some (.list (xs.map λx:Nat=>PyData.int (x:Int)))) (hn:∀ p,(sr many (λks=>(chn b ks).toNat) (λks=>tld (xs.find? (isl ks))) 6 [])=p->noC p.2=true) :
  qS [.int (many:Int),.int (b:Int),S]=some (imd (sr many (λks=>(chn b ks).toNat) (λks=>tld (xs.find? (isl ks))) 6 [])):=by
 have pb:(2:Int) ^ b<=512:=by
  have h1:2 ^ b<=2 ^ 9:=Nat.pow_le_pow_right (by omega) hb;have h3:((2 ^ b:Nat):Int)=2 ^ b:=by simp
  omega
 have A:=qoP (many:=many) (ch:=λks=>(chn b ks).toNat) (br:=λks=>tld (xs.find? (isl ks))) (C0:=C8 0 [.int (b:Int)]) (C1:=C8 1 [.list (xs.map λx:Nat=>PyData.int (x:Int))]) (Ok:=Rw b)
  (λks ok _=>by
   have c:=DQ (b:=b) (ks:=ks);have g:=qgM ok;rw [Fv0 (by omega) (u7 (CM g.1 g.2) (by omega)),Int.toNat_of_nonneg c.1])
  (λks ok=>Fv1 λm hm=>(ok m hm).1) (by omega) (λks=>by have c:=DQ (b:=b) (ks:=ks);omega)
  (λks i ok _ hi m hm=>by
   have c:=DQ (b:=b) (ks:=ks);rcases List.mem_append.mp hm with z|z
   ·exact ok m z
   ·obtain rfl:=List.mem_singleton.mp z;omega) 6 [] (λm hm=>by cases hm) (Nat.zero_le _) (by simp;omega)
 rw [List.map_nil] at A;generalize hr:sr many (λks=>(chn b ks).toNat) (λks=>tld (xs.find? (isl ks))) 6 []=r at A ⊢;have nc:=hn r hr;rw [SB];unfold ZE;have ns:noC (srd r)=true:=by unfold srd noC;exact YL (by unfold noC;rfl) nc
 have al:(xs.map λx:Nat=>PyData.int (x:Int)).all EH=true:=by
  rw [List.all_map];exact List.all_eq_true.mpr λ_ _=>rfl
 have e0:(qbd (qz (qX qF true) (qf (bV 2) qy)) 3 ⟨rfl⟩).f 1000000000 [.sh (.int (many:Int)),.sh (.int (b:Int)),.sh S,.un,.un,.un]=some (.nx [.sh (.int (many:Int)),.sh (.int (b:Int)),.sh S,.ow (xs.map λx:Nat=>PyData.int (x:Int)),.un,.un]):=by
  try simp only [Pu.pwA,qdm,hs]
  unfold MC;dsimp only;rw [if_pos al]
  try simp only [Pu.pwA]
 have e1:iso [.sh (.int (many:Int)),.sh (.int (b:Int)),.sh S,.ow (xs.map λx:Nat=>PyData.int (x:Int)),.un,.un]=[.sh (.int (many:Int)),.sh (.int (b:Int)),Sl.iso (.sh S),.sh (.list (xs.map λx:Nat=>PyData.int (x:Int))),.un,.un]:=by
  unfold iso;simp only [map_cons,List.map_nil];rw [show Sl.iso (.ow (xs.map λx:Nat=>PyData.int (x:Int)))=.sh (.list (xs.map λx:Nat=>PyData.int (x:Int))) from if_pos al];rfl
 rw [qjY];dsimp only;rw [e0,Option.bind_some,qmF,e1];generalize Sl.iso (.sh S)=z
 try simp only [Pu.pwA,qf8,qdV,A,ns,srd,imd]
 obtain ⟨k,p⟩:=r;cases k
 ·have n2:noC (.tuple [.str "none",p])=true:=ns
  try simp only [Pu.pwA]
  rw [if_pos n2]
  try simp only [Pu.pwA]
  try rw [if_pos (by decide)]
 ·have n2:noC (.tuple [.str "row",p])=true:=ns
  try simp only [Pu.pwA]
  rw [if_pos n2]
  try simp only [Pu.pwA]
  first|rfl|(rw [if_neg (by decide)];rfl)|(rw [if_neg (by decide)];try simp only [Pu.pwA])
theorem qb1 {many:Nat} {ch:List Int->Nat} {br:List Int->PyData} (hb:∀ ks,noC (br ks)=true):∀ (j:Nat) (ks:List Int),noC (sr many ch br j ks).2=true
 |0,ks=>by unfold sr noC;rfl
 |j+1,ks=>by
  unfold sr;split
  ·exact ZF
  ·split
   ·exact qb1 hb j _
   ·unfold noC;refine YK.mpr λd hd=>?_;obtain ⟨i,_,rfl⟩:=mem_map.mp hd;split
    ·exact qb1 hb j _
    ·exact hb _
def lv (st:List Int->List (List Int)):Nat->List (List Int)
 |0=>[[]]
 |t+1=>(lv st t).flatMap st
def dl (st:List Int->List (List Int)):Nat->List Int->List (List Int)
 |0,ks=>[ks]
 |t+1,ks=>(st ks).flatMap (dl st t)
theorem qju (st:List Int->List (List Int)):∀ (j t:Nat),(lv st t).flatMap (dl st j)=lv st (t+j)
 |0,t=>by
  have:dl st 0=λks=>[ks]:=funext λ_=>rfl;rw [this,List.flatMap_singleton'];rfl
 |j+1,t=>by
  have:dl st (j+1)=λks=>(st ks).flatMap (dl st j):=funext λ_=>rfl;rw [this,← List.flatMap_assoc,show (lv st t).flatMap st=lv st (t+1) from rfl,qju st j (t+1)];congr 1;omega
def qmV (st:List Int->List (List Int)) (j:Nat):dl st j []=lv st j:=by
 have:=qju st j 0;rw [show lv st 0=[[]] from rfl,Nat.zero_add] at this;simpa using this
theorem qb7 {α β γ:Type} (p:α->Bool) (g:α->β) (f:β->List γ):∀ xs:List α,(((xs.filter p).map g).flatMap f).head?=(xs.find? λi=>p i&&(f (g i)).head?.isSome).bind λi=>(f (g i)).head?
 |[]=>rfl
 |x::r=>by
  have ih:=qb7 p g f r;by_cases hp:p x=true
  ·rw [List.filter_cons_of_pos hp,map_cons,List.flatMap_cons,List.head?_append,List.find?_cons];cases hh:(f (g x)).head? with
   |some y=>simp [hp,hh]
   |none=>simp [hp,ih]
  ·rw [List.filter_cons_of_neg hp,List.find?_cons];simp only [Bool.not_eq_true] at hp;simp [hp,ih]
def stp (ch:List Int->Nat) (br:List Int->PyData) (ks:List Int):List (List Int):=((List.range (ch ks)).filter λi:Nat=>Z5 (br (ks++[(i:Int)]))).map λi:Nat=>ks++[(i:Int)]
theorem qkR {many:Nat} {ch:List Int->Nat} {br:List Int->PyData}:∀ (m j:Nat) (ks:List Int),ks.length+m=many->m<j ->
  (sr many ch br j ks).1=(dl (stp ch br) m ks).head?.isSome/\∀ r,(dl (stp ch br) m ks).head?=some r->(sr many ch br j ks).2=.list (r.map PyData.int)
 |0,j+1,ks,hk,_=>by
  rw [sr,if_pos (by omega)];exact ⟨rfl,λr hr=>by cases hr;rfl⟩
 |m+1,j+1,ks,hk,hj=>by
  have ih:∀ i:Nat,_:=λi=>qkR (many:=many) (ch:=ch) (br:=br) m j (ks++[(i:Int)]) (by simp;omega) (by omega);rw [sr,if_neg (by omega)];have e:(dl (stp ch br) (m+1) ks).head?=((List.range (ch ks)).find? λi:Nat=>Z5 (br (ks++[(i:Int)]))&&(sr many ch br j (ks++[(i:Int)])).1).bind λi=>(dl (stp ch br) m (ks++[(i:Int)])).head?:=by
   show ((stp ch br ks).flatMap (dl (stp ch br) m)).head?=_;unfold stp;rw [qb7];simp only [ih];rfl
  rw [e];cases hf:(List.range (ch ks)).find? λi:Nat=>Z5 (br (ks++[(i:Int)]))&&(sr many ch br j (ks++[(i:Int)])).1 with
  |none=>exact ⟨rfl,λr hr=>by cases hr⟩
  |some i=>
   have hi:=List.find?_some hf;simp only [Bool.and_eq_true] at hi;simp only [Option.bind_some];exact ⟨by rw [← (ih i).1,hi.2],λr hr=>(ih i).2 r hr⟩
def qdu {α:Type} (xs:List α) (k:Nat):NM xs (some (k:Int)) none=xs.drop k:=by
 unfold NM;rw [HT.qhc,HT.qdi,List.take_of_length_le (by simp)];by_cases c:k<=xs.length
 ·rw [Nat.min_eq_left c]
 ·rw [Nat.min_eq_right (by omega),List.drop_of_length_le (v5 _),List.drop_of_length_le (by omega)]
def qos {α:Type} (xs:List α):NM xs (some (1:Int)) none=xs.drop 1:=qdu xs 1
def spd (ss:List (List Int)):PyData:=.list (ss.map λs=>PyData.list (s.map PyData.int))
def aw (ss:List (List Int)):List Int:=ss.flatMap λs=>(fl s).drop 1
def Sps (ss:List (List Int)):Prop:=ss.length<=4/\∀ s∈ss,s.length<=3/\∀ m∈s,0<=m
theorem SZ {k n:Nat}:∀ {ss:List (List Int)},ss.length<=n->(∀ s∈ss,s.length<=k)->(aw ss).length<=n*2 ^ k
 |[],_,_=>Nat.zero_le _
 |s::r,h,hs=>by
  obtain ⟨n,rfl⟩:∃ m,n=m+1:=⟨n-1,by simp at h;omega⟩
  have ih:=SZ (k:=k) (n:=n) (ss:=r) (by simp at h;omega) λx hx=>hs x (by simp [hx]);have l:=SU s.length s rfl;have p:2 ^ s.length<=2 ^ k:=Nat.pow_le_pow_right (by omega) (hs s (by simp));rw [show aw (s::r)=(fl s).drop 1++aw r from List.flatMap_cons,length_append,List.length_drop,Nat.succ_mul];omega
def qoc {ss:List (List Int)} (h:Sps ss):qF [spd ss]=some (.list ((aw ss).map PyData.int)):=by
 have l:=SZ h.1 λs hs=>(h.2 s hs).1;rw [CT]
 try simp only [Pu.pwA,jZ,spd]
 rw [qgy (ds:=ss.map λs=>PyData.list (s.map PyData.int)) (fs:=(aw ss).map PyData.int)]
 ·try simp only [Pu.pwA]
 ·try simp only [Pu.pwA]
 ·have e:(aw ss).map PyData.int=ss.flatMap λs=>((fl s).drop 1).map PyData.int:=by unfold aw;rw [List.map_flatMap]
  rw [e];refine qcX λs hs=>?_
  try simp only [Pu.pwA,qjA,qoL (ks:=s) (by have:=(h.2 s hs).1;omega),qkh,qos]
  rw [← List.map_drop,V5 (k:=PyData.int) λq hq=>?_]
  ·try simp only [Pu.pwA]
  ·try simp only [Pu.pwA,S0]
 ·rw [length_map];omega
theorem qbm:∀ l:List Int,(dd l).length<=l.length
 |[]=>v5 _
 |x::r=>by
  have:=qbm r;unfold dd;split
  ·simp;omega
  ·simp;omega
def bd (ss:List (List Int)):List Int:=srt (dd (aw ss))
def W9 {ss:List (List Int)} {x:Int}:x∈bd ss↔x∈aw ss:=by
 unfold bd;rw [(CG _).mem_iff,RC]
def qi8 {ss:List (List Int)} (h:Sps ss):zW [spd ss]=some (.list ((bd ss).map PyData.int)):=by
 have l:=SZ h.1 λs hs=>(h.2 s hs).1;rw [M0]
 try simp only [Pu.pwA,YI,spd]
 refine jt (Q:=λo=>Q4 true o=_) ss (λi ρ=>∃ s2,ρ=[.sh (spd ss),.ow ((aw (ss.take i)).map PyData.int),s2]) ⟨_,rfl⟩ ?_ ?_
 ·rintro i s ρ hs ⟨s2,rfl⟩;have hm:=v9 hs;have l2:=SZ (n:=4) (k:=3) (ss:=ss.take i) (by rw [List.length_take];have:=h.1;omega) λs hs=>(h.2 s (List.mem_of_mem_take hs)).1;have l3:=SU s.length s rfl;have l4:2 ^ s.length<=2 ^ 3:=Nat.pow_le_pow_right (by omega) (h.2 s hm).1;have tk:aw (ss.take (i+1))=aw (ss.take i)++(fl s).drop 1:=by rw [List.take_succ,hs];simp [aw]
  try simp only [Pu.pwA,qod (ks:=s) (by have:=(h.2 s hm).1;omega) (h.2 s hm).2,qkh,qos]
  have ex:qjg 1 (.list (((fl s).map PyData.int).drop 1)) [.sh (spd ss),.ow ((aw (ss.take i)).map PyData.int),.sh (.list (s.map PyData.int))]=some (.nx [.sh (spd ss),.ow ((aw (ss.take (i+1))).map PyData.int),.sh (.list (s.map PyData.int))]):=by
   rw [tk,List.map_append,List.map_drop];have le:((aw (ss.take i)).map PyData.int).length+(((fl s).map PyData.int).drop 1).length<=sizeLine:=by
    simp only [length_map,List.length_drop,y8];omega
   exact qT le
  rw [ex];exact ⟨_,rfl⟩
 ·rintro ρ ⟨s2,rfl⟩;rw [List.take_length];have e:qaY (.list ((aw ss).map PyData.int))=some (.list ((bd ss).map PyData.int)):=by
   have:=qbm (aw ss);unfold qaY;simp only [DO,Option.bind_some];exact qT ⟨by omega,by omega⟩
  try simp only [Pu.pwA,qgr,e]
  try rfl
def jV {x:Int} {b:Nat} (h0:0<=x):Builtin.Int.intBits x<=b↔x<2 ^ b:=by
 refine ⟨λh=>?_,CM h0⟩;have p:(0:Int)<2 ^ b:=Int.pow_pos (by omega);unfold Builtin.Int.intBits at h;split at h
 ·rename_i c;have:x=0:=by simpa using c
  omega
 ·rename_i c;have hx:x≠0:=by simpa using c
  have:x.natAbs<2 ^ b:=(Nat.log2_lt (by omega)).mp (by omega);have:((2 ^ b:Nat):Int)=2 ^ b:=by simp
  omega
def qnv {ks:List Int} (hk:∀ m∈ks,0<=m):mx (ks++[0])=gr ks:=by
 have h1:mx (ks++[0])∈ks++[0]:=WA (by simp);have h0:0<=mx (ks++[0]):=TL (by simp);cases ks with
 |nil=>rfl
 |cons a r=>
  unfold gr;simp only;have h3:mx (a::r)∈a::r:=WA (by simp);have h4:mx (a::r)<=mx (a::r++[0]):=TL (List.mem_append.mpr (.inl h3));rcases List.mem_append.mp h1 with z|z
  ·have:=TL z;omega
  ·have:=List.mem_singleton.mp z;have:=hk _ h3;omega
def la (t:Nat) (ks:List Int):Int:=if (2:Int) ^ t-1<2 ^ Builtin.Int.intBits (gr ks) then 2 ^ t-1 else 2 ^ Builtin.Int.intBits (gr ks)
def qfC {t:Nat} {ks:List Int} (hk:∀ m∈ks,0<=m) (hl:ks.length<=1000) (hb:Builtin.Int.intBits (gr ks)<=6) (ht:t<=8):zg [.list (ks.map PyData.int),.int (t:Int)]=some (.int (la t ks)):=by
 have g0:0<=gr ks:=by cases ks with
  |nil=>exact Int.le_refl 0
  |cons a r=>exact hk _ (WA (by simp))
 have ct:qaX (.list (ks.map PyData.int)) (.list [.int 0])=some (.list ((ks++[0]).map PyData.int)):=by
  rw [qff (by simp;omega)];simp
 have em:mxD [.list ((ks++[0]).map PyData.int)]=some (.int (gr ks)):=by rw [qmO (by simp),qnv hk]
 rw [TH]
 try simp (disch:=omega) only [Pu.pwA,JK,ct,em,qfe]
 refine jt (Q:=λo=>Q4 false o=_) (WH 0 (6:Int).toNat) (λi ρ=>∃ s3 v,v=2 ^ min i (Builtin.Int.intBits (gr ks))/\ρ=[.sh (.list (ks.map PyData.int)),.sh (.int (t:Int)),.sh (.int v),s3]) ⟨_,1,by rw [Nat.zero_min];rfl,rfl⟩ ?_ ?_
 ·rintro i x ρ hx ⟨s3,v,rfl,rfl⟩;obtain ⟨hi,rfl⟩:=jS hx
  try simp only [Pu.pwA,ct,em]
  have pw:=p2 (show min i (Builtin.Int.intBits (gr ks))<=8 by omega);have e4:cI EF (·*·) (.int 2) (.int (2 ^ min i (Builtin.Int.intBits (gr ks))))=some (.int (2*(2 ^ min i (Builtin.Int.intBits (gr ks))))):=LG (by omega);rcases Nat.lt_or_ge i (Builtin.Int.intBits (gr ks)) with c|c
  ·have ge:¬ gr ks<2 ^ i:=λz=>by have:=(jV g0).mpr z;omega
   have mi:min i (Builtin.Int.intBits (gr ks))=i:=by omega
   rw [mi] at e4 ⊢;have d1:decide ((2:Int) ^ i<=gr ks)=true:=za2 (by omega)
   try simp only [Pu.pwA,d1,e4]
   refine ⟨_,_,?_,rfl⟩;rw [show min (i+1) (Builtin.Int.intBits (gr ks))=i+1 by omega,Int.pow_succ,Int.mul_comm (2 ^ i) 2]
  ·have lt:gr ks<2 ^ Builtin.Int.intBits (gr ks):=(jV g0).mp (v5 _);have mi:min i (Builtin.Int.intBits (gr ks))=Builtin.Int.intBits (gr ks):=by omega
   rw [mi];have d1:decide ((2:Int) ^ Builtin.Int.intBits (gr ks)<=gr ks)=false:=za1 (by omega)
   try simp only [Pu.pwA,d1]
   refine ⟨_,_,?_,rfl⟩;rw [show min (i+1) (Builtin.Int.intBits (gr ks))=Builtin.Int.intBits (gr ks) by omega]
 ·rintro ρ ⟨s3,v,rfl,rfl⟩;rw [JJ,show min (6:Int).toNat (Builtin.Int.intBits (gr ks))=Builtin.Int.intBits (gr ks) by omega]
  try simp only [Pu.pwA,RM ht]
  rfl
def qo0 {ks:List Int} {xs:List Int} (hl:ks.length<=8) (hx:∀ x∈xs,0<=x) (lx:xs.length<=1000000):zR [.list (xs.map PyData.int),.list (ks.map PyData.int)]=some (.bool (xs.all λx=>!decide (nm x.toNat ks=0))):=by
 rw [CO]
 try simp only [Pu.pwA,jU]
 rw [DY (ds:=xs.map PyData.int) (fs:=(xs.map λx=>!decide (nm x.toNat ks=0)).map PyData.bool)]
 ·try simp only [Pu.pwA,qcc,List.all_map]
  rfl
 ·try simp only [Pu.pwA]
 ·rw [map_map];refine V5 λx h=>?_;have:=hx x h;have e:=qnT (ks:=ks) (x:=x.toNat) hl;rw [Int.toNat_of_nonneg this] at e
  try simp only [Pu.pwA,S0,e,Function.comp_def]
  try rfl
 ·simp only [length_map];omega
def rwd (r:List Int):PyData:=.list (r.map PyData.int)
def SA {x b:Nat}:Builtin.Int.intBits (x:Int)<=b↔x<2 ^ b:=by
 have h3:((2 ^ b:Nat):Int)=2 ^ b:=by simp
 rw [jV (by omega)];omega
def brX (xs:List Nat) (ks:List Int):PyData:=tld (xs.find? (isl ks))
def chX (b:Nat) (ks:List Int):Nat:=(chn b ks).toNat
def L4 {xs:List Nat} {r:List Int}:Z5 (brX xs r)=xs.all λx=>!isl r x:=by
 unfold brX;cases h:xs.find? (isl r) with
 |none=>
  have hn:=List.find?_eq_none.mp h;rw [show (xs.all λx=>!isl r x)=true from List.all_eq_true.mpr λx hx=>by simpa using hn x hx];rfl
 |some x=>
  have h1:=List.find?_some h;have h2:=List.mem_of_find?_eq_some h;cases e:xs.all λx=>!isl r x with
  |false=>rfl
  |true=>have:=List.all_eq_true.mp e x h2;rw [h1] at this;cases this
def TW {t:Nat} {ks:List Int} (h:Rw t ks):Builtin.Int.intBits (gr ks)<=t:=by
 have g:=qgM h;exact CM g.1 g.2
def qez {b:Nat} {ks:List Int}:(chX b ks:Int)=la b ks+1:=by
 have c:=DQ (b:=b) (ks:=ks);unfold chX la;rw [Int.toNat_of_nonneg c.1];unfold chn;split<;>split<;>omega
def RY {b t:Nat} {ks:List Int} (h:Rw t ks):chX b ks<=2 ^ b/\chX b ks<=2 ^ t+1:=by
 have c:=DQ (b:=b) (ks:=ks);have h3:((2 ^ b:Nat):Int)=2 ^ b:=by simp
 have p:2 ^ Builtin.Int.intBits (gr ks)<=2 ^ t:=Nat.pow_le_pow_right (by omega) (TW h);have h4:((2 ^ Builtin.Int.intBits (gr ks):Nat):Int)=2 ^ Builtin.Int.intBits (gr ks):=by simp
 unfold chX;refine ⟨by omega,?_⟩;unfold chn at c ⊢;split<;>omega
theorem D9 {b:Nat} {br:List Int->PyData}:∀ {t:Nat} {r:List Int},r∈lv (stp (chX b) br) t->r.length=t/\Rw b r/\Rw t r
 |0,r,h=>by
  unfold lv at h;obtain rfl:=List.mem_singleton.mp h;exact ⟨rfl,λm hm=>(by cases hm),λm hm=>(by cases hm)⟩
 |t+1,r,h=>by
  unfold lv at h;obtain ⟨q,hq,hr⟩:=List.mem_flatMap.mp h;obtain ⟨h1,h2,h3⟩:=D9 hq;unfold stp at hr;obtain ⟨i,hi,rfl⟩:=mem_map.mp hr;have hi:=mem_range.mp (List.mem_filter.mp hi).1;have hc:=RY (b:=b) h3;have e1:((2 ^ b:Nat):Int)=2 ^ b:=by simp
  have e2:((2 ^ t:Nat):Int)=2 ^ t:=by simp
  have e3:(2:Int) ^ (t+1)=2 ^ t*2:=Int.pow_succ ..;have e4:(0:Int)<2 ^ t:=Int.pow_pos (by omega);refine ⟨by simp [h1],λm hm=>?_,λm hm=>?_⟩
  ·rcases List.mem_append.mp hm with z|z
   ·exact h2 m z
   ·obtain rfl:=List.mem_singleton.mp z;omega
  ·rcases List.mem_append.mp hm with z|z
   ·have:=h3 m z;omega
   ·obtain rfl:=List.mem_singleton.mp z;omega
theorem qgl {α β:Type} {f:α->List β} {n:Nat}:∀ {xs:List α},(∀ x∈xs,(f x).length<=n)->(xs.flatMap f).length<=xs.length*n
 |[],_=>by simp
 |x::r,h=>by
  have:=qgl (f:=f) (n:=n) (xs:=r) λy hy=>h y (by simp [hy]);have:=h x (by simp);rw [List.flatMap_cons,length_append,length_cons,Nat.succ_mul];omega
def L0 {b t:Nat} {br:List Int->PyData} {r:List Int} (h:Rw t r) (ht:t<=4):(stp (chX b) br r).length<=17:=by
 have hc:=(RY (b:=b) h).2;have p:2 ^ t<=2 ^ 4:=Nat.pow_le_pow_right (by omega) ht;have:=List.length_filter_le (λi:Nat=>Z5 (br (r++[(i:Int)]))) (List.range (chX b r));unfold stp;rw [length_map];rw [length_range] at this;omega
theorem qfw {b:Nat} {br:List Int->PyData}:∀ {t:Nat},t<=5->(lv (stp (chX b) br) t).length<=17 ^ t
 |0,_=>v5 _
 |t+1,h=>by
  have ih:=qfw (b:=b) (br:=br) (t:=t) (by omega);have:=qgl (f:=stp (chX b) br) (n:=17) (xs:=lv (stp (chX b) br) t) λr hr=>L0 (D9 hr).2.2 (by omega);show ((lv (stp (chX b) br) t).flatMap (stp (chX b) br)).length<=_;rw [Nat.pow_succ];have:=Nat.mul_le_mul_right 17 ih;omega
def axs (ss:List (List Int)):List Nat:=(aw ss).map Int.toNat
def prt (t:Nat) (x:Int):Bool:=decide ((2:Int) ^ t<=x)&&decide (x<2 ^ (t+1))
def qiE {ss:List (List Int)} (hx:∀ x∈aw ss,0<x) {t:Nat} {r:List Int} (hr:r.length=t+1):(((bd ss).filter (prt t)).all λx=>!decide (nm x.toNat r=0))=Z5 (brX (axs ss) r):=by
 rw [L4,List.all_filter];unfold axs;rw [List.all_map];refine Bool.eq_iff_iff.mpr ?_;rw [List.all_eq_true,List.all_eq_true];have key:∀ x∈aw ss,(!prt t x||!decide (nm x.toNat r=0))=!isl r x.toNat:=λx h=>by
  have:=hx x h;unfold isl prt;rw [Int.toNat_of_nonneg (by omega),← Bool.not_and];congr 2;have b1:=jV (x:=x) (b:=t) (by omega);have b2:=jV (x:=x) (b:=t+1) (by omega);refine Bool.eq_iff_iff.mpr ?_;simp only [Bool.and_eq_true,decide_eq_true_eq];omega
 exact ⟨λh x hx=>by rw [Function.comp,← key x hx];exact h x (W9.mpr hx),λh x hx=>by rw [key x (W9.mp hx)];exact h x (W9.mp hx)⟩
def CS {neg:Bool} {n:Int} {ms:List Int}:inD neg (.int n) (.list (ms.map PyData.int))=some (.bool (if neg then !(ms.any (·==n)) else ms.any (·==n))):=by
 refine (qT ⟨rfl,by simp [KM]⟩).trans ?_;rw [List.any_map];rfl
def Spn (w:Nat) (s:List Int):Prop:=s.length<=3/\(∀ m∈s,0<=m/\m<2 ^ w)/\∀ x∈(fl s).drop 1,x≠0
def qgg {w:Nat}:Spn w []:=⟨by simp,by simp,by simp [fl]⟩
def qc6 {w i:Nat} {s:List Int} {m:Int} (h:Spn w s) (hi:i<3) (hl:s.length<=i) (m0:0<=m) (m1:m<2 ^ w) (hm:¬ m∈fl s):Spn w (s++[m]):=by
 obtain ⟨_,h2,h3⟩:=h;have nn:=qc1 s.length s rfl λm hm=>(h2 m hm).1;refine ⟨by simp;omega,λx hx=>?_,λx hx=>?_⟩
 ·rcases List.mem_append.mp hx with hx|hx
  ·exact h2 x hx
  ·rw [List.mem_singleton.mp hx];exact ⟨m0,m1⟩
 ·obtain ⟨r,e⟩:=qoX s.length s rfl;have ex:(fl (s++[m])).drop 1=(fl s).drop 1++(fl s).map λf=>Builtin.bitXor f m:=by rw [YE,e];rfl
  rw [ex] at hx;rcases List.mem_append.mp hx with hx|hx
  ·exact h3 x hx
  ·obtain ⟨f,hf,rfl⟩:=mem_map.mp hx;intro z;refine hm ?_;have:f=m:=qb3 (nn f hf) m0 m0 (by rw [z,PyProof.Rows.bitXor_self]);exact this▸hf
def qhs {w n:Nat} {Q:QD} (hn:n<900000) (hw1:1<=w) (hw:w<=8) (h:∀ ss:List (List Int),ss.length<=4->(∀ s∈ss,Spn w s)->Q (spd ss) (n+17)):jc.W [.int (w:Int)] n Q:=by
 have pw:=p2 hw;have pw2:(2:Int)<=2 ^ w:=by
  obtain ⟨v,rfl⟩:∃ v,w=v+1:=⟨w-1,by omega⟩
  have:=p2 (show v<=8 by omega);rw [Int.pow_succ];omega
 rw [RO];refine ⟨rfl,?_⟩;unfold QV;refine Y9 λY1 h1=>?_
 try simp only [Pu.pwA]
 rw [h1];refine Y9 λY2 h2=>?_
 try simp only [Pu.pwA]
 refine ⟨by omega,by omega,λc c0 c1=>?_⟩
 try simp (disch:=omega) only [Pu.pwA,qfe]
 refine CP (WH 0 c.toNat) QB.mn (λi ρ n'=>n'<=n+1+4*i/\∃ (ss:List (List Int)) (s3 s4 s5 s6:Sl),ρ=[.un,.sh (.int (w:Int)),.ow (ss.map λs=>PyData.list (s.map PyData.int)),s3,s4,s5,s6]/\ss.length=i/\∀ s∈ss,Spn w s) ⟨by omega,[],_,_,_,_,rfl,rfl,by simp⟩ ?_ ?_
 ·rintro i x ρ n' hx ⟨hn',ss,s3,s4,s5,s6,rfl,ls,hs⟩;obtain ⟨hi,rfl⟩:=jS hx;refine ⟨_,rfl,?_⟩;unfold QB;refine Y9 λY3 h3=>?_
  try simp only [Pu.pwA]
  rw [h3];refine Y9 λY4 h4=>?_
  try simp only [Pu.pwA]
  refine ⟨by omega,by omega,λe e0 e1=>?_⟩
  try simp (disch:=omega) only [Pu.pwA,qfe]
  refine CP (WH 0 e.toNat) j9.mn (λj ρ n2=>n2<=n'+1+j/\∃ (s:List Int) (s5 s6:Sl),ρ=[.un,.sh (.int (w:Int)),.ow (ss.map λs=>PyData.list (s.map PyData.int)),.sh (.int (0+(i:Int))),.ow (s.map PyData.int),s5,s6]/\s.length<=j/\Spn w s) ⟨by omega,[],_,_,rfl,v5 _,qgg⟩ ?_ ?_
  ·rintro j x ρ n2 hx ⟨hn2,s,s5,s6,rfl,lj,hsp⟩;obtain ⟨hj,rfl⟩:=jS hx;refine ⟨_,rfl,?_⟩;unfold j9;refine Y9 λY5 h5=>?_
   try simp only [Pu.pwA,RM hw]
   refine ⟨by omega,by omega,λm0 a0 a1=>?_⟩;rw [h5]
   try simp only [Pu.pwA,qod (ks:=s) (by have:=hsp.1;omega) λm hm=>(hsp.2.1 m hm).1,CS]
   by_cases hm:(fl s).any (·==1+m0)=true
   ·try simp only [Pu.pwA,hm]
    exact ⟨by omega,s,_,_,rfl,by omega,hsp⟩
   ·simp only [Bool.not_eq_true] at hm;have hm2:¬ (1+m0)∈fl s:=λz=>by
     rw [List.any_eq_true.mpr ⟨_,z,by simp⟩] at hm;cases hm
    try simp only [Pu.pwA,hm]
    refine ⟨by have:=hsp.1;simp;omega,by omega,s++[1+m0],_,_,by rw [List.map_append];rfl,by simp;omega,qc6 hsp (by omega) lj (by omega) (by omega) hm2⟩
  ·rintro ρ n2 ⟨hn2,s,s5,s6,rfl,lj,hsp⟩;rw [JJ] at hn2;rw [h4]
   try simp only [Pu.pwA]
   refine ⟨by simp;omega,by omega,ss++[s],_,_,_,_,by rw [List.map_append];rfl,by simp [ls],λx hx=>?_⟩;rcases List.mem_append.mp hx with hx|hx
   ·exact hs x hx
   ·rw [List.mem_singleton.mp hx];exact hsp
 ·rintro ρ n' ⟨hn',ss,s3,s4,s5,s6,rfl,ls,hs⟩;rw [JJ] at hn' ls
  try simp only [Pu.pwA,h2]
  exact ⟨n+17,by omega,h ss (by omega) hs⟩
def at8 {c:Int} (h0:0<=c) (h1:c<8):∃ v:Int,L2.atI [PyData.int 3,.int 3,.int 3,.int 3,.int 4,.int 4,.int 4,.int 5] c=some (.int v)/\3<=v/\v<=5:=by
 have:c=0\/c=1\/c=2\/c=3\/c=4\/c=5\/c=6\/c=7:=by omega
 rcases this with rfl|rfl|rfl|rfl|rfl|rfl|rfl|rfl<;>exact ⟨_,rfl,by omega,by omega⟩
def at3 {c:Int} (h0:0<=c) (h1:c<3):∃ v:Int,L2.atI [PyData.int 3,.int 4,.int 6] c=some (.int v)/\3<=v/\v<=6:=by
 have:c=0\/c=1\/c=2:=by omega
 rcases this with rfl|rfl|rfl<;>exact ⟨_,rfl,by omega,by omega⟩
def qmw {n:Nat} {Q:QD} (hn:n<800000) (h:∀ (w b:Nat) (ss:List (List Int)),1<=w->w<=5->b<=5->ss.length<=4->(∀ s∈ss,Spn w s)->Q (.tuple [.int (w:Int),.int (b:Int),spd ss]) (n+21)):QK.W [] n Q:=by
 rw [M8];refine ⟨rfl,?_⟩;unfold VG;refine Y9 λY1 h1=>?_
 try simp only [Pu.pwA]
 refine ⟨by omega,by omega,λc c0 c1=>?_⟩;obtain ⟨v,ev,v0,v1⟩:=at8 c0 c1;refine ⟨_,ev,v,rfl,⟨by omega,by omega⟩,by omega,λw0 a0 a1=>?_⟩;obtain ⟨w,hw⟩:∃ w:Nat,1+w0=(w:Int):=⟨(1+w0).toNat,by omega⟩
 rw [hw,h1]
 try simp only [Pu.pwA]
 refine ⟨by omega,by omega,λe e0 e1=>?_⟩;obtain ⟨u,eu,u0,u1⟩:=at3 e0 e1;refine ⟨_,eu,u,rfl,⟨by omega,by omega⟩,by omega,λb0 b1 b2=>?_⟩;obtain ⟨b,rfl⟩:∃ b:Nat,b0=(b:Int):=⟨b0.toNat,by omega⟩
 refine qhs (by omega) (by omega) (by omega) λss ls hs=>?_
 try simp only [Pu.pwA]
 exact ⟨n+21,by omega,h w b ss (by omega) (by omega) (by omega) ls hs⟩
def qfy (ds:List PyData) (k:Nat):enD k ds=(ds.zipIdx k).map λp=>PyData.tuple [.int (p.2:Int),p.1]:=by
 have:=qgY (λd:PyData=>d) ds k
 rwa [List.map_id'] at this
def TrP:Nat->PyData->Prop
 |0,d=>∃ n:Nat,d=.int (n:Int)
 |j+1,d=>(∃ n:Nat,d=.int (n:Int))\/∃ ds:List PyData,d=.tuple ds/\ds.length<=1000/\∀ e∈ds,TrP j e
def VD {j:Nat} {d:PyData} (h:TrP j d):(∃ n:Nat,d=.int (n:Int))\/∃ ds:List PyData,d=.tuple ds/\ds.length<=1000/\∃ m,j=m+1/\∀ e∈ds,TrP m e:=by
 cases j with
 |zero=>exact .inl h
 |succ j=>
  rcases h with h|⟨ds,h1,h2,h3⟩
  ·exact .inl h
  ·exact .inr ⟨ds,h1,h2,j,rfl,h3⟩
theorem qf7:∀ {j:Nat} {d:PyData},TrP j d->noC d=true
 |0,_,⟨n,e⟩=>by subst e;exact YF
 |j+1,d,h=>by
  rcases h with ⟨n,rfl⟩|⟨ds,rfl,_,h⟩
  ·exact YF
  ·unfold noC;exact YK.mpr λe he=>qf7 (h e he)
def qdD (xs:List Nat) (r:List Int):PyData->Bool
 |.int n=>xs.any (λx=>(x:Int)==n)&&isl r n.toNat
 |_=>false
def arm (xs:List Nat) (w:Nat) (r:List Int) (f:List Int->PyData->Bool) (d:PyData):Bool:=qdD xs r d||(decide (r.length≠w)&&f r d)
def brs (b w:Nat) (xs:List Nat):Nat->List Int->PyData->Bool
 |0,_,_=>false
 |j+1,ks,.tuple ds=>decide (ds.length=chX b ks)&&(ds.zipIdx 0).all λp=>arm xs w (ks++[(p.2:Int)]) (brs b w xs j) p.1
 |_+1,_,_=>false
def XV {b w:Nat} {xs:List Nat} {j:Nat} {ks:List Int} {n:Int}:brs b w xs j ks (.int n)=false:=by cases j<;>rfl
def qhj {neg:Bool} {n:Int} {xs:List Nat}:inD neg (.int n) (.list (xs.map λx:Nat=>PyData.int (x:Int)))=some (.bool (if neg then !(xs.any λx=>(x:Int)==n) else xs.any λx=>(x:Int)==n)):=by
 rw [EY,CS,List.any_map];rfl
def sIB:jN "int" "bool" = false:=by decide
def sII:jN "int" "int" = true:=by decide
def sTT:jN "tuple" "tuple" = true:=by decide
def sTI:jN "tuple" "int" = false:=by decide
def sIT:jN "int" "tuple" = false:=by decide
def qnJ {n:Int}:zM [.int n]=some (.bool true):=by
 rw [UX]
 try simp only [Pu.pwA,jE,sIB,sII]
def qko {ds:List PyData}:zM [.tuple ds]=some (.bool false):=by
 rw [UX]
 try simp only [Pu.pwA,jE,sTI]
def qmj {n:Int}:jg [.int n]=some (.bool true):=by
 rw [SH]
 try simp only [Pu.pwA,Q0,sIB,sII]
def qjE {ks:List Int} (hk:∀ m∈ks,0<=m) {xs:List Nat} {j:Nat} {d:PyData} (h:TrP j d):QE [.list (xs.map λx:Nat=>PyData.int (x:Int)),.list (ks.map PyData.int),d]=some (.bool (qdD xs ks d)):=by
 rw [N6];rcases VD h with ⟨n,rfl⟩|⟨ds,rfl,_⟩
 ·have e:=qlW (ks:=ks) (x:=n) hk
  try simp only [Pu.pwA,Z1,qnJ,qhj,qdD,Int.toNat_natCast]
  cases c:xs.any λx=>(x:Int)==(n:Int)
  ·try simp only [Pu.pwA]
  ·try simp only [Pu.pwA,e]
 ·try simp only [Pu.pwA,Z1,qko,qdD]
def FL2 {b:Nat} {ks:List Int} (hb:b<=1000) (h:Builtin.Int.intBits (gr ks)<=1000):qiy [.list (ks.map PyData.int),.int (b:Int)]=some (.int (chn b ks)):=by
 rw [qnx]
 try simp only [Pu.pwA,ql0,qnP hb h]
def FL3 {ks:List Int} (hk:∀ m∈ks,0<=m) {xs:List Nat} {j:Nat} {d:PyData} (h:TrP j d):qlc [.list (ks.map PyData.int),d,.list (xs.map λx:Nat=>PyData.int (x:Int))]=some (.bool (qdD xs ks d)):=by
 rw [qnA]
 try simp only [Pu.pwA,qlQ,qjE hk h]
def qjP {x y z:PyData} (hx:noC x=true) (hy:noC y=true) (hz:noC z=true):EN [x,y,z]=true:=by
 unfold EN;rw [hx,YL hy hz];rfl
def Fv2 {b:Nat} {ks:List Int} (hb:b<=1000) (h:Builtin.Int.intBits (gr ks)<=1000):Fv PhL (C8 2 [.int (b:Int)]) [.list (ks.map PyData.int)]=some (.int (chn b ks)):=by
 unfold Fv C8;simp only [cons_append,List.nil_append];rw [if_pos ⟨by decide,YL ZF YF⟩];show (some qiy).bind _=_;rw [Option.bind_some,FL2 hb h,Option.bind_some,if_pos YF]
def qeM {b:Bool}:noC (.bool b)=true:=by unfold noC;rfl
def Fv3 {ks:List Int} (hk:∀ m∈ks,0<=m) {xs:List Nat} {j:Nat} {d:PyData} (h:TrP j d):Fv PhL (C8 3 [.list (xs.map λx:Nat=>PyData.int (x:Int))]) [.list (ks.map PyData.int),d]=some (.bool (qdD xs ks d)):=by
 unfold Fv C8;simp only [cons_append,List.nil_append];rw [if_pos ⟨by decide,qjP ZF (qf7 h) (by rw [EY];exact ZF)⟩];show (some qlc).bind _=_;rw [Option.bind_some,FL3 hk h,Option.bind_some,if_pos qeM]
def qmb (b:Bool) (o:Option Ot) (I:Rho->Prop):Prop:=if b=true then Nx o I else o=some (.rt (.bool false) false)
def LV {α:Type} {gf:PyData->Option (List (Nat×PyData))} {bf:Rho->Option Ot} {g:α->PyData} {ρ:Rho} {F:Ot->Option Ot} {Q:Option Ot->Prop} (p:α->Bool) (xs:List α) (I:Nat->Rho->Prop) (h0:I 0 ρ)
  (hs:∀ i x ρ,xs[i]?=some x->I i ρ->qmb (p x) ((gf (g x)).bind λbs=>bf (jM ρ bs)) (I (i+1)))
  (ht:xs.all p=true->∀ ρ',I xs.length ρ'->Q (F (.nx ρ'))) (hf:xs.all p=false->Q (F (.rt (.bool false) false))):Q ((CK gf bf (xs.map g) ρ).bind F):=by
 cases h:xs.find? λx=>!p x with
 |none=>
  have hn:=List.find?_eq_none.mp h;refine jt xs I h0 (λi x ρ hx hI=>?_) (ht (List.all_eq_true.mpr λx hx=>by simpa using hn x hx));have:=hs i x ρ hx hI;rw [show p x=true by simpa using hn x (v9 hx)] at this;exact this
 |some y=>
  obtain ⟨hy,as,bs,e,ha⟩:=List.find?_eq_some_iff_append.mp h;have at_:xs[as.length]?=some y:=by rw [e];simp
  refine KP xs as.length y (.bool false) false at_ I h0 (λi x ρ hi hx hI=>?_) (λρ hI=>?_) (hf (by
   cases c:xs.all p with
   |false=>rfl
   |true=>have:=List.all_eq_true.mp c y (v9 at_);rw [this] at hy;cases hy))
  ·have:=hs i x ρ hx hI;rw [e,List.getElem?_append_left hi] at hx;rw [show p x=true by simpa using ha x (v9 hx)] at this;exact this
  ·have:=hs _ _ ρ at_ hI;rw [show p y=false by simpa using hy] at this;exact this
def qme {ks:List Int} (h:ks.length<=1000) (i:Nat):qaX (.list (ks.map PyData.int)) (.list [.int (i:Int)])=some (.list ((ks++[(i:Int)]).map PyData.int)):=by
 have mp:ks.map PyData.int++[PyData.int (i:Int)]=(ks++[(i:Int)]).map PyData.int:=by simp
 simp only [qaX,mp];exact qT (by rw [length_map,List.length_singleton,y8];omega)
def qa0 {b:Nat} {ks:List Int} {i:Nat} (hk:Rw b ks) (h:i<chX b ks):Rw b (ks++[(i:Int)]):=λx hx=>by
 have e5:((2 ^ b:Nat):Int)=2 ^ b:=by simp
 have hcx:=(RY (b:=b) hk).1;rcases List.mem_append.mp hx with z|z
 ·exact hk x z
 ·obtain rfl:=List.mem_singleton.mp z;omega
def qku {w b:Nat} {xs:List Nat} (hb:b<=9) (hw:w<=1000):∀ (j m:Nat) (ks:List Int) (d:PyData),Rw b ks->ks.length<=w->w<ks.length+j->TrP m d ->
  zq j [.int (w:Int),C8 2 [.int (b:Int)],C8 3 [.list (xs.map λx:Nat=>PyData.int (x:Int))],.list (ks.map PyData.int),d]=some (.bool (decide (ks.length≠w)&&brs b w xs j ks d)):=by
 intro j;induction j with
 |zero=>intro m ks d _ _ h _;omega
 |succ j ih=>
  intro m ks d hk hl hj ht;rw [NJ];have e0:((ks.length:Int)=(w:Int))↔ks.length=w:=by omega
  by_cases c:ks.length=w
  ·have e1:decide ((ks.length:Int)=(w:Int))=true:=za2 (e0.mpr c);have e2:decide (ks.length≠w)=false:=za1 (λz=>z c)
   try simp only [Pu.pwA,jJ,length_map,e1,e2]
  ·have e1:decide ((ks.length:Int)=(w:Int))=false:=za1 (λz=>c (e0.mp z));have e2:decide (ks.length≠w)=true:=za2 c;rcases VD ht with ⟨n,rfl⟩|⟨ds,rfl,hd,m',rfl,hm⟩
   ·try simp only [Pu.pwA,jJ,length_map,e1,XV,sIT]
   ·have g:=qgM hk;have cc:=DQ (b:=b) (ks:=ks);have f2:=Fv2 (b:=b) (ks:=ks) (by omega) (u7 (CM g.1 g.2) (by omega));have hlen:((ds.length:Int)=chn b ks)↔ds.length=chX b ks:=by unfold chX;omega
    by_cases c3:ds.length=chX b ks
    ·have e3:decide ((ds.length:Int)=chn b ks)=true:=za2 (hlen.mpr c3);have e4:decide (ds.length=chX b ks)=true:=za2 c3
     try simp only [Pu.pwA,jJ,length_map,e1,e2,e3,f2,sTT,qfy,qdt,K6]
     unfold brs;rw [e4];refine LV (Q:=λo=>Q4 false o=_) (λp:PyData×Nat=>arm xs w (ks++[(p.2:Int)]) (brs b w xs j) p.1) (ds.zipIdx 0) (λi ρ=>∃ s5 s6 s7,ρ=[.sh (.int (w:Int)),.sh (C8 2 [.int (b:Int)]),.sh (C8 3 [.list (xs.map λx:Nat=>PyData.int (x:Int))]),.sh (.list (ks.map PyData.int)),.sh (.tuple ds),s5,s6,s7]) ⟨_,_,_,rfl⟩ ?_ (λha=>?_) (λha=>by rw [ha];rfl)
     ·rintro i p ρ hp ⟨s5,s6,s7,rfl⟩;rw [List.getElem?_zipIdx] at hp;obtain ⟨e,he,rfl⟩:=za3 hp;have hi:=(za4 he).1;have hte:=hm e (v9 he);have hr:=qa0 (i:=i) hk (by omega);have g1:=Fv3 (xs:=xs) (λx hx=>(hr x hx).1) hte;have g2:=ih m' _ e hr (by simp;omega) (by simp;omega) hte
      try simp only [Pu.pwA,Nat.zero_add,qme (show ks.length<=1000 by omega),g1,g2,qdt,K6,arm]
      cases qdD xs (ks++[(i:Int)]) e with
      |true=>
       try simp only [Pu.pwA]
       exact ⟨_,_,_,rfl⟩
      |false=>
       try simp only [Pu.pwA,g2]
       cases decide ((ks++[(i:Int)]).length≠w)&&brs b w xs j (ks++[(i:Int)]) e with
       |true=>
        try simp only [Pu.pwA]
        exact ⟨_,_,_,rfl⟩
       |false=>
        try simp only [Pu.pwA]
        rfl
     ·rintro ρ ⟨s5,s6,s7,rfl⟩;rw [ha];rfl
    ·have e3:decide ((ds.length:Int)=chn b ks)=false:=za1 (λz=>c3 (hlen.mp z));have e4:decide (ds.length=chX b ks)=false:=za1 c3
     try simp only [Pu.pwA,jJ,length_map,e1,e2,e3,e4,f2,sTT,brs,qdt,K6]
def qc9 {xs:List Nat} {ks:List Int} {n:Nat}:isl ks n=(decide ((2:Int) ^ (ks.length-1)<=(n:Int))&&decide ((n:Int)<2*2 ^ (ks.length-1))&&decide (nm n ks=0))\/ks=[]:=by
 cases ks with
 |nil=>exact .inr rfl
 |cons a r=>
  refine .inl ?_;unfold isl;congr 1;have b1:=jV (x:=(n:Int)) (b:=r.length) (by omega);have b2:=jV (x:=(n:Int)) (b:=r.length+1) (by omega);rw [Int.pow_succ] at b2;rw [length_cons,Nat.add_sub_cancel];refine Bool.eq_iff_iff.mpr ?_;simp only [Bool.and_eq_true,decide_eq_true_eq];omega
def qlb {w b:Nat} {xs:List Nat} {bs:List Int} (hb:b<=6) (hw:w<=5) (hbs:∀ n:Nat,(bs.any (·==(n:Int)))=xs.any λx=>(x:Int)==(n:Int)):∀ (j m:Nat) (ks:List Int) (d:PyData),Rw b ks->ks.length<w->w<ks.length+j->TrP m d ->
  qU j [.int (w:Int),.int (b:Int),.list (bs.map PyData.int),.list (ks.map PyData.int),d]=some (.bool (brs b w xs j ks d)):=by
 intro j;induction j with
 |zero=>intro m ks d _ _ h _;omega
 |succ j ih=>
  intro m ks d hk hl hj ht;rw [K1];rcases VD ht with ⟨n,rfl⟩|⟨ds,rfl,hd,m',rfl,hm⟩
  ·try simp only [Pu.pwA,jC,XV,sIT]
  ·have lae:=qfC (t:=b) (ks:=ks) (λx hx=>(hk x hx).1) (by omega) (u7 (TW hk) (by omega)) (by omega);have cl:=qez (b:=b) (ks:=ks);have hlen:((ds.length:Int)=la b ks+1)↔ds.length=chX b ks:=by omega
   by_cases c3:ds.length=chX b ks
   ·have e3:decide ((ds.length:Int)=la b ks+1)=true:=za2 (hlen.mpr c3);have e4:decide (ds.length=chX b ks)=true:=za2 c3;have hcx:=(RY (b:=b) hk).1;have tw:=RM (t:=ks.length) (by omega)
    try simp only [Pu.pwA,jC,length_map,e3,lae,tw,sTT,qfy]
    unfold brs;rw [e4];have pw:=p2 (t:=ks.length) (by omega);have m2:cI EF (·*·) (.int 2) (.int (2 ^ ks.length))=some (.int (2*2 ^ ks.length)):=LG (by omega);refine LV (Q:=λo=>Q4 false o=_) (λp:PyData×Nat=>arm xs w (ks++[(p.2:Int)]) (brs b w xs j) p.1) (ds.zipIdx 0) (λi ρ=>∃ s6 s7 s8,ρ=[.sh (.int (w:Int)),.sh (.int (b:Int)),.sh (.list (bs.map PyData.int)),.sh (.list (ks.map PyData.int)),.sh (.tuple ds),.sh (.int (2 ^ ks.length)),s6,s7,s8]) ⟨_,_,_,rfl⟩ ?_ (λha=>?_) (λha=>by rw [ha];rfl)
    ·rintro i p ρ hp ⟨s5,s6,s7,rfl⟩;rw [List.getElem?_zipIdx] at hp;obtain ⟨e,he,rfl⟩:=za3 hp;have hi:=(za4 he).1;have hte:=hm e (v9 he);have hr:=qa0 (i:=i) hk (by omega);rcases VD hte with ⟨n,rfl⟩|⟨es,rfl,_⟩
     ·have is:=qc9 (xs:=xs) (ks:=ks++[(i:Int)]) (n:=n);rw [length_append,List.length_singleton,Nat.add_sub_cancel,or_iff_left (by simp)] at is;have ll:=qnT (ks:=ks++[(i:Int)]) (x:=n) (by simp;omega)
      try simp only [Pu.pwA,Nat.zero_add,qme (show ks.length<=1000 by omega),sIT,qmj,CS,hbs,arm,XV,Bool.and_false,Bool.or_false,qdD,Int.toNat_natCast,is]
      cases xs.any λx=>(x:Int)==(n:Int) with
      |false=>try simp only [Pu.pwA];rfl
      |true=>
       try simp only [Pu.pwA,m2,ll]
       cases decide ((2:Int) ^ ks.length<=(n:Int)) with
       |false=>try simp only [Pu.pwA];rfl
       |true=>
        try simp only [Pu.pwA]
        cases decide ((n:Int)<2*2 ^ ks.length) with
        |false=>try simp only [Pu.pwA];rfl
        |true=>
         try simp only [Pu.pwA,ll]
         cases decide (nm n (ks++[(i:Int)])=0) with
         |false=>try simp only [Pu.pwA];rfl
         |true=>try simp only [Pu.pwA];exact ⟨_,_,_,rfl⟩
     ·have ln:(((ks++[(i:Int)]).length:Nat):Int)=(w:Int)↔(ks++[(i:Int)]).length=w:=by omega
      try simp only [Pu.pwA,Nat.zero_add,qme (show ks.length<=1000 by omega),sTT,length_map,arm,qdD,Bool.false_or]
      by_cases c:(ks++[(i:Int)]).length=w
      ·rw [za2 (ln.mpr c),za1 (show ¬ (ks++[(i:Int)]).length≠w from λz=>z c)]
       try simp only [Pu.pwA]
       rfl
      ·have o2:=ih m' (ks++[(i:Int)]) (.tuple es) hr (by simp at c ⊢;omega) (by simp;omega) hte;rw [za1 (show ¬ (((ks++[(i:Int)]).length:Nat):Int)=(w:Int) from λz=>c (ln.mp z)),za2 (show (ks++[(i:Int)]).length≠w from c)]
       try simp only [Pu.pwA,o2]
       cases brs b w xs j (ks++[(i:Int)]) (.tuple es) with
       |true=>try simp only [Pu.pwA];exact ⟨_,_,_,rfl⟩
       |false=>try simp only [Pu.pwA];rfl
    ·rintro ρ ⟨s5,s6,s7,rfl⟩;rw [ha];rfl
   ·have e3:decide ((ds.length:Int)=la b ks+1)=false:=za1 (λz=>c3 (hlen.mp z));have e4:decide (ds.length=chX b ks)=false:=za1 c3
    try simp only [Pu.pwA,jC,length_map,e3,e4,lae,sTT,brs]
def qmJ (x:Int):Builtin.bitXor x 0=x:=by
 have r:=PyProof.Rows.bitAnd_range x (show (0:Int)<=0 by omega);rw [PyProof.Rows.bitXor_and];omega
theorem qj0 {b:Nat} (x:Nat):∀ (j:Nat) {ks:List Int},ks.length=j->Rw b ks->0<=nm x ks/\nm x ks<2 ^ b
 |0,ks,h,_=>by have:=List.length_eq_zero_iff.mp h;subst this;exact ⟨Int.le_refl 0,Int.pow_pos (by omega)⟩
 |j+1,ks,h,hk=>by
  obtain ⟨r,m,rfl,hl⟩:=Z2 h;have ih:=qj0 x j hl λy hy=>hk y (by simp [hy]);have hm:=hk m (by simp);rw [QY];have p:(0:Int)<2 ^ b:=Int.pow_pos (by omega);rcases Nat.mod_two_eq_zero_or_one (x/2 ^ r.length) with ha|ha<;>rw [ha]
  ·simpa [qmJ] using ih
  ·rw [show ((1:Nat):Int)=1 from rfl,Int.mul_one];exact ⟨(YS ih.1 hm.1).1,qbS b _ _ ih.1 ih.2 hm.1 hm.2⟩
def qm4 {b:Nat} {ks:List Int}:chX b ks<=2 ^ b:=by
 have c:=DQ (b:=b) (ks:=ks);have h3:((2 ^ b:Nat):Int)=2 ^ b:=by simp
 unfold chX;omega
def qnY {w j:Nat} {ch:List Int->Nat} {br:List Int->PyData} {ks:List Int} (h:ks.length=w):(sr w ch br (j+1) ks).1=true:=by
 rw [sr,if_pos h]
theorem qaj {w b:Nat} {xs:List Nat} (hb:b<=9):∀ (m j:Nat) (ks:List Int),ks.length+m=w->m<j->(sr w (chX b) (brX xs) j ks).1=false ->
  TrP m (sr w (chX b) (brX xs) j ks).2/\brs b w xs j ks (sr w (chX b) (brX xs) j ks).2=true
 |0,j+1,ks,hk,_,h=>by rw [qnY (by omega)] at h;cases h
 |m+1,j+1,ks,hk,hj,h=>by
  have c:¬ ks.length=w:=by omega
  have pb:2 ^ b<=2 ^ 9:=Nat.pow_le_pow_right (by omega) hb;have cb:=qm4 (b:=b) (ks:=ks);rw [sr,if_neg c] at h ⊢;cases hf:(List.range (chX b ks)).find? (λi:Nat=>Z5 (brX xs (ks++[(i:Int)]))&&(sr w (chX b) (brX xs) j (ks++[(i:Int)])).1) with
  |some i=>rw [hf] at h;cases h
  |none=>
   have hn:=List.find?_eq_none.mp hf;have key:∀ i,i<chX b ks->TrP m (pap w (chX b) (brX xs) j ks i)/\arm xs w (ks++[(i:Int)]) (brs b w xs j) (pap w (chX b) (brX xs) j ks i)=true:=λi hi=>by
    have n1:=hn i (mem_range.mpr hi);unfold pap arm;cases hz:Z5 (brX xs (ks++[(i:Int)])) with
    |true=>
     rw [hz,Bool.true_and,Bool.not_eq_true] at n1;have ne:(ks++[(i:Int)]).length≠w:=λz=>by
      obtain ⟨j',rfl⟩:∃ j',j=j'+1:=⟨j-1,by omega⟩
      rw [qnY z] at n1;cases n1
     have ih:=qaj hb m j (ks++[(i:Int)]) (by simp;omega) (by omega) n1;rw [if_pos rfl];exact ⟨ih.1,by rw [ih.2,za2 ne];simp⟩
    |false=>
     rw [if_neg (by simp)];unfold brX at hz ⊢;cases hf:xs.find? (isl (ks++[(i:Int)])) with
     |none=>rw [hf] at hz;cases hz
     |some x=>
      refine ⟨?_,?_⟩
      ·cases m with
       |zero=>exact ⟨x,rfl⟩
       |succ m=>exact .inl ⟨x,rfl⟩
      ·have e1:=List.find?_some hf;have e2:=List.mem_of_find?_eq_some hf;show (xs.any (λy=>(y:Int)==(x:Int))&&isl (ks++[(i:Int)]) (x:Int).toNat||_)=true;rw [Int.toNat_natCast,e1,List.any_eq_true.mpr ⟨x,e2,by simp⟩];rfl
   refine ⟨.inr ⟨_,rfl,by rw [length_map,length_range];omega,λe he=>?_⟩,?_⟩
   ·obtain ⟨i,hi,rfl⟩:=mem_map.mp he;exact (key i (mem_range.mp hi)).1
   ·unfold brs;rw [length_map,length_range,za2 rfl,Bool.true_and,List.all_eq_true];intro p hp;obtain ⟨q,hq⟩:=List.mem_iff_getElem?.mp hp;rw [List.getElem?_zipIdx,getElem?_map] at hq;obtain ⟨a,ha,rfl⟩:=za3 hq;obtain ⟨i,hi,rfl⟩:=za3 ha;obtain ⟨h1,h2⟩:=za4 hi;rw [List.getElem_range] at h2;subst h2;rw [length_range] at h1;simp only [Nat.zero_add];exact (key _ h1).2
def pwr (t:Nat):List Int:=(List.range t).map λi:Nat=>(2:Int) ^ i
def CF (t:Nat):pwr (t+1)=pwr t++[(2:Int) ^ t]:=by unfold pwr;rw [List.range_succ,List.map_append];rfl
def T6 (t:Nat):(pwr t).length=t:=by unfold pwr;rw [length_map,length_range]
theorem qfH:∀ t:Nat,Rw t (pwr t)
 |0=>λm hm=>by cases hm
 |t+1=>λm hm=>by
  rw [CF] at hm;have e3:(2:Int) ^ (t+1)=2 ^ t*2:=Int.pow_succ ..;have e4:(0:Int)<2 ^ t:=Int.pow_pos (by omega);rcases List.mem_append.mp hm with z|z
  ·have:=qfH t m z;omega
  ·obtain rfl:=List.mem_singleton.mp z;omega
def qdO:∀ t:Nat,t<=Builtin.Int.intBits (gr (pwr t))
 |0=>Nat.zero_le _
 |t+1=>by
  have h:(2:Int) ^ t<=gr (pwr (t+1)):=by
   have:(2:Int) ^ t∈pwr (t+1):=by rw [CF];simp
   cases h:pwr (t+1) with
   |nil=>rw [h] at this;cases this
   |cons a r=>rw [h] at this;exact TL this
  have p:(0:Int)<2 ^ t:=Int.pow_pos (by omega);have:=(jV (x:=gr (pwr (t+1))) (b:=t) (by omega)).mp;omega
theorem qfY {b:Nat} {xs:List Nat}:∀ {t:Nat},t<=b->pwr t∈lv (stp (chX b) (brX xs)) t
 |0,_=>by unfold lv;exact List.mem_singleton.mpr rfl
 |t+1,h=>by
  have ih:=qfY (b:=b) (xs:=xs) (t:=t) (by omega);unfold lv;refine List.mem_flatMap.mpr ⟨_,ih,?_⟩;unfold stp;have e2:((2 ^ t:Nat):Int)=2 ^ t:=by simp
  have e1:((2 ^ b:Nat):Int)=2 ^ b:=by simp
  refine mem_map.mpr ⟨2 ^ t,List.mem_filter.mpr ⟨mem_range.mpr ?_,?_⟩,by rw [CF,e2]⟩
  ·have p1:2 ^ t<=2 ^ Builtin.Int.intBits (gr (pwr t)):=Nat.pow_le_pow_right (by omega) (qdO t);have p2:2 ^ (t+1)<=2 ^ b:=Nat.pow_le_pow_right (by omega) h;have p3:0<2 ^ t:=Nat.pow_pos (by omega);rw [Nat.pow_succ] at p2;have h4:((2 ^ Builtin.Int.intBits (gr (pwr t)):Nat):Int)=2 ^ Builtin.Int.intBits (gr (pwr t)):=by simp
   unfold chX chn;split<;>omega
  ·rw [L4,List.all_eq_true];intro x _;unfold isl;rw [length_append,List.length_singleton,T6];by_cases c:(Builtin.Int.intBits (x:Int):Int)=((t+1:Nat):Int)
   ·rw [za2 c,Bool.true_and];have b1:=SA (x:=x) (b:=t);have b2:=SA (x:=x) (b:=t+1);have q1:2 ^ t<=x:=by omega
    have q2:x<2*2 ^ t:=by rw [Nat.pow_succ] at b2;omega
    have dv:x/2 ^ t=1:=(Nat.div_eq_iff (Nat.pow_pos (by omega))).mpr (by omega);have A:=qj0 x t (T6 t) (qfH t);rw [QY,T6,dv,show ((1%2:Nat):Int)=1 from rfl,Int.mul_one,e2];have p:(0:Int)<2 ^ t:=Int.pow_pos (by omega);rw [za1]
    ·rfl
    ·intro z;have:nm x (pwr t)=2 ^ t:=qb3 A.1 (by omega) (show (0:Int)<=2 ^ t by omega) (by rw [z,PyProof.Rows.bitXor_self]);omega
   ·rw [za1 c];rfl
def qnj {b:Nat} {P:Nat->Prop} (h:P b):∃ c,c<=b/\P c/\∀ d,d<c->¬ P d:=by
 induction b using Nat.strongRecOn with
 |ind b ih=>
  by_cases c:∃ d,d<b/\P d
  ·obtain ⟨d,h1,h2⟩:=c;obtain ⟨e,e1,e2⟩:=ih d h1 h2;exact ⟨e,by omega,e2⟩
  ·exact ⟨b,v5 _,h,λd hd hp=>c ⟨d,hd,hp⟩⟩
theorem qf4:∀ L:List (List Int),NZ (L.map rwd)<=1
 |[]=>Nat.zero_le _
 |r::L=>by
  have:=qf4 L;simp only [map_cons,NZ,rwd,dpt,qe5];omega
def qcJ (n:Bool) (L:List (List Int)):eqD n (.list (L.map rwd)) (.list [])=some (.bool (if n then !decide (L=[]) else decide (L=[]))):=by
 have h:qef (.list (L.map rwd)) (.list [])=none:=rfl;unfold eqD;rw [h];simp only;have:=qf4 L;rw [qT (by simp [dpt,NZ];omega)];cases L<;>simp [jQ,J6]
def qng {k:Nat}:∀ (n:Nat) (ks:List Int),ks.length=n->(∀ m∈ks,0<=m/\m<2 ^ k)->∀ f∈fl ks,f<2 ^ k:=by
 intro n;induction n with
 |zero=>
  intro ks h _ f hf;have:=List.eq_nil_of_length_eq_zero h;subst this;simp [fl] at hf;subst hf;exact Int.pow_pos (by omega)
 |succ n ih=>
  intro ks h hm f hf;obtain ⟨k',m,rfl,hl⟩:=Z2 h;have hm':∀ z∈k',0<=z/\z<2 ^ k:=λz hz=>hm z (by simp [hz]);rw [YE] at hf;rcases List.mem_append.mp hf with hf|hf
  ·exact ih k' hl hm' f hf
  ·obtain ⟨g,hg,rfl⟩:=mem_map.mp hf;have m0:=hm m (by simp);exact qbS k g m (qc1 n k' hl (λz hz=>(hm' z hz).1) g hg) (ih k' hl hm' g hg) m0.1 m0.2
def qny {w:Nat} {ss:List (List Int)} (hw:w<=8) (hs:∀ s∈ss,Spn w s):∀ x∈aw ss,0<x/\x<2 ^ w:=by
 intro x hx;obtain ⟨s,h,hm⟩:=List.mem_flatMap.mp hx;obtain ⟨h1,h2,h3⟩:=hs s h;have nn:=qc1 s.length s rfl (λm hm=>(h2 m hm).1) x (List.mem_of_mem_drop hm);have ne:=h3 x hm;exact ⟨by omega,by
  have:=qng (k:=w) s.length s rfl h2 x (List.mem_of_mem_drop hm);exact this⟩
def qaQ {ss:List (List Int)} (h:∀ x∈aw ss,0<=x):(axs ss).map (λx:Nat=>PyData.int (x:Int))=(aw ss).map PyData.int:=by
 unfold axs;rw [map_map];refine List.map_congr_left λx hx=>?_;show PyData.int ((x.toNat:Nat):Int)=_;rw [Int.toNat_of_nonneg (h x hx)]
def qoV {w b:Nat} {ss:List (List Int)} (hw:w<=5) (hb:b<=9) (h:Sps ss) (hx:∀ x∈aw ss,0<=x):qS [.int (w:Int),.int (b:Int),spd ss]=some (imd (sr w (chX b) (brX (axs ss)) 6 [])):=
 qoR (xs:=axs ss) hw hb (by rw [qoc h,qaQ hx]) λp hp=>by rw [← hp];exact qb1 (λks=>qa4) 6 []
def qhQ {w b m:Nat} {ss:List (List Int)} {d:PyData} (h1:1<=w) (hw:w<=5) (hb:b<=9) (h:Sps ss) (hx:∀ x∈aw ss,0<=x) (ht:TrP m d):qO [.int (w:Int),.int (b:Int),spd ss,d]=some (.bool (brs b w (axs ss) 6 [] d)):=by
 have A:=qku (w:=w) (b:=b) (xs:=axs ss) hb (by omega) 6 m [] d (λm hm=>by cases hm) (Nat.zero_le _) (by simp;omega) ht;rw [qaQ hx,List.map_nil] at A;rw [za2 (show ([]:List Int).length≠w by simp;omega),Bool.true_and] at A;rw [VX];unfold zK;have nb:noC (.bool (brs b w (axs ss) 6 [] d))=true:=qeM
 try simp only [Pu.pwA,qoc h,qf8,qdV,A,nb]
 try (rw [if_pos nb];try simp only [Pu.pwA])
def qjS {ss:List (List Int)} (hx:∀ x∈aw ss,0<=x) (n:Nat):((bd ss).any (·==(n:Int)))=(axs ss).any λx=>(x:Int)==(n:Int):=by
 refine Bool.eq_iff_iff.mpr ?_;rw [List.any_eq_true,List.any_eq_true];constructor
 ·rintro ⟨x,h1,h2⟩;have h3:=W9.mp h1;exact ⟨x.toNat,List.mem_map_of_mem h3,by rw [Int.toNat_of_nonneg (hx x h3)];exact h2⟩
 ·rintro ⟨x,h1,h2⟩;obtain ⟨y,h3,rfl⟩:=mem_map.mp h1;rw [Int.toNat_of_nonneg (hx y h3)] at h2;exact ⟨y,W9.mpr h3,h2⟩
def frD (L:List (List Int)):PyData:=match L.head? with
 |some r=>rwd r
 |none=>.none
def qiR {w b:Nat} {ss:List (List Int)} (hw:w<=5) (hb:b<=8) (h:Sps ss) (hx:∀ x∈aw ss,0<x):qG [.int (w:Int),.int (b:Int),.list ((bd ss).map PyData.int)]=some (frD (lv (stp (chX b) (brX (axs ss))) w)):=by
  have lb:(bd ss).length<=32:=by
    have:=qbm (aw ss);have:=SZ h.1 λs hs=>(h.2 s hs).1;unfold bd;rw [(CG _).length_eq];omega
  rw [U7]
  try simp (disch:=omega) only [Pu.pwA,zV,qfe]
  refine jt (Q:=λo=>Q4 false o=_) (WH 0 ((w:Int)).toNat) (λi ρ=>∃ s3 s4 s5 s6 s7 s8,(s3=Sl.ow ((lv (stp (chX b) (brX (axs ss))) i).map rwd)\/s3=Sl.sh (.list ((lv (stp (chX b) (brX (axs ss))) i).map rwd)))/\ρ=[.sh (.int (w:Int)),.sh (.int (b:Int)),.sh (.list ((bd ss).map PyData.int)),s3,s4,s5,s6,s7,s8]) ⟨_,_,_,_,_,_,.inl rfl,rfl⟩ ?_ ?_
  · rintro i x ρ hx' ⟨s3,s4,s5,s6,s7,s8,h3,rfl⟩;obtain ⟨hi,rfl⟩:=jS hx';have hi4:i<=4:=by omega
    have l5:=qfw (b:=b) (br:=brX (axs ss)) (t:=i) (by omega);have l6:17 ^ i<=17 ^ 4:=Nat.pow_le_pow_right (by omega) hi4;have e2:((i:Int)+1)=((i+1:Nat):Int):=by omega
    rcases h3 with rfl|rfl
    all_goals
      try simp only [Pu.pwA,Int.zero_add]
      rw [DY (ds:=(bd ss).map PyData.int) (fs:=((bd ss).filter (prt i)).map PyData.int)]
      rotate_left
      · try simp only [Pu.pwA]
      · refine WZ λx hx=>?_
        try simp only [Pu.pwA,S0,RM (show i<=8 by omega)]
        try simp only [Pu.pwA,e2,RM (show i+1<=8 by omega)]
        unfold prt;by_cases c1:(2:Int) ^ i<=x<;>by_cases c2:x<2 ^ (i+1)<;>simp [c1,c2,Pu.pwA]
      · have:=List.length_filter_le (prt i) (bd ss);simp only [length_map];omega
      try simp only [Pu.pwA]
      refine jt (Q:=λo=>Nx o _) (lv (stp (chX b) (brX (axs ss))) i) (λj ρ=>∃ s6 s7 s8,(s6=Sl.ow (((bd ss).filter (prt i)).map PyData.int)\/s6=Sl.sh (.list (((bd ss).filter (prt i)).map PyData.int)))/\ρ=[.sh (.int (w:Int)),.sh (.int (b:Int)),.sh (.list ((bd ss).map PyData.int)),.sh (.list ((lv (stp (chX b) (brX (axs ss))) i).map rwd)),.sh (.int (i:Int)),.ow ((((lv (stp (chX b) (brX (axs ss))) i).take j).flatMap (stp (chX b) (brX (axs ss)))).map rwd),s6,s7,s8]) ⟨_,_,_,.inl rfl,rfl⟩ ?_ ?_
      · rintro j r ρ hr ⟨s6,s7,s8,h6,rfl⟩;have hm:=v9 hr;obtain ⟨hl,hr1,hr2⟩:=D9 hm;have hc:=RY (b:=b) hr2;have p4:2 ^ i<=2 ^ 4:=Nat.pow_le_pow_right (by omega) hi4;have tk:(((lv (stp (chX b) (brX (axs ss))) i).take (j+1)).flatMap (stp (chX b) (brX (axs ss)))).map rwd=(((lv (stp (chX b) (brX (axs ss))) i).take j).flatMap (stp (chX b) (brX (axs ss)))).map rwd++(stp (chX b) (brX (axs ss)) r).map rwd:=by rw [List.take_succ,hr,List.flatMap_append,List.map_append];simp
        have hla:=qez (b:=b) (ks:=r);have fl:zg [.list (r.map PyData.int),.int (b:Int)]=some (.int (la b r)):=qfC (λm hm=>(hr2 m hm).1) (by omega) (u7 (TW hr2) (by omega)) hb;have ex:∀ s7 s8:Sl,qjg 5 (.list ((stp (chX b) (brX (axs ss)) r).map rwd)) [.sh (.int (w:Int)),.sh (.int (b:Int)),.sh (.list ((bd ss).map PyData.int)),.sh (.list ((lv (stp (chX b) (brX (axs ss))) i).map rwd)),.sh (.int (i:Int)),.ow ((((lv (stp (chX b) (brX (axs ss))) i).take j).flatMap (stp (chX b) (brX (axs ss)))).map rwd),.sh (.list (((bd ss).filter (prt i)).map PyData.int)),s7,s8]=some (.nx [.sh (.int (w:Int)),.sh (.int (b:Int)),.sh (.list ((bd ss).map PyData.int)),.sh (.list ((lv (stp (chX b) (brX (axs ss))) i).map rwd)),.sh (.int (i:Int)),.ow ((((lv (stp (chX b) (brX (axs ss))) i).take (j+1)).flatMap (stp (chX b) (brX (axs ss)))).map rwd),.sh (.list (((bd ss).filter (prt i)).map PyData.int)),s7,s8]):=λs7 s8=>by
          have q1:=qgl (f:=stp (chX b) (brX (axs ss))) (n:=17) (xs:=(lv (stp (chX b) (brX (axs ss))) i).take j) λr hr=>L0 (D9 (List.mem_of_mem_take hr)).2.2 hi4;have q2:((lv (stp (chX b) (brX (axs ss))) i).take j).length<=17 ^ 4:=by rw [List.length_take];omega
          have q3:=L0 (b:=b) (br:=brX (axs ss)) hr2 hi4;have ll:((((lv (stp (chX b) (brX (axs ss))) i).take j).flatMap (stp (chX b) (brX (axs ss)))).map rwd).length+((stp (chX b) (brX (axs ss)) r).map rwd).length<=sizeLine:=by
            simp only [length_map,y8];omega
          rw [tk];exact qT ll
        rcases h6 with rfl|rfl
        all_goals
         try simp only [Pu.pwA]
         rw [DY (ds:=(WH 0 ((chX b r:Nat):Int).toNat).map PyData.int) (fs:=((List.range (chX b r)).map λn:Nat=>r++[(n:Int)]).map rwd)]
         rotate_left
         · try simp (disch:=omega) only [Pu.pwA,rwd,fl,← hla,qfe]
         · have e:(WH 0 ((chX b r:Nat):Int).toNat).map PyData.int=(List.range (chX b r)).map λi:Nat=>PyData.int (i:Int):=by
             rw [WH,map_map,Int.toNat_natCast];refine List.map_congr_left λi _=>?_;simp
           rw [e,map_map];refine V5 λn hn=>?_
           try simp only [Pu.pwA,S0,rwd,Function.comp_def]
           rw [qff (by simp;omega)];simp
         · simp;omega
         try simp only [Pu.pwA]
         rw [DY (ds:=((List.range (chX b r)).map λn:Nat=>r++[(n:Int)]).map rwd) (fs:=(stp (chX b) (brX (axs ss)) r).map rwd)]
         rotate_left
         · try simp only [Pu.pwA]
         · have e:stp (chX b) (brX (axs ss)) r=((List.range (chX b r)).map λn:Nat=>r++[(n:Int)]).filter λq=>Z5 (brX (axs ss) q):=by unfold stp;rw [List.filter_map];rfl
           rw [e];refine WZ λq hq=>?_;obtain ⟨n,hn,rfl⟩:=mem_map.mp hq;have lf:=List.length_filter_le (prt i) (bd ss)
           try simp only [Pu.pwA,S0,rwd]
           rw [qo0 (by simp;omega) (λx hx'=>by have:=hx x (W9.mp (List.mem_filter.mp hx').1);omega) (by omega),qiE hx (by simp [hl])]
           try simp only [Pu.pwA]
           try (split<;>rfl)
         · have:=L0 (b:=b) (br:=brX (axs ss)) hr2 hi4;simp only [length_map];omega
         try simp only [Pu.pwA]
         rw [ex];exact ⟨_,_,_,.inr rfl,rfl⟩
      · rintro ρ ⟨s6,s7,s8,h6,rfl⟩;rw [List.take_length]
        try simp only [Pu.pwA]
        exact ⟨_,_,_,_,_,_,.inr rfl,rfl⟩
  · rintro ρ ⟨s3,s4,s5,s6,s7,s8,h3,rfl⟩;rw [JJ,Int.toNat_natCast] at h3;generalize lv (stp (chX b) (brX (axs ss))) w=L at h3 ⊢;cases L with
    |nil=>
      have e:=qcJ true [];rcases h3 with rfl|rfl<;>try simp only [Pu.pwA,e,frD]<;>rfl
    |cons r0 R=>
      have e:=qcJ true (r0::R);rw [show decide (r0::R=[])=false from za1 (List.cons_ne_nil _ _)] at e;have e7:L2.atI ((r0::R).map rwd) 0=some (rwd r0):=by simp only [map_cons,at0]
      rcases h3 with rfl|rfl<;>try simp only [Pu.pwA,e,e7,frD]<;>(try rfl)
theorem qeC:∀ {j:Nat} {d:PyData},TrP j d->nRf d=true
 |0,_,⟨n,e⟩=>by subst e;unfold nRf;rfl
 |j+1,d,h=>by
  rcases h with ⟨n,rfl⟩|⟨ds,rfl,_,h⟩
  ·unfold nRf;rfl
  ·have:∀ ds:List PyData,(∀ e∈ds,TrP j e)->qha ds=true:=λds=>by
    induction ds with
    |nil=>intro _;unfold qha;rfl
    |cons x r ih=>
     intro h;unfold qha;rw [qeC (h x (by simp)),ih λe he=>h e (by simp [he])];rfl
   unfold nRf;exact this ds h
def qnC {d:PyData}:(Sl.rg d).dem=.sh d:=rfl
def Tb (w:Nat) (ss:List (List Int)) (i:Nat):Bool×PyData:=sr w (chX i) (brX (axs ss)) 6 []
def pp (w:Nat) (ss:List (List Int)):Nat->PyData
 |0=>.none
 |i+1=>(Tb w ss i).2
def lpp (w:Nat) (ss:List (List Int)) (c:Nat):PyData:=if (ss.any λs=>(s.length:Int)==(c:Int))=true then .none else pp w ss c
def K0 {w i:Nat} {ss:List (List Int)} (hw:w<=5) (hi:i<=9) (h:(Tb w ss i).1=false):∃ td,(Tb w ss i).2=.tuple td/\TrP w (.tuple td)/\brs i w (axs ss) 6 [] (.tuple td)=true:=by
 have t:=qaj (w:=w) (b:=i) (xs:=axs ss) hi w 6 [] (Nat.zero_add _) (by omega) h;obtain ⟨t1,t2⟩:=t;change TrP w (Tb w ss i).2 at t1;change brs i w (axs ss) 6 [] (Tb w ss i).2=true at t2;rcases VD t1 with ⟨n,e⟩|⟨td,e,_⟩
 ·rw [e,XV] at t2;cases t2
 ·rw [e] at t1 t2;exact ⟨td,e,t1,t2⟩
def qau {ss:List (List Int)} {c:Nat} {ρ:Rho}:inD false (.int (c:Int)) (.list ((ss.map λs=>(s.length:Int)).map PyData.int))=some (.bool (ss.any λs=>(s.length:Int)==(c:Int))):=by
 rw [CS,List.any_map];rfl
def qgz {w c:Nat} {ss:List (List Int)} (hw:w<=5) (hc:c<=5) (h:Sps ss) (hx:∀ x∈aw ss,0<=x) (h0:∀ i,i<c->(Tb w ss i).1=false) (h1:(Tb w ss c).1=true):zS [.int (w:Int),spd ss]=some (.tuple [.int (c:Int),(Tb w ss c).2,lpp w ss c]):=by
  have im:∀ i:Nat,i<=9->qS [.int (w:Int),.int (i:Int),spd ss]=some (imd (Tb w ss i)):=λi hi=>qoV hw hi h hx;have im0:=im 0 (by omega);rw [show ((0:Nat):Int)=0 from rfl] at im0;rw [CL]
  try simp only [Pu.pwA,j2,qi7,qhw,im0,nxB]
  obtain ⟨ρ,e,hI⟩:=qgC (N:=1000000000) c (by omega) (λi ρ=>ρ=[Sl.sh (.int (w:Int)),.sh (spd ss),.sh (.int (i:Int)),.sh (pp w ss i),.rg (imd (Tb w ss i))]) (ρ:=[Sl.sh (.int (w:Int)),.sh (spd ss),.sh (.int 0),.sh .none,.rg (imd (Tb w ss 0))]) rfl
    (cf:=λρ=>(((vw ρ 4).bind λx=>ixD x (PyData.int 0)).bind λx=>eqD false x (PyData.str (Str.ofString "none"))).bind asB)
    (bf := (qh1
            (λx ρ=>
              Option.map (λd=>Ot.nx (LD [false,false,false,false,true] false 3 d ρ))
                ((vw ρ 4).bind λx=>ixD x (PyData.int 1)))
            (qh1 (λx ρ=>qlF 2 (PyData.int 1) ρ) λx ρ=>
              ((vw ρ 0).bind λx =>
                    ((vw ρ 2).bind λx=>((vw ρ 1).bind λx=>some [x]).bind λxs=>some (x::xs)).bind
                      λxs=>some (x::xs)).bind
                λds=>Option.map (λr=>Ot.nx (List.set (dm [true,true,true] ρ) 4 (Sl.rg r))) (qS ds))
            1000000000))
    (by
      rintro i ρ hi rfl;obtain ⟨td,e1,t1,_⟩:=K0 hw (by omega) (h0 i hi);have e2:decide (Str.ofString "none" = Str.ofString "none")=true:=za2 rfl;have e3:=im (i+1) (by omega);rw [show ((i+1:Nat):Int)=(i:Int)+1 by omega] at e3;have sc2:∀ ds:List PyData,EH (.tuple ds)=false:=λ_=>rfl;refine ⟨?_,_,?_,rfl⟩
      · try simp only [Pu.pwA,rgd,imd,h0 i hi,e2]
      · have e4:((i+1:Nat):Int)=(i:Int)+1:=by omega
        have au:∀ s3 s4:Sl,qlF 2 (.int 1) [Sl.sh (.int (w:Int)),.sh (spd ss),.sh (.int (i:Int)),s3,s4]=some (.nx [Sl.sh (.int (w:Int)),.sh (spd ss),.sh (.int ((i:Int)+1)),s3,s4]):=λ_ _=>rfl
        try simp only [Pu.pwA,rgd,qnC,imd,h0 i hi,e1,sc2,LD,e3,pp,e4,au]
        try rfl)
    (by
      rintro ρ rfl;have e2:decide (Str.ofString "image" = Str.ofString "none")=false:=by decide
      try simp only [Pu.pwA,rgd,imd,h1,e2])
  subst hI;rw [e,Option.bind_some];simp only [nxB];rw [DY (ds:=ss.map rwd) (fs:=(ss.map λs=>(s.length:Int)).map PyData.int) (by
    rw [show spd ss=.list (ss.map rwd) from rfl]
    try simp only [Pu.pwA]) (by
    rw [map_map];exact V5 λs hs'=>by try simp only [Pu.pwA,S0,rwd,length_map,Function.comp_def]) (by have:=h.1;simp;omega)]
  have np:nRf (pp w ss c)=true:=by
    cases c with
    |zero=>unfold pp nRf;rfl
    |succ c=>
      obtain ⟨td,e1,t1,_⟩:=K0 hw (by omega) (h0 c (by omega));show nRf (Tb w ss c).2=true;rw [e1];exact qeC t1
  have fin:∀ p:PyData,nRf p=true->(qgk (JT (qc4 (qf (bV 2) (qf (bO qcb (bV 4) (zj 1)) (qf (bV 3) qy))) ⟨rfl⟩))).f 1000000000 [Sl.sh (.int (w:Int)),.sh (spd ss),.sh (.int (c:Int)),.sh p,.rg (imd (Tb w ss c))]=some (.tuple [.int (c:Int),(Tb w ss c).2,p]):=λp hp=>by
    have e0:iso2 [Sl.sh (.int (w:Int)),.sh (spd ss),.sh (.int (c:Int)),.sh p,.rg (imd (Tb w ss c))]=[Sl.sh (.int (w:Int)),.un,.sh (.int (c:Int)),.sh p,.sh (imd (Tb w ss c))]:=by
      have a1:∀ n:Int,nRf (.int n)=true:=λn=>by unfold nRf;rfl
      have a2:nRf (spd ss)=false:=by unfold spd nRf;rfl
      simp only [iso2,map_cons,List.map_nil,Sl.iso2,a1,a2,hp,if_true,Bool.false_eq_true,if_false]
    rw [qhg];dsimp only;rw [e0]
    try simp only [Pu.pwA,imd,h1,ql9]
    try rfl
  unfold lpp;have li:=qau (ss:=ss) (c:=c) (ρ:=[]);cases hb:ss.any λs=>(s.length:Int)==(c:Int) with
  |true=>
    rw [hb] at li
    try simp only [Pu.pwA,li,nxB]
    exact fin .none (by unfold nRf;rfl)
  |false=>
    rw [hb] at li
    try simp only [Pu.pwA,li,nxB]
    exact fin _ np
def qg0 {w c:Nat} {ss:List (List Int)} (w1:1<=w) (hw:w<=5) (hc:c<=5) (h:Sps ss) (hx:∀ x∈aw ss,0<=x) (h0:∀ i,i<c->(Tb w ss i).1=false):qL [.int (w:Int),.int (c:Int),spd ss,lpp w ss c]=some (.bool true):=by
 have fb:=qi8 h;have li:=qau (ss:=ss) (c:=c) (ρ:=[]);have lc:∀ s0 s1 s3:Sl,lcF (λρ=>(vw ρ 2).bind qcL) (lcH (λd=>some [(0,d)]) (λx=>some true) λρ=>((vw ρ 0).bind λx=>some [x]).bind qhZ) [none] [s0,s1,.sh (spd ss),s3]=some (.list ((ss.map λs=>(s.length:Int)).map PyData.int)):=λs0 s1 s3=>
  DY (ds:=ss.map rwd) (by
   rw [show spd ss=.list (ss.map rwd) from rfl]
   try simp only [Pu.pwA]) (by
   rw [map_map];exact V5 λs hs'=>by try simp only [Pu.pwA,S0,rwd,length_map,Function.comp_def]) (by have:=h.1;simp;omega)
 rw [YZ];unfold lpp;cases c with
 |zero=>
  have e:qdT false (PyData.none) .none=some (.bool true):=rfl;have e1:(if (ss.any λs=>(s.length:Int)==((0:Nat):Int))=true then PyData.none else pp w ss 0)=.none:=by split<;>rfl
  rw [e1]
  try simp only [Pu.pwA,qK,e,show (((0:Nat):Int))=0 from rfl]
  try rfl
 |succ c=>
  obtain ⟨td,e1,t1,t2⟩:=K0 hw (by omega) (h0 c (by omega));have B1:=qlb (w:=w) (b:=c) (xs:=axs ss) (bs:=bd ss) (by omega) hw (qjS hx) 6 w [] (.tuple td) (λm hm=>by cases hm) (by simp;omega) (by simp;omega) t1;have S1:=qhQ (w:=w) (b:=c) w1 hw (by omega) h hx t1;rw [t2] at B1 S1;rw [List.map_nil] at B1;have z:decide (((c+1:Nat):Int)=0)=false:=za1 (by omega);have m1:((c+1:Nat):Int)-1=(c:Int):=by omega
  have e:qdT false (PyData.none) .none=some (.bool true):=rfl;cases hb:ss.any λs=>(s.length:Int)==((c+1:Nat):Int) with
  |true=>
   rw [hb] at li
   try simp only [Pu.pwA,qK,z,lc,li,e]
   try rfl
  |false=>
   rw [hb] at li;have e5:pp w ss (c+1)=.tuple td:=e1
   try simp only [Pu.pwA,qK,z,lc,li,e5,fb,m1,B1,S1]
   try rfl
def qdI {w:Nat} {ss:List (List Int)} (hw:w<=8) (hl:ss.length<=4) (hs:∀ s∈ss,Spn w s):∃ t:Str,qb9 true [spd ss]=some (.str t):=by
 have pw:=p2 hw;have sd:Bk.SDs 1 (ss.length*(3+1)) (ss.map λs=>PyData.list (s.map PyData.int)):=by
  have:=Bk.X5 (k:=1) (n:=3) (ds:=ss.map λs=>PyData.list (s.map PyData.int)) λd hd=>by
   obtain ⟨s,h,rfl⟩:=mem_map.mp hd;obtain ⟨h1,h2,_⟩:=hs s h;exact (Bk.KY (k:=0) (Bk.LS λm hm=>by have:=h2 m hm;omega)).mono (by omega) h1
  rwa [length_map] at this
 exact ⟨_,qiK ((Bk.KY sd).w (by omega) (by omega))⟩
theorem qci {cf:Rho->Option Bool} {bw:Rho->Nat->QO->Prop} (mono:Mn bw) (c:Nat) (I:Nat->Rho->Nat->Prop) {Q:QO} (hs:∀ i ρ n,i<c->I i ρ n->cf ρ=some true/\bw ρ n λo m=>match o with|.nx ρ'=>I (i+1) ρ' m|_=>False) (he:∀ ρ n,I c ρ n->cf ρ=some false) (k:∀ ρ n,I c ρ n->Q (.nx ρ) n) :
  ∀ (d i M:Nat) (ρ:Rho) (n:Nat),i+d=c->d<M->I i ρ n->whW cf bw M ρ n Q
 |0,i,M+1,ρ,n,h,_,hI=>by
  obtain rfl:i=c:=by omega
  exact ⟨false,he ρ n hI,by rw [if_neg y6];exact k ρ n hI⟩
 |d+1,i,M+1,ρ,n,h,hM,hI=>by
  obtain ⟨e,hb⟩:=hs i ρ n (by omega) hI;refine ⟨true,e,?_⟩;rw [if_pos rfl];refine mono.h _ _ _ _ hb λo m z=>?_;cases o with
  |nx ρ'=>exact qci mono c I hs he k d (i+1) M ρ' m (by omega) (by omega) z
  |bk _=>exact z.elim
  |ct _=>exact z.elim
  |rt _ _=>exact z.elim
def n3:decide (((1+1+1:Nat):Int)=3)=true:=by decide
def qi0:∀ k:Nat,k<=60->qdf.w [.un,.sh (.int k),.un,.un,.un,.un,.un,.un,.un,.un,.un] 0 okW:=by
 intro k hk;unfold qdf;refine Y9 λY1 h1=>?_
 try simp only [Pu.pwA]
 refine qmw (by omega) λw b0 ss w1 w5 b5 ls hs=>?_;have hS:Sps ss:=⟨ls,λs h=>⟨(hs s h).1,λm hm=>((hs s h).2.1 m hm).1⟩⟩
 have hx:=qny (by omega) hs;have x0:∀ x∈aw ss,0<=x:=λx h=>by have:=hx x h;omega
 have xp:∀ x∈aw ss,0<x:=λx h=>(hx x h).1;obtain ⟨tx,ht⟩:=qdI (by omega) ls hs;have e3:decide (tx=tx)=true:=za2 rfl;have fb:=qi8 hS;have tl:∀ i,(Tb w ss i).1=(lv (stp (chX i) (brX (axs ss))) w).head?.isSome/\∀ r,(lv (stp (chX i) (brX (axs ss))) w).head?=some r->(Tb w ss i).2=.list (r.map PyData.int):=λi=>by
  have:=qkR (many:=w) (ch:=chX i) (br:=brX (axs ss)) w 6 [] (Nat.zero_add _) (by omega)
  rwa [qmV] at this
 obtain ⟨c,c5,c1,c0⟩:=qnj (b:=w) (P:=λi=>(Tb w ss i).1=true) (by
  rw [(tl w).1];have:=qfY (b:=w) (xs:=axs ss) (t:=w) (v5 _);cases h:lv (stp (chX w) (brX (axs ss))) w with
  |nil=>rw [h] at this;cases this
  |cons a r=>rfl)
 have c0':∀ i,i<c->(Tb w ss i).1=false:=λi hi=>by simpa using c0 i hi
 obtain ⟨r0,hr0⟩:∃ r0,(lv (stp (chX c) (brX (axs ss))) w).head?=some r0:=by
  have:=(tl c).1;rw [c1] at this;cases h:(lv (stp (chX c) (brX (axs ss))) w).head? with
  |none=>rw [h] at this;cases this
  |some r0=>exact ⟨r0,rfl⟩
 have r1:=(tl c).2 r0 hr0;have r3:=(D9 (List.mem_of_mem_head? hr0)).1;have fr:∀ i:Nat,i<=8->qG [.int (w:Int),.int (i:Int),.list ((bd ss).map PyData.int)]=some (frD (lv (stp (chX i) (brX (axs ss))) w)):=λi hi=>qiR w5 hi hS xp;have fr1:frD (lv (stp (chX c) (brX (axs ss))) w)=.list (r0.map PyData.int):=by unfold frD;rw [hr0];rfl
 have fr0:∀ i,i<c->frD (lv (stp (chX i) (brX (axs ss))) w)=.none:=λi hi=>by
  have:=(tl i).1;rw [c0' i hi] at this;unfold frD;cases h:(lv (stp (chX i) (brX (axs ss))) w).head? with
  |none=>rfl
  |some r=>rw [h] at this;cases this
 have lb:=qgz w5 (by omega) hS x0 c0' c1;have pr:=qg0 w1 w5 (by omega) hS x0 c0';rw [r1] at lb
 try simp only [Pu.pwA]
 rw [h1];clear h1;refine Y9 λY2 h2=>?_;simp only [spd] at ht;have es:spd ss=.list (ss.map rwd):=rfl;have ht2:qb9 true [.list (ss.map rwd)]=some (.str tx):=ht;rw [es] at fb lb pr;have sc1:∀ ds:List PyData,EH (.list ds)=false:=λ_=>rfl;have sc2:∀ t:Str,EH (.str t)=true:=λ_=>rfl
 try simp only [Pu.pwA,es,qbE,ht2,fb,qlR,sc1,sc2]
 rw [h2];clear h2;refine Y9 λY3 h3=>?_
 try simp only [Pu.pwA]
 rw [h3];clear h3;refine Y9 λY4 h4=>?_;rw [qm5];dsimp only;have in1:∀ ds:List PyData,qdT false (.list ds) .none=some (.bool false):=λ_=>rfl;have in2:qdT false (PyData.none) .none=some (.bool true):=rfl;refine qci XG.mn c (λi ρ n=>n=21/\ρ=[Sl.un,.sh (.int k),.un,.sh (.int (w:Int)),.sh (.int (b0:Int)),.sh (.list (ss.map rwd)),.sh (.str tx),.sh (.list ((bd ss).map PyData.int)),.sh (.int (i:Int)),.un,.un]) ?_ ?_ ?_ c 0 1000 _ 21 (by omega) (by omega) ⟨rfl,rfl⟩
 ·rintro i ρ n hi ⟨rfl,rfl⟩;have e4:((i+1:Nat):Int)=(i:Int)+1:=by omega
  refine ⟨?_,?_⟩
  ·try simp only [Pu.pwA,fr i (by omega),fr0 i hi,in2]
  ·unfold XG
   try simp only [Pu.pwA]
   rw [e4]
 ·rintro ρ n ⟨rfl,rfl⟩
  try simp only [Pu.pwA,fr c (by omega),fr1,in1]
 ·rintro ρ n ⟨rfl,rfl⟩;show sqw _ _ _ _;simp only [sqw];rw [h4];clear h4
  try simp (disch:=omega) only [Pu.pwA,qfe]
  refine CP (WH 0 (2:Int).toNat) XH.mn (λi ρ n'=>n'=21/\∃ s9 s10,ρ=[Sl.un,.sh (.int k),.un,.sh (.int (w:Int)),.sh (.int (b0:Int)),.sh (.list (ss.map rwd)),.sh (.str tx),.sh (.list ((bd ss).map PyData.int)),.sh (.int (c:Int)),s9,s10]) ⟨rfl,_,_,rfl⟩ ?_ ?_
  ·rintro i x ρ n' hx' ⟨rfl,s9,s10,rfl⟩;obtain ⟨hi,rfl⟩:=jS hx';refine ⟨_,rfl,?_⟩;unfold XH;refine Y9 λY1 h1=>?_
   try simp only [Pu.pwA,qhJ]
   refine ⟨_,_,rfl,lb,?_⟩;rw [h1];clear h1;refine Y9 λY2 h2=>?_
   try simp only [Pu.pwA,rgd,sTT,n3,qbE,ht2,e3]
   rw [h2];clear h2;refine Y9 λY3 h3=>?_;have dp:Bk.YX 3 (.list [.int (c:Int),.list (r0.map PyData.int)]):=⟨by simp,λd hd=>by
    rcases mem_cons.mp hd with rfl|hd
    ·simp [Bk.YX]
    ·obtain rfl:=List.mem_singleton.mp hd;refine ⟨by simp;omega,λd hd=>?_⟩;obtain ⟨m,_,rfl⟩:=mem_map.mp hd;simp [Bk.YX]⟩
   have sl:slD (.tuple [PyData.int (c:Int),.list (r0.map PyData.int),lpp w ss c]) none (some 2)=some (.tuple [.int (c:Int),.list (r0.map PyData.int)]):=by
    exact qcD (by simp [HT.sIx])
   try simp only [Pu.pwA,rgd,sl,fr c (by omega),fr1,qg5 dp]
   rw [h3];clear h3;refine Y9 λY4 h4=>?_
   try simp only [Pu.pwA,rgd,pr]
   rw [h4]
   try simp only [Pu.pwA,qdM]
   exact ⟨_,_,_,1,rfl,rfl,rfl,by simp;omega,rfl,_,_,rfl⟩
  ·rintro ρ n' ⟨rfl,s9,s10,rfl⟩
   try simp only [Pu.pwA]
end K48
namespace K48
open PySem L2 L3 Bk
def Kf (P:Params):PySem.W.Frag:=[(3,Hd.oM P 39 "law_bankwalk_k48_least_bits" 324 [(.str "is_number" 195,.ref 21),(.str "searched" 212,.ref 28),(.str "flips" 220,.ref 33),(.str "led_to" 233,.ref 40),(.str "span_flips" 239,.ref 45),(.str "image_choices" 248,.ref 52),(.str "is_led_to_0" 256,.ref 59),(.str "first_led_to_0" 265,.ref 66),(.str "image_for" 278,.ref 73),(.str "least_bits" 284,.ref 78),(.str "is_tree" 300,.ref 85),(.str "is_lost" 311,.ref 92),(.str "shows_no_image" 323,.ref 99),(.str "_law_mix" 334,.ref 106),(.str "_law_left" 344,.ref 113),(.str "_law_pick" 353,.ref 120),(.str "_law_same" 359,.ref 125),(.str "_law_two" 366,.ref 132),(.str "_law_flips" 378,.ref 139),(.str "_law_spans" 391,.ref 146),(.str "_law_bad" 400,.ref 153),(.str "_law_led" 411,.ref 160),(.str "_law_last" 421,.ref 167),(.str "_law_serves" 427,.ref 172),(.str "_law_lot" 435,.ref 179),(.str "_law_bars" 450,.ref 186),(.str "_law_whole" 457,.ref 193),(.str "_law_first_row" 463,.ref 198),(.str "_law_paper_right" 469,.ref 203),(.str "law" 486,.ref 210)]),
 (20,Hd.oC [.str "is_number" 189,.str "is_number" 190,.str "/claim/cut.py" 191,.int (2) 0,.int (1) 0,.int (0) 0,.int (0) 0,.int (3) 0,.ref 15,.bool true,.int (181) 0,.ref 16,.none,.ref 17,.ref 18,.ref 19,.int (193) 0,.int (2) 0,.str "/claim/cut.py" 194]),
 (21,Hd.oF "is_number" j5 (.str "bankwalk.basics" 187) (.ref 20)),
 (27,Hd.oC [.str "searched" 198,.str "searched" 199,.str "/claim/cut.py" 200,.int (5) 0,.int (4) 0,.int (0) 0,.int (0) 0,.int (3) 0,.ref 22,.bool true,.int (181) 0,.ref 23,.none,.ref 24,.ref 25,.ref 26,.int (210) 0,.int (5) 0,.str "/claim/cut.py" 211]),
 (28,Hd.oF "searched" QQ (.str "bankwalk.anyhow" 196) (.ref 27)),
 (32,Hd.oC [.str "flips" 215,.str "flips" 216,.str "/claim/cut.py" 217,.int (19) 0,.int (1) 0,.int (0) 0,.int (0) 0,.int (3) 0,.ref 29,.bool true,.int (181) 0,.ref 30,.none,.none,.none,.ref 31,.int (218) 0,.int (19) 0,.str "/claim/cut.py" 219]),
 (33,Hd.oF "flips" EM (.str "bankwalk.flips" 213) (.ref 32)),
 (39,Hd.oC [.str "led_to" 223,.str "led_to" 224,.str "/claim/cut.py" 225,.int (25) 0,.int (2) 0,.int (0) 0,.int (0) 0,.int (3) 0,.ref 34,.bool true,.int (181) 0,.ref 35,.none,.ref 36,.ref 37,.ref 38,.int (231) 0,.int (25) 0,.str "/claim/cut.py" 232]),
 (40,Hd.oF "led_to" VF za7 (.ref 39)),
 (44,Hd.oC [.str "span_flips" 234,.str "span_flips" 235,.str "/claim/cut.py" 236,.int (31) 0,.int (1) 0,.int (0) 0,.int (0) 0,.int (3) 0,.ref 41,.bool true,.int (181) 0,.ref 42,.none,.none,.none,.ref 43,.int (237) 0,.int (31) 0,.str "/claim/cut.py" 238]),
 (45,Hd.oF "span_flips" jA za7 (.ref 44)),
 (51,Hd.oC [.str "image_choices" 240,.str "image_choices" 241,.str "/claim/cut.py" 242,.int (33) 0,.int (2) 0,.int (0) 0,.int (0) 0,.int (3) 0,.ref 46,.bool true,.int (181) 0,.ref 47,.none,.ref 48,.ref 49,.ref 50,.int (246) 0,.int (33) 0,.str "/claim/cut.py" 247]),
 (52,Hd.oF "image_choices" zJ za7 (.ref 51)),
 (58,Hd.oC [.str "is_led_to_0" 249,.str "is_led_to_0" 250,.str "/claim/cut.py" 251,.int (36) 0,.int (2) 0,.int (0) 0,.int (0) 0,.int (3) 0,.ref 53,.bool true,.int (181) 0,.ref 54,.none,.ref 55,.ref 56,.ref 57,.int (254) 0,.int (36) 0,.str "/claim/cut.py" 255]),
 (59,Hd.oF "is_led_to_0" jj za7 (.ref 58)),
 (65,Hd.oC [.str "first_led_to_0" 257,.str "first_led_to_0" 258,.str "/claim/cut.py" 259,.int (38) 0,.int (2) 0,.int (0) 0,.int (0) 0,.int (3) 0,.ref 60,.bool true,.int (181) 0,.ref 61,.none,.ref 62,.ref 63,.ref 64,.int (263) 0,.int (38) 0,.str "/claim/cut.py" 264]),
 (66,Hd.oF "first_led_to_0" zw za7 (.ref 65)),
 (72,Hd.oC [.str "image_for" 266,.str "image_for" 267,.str "/claim/cut.py" 268,.int (43) 0,.int (3) 0,.int (0) 0,.int (0) 0,.int (3) 0,.ref 67,.bool true,.int (181) 0,.ref 68,.none,.ref 69,.ref 70,.ref 71,.int (276) 0,.int (43) 0,.str "/claim/cut.py" 277]),
 (73,Hd.oF "image_for" jR za7 (.ref 72)),
 (77,Hd.oC [.str "least_bits" 279,.str "least_bits" 280,.str "/claim/cut.py" 281,.int (51) 0,.int (2) 0,.int (0) 0,.int (0) 0,.int (3) 0,.ref 74,.bool true,.int (181) 0,.ref 75,.none,.none,.none,.ref 76,.int (282) 0,.int (51) 0,.str "/claim/cut.py" 283]),
 (78,Hd.oF "least_bits" jw za7 (.ref 77)),
 (84,Hd.oC [.str "is_tree" 287,.str "is_tree" 288,.str "/claim/cut.py" 289,.int (63) 0,.int (5) 0,.int (0) 0,.int (0) 0,.int (3) 0,.ref 79,.bool true,.int (181) 0,.ref 80,.none,.ref 81,.ref 82,.ref 83,.int (298) 0,.int (63) 0,.str "/claim/cut.py" 299]),
 (85,Hd.oF "is_tree" JE (.str "bankwalk.anycheck" 285) (.ref 84)),
 (91,Hd.oC [.str "is_lost" 303,.str "is_lost" 304,.str "/claim/cut.py" 305,.int (72) 0,.int (3) 0,.int (0) 0,.int (0) 0,.int (3) 0,.ref 86,.bool true,.int (181) 0,.ref 87,.none,.ref 88,.ref 89,.ref 90,.int (309) 0,.int (72) 0,.str "/claim/cut.py" 310]),
 (92,Hd.oF "is_lost" JF za6 (.ref 91)),
 (98,Hd.oC [.str "shows_no_image" 312,.str "shows_no_image" 313,.str "/claim/cut.py" 314,.int (74) 0,.int (4) 0,.int (0) 0,.int (0) 0,.int (3) 0,.ref 93,.bool true,.int (181) 0,.ref 94,.none,.ref 95,.ref 96,.ref 97,.int (321) 0,.int (74) 0,.str "/claim/cut.py" 322]),
 (99,Hd.oF "shows_no_image" zA za6 (.ref 98)),
 (105,Hd.oC [.str "_law_mix" 326,.str "_law_mix" 327,.str "/claim/cut.py" 328,.int (78) 0,.int (2) 0,.int (0) 0,.int (0) 0,.int (3) 0,.ref 100,.bool true,.int (181) 0,.ref 101,.none,.ref 102,.ref 103,.ref 104,.int (332) 0,.int (78) 0,.str "/claim/cut.py" 333]),
 (106,Hd.oF "_law_mix" Z8 za5 (.ref 105)),
 (112,Hd.oC [.str "_law_left" 335,.str "_law_left" 336,.str "/claim/cut.py" 337,.int (81) 0,.int (2) 0,.int (0) 0,.int (0) 0,.int (3) 0,.ref 107,.bool true,.int (181) 0,.ref 108,.none,.ref 109,.ref 110,.ref 111,.int (342) 0,.int (81) 0,.str "/claim/cut.py" 343]),
 (113,Hd.oF "_law_left" QW za5 (.ref 112)),
 (119,Hd.oC [.str "_law_pick" 345,.str "_law_pick" 346,.str "/claim/cut.py" 347,.int (85) 0,.int (2) 0,.int (0) 0,.int (0) 0,.int (3) 0,.ref 114,.bool true,.int (181) 0,.ref 115,.none,.ref 116,.ref 117,.ref 118,.int (351) 0,.int (85) 0,.str "/claim/cut.py" 352]),
 (120,Hd.oF "_law_pick" QS za5 (.ref 119)),
 (124,Hd.oC [.str "_law_same" 354,.str "_law_same" 355,.str "/claim/cut.py" 356,.int (92) 0,.int (2) 0,.int (0) 0,.int (0) 0,.int (3) 0,.ref 121,.bool true,.int (181) 0,.ref 122,.none,.none,.none,.ref 123,.int (357) 0,.int (92) 0,.str "/claim/cut.py" 358]),
 (125,Hd.oF "_law_same" ZB za5 (.ref 124)),
 (131,Hd.oC [.str "_law_two" 360,.str "_law_two" 361,.str "/claim/cut.py" 362,.int (100) 0,.int (1) 0,.int (0) 0,.int (0) 0,.int (3) 0,.ref 126,.bool true,.int (181) 0,.ref 127,.none,.ref 128,.ref 129,.ref 130,.int (364) 0,.int (100) 0,.str "/claim/cut.py" 365]),
 (132,Hd.oF "_law_two" Z6 za5 (.ref 131)),
 (138,Hd.oC [.str "_law_flips" 367,.str "_law_flips" 368,.str "/claim/cut.py" 369,.int (102) 0,.int (1) 0,.int (0) 0,.int (0) 0,.int (3) 0,.ref 133,.bool true,.int (181) 0,.ref 134,.none,.ref 135,.ref 136,.ref 137,.int (376) 0,.int (102) 0,.str "/claim/cut.py" 377]),
 (139,Hd.oF "_law_flips" jO za5 (.ref 138)),
 (145,Hd.oC [.str "_law_spans" 379,.str "_law_spans" 380,.str "/claim/cut.py" 381,.int (110) 0,.int (2) 0,.int (0) 0,.int (0) 0,.int (3) 0,.ref 140,.bool true,.int (181) 0,.ref 141,.none,.ref 142,.ref 143,.ref 144,.int (389) 0,.int (110) 0,.str "/claim/cut.py" 390]),
 (146,Hd.oF "_law_spans" j4 za5 (.ref 145)),
 (152,Hd.oC [.str "_law_bad" 392,.str "_law_bad" 393,.str "/claim/cut.py" 394,.int (120) 0,.int (1) 0,.int (0) 0,.int (0) 0,.int (3) 0,.ref 147,.bool true,.int (181) 0,.ref 148,.none,.ref 149,.ref 150,.ref 151,.int (398) 0,.int (120) 0,.str "/claim/cut.py" 399]),
 (153,Hd.oF "_law_bad" JL za5 (.ref 152)),
 (159,Hd.oC [.str "_law_led" 401,.str "_law_led" 402,.str "/claim/cut.py" 403,.int (125) 0,.int (2) 0,.int (0) 0,.int (0) 0,.int (3) 0,.ref 154,.bool true,.int (181) 0,.ref 155,.none,.ref 156,.ref 157,.ref 158,.int (409) 0,.int (125) 0,.str "/claim/cut.py" 410]),
 (160,Hd.oF "_law_led" Z9 za5 (.ref 159)),
 (166,Hd.oC [.str "_law_last" 412,.str "_law_last" 413,.str "/claim/cut.py" 414,.int (130) 0,.int (2) 0,.int (0) 0,.int (0) 0,.int (3) 0,.ref 161,.bool true,.int (181) 0,.ref 162,.none,.ref 163,.ref 164,.ref 165,.int (419) 0,.int (130) 0,.str "/claim/cut.py" 420]),
 (167,Hd.oF "_law_last" Q6 za5 (.ref 166)),
 (171,Hd.oC [.str "_law_serves" 422,.str "_law_serves" 423,.str "/claim/cut.py" 424,.int (136) 0,.int (2) 0,.int (0) 0,.int (0) 0,.int (3) 0,.ref 168,.bool true,.int (181) 0,.ref 169,.none,.none,.none,.ref 170,.int (425) 0,.int (136) 0,.str "/claim/cut.py" 426]),
 (172,Hd.oF "_law_serves" jz za5 (.ref 171)),
 (178,Hd.oC [.str "_law_lot" 428,.str "_law_lot" 429,.str "/claim/cut.py" 430,.int (138) 0,.int (1) 0,.int (0) 0,.int (0) 0,.int (3) 0,.ref 173,.bool true,.int (181) 0,.ref 174,.none,.ref 175,.ref 176,.ref 177,.int (433) 0,.int (138) 0,.str "/claim/cut.py" 434]),
 (179,Hd.oF "_law_lot" JH za5 (.ref 178)),
 (185,Hd.oC [.str "_law_bars" 436,.str "_law_bars" 437,.str "/claim/cut.py" 438,.int (141) 0,.int (5) 0,.int (0) 0,.int (0) 0,.int (3) 0,.ref 180,.bool true,.int (181) 0,.ref 181,.none,.ref 182,.ref 183,.ref 184,.int (448) 0,.int (141) 0,.str "/claim/cut.py" 449]),
 (186,Hd.oF "_law_bars" QX za5 (.ref 185)),
 (192,Hd.oC [.str "_law_whole" 451,.str "_law_whole" 452,.str "/claim/cut.py" 453,.int (155) 0,.int (1) 0,.int (0) 0,.int (0) 0,.int (3) 0,.ref 187,.bool true,.int (181) 0,.ref 188,.none,.ref 189,.ref 190,.ref 191,.int (455) 0,.int (155) 0,.str "/claim/cut.py" 456]),
 (193,Hd.oF "_law_whole" j3 za5 (.ref 192)),
 (197,Hd.oC [.str "_law_first_row" 458,.str "_law_first_row" 459,.str "/claim/cut.py" 460,.int (157) 0,.int (3) 0,.int (0) 0,.int (0) 0,.int (3) 0,.ref 194,.bool true,.int (181) 0,.ref 195,.none,.none,.none,.ref 196,.int (461) 0,.int (157) 0,.str "/claim/cut.py" 462]),
 (198,Hd.oF "_law_first_row" zH za5 (.ref 197)),
 (202,Hd.oC [.str "_law_paper_right" 464,.str "_law_paper_right" 465,.str "/claim/cut.py" 466,.int (167) 0,.int (4) 0,.int (0) 0,.int (0) 0,.int (3) 0,.ref 199,.bool true,.int (181) 0,.ref 200,.none,.none,.none,.ref 201,.int (467) 0,.int (167) 0,.str "/claim/cut.py" 468]),
 (203,Hd.oF "_law_paper_right" zi za5 (.ref 202)),
 (209,Hd.oC [.str "law" 470,.str "law" 471,.str "/claim/cut.py" 472,.int (173) 0,.int (1) 0,.int (0) 0,.int (0) 0,.int (3) 0,.ref 204,.bool true,.int (181) 0,.ref 205,.none,.ref 206,.ref 207,.ref 208,.int (484) 0,.int (173) 0,.str "/claim/cut.py" 485]),
 (210,Hd.oF "law" JR za5 (.ref 209))]
abbrev tsL:List (Addr×Addr×Str):=[(72,68,"image_for.<locals>.<lambda>"),(98,94,"shows_no_image.<locals>.<lambda>")]
abbrev flL:List FuncData:=Hd.qm3 "image_for.<locals>.<lambda>" (top 12)++Hd.qm3 "shows_no_image.<locals>.<lambda>" (top 18)
def Kg (P:Params):PySem.W.Frag:=Kf P++Hd.qab 3 flL tsL
def qiY {l:PySem.W.OpenLaw} {w:World} {h:Heap} {mg:Str->Option Value} {fa:Addr} (X:(Kg w.params).In h) (G:h.Ns mainGlobals mg) (hfa:mg "law" = some (.ref fa)) :
  ∃ fd:FuncData,(∀ (s:Shared) (v:Value),BindsTo s fd ⟨[v],[]⟩ [("_law_script",v)])/\∀ base:Heap,(Kg w.params).In base->base.Ns mainGlobals mg->qei mg base->FnOk l.prog w (Kg w.params) mg base CX0 13 fa fd ["_law_script"] (lSp (Kg w.params) RF):=by
 have e:=hfa.symm.trans (Hd.qmB X G "law" (.ref 210) (by kernel_rfl));cases e;have E0:=Hd.e X G "is_number" j5 J3 21 (.str "bankwalk.basics" 187) (.ref 20);have E1:=Hd.e X G "flips" EM KB 33 (.str "bankwalk.flips" 213) (.ref 32);have E2:=Hd.e X G "led_to" VF CH 40 za7 (.ref 39);have E3:=Hd.e X G "span_flips" jA ZQ 45 za7 (.ref 44);have E4:=Hd.e X G "image_choices" zJ jL 52 za7 (.ref 51);have E5:=Hd.e X G "is_led_to_0" jj QR 59 za7 (.ref 58);have E6:=Hd.e X G "first_led_to_0" zw jq 66 za7 (.ref 65);have E7:=Hd.e X G "is_lost" JF DA 92 za6 (.ref 91);have E8:=Hd.e X G "searched" QQ V1 28 (.str "bankwalk.anyhow" 196) (.ref 27);have E9:=Hd.e X G "image_for" jR YC 73 za7 (.ref 72);have E10:=Hd.e X G "is_tree" JE DB 85 (.str "bankwalk.anycheck" 285) (.ref 84);have E11:=Hd.e X G "shows_no_image" zA jo 99 za6 (.ref 98);have E12:=Hd.e X G "least_bits" jw ZP 78 za7 (.ref 77);have E13:=Hd.e X G "_law_mix" Z8 DC 106 za5 (.ref 105);have E14:=Hd.e X G "_law_left" QW UD 113 za5 (.ref 112);have E15:=Hd.e X G "_law_pick" QS VW 120 za5 (.ref 119);have E16:=Hd.e X G "_law_same" ZB UA 125 za5 (.ref 124);have E17:=Hd.e X G "_law_two" Z6 WC 132 za5 (.ref 131);have E18:=Hd.e X G "_law_flips" jO JW 139 za5 (.ref 138);have E19:=Hd.e X G "_law_spans" j4 J9 146 za5 (.ref 145);have E20:=Hd.e X G "_law_bad" JL DR 153 za5 (.ref 152);have E21:=Hd.e X G "_law_led" Z9 EZ 160 za5 (.ref 159);have E22:=Hd.e X G "_law_last" Q6 UG 167 za5 (.ref 166);have E23:=Hd.e X G "_law_serves" jz ZV 172 za5 (.ref 171);have E24:=Hd.e X G "_law_lot" JH DS 179 za5 (.ref 178);have E25:=Hd.e X G "_law_whole" j3 J1 193 za5 (.ref 192);have E26:=Hd.e X G "_law_bars" QX UC 186 za5 (.ref 185);have E27:=Hd.e X G "_law_first_row" zH jF 198 za5 (.ref 197);have E28:=Hd.e X G "_law_paper_right" zi jd 203 za5 (.ref 202);have F29:=Hd.qnt (K:=Kg w.params) "law" JR 210 za5 (.ref 209) (by kernel_rfl) (by kernel_rfl) (by kernel_rfl);have g0:=Hd.no X G "isinstance";have g1:=Hd.no X G "bool";have g2:=Hd.no X G "int";have g3:=Hd.no X G "enumerate";have g4:=Hd.no X G "max";have g5:=Hd.no X G "min";have g6:=Hd.no X G "len";have g7:=Hd.no X G "range";have g8:=Hd.no X G "tuple";have g9:TZ (Kg w.params) 0=some (Hd.R8 "image_for.<locals>.<lambda>" (top 12) 0):=by kernel_rfl
 have g10:TZ (Kg w.params) 1=some (Hd.R8 "image_for.<locals>.<lambda>" (top 12) 1):=by kernel_rfl
 have g11:TZ (Kg w.params) 2=some (Hd.R8 "shows_no_image.<locals>.<lambda>" (top 18) 0):=by kernel_rfl
 have g12:TZ (Kg w.params) 3=some (Hd.R8 "shows_no_image.<locals>.<lambda>" (top 18) 1):=by kernel_rfl
 have g13:=Hd.no X G "abs";have g14:=Hd.no X G "list";have g15:=Hd.no X G "zip";have g16:=Hd.no X G "all";have g17:=Hd.no X G "str";have g18:=Hd.no X G "sorted";have g19:=Hd.no X G "set";refine ⟨PySem.W.fnOf "law" "law" (QA JR) (zh JR) (qg JR) .none .none .none za5 none (.ref 209) .none,λs v=>.of_eq rfl,λbase Xb _ B_=>?_⟩;have g20:TabAt (Kg w.params) mg base 72 "image_for.<locals>.<lambda>" := Hd.qlu (ts:=tsL) (P:=68) Xb B_ (by kernel_rfl);have g21:TabAt (Kg w.params) mg base 98 "shows_no_image.<locals>.<lambda>" := Hd.qlu (ts:=tsL) (P:=94) Xb B_ (by kernel_rfl);have O22:=R4 (P:=l.prog) (w:=w) (base:=base) (k:=0) g0 g1 g2 E0 C9;have O23:=qdg (P:=l.prog) (w:=w) (base:=base) (k:=0)  E1 Pv.qel;have O24:=qbG (P:=l.prog) (w:=w) (base:=base) (k:=0) g3 E2 qaL;have O25:=X8 O23 E3 CJ;have O26:=U3 (P:=l.prog) (w:=w) (base:=base) (k:=0) g4 g5 E4 U2;have O27:=WP O24 g6 E5 WS;have O28:=UJ O27 E6 V6;have O29:=N7 O27 (O22.mono (by decide)) E7 NF;have O30:=M7 (P:=l.prog) (w:=w) (base:=base) (k:=0)  E13 M5;have O31:=T7 (P:=l.prog) (w:=w) (base:=base) (k:=0) g6 g13 E14 KG;have O32:=KL O30 E15 TF;have O33:=NL (P:=l.prog) (w:=w) (base:=base) (k:=0)  E17 NB;have O34:=RP g3 g6 g7 O33 E18 R7;have O35:=SY g7 (O33.mono (by decide)) O32 O34 E19 RJ;have O36:=NR O34 g18 g19 E20 MW;have O37:=NG g3 O33 E21 NV;have O38:=KZ g4 g5 g7 O33 E22 KO;have O39:=X3 g16 O37 E23 CB;have O40:=NP (O32.mono (by decide)) O35 E24 NW;have O41:=SL (P:=l.prog) (w:=w) (base:=base) (k:=0) g0 g1 g2 E25 RH;have O42:=U5 g7 (O33.mono (by decide)) (O38.mono (by decide)) O39 E27 U0;have O43:=EK (P:=l.prog) (w:=w) (base:=base) E16.F E16.b E16.m;have O44:=QU g0 g1 g2 g6 g8 O43 g14 g15 g16 g17 E16 (ZH 0);have O45:=QU g0 g1 g2 g6 g8 O44 g14 g15 g16 g17 E16 (ZH 1);have O46:=QU g0 g1 g2 g6 g8 O45 g14 g15 g16 g17 E16 (ZH 2);have O47:=QU g0 g1 g2 g6 g8 O46 g14 g15 g16 g17 E16 (ZH 3);have O48:WD l.prog w (Kg w.params) mg base 4 (Pu.phS PhL):=Pu.zB.ok (Pu.zB.cons (qnI (P:=l.prog) (w:=w) (base:=base) (k:=3) g9 (O26.mono (by decide)) qmA) (Pu.zB.cons (qmU (P:=l.prog) (w:=w) (base:=base) (k:=3) g10 O28 qmq) (Pu.zB.cons (qnc (P:=l.prog) (w:=w) (base:=base) (k:=3) g11 (O26.mono (by decide)) qnw) (Pu.zB.cons (qmd (P:=l.prog) (w:=w) (base:=base) (k:=3) g12 O29 qmN) Pu.zB.nil))));have O49:∀ j:Nat,Fn3 l.prog w (Kg w.params) mg base (4+1*j) "searched" (Pu.PSp (qN j) false):=λj=>by
  induction j with
  |zero=>exact (Pu.Fn3.pz (EK (P:=l.prog) (w:=w) (base:=base) E8.F E8.b E8.m) false).mono (by decide)
  |succ j ih=>
   exact TX (P:=l.prog) (w:=w) (base:=base) (k:=4+1*j+0) g6 (O48.mono (by omega)) ih g7 g8 E8 (KR j)
 have O50:=S5 (O49 6) (O25.mono (by decide)) g9 g10 g20 E9 rfl RD;have O51:=CY g6 O50 E12 XY;have O52:∀ j:Nat,Fn3 l.prog w (Kg w.params) mg base (4+1*j) "is_tree" (Pu.PSp (zq j) false):=λj=>by
  induction j with
  |zero=>exact (Pu.Fn3.pz (EK (P:=l.prog) (w:=w) (base:=base) E10.F E10.b E10.m) false).mono (by decide)
  |succ j ih=>
   exact MY (P:=l.prog) (w:=w) (base:=base) (k:=4+1*j+0) g0 g3 g6 (O48.mono (by omega)) g8 ih E10 (MX j)
 have O53:=UE (O25.mono (by decide)) (O52 6) g11 g12 g21 E11 rfl VP;have O54:∀ j:Nat,Fn3 l.prog w (Kg w.params) mg base (2+1*j) "_law_bars" (Pu.PSp (qU j) false):=λj=>by
  induction j with
  |zero=>exact (Pu.Fn3.pz (EK (P:=l.prog) (w:=w) (base:=base) E26.F E26.b E26.m) false).mono (by decide)
  |succ j ih=>
   exact KS (P:=l.prog) (w:=w) (base:=base) (k:=2+1*j+0) g0 g3 g6 g8 (O33.mono (by omega)) (O37.mono (by omega)) (O38.mono (by omega)) ih (O41.mono (by omega)) E26 (TV j)
 have O55:=VJ g6 ((O54 6).mono (by decide)) (O36.mono (by decide)) O53 E28 YO;exact qib (k:=12) g0 g5 g6 g7 g8 (O47.mono (by decide)) g14 g17 (O36.mono (by decide)) (O31.mono (by decide)) (O40.mono (by decide)) (O42.mono (by decide)) O51 O55 F29 (qlC qi0)
abbrev Q : Program := PySem.W.view PySem.Challenge.pw_bankwalk_k48_least_bits [1,3,5,7,8,9,10,11,12,13,15,17,18,20,21,22,23,24,25,26,27,28,29,30,31,32,33,34,35,36]
set_option maxRecDepth 100000 in
set_option maxHeartbeats 0 in
def left : PySem.W.LeftO PySem.Challenge.pw_bankwalk_k48_least_bits Q [] (λs => PySem.W.xlAt Q [] s && PySem.W.recOk [] s) (λs => (([3,20,21,27,28,32,33,39,40,44,45,51,52,58,59,65,66,72,73,77,78,84,85,91,92,98,99,105,106,112,113,119,120,124,125,131,132,138,139,145,146,152,153,159,160,166,167,171,172,178,179,185,186,192,193,197,198,202,203,209,210] : List Addr).map s.heap.get?,([68,94] : List Addr).map s.heap.get?)) (λw => ((Kf w.params).map λp => some p.2,([68,94] : List Addr).map λ_ => some (PySem.W.tabObj #[]))) 2116 :=
 λw=>by kernel_rfl
end K48
open PySem PySem.W PyProof.Rows
set_option maxRecDepth 100000 in
set_option maxHeartbeats 0 in
def qoN : PySem.Challenge.rw_bankwalk_k48_least_bits.row.wellSaid = true := by kernel_rfl
set_option maxRecDepth 100000 in
set_option maxHeartbeats 0 in
def qoM : PySem.Challenge.rw_bankwalk_k48_least_bits.wellSaid = true := by
 unfold PySem.W.OpenLaw.wellSaid;rw [qoN]
 kernel_rfl
set_option maxRecDepth 100000 in
set_option maxHeartbeats 0 in
theorem PySem.Challenge.cw_bankwalk_k48_least_bits_holds : PySem.Challenge.rw_bankwalk_k48_least_bits.Holds :=
 Hd.qm2 (a₀ := 3) (fds := K48.flL) (ts := K48.tsL) (tp := [68,94]) (l := PySem.Challenge.rw_bankwalk_k48_least_bits) (q := K48.Q) (loose := []) (K := K48.Kf) (as := [3,20,21,27,28,32,33,39,40,44,45,51,52,58,59,65,66,72,73,77,78,84,85,91,92,98,99,105,106,112,113,119,120,124,125,131,132,138,139,145,146,152,153,159,160,166,167,171,172,178,179,185,186,192,193,197,198,202,203,209,210]) (N := 2116) (k := 13) (x := "_law_script")
  (d:=⟨"law",L2.QA K48.JR,L2.zh K48.JR,L2.qg K48.JR,⟨173,0,190,15⟩⟩) (λ_=>by kernel_rfl) (by kernel_rfl) qoM K48.left (by kernel_rfl) (by kernel_rfl) (by kernel_rfl) (by kernel_rfl) (by kernel_rfl)
  ⟨rfl,rfl,rfl,rfl,rfl,by decide +kernel⟩ (by w_witness2) rfl (by kernel_rfl) ⟨rfl,by decide,by decide,rfl⟩ (λw=>by kernel_rfl) (λw=>by kernel_rfl) (λw=>by kernel_rfl) (λw=>by kernel_rfl) λw mg fa h KX G hmg=>K48.qiY KX G hmg
