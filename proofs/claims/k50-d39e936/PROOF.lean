import PyProof.Rows.All
import Wide.All
import OpenK.AllK
import Wide.FinOn
import Lean
import PyProof.EqAt
import PyProof.EqKinds
import PyProof.TupleCall
import KE.KLam
import PyProof.NeKinds
import KE.KNestM
import KE.KRevSl
import PyProof.FactsAll.bool_2
import PyProof.Rows.EqBoolInt
import PyProof.Rows.IntBool
import KE.KDictSum
import PySem.Challenge.RW_bankwalk_k50_trees_spoilt_anywhere
-- CHANGE: your row's module here,as the last of these rows
set_option Elab.async false
set_option genSizeOf false
set_option genInjectivity false
noncomputable section
theorem x5:type_of% @List.getElem_cons_zero.{0}:=@List.getElem_cons_zero.{0}
theorem x6:type_of% @List.getElem_cons_succ.{0}:=@List.getElem_cons_succ.{0}
theorem x8:type_of% @PySem.wpAny_bind:=@PySem.wpAny_bind
theorem x9:type_of% @PySem.wpAny_pure:=@PySem.wpAny_pure
theorem y2:type_of% @PySem.wpAny_mono:=@PySem.wpAny_mono
theorem y3:type_of% @PySem.Heap.get?_push_of_some:=@PySem.Heap.get?_push_of_some
theorem y4:type_of% @PySem.Heap.get?_push_size:=@PySem.Heap.get?_push_size
theorem y6:type_of% @PySem.Heap.lt_size:=@PySem.Heap.lt_size
theorem y8:type_of% @Bool.false_ne_true:=@Bool.false_ne_true
theorem y9:type_of% @PySem.sizeLine_eq:=@PySem.sizeLine_eq
theorem v4:type_of% @List.getElem?_eq_getElem.{0}:=@List.getElem?_eq_getElem.{0}
theorem v5:type_of% @Nat.zero_lt_succ:=@Nat.zero_lt_succ
theorem v6:type_of% @Nat.le_refl:=@Nat.le_refl
theorem v7:type_of% @List.mem_cons_of_mem.{0}:=@List.mem_cons_of_mem.{0}
theorem v8:type_of% @List.mem_append_right.{0}:=@List.mem_append_right.{0}
theorem v9:type_of% @Nat.lt_of_lt_of_le:=@Nat.lt_of_lt_of_le
theorem u4:type_of% @List.mem_of_getElem?.{0}:=@List.mem_of_getElem?.{0}
theorem u5:type_of% @Nat.le_trans:=@Nat.le_trans
theorem u6:type_of% @Nat.ne_of_lt:=@Nat.ne_of_lt
theorem u7:type_of% @Nat.lt_add_one:=@Nat.lt_add_one
theorem u8:type_of% @List.mem_cons_self.{0}:=@List.mem_cons_self.{0}
theorem u9:type_of% @decide_eq_false:=@decide_eq_false
theorem za0:type_of% @decide_eq_true:=@decide_eq_true
def za1{α β:Type}{b:β}{f:α->β}{o:Option α}(h:o.map f=some b):=Option.map_eq_some_iff.mp h
def za2{α:Type}{l:List α}{i:Nat}{a:α}(h:l[i]?=some a):=List.getElem?_eq_some_iff.mp h
abbrev za3:PySem.Value:=.str "law_bankwalk_k50_trees_spoilt_anywhere" 318
abbrev za4:PySem.Value:=.str "bankwalk.maskcheck" 295
abbrev za5:PySem.Value:=.str "bankwalk.masks" 237
abbrev Frg:=PySem.W.Frag
open List (length_cons getElem?_cons_succ getElem?_cons_zero length_nil set_cons_zero set_cons_succ length_map not_mem_nil map_cons mem_cons getElem?_set getElem?_map cons_append size_toArray map_map mem_map length_append getD_eq_getElem?_getD mem_range length_range)
def obb{α β:Type _}{o:Option α}{f:α->Option β}{b:β}(h:o.bind f=some b):∃a,o=some a/\f a=some b:=Option.bind_eq_some_iff.mp h
set_option linter.all false
set_option maxRecDepth 100000
namespace L2
open PySem PySem.Spec PyProof.Rows
abbrev Key:=Sum Int Str
def qjB:Key->Value->Bool
 |.inl k,v=>Value.isInt k v
 |.inr x,v=>Value.isStrOf x v
def qp5 (w:World):Key->Int
 |.inl k=>hashInt k
 |.inr x=>hashStr w x
def zm:∀ {k:Key} {v:Value},qjB k v=true->(∃ i t,k=Sum.inl i/\v=Value.int i t)\/(∃ x t,k=Sum.inr x/\v=Value.str x t)
 |.inl i,v,h=>by
  obtain ⟨t,e⟩:=Value.isInt_shape (k:=i) (v:=v) h;exact .inl ⟨i,t,rfl,e⟩
 |.inr x,v,h=>by
  obtain ⟨t,e⟩:=Value.isStrOf_shape (x:=x) (v:=v) h;exact .inr ⟨x,t,rfl,e⟩
def qjH (a b:Int):decide ((Sum.inl a:Key)=Sum.inl b)=(a==b):=by
 by_cases e:a=b
 ·subst e;simp
 ·have h:¬ (Sum.inl a:Key)=Sum.inl b:=λq=>e (Sum.inl.inj q);rw [u9 h];exact (beq_eq_false_iff_ne.mpr e).symm
def qmk (a b:Str):decide ((Sum.inr a:Key)=Sum.inr b)=decide (a=b):=by
 by_cases e:a=b
 ·subst e;simp
 ·have h:¬ (Sum.inr a:Key)=Sum.inr b:=λq=>e (Sum.inr.inj q);rw [u9 h,u9 e]
def qlW (a:Int) (b:Str):decide ((Sum.inl a:Key)=Sum.inr b)=false:=u9 (λq=>nomatch q)
def qji (a:Str) (b:Int):decide ((Sum.inr a:Key)=Sum.inl b)=false:=u9 (λq=>nomatch q)
def qbg (prog:Program) (w:World):PySem.KeyKind prog w Key where
 is:=qjB
 hash:=qp5 w
 inj:=λv a b ha hb=>by
  rcases zm ha with ⟨i,t,rfl,rfl⟩|⟨x,t,rfl,rfl⟩
  ·rcases zm hb with ⟨j,u,rfl,e⟩|⟨y,u,rfl,e⟩
   ·injection e with e1 _;rw [e1]
   ·exact nomatch e
  ·rcases zm hb with ⟨j,u,rfl,e⟩|⟨y,u,rfl,e⟩
   ·exact nomatch e
   ·injection e with e1 _;rw [e1]
 byValue:=λk v h=>by
  rcases zm h with ⟨i,t,rfl,rfl⟩|⟨x,t,rfl,rfl⟩<;>rfl
 pyHash:=λhv h=>by
  rcases zm hv with ⟨i,t,rfl,rfl⟩|⟨x,t,rfl,rfl⟩
  ·exact wpAny_pyHash_int h
  ·exact wpAny_pyHash_str h
 eqBool:=λhu hv h=>by
  rcases zm hu with ⟨i,t,rfl,rfl⟩|⟨x,t,rfl,rfl⟩
  ·rcases zm hv with ⟨j,u,rfl,rfl⟩|⟨y,u,rfl,rfl⟩
   ·rw [qjH] at h;exact wpAny_eqBool_int h
   ·rw [qlW] at h;exact SeqAt.EqAt.int_str i t y u _ _ _ _ h
  ·rcases zm hv with ⟨j,u,rfl,rfl⟩|⟨y,u,rfl,rfl⟩
   ·rw [qji] at h;exact SeqAt.EqAt.str_int x t j u _ _ _ _ h
   ·rw [qmk] at h;exact wpAny_eqBool_str h
 «strs»:=λk x t v h=>by
  rcases zm h with ⟨i,u,rfl,e⟩|⟨y,u,rfl,e⟩
  ·exact nomatch e
  ·injection e with e1 _;subst e1;cases v<;>rfl
set_option genInjectivity true in
inductive V where
 |non|bl (b:Bool)|int (i:Int)|str (x:Str)|byt (b:Array UInt8)|flt (b:UInt64)|ref (a:Addr)|ty (n:String)
 deriving DecidableEq
def zO:V->Value->Prop
 |.non,u=>u=Value.none
 |.bl b,u=>u=Value.bool b
 |.int i,u=>∃ t,u=Value.int i t
 |.str x,u=>∃ t,u=Value.str x t
 |.byt b,u=>∃ t,u=Value.bytes b t
 |.flt b,u=>∃ t,u=Value.float b t
 |.ref a,u=>u=Value.ref a
 |.ty n,u=>u=Value.type n
abbrev zb:List V->List Value->Prop:=Paired zO
theorem zb.length {xs:List V} {us:List Value} (r:zb xs us):xs.length=us.length:=Paired.length r
theorem zb.get:∀ {xs:List V} {us:List Value} {i:Nat} {x:V},zb xs us->xs[i]?=some x->∃ u,us[i]?=some u/\zO x u
 |_,_,_,_,.nil,e=>by simp at e
 |_,_,0,_,.cons r _,e=>by simp at e;subst e;exact ⟨_,rfl,r⟩
 |_,_,i+1,x,.cons _ t,e=>by
  obtain ⟨u,h1,h2⟩:=zb.get (i:=i) (x:=x) t (by simpa using e);exact ⟨u,by simpa using h1,h2⟩
theorem zb.set {x:V} {u:Value} (r:zO x u):∀ {xs:List V} {us:List Value} (i:Nat),zb xs us->zb (xs.set i x) (us.set i u)
 |_,_,_,.nil=>.nil
 |_,_,0,.cons _ t=>.cons r t
 |_,_,i+1,.cons q t=>.cons q (zb.set r i t)
theorem zb.append:∀ {xs ys:List V} {us ws:List Value},zb xs us->zb ys ws->zb (xs++ys) (us++ws)
 |_,_,_,_,.nil,s=>s
 |_,_,_,_,.cons r t,s=>.cons r (zb.append t s)
theorem zb.take:∀ {xs:List V} {us:List Value} (n:Nat),zb xs us->zb (xs.take n) (us.take n)
 |_,_,0,_=>.nil
 |_,_,_+1,.nil=>.nil
 |_,_,n+1,.cons r t=>.cons r (zb.take n t)
theorem zb.drop:∀ {xs:List V} {us:List Value} (n:Nat),zb xs us->zb (xs.drop n) (us.drop n)
 |_,_,0,r=>r
 |_,_,_+1,.nil=>.nil
 |_,_,n+1,.cons _ t=>zb.drop n t
def qpm:Option V->Option Value->Prop
 |some v,some u=>zO v u
 |none,none=>True
 |_,_=>False
def KV {κ:Type}:List (κ×V)->List (κ×Value)->Prop:=Paired λ(p:κ×V) (q:κ×Value)=>p.1=q.1/\zO p.2 q.2
def kV:Key->V
 |.inl i=>.int i
 |.inr x=>.str x
inductive HO where
 /-- a list -/
 |lst (xs:List V)
 /-- a tuple (never changes) -/
 |tup (xs:List V)
 /-- a dict whose keys are ints and texts;one whose keys are tuples of ints and texts (the empty one is both) -/
 |dK (kvs:List (Key×V))|dT (kvs:List (List Key×V))
 /-- a set of ints: its members,its size -/
 |set (S:Int->Bool) (n:Nat)
 /-- an instance of the class at C,its dict at dx,its attributes -/
 |ins (C dx:Addr) (fs:List (Str×V))
 /-- the dict of the instance at x -/
 |own (x:Addr)
 /-- the dict of an exception -/
 |xd (fs:List (Str×V))
 /-- a bound method,f of x -/
 |met (f x:Addr)
 /-- a range object lo,lo+1,.. below hi -/
 |rng (lo hi:Int)
 /-- a thing that is known to the object (the script;a dict while a loop walks it): read,never written while it is so -/
 |frz (o:Obj) (u:HO)
 /-- a code object's table -/
 |tbl (ps:Array Value)
 /-- any other thing,by what is true of its one object (a def of one's own: SetO a S n:=HO.ext λh=>..) -/
 |ext (φ:Heap->Prop)
abbrev Hp:=Addr->Option HO
def upd (H:Hp) (a:Addr) (o:HO):Hp:=λb=>if b=a then some o else H b
def qI {H:Hp} {a:Addr} {o:HO}:upd H a o a=some o:=by unfold upd;rw [if_pos rfl]
def qv {H:Hp} {a b:Addr} {o:HO} (h:b≠a):upd H a o b=H b:=by unfold upd;rw [if_neg h]
def qB {H:Hp} {a b:Addr} {o:HO} (h:H a=some o) (h':H b=none):a≠b:=by
 intro e;subst e;rw [h] at h';cases h'
def VS (h:Heap) (a:Addr) (items:Array Value):Prop:=∃ o,h.get? a=some o/\o.cls=.type "tuple"/\∃ n,o.data=.seq items n/\o.dict=none
def VS.tup {h:Heap} {a:Addr} {items:Array Value} (x:VS h a items):IsTup h a items:=let ⟨o,a,b,n,d,_⟩:=x;⟨o,a,b,n,d⟩
def VS.new (h:Heap) (items:Array Value):VS (h.push { cls:=.type "tuple",data:=.seq items }) h.objs.size items:=⟨_,y4 _ rfl,rfl,_,rfl,rfl⟩
section
variable (P:Program) (w:World)
def VE (H:Hp) (h:Heap) (a:Addr):HO->Prop
 |.lst xs=>xs.length<=sizeLine/\∃ (its:List Value) (n:Nat),zb xs its/\h.get? a=some { cls:=.type "list",data:=.seq its.toArray n }
 |.tup xs=>xs.length<=sizeLine/\∃ its:List Value,zb xs its/\VS h a its.toArray
 |.dK kvs=>kvs.length<=sizeLine/\(a==sysModules)=false/\∃ vs,KV kvs vs/\h.DictOf (qbg P w) a vs
 |.dT kvs=>kvs.length<=sizeLine/\(a==sysModules)=false/\∃ xs:List (List Key×Addr×Value),
   Paired (λ(p:List Key×V) (q:List Key×Addr×Value)=>p.1=q.1/\H q.2.1=some (.tup (p.1.map kV))/\zO p.2 q.2.2) kvs xs /\
   ∃ o es ep,h.get? a=some o/\o.ExactDict/\o.data=.dict es ep/\es.toList=xs.map (entryOfKey (tupleKind (qbg P w)))/\(xs.map (·.1)).Nodup
 |.set S n=>h.SetOf (intKind P w) a S n
 |.ins C dx fs=>H dx=some (.own a)/\fs.length<=1000/\dx≠a/\h.get? a=some (PySem.W.instObj C dx) /\
   ∃ mA,h.Ns1 dx mA/\(∀ f,qpm (fs.lookup f) (mA f))/\PySem.Within mA (fs.map (·.1))
 |.own _=>∃ o,h.get? a=some o
 |.xd fs=>∃ mA,h.Ns1 a mA/\∀ f,qpm (fs.lookup f) (mA f)
 |.rng lo hi=>∃ t u v,h.get? a=some { cls:=.type "range",data:=.fields #[.int lo t,.int hi u,.int 1 v] }
 |.frz o u=>h.get? a=some o/\VE H h a u
 |.tbl ps=>h.get? a=some { cls:=.none,data:=.fields ps }
 |.met f x=>h.get? a=some (PySem.W.methodObj (.ref f) (.ref x))
 |.ext φ=>φ h/\(∃ o,h.get? a=some o)/\∀ h1 h2:Heap,φ h1->(∀ o,h1.get? a=some o->h2.get? a=some o)->φ h2
def HOk (H:Hp) (h:Heap):Prop:=∀ a o,H a=some o->VE P w H h a o
end
section
variable {P:Program} {w:World} {H H':Hp} {h h':Heap} {a:Addr} {o:HO}
theorem VE.lt (x:VE P w H h a o):a<h.objs.size:=by
 cases o with
 |lst xs=>obtain ⟨_,_,_,_,e⟩:=x;exact y6 e
 |tup xs=>obtain ⟨_,_,_,p⟩:=x;exact p.tup.lt
 |dK kvs=>obtain ⟨_,_,_,_,o,_,_,e,_⟩:=x;exact y6 e
 |dT kvs=>obtain ⟨_,_,_,_,o,_,_,e,_⟩:=x;exact y6 e
 |set S n=>obtain ⟨o,_,_,_,e,_⟩:=x;exact y6 e
 |ins C dx fs=>obtain ⟨_,_,_,e,_⟩:=x;exact y6 e
 |own y=>obtain ⟨_,e⟩:=x;exact y6 e
 |xd fs=>obtain ⟨_,⟨_,_,_,e,_⟩,_⟩:=x;exact y6 e
 |rng lo hi=>obtain ⟨_,_,_,e⟩:=x;exact y6 e
 |frz ob u=>obtain ⟨e,_⟩:=x;exact y6 e
 |tbl ps=>exact y6 (show h.get? a=some _ from x)
 |met f y=>exact y6 (show h.get? a=some _ from x)
 |ext φ=>obtain ⟨_,⟨_,e⟩,_⟩:=x;exact y6 e
theorem Paired.mapP {α β:Type} {F G:α->β->Prop}:∀ {l₁:List α} {l₂:List β},Paired F l₁ l₂->(∀ a b,F a b->G a b)->Paired G l₁ l₂
 |_,_,.nil,_=>.nil
 |_,_,.cons r t,f=>.cons (f _ _ r) (Paired.mapP t f)
def VE.stay (x:VE P w H h a o) (k:∀ b u,(b=a\/H b=some (.own a))->h.get? b=some u->h'.get? b=some u)
  (ho:∀ b,H b=some (.own a)->H' b=some (.own a)) (ht:∀ b xs,H b=some (.tup xs)->H' b=some (.tup xs)):VE P w H' h' a o:=by
 induction o with
 |lst xs=>obtain ⟨z,its,n,r,e⟩:=x;exact ⟨z,its,n,r,k _ _ (.inl rfl) e⟩
 |tup xs=>obtain ⟨z,its,r,ob,e,c⟩:=x;exact ⟨z,its,r,ob,k _ _ (.inl rfl) e,c⟩
 |dK kvs=>obtain ⟨z,y,vs,r,ob,es,ep,e,c⟩:=x;exact ⟨z,y,vs,r,ob,es,ep,k _ _ (.inl rfl) e,c⟩
 |dT kvs=>
  obtain ⟨z,y,xs,r,ob,es,ep,e,c⟩:=x;exact ⟨z,y,xs,Paired.mapP r λp q z=>⟨z.1,ht _ _ z.2.1,z.2.2⟩,ob,es,ep,k _ _ (.inl rfl) e,c⟩
 |set S n=>obtain ⟨ob,es,ep,t,e,c⟩:=x;exact ⟨ob,es,ep,t,k _ _ (.inl rfl) e,c⟩
 |ins C dx fs=>
  obtain ⟨d,z,ne,e,mA,⟨od,es,ep,e2,c⟩,r⟩:=x;exact ⟨ho _ d,z,ne,k _ _ (.inl rfl) e,mA,⟨od,es,ep,k _ _ (.inr d) e2,c⟩,r⟩
 |own y=>obtain ⟨ob,e⟩:=x;exact ⟨ob,k _ _ (.inl rfl) e⟩
 |xd fs=>obtain ⟨mA,⟨od,es,ep,e,c⟩,r⟩:=x;exact ⟨mA,⟨od,es,ep,k _ _ (.inl rfl) e,c⟩,r⟩
 |rng lo hi=>obtain ⟨t,u,v,e⟩:=x;exact ⟨t,u,v,k _ _ (.inl rfl) e⟩
 |frz ob u ih=>obtain ⟨e,q⟩:=x;exact ⟨k _ _ (.inl rfl) e,ih q⟩
 |tbl ps=>
  have e:h.get? a=some { cls:=.none,data:=.fields ps }:=x;show h'.get? a=some { cls:=.none,data:=.fields ps };exact k a _ (.inl rfl) e
 |met f y=>
  have e:h.get? a=some (PySem.W.methodObj (.ref f) (.ref y)):=x;show h'.get? a=some (PySem.W.methodObj (.ref f) (.ref y));exact k a _ (.inl rfl) e
 |ext φ=>obtain ⟨p,⟨o,e⟩,st⟩:=x;exact ⟨st _ _ p λo q=>k _ _ (.inl rfl) q,⟨o,k _ _ (.inl rfl) e⟩,st⟩
theorem HOk.lt (x:HOk P w H h) (e:H a=some o):a<h.objs.size:=(x a o e).lt
def HOk.fresh (x:HOk P w H h) (e:h.objs.size<=a):H a=none:=by
 cases q:H a with
 |none=>rfl
 |some u=>exact absurd (v9 (x.lt q) e) (Nat.lt_irrefl _)
def HOk.kept (x:HOk P w H h) (k:∀ b u,h.get? b=some u->h'.get? b=some u):HOk P w H h':=λa o e=>
 (x a o e).stay (λb u _ q=>k b u q) (λ_ q=>q) λ_ _ q=>q
def HOk.laid (x:HOk P w H h) (k:∀ b u,h.get? b=some u->h'.get? b=some u) (hp:h.objs.size<=a) (new:VE P w (upd H a o) h' a o):HOk P w (upd H a o) h':=λb u e=>by
 have hn:=x.fresh hp;by_cases hb:b=a
 ·subst hb;rw [qI] at e;cases e;exact new
 ·rw [qv hb] at e;exact (x b u e).stay (λc v _ q=>k c v q) (λc q=>by rw [qv (qB q hn)];exact q) λc xs q=>by rw [qv (qB q hn)];exact q
end
def Rd (H:Hp) (a:Addr) (u:HO):Prop:=H a=some u\/∃ o,H a=some (.frz o u)
def Rd.ok {P:Program} {w:World} {H:Hp} {h:Heap} {a:Addr} {u:HO} (r:Rd H a u) (x:HOk P w H h):VE P w H h a u:=by
 rcases r with r|⟨o,r⟩
 ·exact x a u r
 ·obtain ⟨_,q⟩:=x a _ r;exact q
def Mut:Option HO->Prop
 |some (.lst _)=>True
 |some (.dK _)=>True
 |some (.dT _)=>True
 |some (.set _ _)=>True
 |some (.ins _ _ _)=>True
 |some (.ext _)=>True
 |_=>False
section
variable {P:Program} {w:World} {H:Hp} {h h':Heap} {x e:Addr} {o':HO}
def HOk.write (ok:HOk P w H h) (mu:Mut (H x)) (he:e=x\/H e=some (.own x)) (k:∀ b u,b≠e->h.get? b=some u->h'.get? b=some u) (heo:∃ u,h'.get? e=some u)
  (new:VE P w (upd H x o') h' x o'):HOk P w (upd H x o') h':=λb u q=>by
 have nown:∀ c y,H c=some (.own y)->c≠x:=λc y r z=>by subst z;rw [r] at mu;exact mu
 have ntup:∀ c xs,H c=some (.tup xs)->c≠x:=λc xs r z=>by subst z;rw [r] at mu;exact mu
 by_cases hb:b=x
 ·subst hb;rw [qI] at q;cases q;exact new
 ·rw [qv hb] at q;by_cases hbe:b=e
  ·have q':H b=some (.own x):=by
    rcases he with z|z
    ·exact absurd (hbe.trans z) hb
    ·rw [hbe];exact z
   rw [q] at q';cases q';obtain ⟨v,hv⟩:=heo;exact ⟨v,by rw [hbe];exact hv⟩
  ·refine (ok b u q).stay (λc v hc r=>k c v ?_ r) (λc r=>by rw [qv (nown c b r)];exact r) λc xs r=>by rw [qv (ntup c xs r)];exact r
   rcases hc with rfl|hc
   ·exact hbe
   ·rintro rfl;rcases he with z|z
    ·exact nown c b hc z
    ·rw [hc] at z;cases z;exact hb rfl
end
structure Un (fs ex:List Addr) (H H':Hp) (h h':Heap):Prop where
 keep:∀ b o,h.get? b=some o->H b=none->b∉fs->b∉ex->h'.get? b=some o
 slot:∀ b o,h.get? b=some o->H b=none->b∈fs->b∉ex->∃ sl,h'.get? b=some { o with slots:=sl }
 free:∀ b o,h.get? b=some o->H b=none->b∉ex->H' b=none
 there:∀ b o,h.get? b=some o->b∉ex->∃ o',h'.get? b=some o'
 tups:∀ b xs,H b=some (.tup xs)->H' b=some (.tup xs)
 frzs:∀ b o u,H b=some (.frz o u)->H' b=some (.frz o u)
 tbls:∀ b ps,H b=some (.tbl ps)->∃ more,H' b=some (.tbl (ps++more))
section
variable {fs fs' ex ex':List Addr} {H H1 H2:Hp} {h h1 h2 h':Heap} {a x e:Addr} {o:HO}
def Un.any (u:Un fs ex H H1 h h1) {b:Addr} {ob:Obj} (q:h.get? b=some ob) (n:H b=none) (hx:b∉ex):∃ sl,h1.get? b=some { ob with slots:=sl }:=by
 by_cases hb:b∈fs
 ·exact u.slot b ob q n hb hx
 ·exact ⟨ob.slots,u.keep b ob q n hb hx⟩
def Un.kept (k:∀ b u,h.get? b=some u->h'.get? b=some u):Un fs ex H H h h':=
 ⟨λb ob q _ _ _=>k b ob q,λb ob q _ _ _=>⟨ob.slots,k b ob q⟩,λ_ _ _ n _=>n,λb ob q _=>⟨ob,k b ob q⟩,λ_ _ q=>q,λ_ _ _ q=>q,λ_ ps q=>⟨#[],by rw [q];simp⟩⟩
def Un.refl:Un fs ex H H h h:=Un.kept λ_ _ q=>q
def Un.laid (k:∀ b u,h.get? b=some u->h'.get? b=some u) (hp:h.objs.size<=a) (hn:H a=none):Un fs ex H (upd H a o) h h' where
 keep:=λb u q _ _ _=>k b u q
 slot:=λb u q _ _ _=>⟨u.slots,k b u q⟩
 free:=λb u q n _=>by rw [qv (u6 (v9 (y6 q) hp))];exact n
 there:=λb u q _=>⟨u,k b u q⟩
 tups:=λb xs q=>by rw [qv (qB q hn)];exact q
 frzs:=λb u xs q=>by rw [qv (qB q hn)];exact q
 tbls:=λb ps q=>⟨#[],by rw [qv (qB q hn),q];simp⟩
def Un.write (mu:Mut (H x)) (he:e=x\/H e=some (.own x)) (k:∀ b u,b≠e->h.get? b=some u->h'.get? b=some u) (heo:∃ u,h'.get? e=some u):Un fs ex H (upd H x o) h h':=by
 have hx:∀ b,H b=none->b≠x:=λb n z=>by subst z;rw [n] at mu;exact mu
 have hb:∀ b,H b=none->b≠e:=λb n z=>by
  subst z;rcases he with r|r
  ·exact hx b n r
  ·rw [n] at r;cases r
 have hm:∀ b u,H b=some u->¬ Mut (some u)->b≠x:=λb u q nm z=>by subst z;rw [q] at mu;exact nm mu
 refine ⟨λb u q n _ _=>k b u (hb b n) q,λb u q n _ _=>⟨u.slots,k b u (hb b n) q⟩,λb u q n _=>by rw [qv (hx b n)];exact n,λb u q _=>?_,
  λb xs q=>by rw [qv (hm b _ q λz=>z)];exact q,λb u xs q=>by rw [qv (hm b _ q λz=>z)];exact q,λb ps q=>⟨#[],by rw [qv (hm b _ q λz=>z),q];simp⟩⟩
 by_cases hbe:b=e
 ·subst hbe;exact heo
 ·exact ⟨u,k b u hbe q⟩
end
def trk (h:Heap) (H:Hp):List Addr:=(List.range h.objs.size).filter λa=>(H a).isSome
def qdL (h:Heap) (H:Hp):Heap:=PySem.W.hideAll h (trk h H)
def qb1 (h:Heap) (H:Hp):(qdL h H).objs.size=h.objs.size:=PySem.W.hideAll_size _ _
def qd7 {h:Heap} {H:Hp} {b:Addr} {o:Obj} (e:h.get? b=some o) (n:H b=none):(qdL h H).get? b=some o:=
 PySem.W.hideAll_get _ e λhm=>by
  have q:(H b).isSome=true:=(List.mem_filter.mp hm).2;rw [n] at q;simp at q
def qhw {h:Heap} {H:Hp} {b:Addr} {o:Obj} (e:(qdL h H).get? b=some o):h.get? b=some o/\H b=none:=by
 have e':h.get? b=some o:=PySem.W.of_hideAll (trk h H) e;refine ⟨e',?_⟩;cases q:H b with
 |none=>rfl
 |some x=>
  have hm:b∈trk h H:=List.mem_filter.mpr ⟨mem_range.mpr (y6 e'),by simp [q]⟩;have z:(qdL h H).get? b=none:=PySem.W.hideAll_none (trk h H) hm;rw [z] at e;cases e
def qiJ (g h:Heap) (L:Addr):List (Addr×Obj):=(List.range h.objs.size).filterMap λa=>if a=L\/(g.get? a).isSome=true then none else (h.get? a).map λo=>(a,o)
def QG (g h:Heap) (L d:Addr):List (Addr×Obj):=(qiJ g h L).filter λp=>decide (p.1≠d)
structure Mod (K:Frg) (mg:Str->Option Value) (base:Heap):Prop where
 kin:K.In base
 glob:base.Ns mainGlobals mg
 blt:∃ mb,base.Ns builtinsNs mb/\∀ x:Str,x≠"__name__" -> mb x=bootBuiltins x
 nolimit:base.NoLimit
structure Cx where
 prog:Program
 w:World
 K:PySem.W.Frag
 mg:Str->Option Value
 base:Heap
 A:Around
 N:List Str
 s₀:Shared
 H₀:Hp
 env:Env
 outer:List Env
 stack:List Env
 ex:List Addr
 fn:Str->Bool
 calm:Bool
 pn:List (Addr×Obj)
 xe:Value->Shared->Prop
def frs (l:List Env):List Addr:=l.filterMap (·.frame)
abbrev Cx.fs (X:Cx):List Addr:=frs X.outer
def Vis (sc:Scope) (x:Str):Prop:=sc.names.lookup x=some .local\/sc.names.lookup x=some .cell\/sc.names.lookup x=some .free
def Loc (sc:Scope) (x:Str):Prop:=sc.names.lookup x=some .local\/sc.names.lookup x=some .cell
def qqu (env:Env) (h:Heap) (m:Str->Option Value) (x:Str) (u:Value):Prop:=
 (env.kindOf x=some .local/\m x=some u)\/((env.kindOf x=some .cell\/env.kindOf x=some .free)/\∃ c,env.cells.lookup x=some c/\h.IsCell c (some u))
structure Cx.Ok (X:Cx):Prop where
 mod:Mod X.K X.mg X.base
 kind:X.env.scope.kind=.function
 glob:X.env.globals=mainGlobals
 blt:X.env.builtins=builtinsNs
 above:X.s₀.heap.objs.size<=X.env.locals
 inj:∀ x y c,X.env.cells.lookup x=some c->X.env.cells.lookup y=some c->x=y
 has:∀ x,(X.env.kindOf x=some .cell\/X.env.kindOf x=some .free)->∃ c,X.env.cells.lookup x=some c
 cab:∀ x c,X.fn x=true->X.env.cells.lookup x=some c->X.s₀.heap.objs.size<=c
 hd:X.calm=true->X.A.handled=none
 frames:X.A.frames=some X.stack
 stk:X.stack=X.outer\/(X.stack=X.env::X.outer/\X.env.frame=some X.env.locals)
 exf:∀ b∈X.ex,b≠X.env.locals/\∀ x c,X.env.cells.lookup x=some c->c≠b
 bs:∀ b o,X.base.get? b=some o->X.s₀.heap.get? b=some o/\X.H₀ b=none
 bsz:X.base.objs.size<=X.s₀.heap.objs.size
 noex:∀ b o,X.base.get? b=some o->b∉X.ex
 exfs:∀ b∈X.ex,b∉X.fs
 funs:X.s₀.heap.FunFrames X.base X.outer
 frf:∀ b∈X.fs,X.H₀ b=none
structure Inv (X:Cx) (pins:List (Addr×Obj)) (σ:List (Option V)) (H:Hp) (s:Shared):Prop where
 ok:X.Ok
 os:s.os=X.s₀.os
 bare:AllBare s.gens
 base:Un X.fs X.ex X.H₀ H X.s₀.heap s.heap
 loc:∃ m,s.heap.Ns X.env.locals m/\∀ (i:Nat) (x:Str) (v:V),X.N[i]?=some x->σ[i]?=some (some v)->Vis X.env.scope x->∃ u,zO v u/\qqu X.env s.heap m x u
 cell:∀ x c,X.env.cells.lookup x=some c->∃ v,s.heap.IsCell c v
 free:H X.env.locals=none
 freeC:∀ x c,X.env.cells.lookup x=some c->H c=none
 pin:∀ p∈X.pn++pins,s.heap.get? p.1=some p.2/\H p.1=none/\p.1≠X.env.locals/\p.1∉X.fs/\∀ v,p.2.data≠.cell v
 hok:HOk X.prog X.w H s.heap
 len:σ.length=X.N.length
section
variable {X:Cx} {pins:List (Addr×Obj)} {σ:List (Option V)} {H H':Hp} {s:Shared} {h':Heap}
def Cx.Ok.nofr (ok:X.Ok) {b:Addr} {o:Obj} (e:X.base.get? b=some o):b∉X.fs:=λhb=>by
 have:=(ok.funs.mem hb).1;rw [e] at this;cases this
theorem Inv.bs (I:Inv X pins σ H s):∀ b o,X.base.get? b=some o->s.heap.get? b=some o/\H b=none:=λb o e=>
 ⟨I.base.keep b o (I.ok.bs b o e).1 (I.ok.bs b o e).2 (I.ok.nofr e) (I.ok.noex b o e),I.base.free b o (I.ok.bs b o e).1 (I.ok.bs b o e).2 (I.ok.noex b o e)⟩
def Inv.bk (I:Inv X pins σ H s):∀ b o,X.base.get? b=some o->s.heap.get? b=some o:=λb o e=>(I.bs b o e).1
theorem Inv.mod (I:Inv X pins σ H s):Mod X.K X.mg X.base:=I.ok.mod
def Inv.kIn (I:Inv X pins σ H s):X.K.In s.heap:=I.ok.mod.kin.keeps I.bk
theorem Inv.nolimit (I:Inv X pins σ H s):s.heap.NoLimit:=I.ok.mod.nolimit.keeps I.bk
def Inv.fr (I:Inv X pins σ H s):∃ m,Fr X.base X.env.locals s.heap m:=
 let ⟨m,hn,_⟩:=I.loc
 ⟨m,hn,I.bk,u5 I.ok.bsz I.ok.above⟩
theorem Inv.lt (I:Inv X pins σ H s):X.env.locals<s.heap.objs.size:=let ⟨_,hn,_⟩:=I.loc;hn.lt
def Inv.sz (I:Inv X pins σ H s):X.s₀.heap.objs.size<=s.heap.objs.size:=u5 I.ok.above (Nat.le_of_lt I.lt)
def Inv.nofs (I:Inv X pins σ H s) {a:Addr} (h:s.heap.objs.size<=a):a∉X.fs:=λhb=>by
 obtain ⟨_,o,ho,_⟩:=I.ok.funs.mem hb;exact absurd (v9 (y6 ho) (u5 I.sz h)) (Nat.lt_irrefl _)
def Inv.cne (I:Inv X pins σ H s):∀ x c,X.env.cells.lookup x=some c->c≠X.env.locals:=λx c e z=>by
 obtain ⟨v,o,ho,hd⟩:=I.cell x c e;obtain ⟨m,⟨o',es,ep,ho',hd',_⟩,_⟩:=I.loc;rw [z,ho'] at ho;cases ho;rw [hd'] at hd;cases hd
theorem Inv.funs (I:Inv X pins σ H s):s.heap.FunFrames X.base X.outer:=by
 have all:∀ (l:List Env),(∀ b∈frs l,b∈X.fs)->X.s₀.heap.FunFrames X.base l->s.heap.FunFrames X.base l:=by
  intro l;induction l with
  |nil=>intro _ _;trivial
  |cons env r ih=>
   intro hs hl;obtain ⟨hk,⟨L,o,hf,hn,ho,hd⟩,hr⟩:=hl;have hL:L∈X.fs:=hs L (by unfold frs;rw [List.filterMap_cons,hf];exact u8);obtain ⟨sl,e⟩:=I.base.slot L o ho (I.ok.frf L hL) hL λz=>I.ok.exfs L z hL;exact ⟨hk,⟨L,_,hf,hn,e,hd⟩,ih (λb hb=>hs b (by unfold frs;rw [List.filterMap_cons,hf];exact v7 _ hb)) hr⟩
 exact all X.outer (λ_ hb=>hb) I.ok.funs
theorem Inv.stack (I:Inv X pins σ H s):s.heap.FunFrames X.base X.stack:=by
 rcases I.ok.stk with e|⟨e,hf⟩
 ·rw [e];exact I.funs
 ·rw [e];obtain ⟨m,hn,_⟩:=I.loc;refine .cons (by rw [I.ok.kind];decide) hf hn ?_ I.funs;exact Heap.get?_none_of_le (u5 I.ok.bsz I.ok.above)
def Inv.stkSub (I:Inv X pins σ H s):∀ b∈frs X.stack,b∈X.env.locals::X.fs:=λb hb=>by
 rcases I.ok.stk with e|⟨e,hf⟩
 ·rw [e] at hb;exact v7 _ hb
 ·rw [e] at hb;unfold frs at hb;rw [List.filterMap_cons,hf] at hb;exact hb
def Inv.stkFree (I:Inv X pins σ H s):∀ b∈frs X.stack,H b=none:=λb hb=>by
 rcases mem_cons.mp (I.stkSub b hb) with e|hb
 ·rw [e];exact I.free
 ·obtain ⟨_,o,ho,_⟩:=I.ok.funs.mem hb;exact I.base.free b o ho (I.ok.frf b hb) λz=>I.ok.exfs b z hb
def Inv.step {g':Array GenState} {t':Nat} {d':Drawn} {ch:List Addr} (I:Inv X pins σ H s)
  (hch:∀ b∈ch,(b∈X.ex\/X.s₀.heap.objs.size<=b)/\b≠X.env.locals/\(∀ x c,X.env.cells.lookup x=some c->c≠b)/\∀ p∈X.pn++pins,p.1≠b)
  (keep:∀ b o,b≠X.env.locals->b∉X.fs->b∉ch->s.heap.get? b=some o->H b=none->h'.get? b=some o)
  (slot:∀ b o,b≠X.env.locals->b∈X.fs->b∉ch->s.heap.get? b=some o->H b=none->∃ sl,h'.get? b=some { o with slots:=sl }) (free:∀ b o,b∉ch->s.heap.get? b=some o->H b=none->H' b=none)
  (there:∀ b o,b∉ch->s.heap.get? b=some o->∃ o',h'.get? b=some o')
  (tups:∀ b xs,H b=some (.tup xs)->H' b=some (.tup xs)) (frzs:∀ b o u,H b=some (.frz o u)->H' b=some (.frz o u)) (tbls:∀ b ps,H b=some (.tbl ps)->∃ more,H' b=some (.tbl (ps++more)))
  (ns:∀ m,s.heap.Ns X.env.locals m->h'.Ns X.env.locals m) (hok:HOk X.prog X.w H' h') (hg:AllBare g') :
  Inv X pins σ H' { s with heap:=h',gens:=g',drawn:=d',toks:=t' }:=by
 have neL:∀ b o,X.s₀.heap.get? b=some o->b≠X.env.locals:=λb o e=>u6 (v9 (y6 e) I.ok.above);have neC:∀ b o,X.s₀.heap.get? b=some o->b∉X.ex->b∉ch:=λb o e hx hb=>by
  rcases (hch b hb).1 with z|z
  ·exact hx z
  ·exact absurd (v9 (y6 e) z) (Nat.lt_irrefl _)
 have cellK:∀ x c,X.env.cells.lookup x=some c->∀ v,s.heap.IsCell c v->h'.IsCell c v:=λx c e v ⟨o,ho,hd⟩=>by
  have nch:c∉ch:=λz=>(hch c z).2.2.1 x c e rfl;by_cases hc:c∈X.fs
  ·obtain ⟨sl,q⟩:=slot c o (I.cne x c e) hc nch ho (I.freeC x c e);exact ⟨_,q,hd⟩
  ·exact ⟨o,keep c o (I.cne x c e) hc nch ho (I.freeC x c e),hd⟩
 refine ⟨I.ok,I.os,hg,⟨λb o e n hb hx=>?_,λb o e n hb hx=>?_,λb o e n hx=>?_,λb o e hx=>?_,λb xs e=>tups b xs (I.base.tups b xs e),λb o xs e=>frzs b o xs (I.base.frzs b o xs e),λb ps e=>?_⟩,?_,λx c e=>?_,?_,λx c e=>?_,λp hp=>?_,hok,I.len⟩
 ·exact keep b o (neL b o e) hb (neC b o e hx) (I.base.keep b o e n hb hx) (I.base.free b o e n hx)
 ·obtain ⟨sl,e1⟩:=I.base.slot b o e n hb hx;obtain ⟨sl',e2⟩:=slot b _ (neL b o e) hb (neC b o e hx) e1 (I.base.free b o e n hx);exact ⟨sl',e2⟩
 ·obtain ⟨o',e1⟩:=I.base.there b o e hx;exact free b o' (neC b o e hx) e1 (I.base.free b o e n hx)
 ·obtain ⟨o',e1⟩:=I.base.there b o e hx;exact there b o' (neC b o e hx) e1
 ·obtain ⟨m1,e1⟩:=I.base.tbls b ps e;obtain ⟨m2,e2⟩:=tbls b _ e1;exact ⟨m1++m2,by rw [e2,Array.append_assoc]⟩
 ·obtain ⟨m,hn,hl⟩:=I.loc;refine ⟨m,ns m hn,λi x v e1 e2 e3=>?_⟩;obtain ⟨u,r,l⟩:=hl i x v e1 e2 e3;refine ⟨u,r,?_⟩;rcases l with l|⟨k,c,e,z⟩
  ·exact .inl l
  ·exact .inr ⟨k,c,e,cellK x c e _ z⟩
 ·obtain ⟨v,z⟩:=I.cell x c e;exact ⟨v,cellK x c e v z⟩
 ·obtain ⟨m,⟨o,_,_,ho,_⟩,_⟩:=I.loc;exact free _ o (λz=>(hch _ z).2.1 rfl) ho I.free
 ·obtain ⟨v,o,ho,hd⟩:=I.cell x c e;exact free c o (λz=>(hch c z).2.2.1 x c e rfl) ho (I.freeC x c e)
 ·obtain ⟨e,n,ne,nf,d⟩:=I.pin p hp;have nch:p.1∉ch:=λz=>(hch p.1 z).2.2.2 p hp rfl;exact ⟨keep p.1 p.2 ne nf nch e n,free p.1 p.2 nch e n,ne,nf,d⟩
def Inv.un {t':Nat} (I:Inv X pins σ H s) (u:Un X.fs [] H H' s.heap h') (hok:HOk X.prog X.w H' h'):Inv X pins σ H' { s with heap:=h',toks:=t' }:=by
 obtain ⟨m,⟨o,es,ep,ho,r⟩,_⟩:=id I.loc;obtain ⟨sl,hL⟩:=u.any ho I.free (by simp);exact I.step (g':=s.gens) (d':=s.drawn) (ch:=[]) (λ_ z=>nomatch z) (λb o _ hb _ e n=>u.keep b o e n hb (by simp)) (λb o _ hb _ e n=>u.slot b o e n hb (by simp)) (λb o _ e n=>u.free b o e n (by simp)) (λb o _ e=>u.there b o e (by simp)) u.tups u.frzs u.tbls (λm' hm=>by
  obtain ⟨o',es',ep',ho',r'⟩:=hm;rw [ho] at ho';cases ho';exact ⟨_,es',ep',hL,r'⟩) hok I.bare
def Inv.call {g':Array GenState} {t':Nat} {d':Drawn} {ch:List Addr} (I:Inv X pins σ H s) (u:Un (frs X.stack) ch H H' s.heap h') (hok:HOk X.prog X.w H' h') (hg:AllBare g')
  (hch:∀ b∈ch,(b∈X.ex\/X.s₀.heap.objs.size<=b)/\b≠X.env.locals/\(∀ x c,X.env.cells.lookup x=some c->c≠b)/\∀ p∈X.pn++pins,p.1≠b) :
  Inv X pins σ H' { s with heap:=h',gens:=g',drawn:=d',toks:=t' }:=by
 obtain ⟨m,⟨o,es,ep,ho,r⟩,_⟩:=id I.loc;obtain ⟨sl,hL⟩:=u.any ho I.free λz=>(hch _ z).2.1 rfl;exact I.step (ch:=ch) hch (λb o hL hb hc e n=>u.keep b o e n (λz=>(mem_cons.mp (I.stkSub b z)).elim hL hb) hc) (λb o _ _ hc e n=>u.any e n hc) (λb o hc e n=>u.free b o e n hc) (λb o hc e=>u.there b o e hc) u.tups u.frzs u.tbls (λm' hm=>by
  obtain ⟨o',es',ep',ho',r'⟩:=hm;rw [ho] at ho';cases ho';exact ⟨_,es',ep',hL,r'⟩) hok hg
def Inv.turned {t':Nat} {it:Addr} (I:Inv X pins σ H s) (k:∀ b o,b≠it->s.heap.get? b=some o->h'.get? b=some o) (hn:H it=none) (hL:it≠X.env.locals)
  (h1:it∈X.ex\/X.s₀.heap.objs.size<=it) (h2:∀ x c,X.env.cells.lookup x=some c->c≠it) (h3:∀ p∈X.pn++pins,p.1≠it):Inv X pins σ H { s with heap:=h',toks:=t' }:=by
 have nit:∀ b u,H b=some u->b≠it:=λb u e z=>by rw [z,hn] at e;cases e
 refine I.step (g':=s.gens) (d':=s.drawn) (ch:=[it]) (λb hb=>?_) (λb o _ _ hc e _=>k b o (λz=>hc (by simp [z])) e) (λb o _ _ hc e _=>⟨o.slots,k b o (λz=>hc (by simp [z])) e⟩) (λ_ _ _ _ n=>n)
  (λb o hc e=>⟨o,k b o (λz=>hc (by simp [z])) e⟩) (λ_ _ e=>e) (λ_ _ _ e=>e) (λb ps e=>⟨#[],by rw [e];simp⟩) (λm hm=>?_) (λb u e=>?_) I.bare
 ·have e:b=it:=by simpa using hb
  subst e;exact ⟨h1,hL,h2,h3⟩
 ·obtain ⟨o,es,ep,ho,r⟩:=hm;exact ⟨o,es,ep,k _ o (Ne.symm hL) ho,r⟩
 ·refine (I.hok b u e).stay (λc v hc q=>k c v ?_ q) (λ_ q=>q) λ_ _ q=>q;rcases hc with z|z
  ·rw [z];exact nit b u e
  ·exact nit c _ z
def Inv.tok (I:Inv X pins σ H s) (t:Nat):Inv X pins σ H { s with toks:=t }:=I.un (h':=s.heap) (t':=t) Un.refl I.hok
theorem Inv.kept {t':Nat} (I:Inv X pins σ H s) (k:∀ b u,s.heap.get? b=some u->h'.get? b=some u):Inv X pins σ H { s with heap:=h',toks:=t' }:=I.un (Un.kept k) (I.hok.kept k)
theorem Inv.laid {a:Addr} {o:HO} {t':Nat} (I:Inv X pins σ H s) (k:∀ b u,s.heap.get? b=some u->h'.get? b=some u) (hp:s.heap.objs.size<=a) (new:VE X.prog X.w (upd H a o) h' a o) :
  Inv X pins σ (upd H a o) { s with heap:=h',toks:=t' }:=I.un (Un.laid k hp (I.hok.fresh hp)) (I.hok.laid k hp new)
theorem Inv.write {x e:Addr} {o:HO} {t':Nat} (I:Inv X pins σ H s) (mu:Mut (H x)) (he:e=x\/H e=some (.own x)) (k:∀ b u,b≠e->s.heap.get? b=some u->h'.get? b=some u) (heo:∃ u,h'.get? e=some u)
  (new:VE X.prog X.w (upd H x o) h' x o):Inv X pins σ (upd H x o) { s with heap:=h',toks:=t' }:=I.un (Un.write mu he k heo) (I.hok.write mu he k heo new)
def Inv.pins_of {pins':List (Addr×Obj)} (I:Inv X pins σ H s) (h:∀ p∈pins',s.heap.get? p.1=some p.2/\H p.1=none/\p.1≠X.env.locals/\p.1∉X.fs/\∀ v,p.2.data≠.cell v):Inv X pins' σ H s:=
 ⟨I.ok,I.os,I.bare,I.base,I.loc,I.cell,I.free,I.freeC,λp hp=>(List.mem_append.mp hp).elim (λz=>I.pin p (List.mem_append_left _ z)) (h p),I.hok,I.len⟩
def MN {N:List Str} (hN:N.Nodup) {i j:Nat} {x:Str} (a:N[i]?=some x) (b:N[j]?=some x):i=j:=by
 obtain ⟨h1,e1⟩:=za2 a;obtain ⟨h2,e2⟩:=za2 b;exact (List.getElem_inj hN).mp (e1.trans e2.symm)
def R7 {M:Model} {A:Around} {E:Value->Shared->Prop} {i:Nat} {x:Str} {v:V} {u:Value} {Q:Unit->Shared->Prop} (I:Inv X pins σ H s) (hN:X.N.Nodup) (hi:X.N[i]?=some x) (hx:Loc X.env.scope x) (r:zO v u)
  (h:∀ s',Inv X pins (σ.set i (some v)) H s'->(∃ a,Heap.SameBut a s.heap s'.heap/\(a=X.env.locals\/X.env.cells.lookup x=some a))->Q () s') (hf:X.fn x=true\/X.env.scope.names.lookup x=some .local:=by first|exact .inl rfl|exact .inr rfl|assumption):wpAny M A (storeName X.env x u) Q E s:=by
 obtain ⟨m,hn,hl⟩:=id I.loc;have hcls:(X.env.scope.kind==.class||(X.env.scope.kind==.module&&X.env.locals != X.env.globals))=false:=by rw [I.ok.kind];rfl
 have hiσ:i<σ.length:=by rw [I.len];exact (za2 hi).1
 have cne:=I.cne;have tracked:∀ {a:Addr} {h':Heap},(∃ o,s.heap.get? a=some o/\H a=none)->Heap.SameBut a s.heap h'->HOk X.prog X.w H h':=λ{a h'} ha hs b ob e=>by
  obtain ⟨_,_,hfree⟩:=ha;refine (I.hok b ob e).stay (λc w' hc q=>(hs.2 c ?_).trans q) (λ_ q=>q) λ_ _ q=>q;rintro rfl;rcases hc with rfl|hc
  ·rw [hfree] at e;cases e
  ·rw [hfree] at hc;cases hc
 rcases hx with hk|hk
 ·refine wpAny_storeName_local hk hn (λh' hn' hs=>?_) hcls;obtain ⟨oL,_,_,hoL,_⟩:=id hn;refine h _ ⟨I.ok,I.os,I.bare,⟨λb o e n hb hx=>?_,λb o e n hb hx=>?_,I.base.free,λb o e hx=>?_,I.base.tups,I.base.frzs,I.base.tbls⟩,⟨_,hn',λj y v' e1 e2 e3=>?_⟩,λy c e=>?_,I.free,I.freeC,λp hp=>?_,tracked ⟨oL,hoL,I.free⟩ hs,by simpa using I.len⟩ ⟨_,hs,.inl rfl⟩
  ·exact (hs.2 b (u6 (v9 (y6 e) I.ok.above))).trans (I.base.keep b o e n hb hx)
  ·obtain ⟨sl,e1⟩:=I.base.slot b o e n hb hx;exact ⟨sl,(hs.2 b (u6 (v9 (y6 e) I.ok.above))).trans e1⟩
  ·obtain ⟨o',e1⟩:=I.base.there b o e hx;exact ⟨o',(hs.2 b (u6 (v9 (y6 e) I.ok.above))).trans e1⟩
  ·by_cases hj:j=i
   ·subst hj;rw [hi] at e1;cases e1;rw [List.getElem?_set_self hiσ] at e2;cases e2;exact ⟨u,r,.inl ⟨hk,by simp⟩⟩
   ·rw [List.getElem?_set_ne (Ne.symm hj)] at e2;obtain ⟨u',r',q⟩:=hl j y v' e1 e2 e3;refine ⟨u',r',?_⟩;rcases q with ⟨k,e⟩|⟨k,c,e,z⟩
    ·refine .inl ⟨k,?_⟩;have:y≠x:=λe=>hj (MN hN e1 (e▸hi));simp [this,e]
    ·exact .inr ⟨k,c,e,z.sameBut hs (cne y c e)⟩
  ·obtain ⟨w',z⟩:=I.cell y c e;exact ⟨w',z.sameBut hs (cne y c e)⟩
  ·obtain ⟨e,n,ne,nf,d⟩:=I.pin p hp;exact ⟨(hs.2 p.1 ne).trans e,n,ne,nf,d⟩
 ·have hfn:X.fn x=true:=by
   rcases hf with z|z
   ·exact z
   ·rw [z] at hk;cases hk
  obtain ⟨c,hc⟩:=I.ok.has x (.inl hk);obtain ⟨w',z⟩:=I.cell x c hc;refine wpAny_storeName_cell I.ok.kind hk hc z (λh' hc' hs=>?_);obtain ⟨oc,hoc,hocd⟩:=id z;refine h { s with heap:=h' } ⟨I.ok,I.os,I.bare,⟨λb o e n hb hx=>?_,λb o e n hb hx=>?_,I.base.free,λb o e hx=>?_,I.base.tups,I.base.frzs,I.base.tbls⟩,⟨m,hn.sameBut hs (Ne.symm (cne x c hc)),λj y v' e1 e2 e3=>?_⟩,λy c' e=>?_,I.free,I.freeC,λp hp=>?_,tracked ⟨oc,hoc,I.freeC x c hc⟩ hs,by simpa using I.len⟩ ⟨c,hs,.inr hc⟩
  ·exact (hs.2 b (u6 (v9 (y6 e) (I.ok.cab x c hfn hc)))).trans (I.base.keep b o e n hb hx)
  ·obtain ⟨sl,e1⟩:=I.base.slot b o e n hb hx;exact ⟨sl,(hs.2 b (u6 (v9 (y6 e) (I.ok.cab x c hfn hc)))).trans e1⟩
  ·obtain ⟨o',e1⟩:=I.base.there b o e hx;exact ⟨o',(hs.2 b (u6 (v9 (y6 e) (I.ok.cab x c hfn hc)))).trans e1⟩
  ·by_cases hj:j=i
   ·subst hj;rw [hi] at e1;cases e1;rw [List.getElem?_set_self hiσ] at e2;cases e2;exact ⟨u,r,.inr ⟨.inl hk,c,hc,hc'⟩⟩
   ·rw [List.getElem?_set_ne (Ne.symm hj)] at e2;obtain ⟨u',r',q⟩:=hl j y v' e1 e2 e3;refine ⟨u',r',?_⟩;rcases q with q|⟨k,c',e,z'⟩
    ·exact .inl q
    ·refine .inr ⟨k,c',e,z'.sameBut hs ?_⟩;rintro rfl;exact hj (MN hN e1 (I.ok.inj _ _ _ e hc▸hi))
  ·by_cases hcc:c'=c
   ·subst hcc;exact ⟨_,hc'⟩
   ·obtain ⟨w2,z2⟩:=I.cell y c' e;exact ⟨w2,z2.sameBut hs hcc⟩
  ·obtain ⟨e,n,ne,nf,d⟩:=I.pin p hp;refine ⟨(hs.2 p.1 ?_).trans e,n,ne,nf,d⟩;intro q;rw [q,hoc] at e;have q':oc=p.2:=Option.some.inj e;exact d w' (by rw [← q'];exact hocd)
def DQ {M:Model} {A:Around} {E:Value->Shared->Prop} {i:Nat} {x:Str} {v:V} {u:Value} {Q:Unit->Shared->Prop} (I:Inv X pins σ H s) (hN:X.N.Nodup) (hi:X.N[i]?=some x) (hx:Loc X.env.scope x) (r:zO v u)
  (h:∀ s',Inv X pins (σ.set i (some v)) H s'->Q () s') (hf:X.fn x=true\/X.env.scope.names.lookup x=some .local:=by first|exact .inl rfl|exact .inr rfl|assumption):wpAny M A (storeName X.env x u) Q E s:=
 R7 I hN hi hx r (λs' I' _=>h s' I') hf
def Inv.call' {s':Shared} {ch:List Addr} (I:Inv X pins σ H s) (ho:s'.os=s.os) (u:Un (frs X.stack) ch H H' s.heap s'.heap) (hok:HOk X.prog X.w H' s'.heap) (hg:AllBare s'.gens)
  (hch:∀ b∈ch,(b∈X.ex\/X.s₀.heap.objs.size<=b)/\b≠X.env.locals/\(∀ x c,X.env.cells.lookup x=some c->c≠b)/\∀ p∈X.pn++pins,p.1≠b):Inv X pins σ H' s':=by
 obtain ⟨h',g',d',t',o'⟩:=s';have e:o'=s.os:=ho;subst e;exact I.call (g':=g') (t':=t') (d':=d') u hok hg hch
end
abbrev XK:=Value->Option Addr->Hp->Prop
abbrev St:=List (Option V)
abbrev VK:=V->Hp->Prop
abbrev TE:=St->Hp->VK->Prop
abbrev TT:=St->Hp->(Bool->Hp->Prop)->Prop
abbrev TA:=St->Hp->(List V->Hp->Prop)->Prop
structure Ends where
 nx:St->Hp->Prop
 rt:VK
 bk:St->Hp->Prop:=λ_ _=>False
 ct:St->Hp->Prop:=λ_ _=>False
abbrev TS:=Ends->St->Hp->Prop
def EP (X:Cx) (pins:List (Addr×Obj)) (σ:St) (Q:VK) (u:Value) (s':Shared):Prop:=∃ v H',Inv X pins σ H' s'/\zO v u/\Q v H'
def TP (X:Cx) (pins:List (Addr×Obj)) (σ:St) (Q:Bool->Hp->Prop) (b:Bool) (s':Shared):Prop:=∃ H',Inv X pins σ H' s'/\Q b H'
def AP (X:Cx) (pins:List (Addr×Obj)) (σ:St) (Q:List V->Hp->Prop) (us:List Value) (s':Shared):Prop:=∃ vs H',Inv X pins σ H' s'/\zb vs us/\Q vs H'
def SP (X:Cx) (pins:List (Addr×Obj)) (D:Ends) (f:Flow) (s':Shared):Prop:=
 match f with
 |.next=>∃ σ' H',Inv X pins σ' H' s'/\D.nx σ' H'
 |.brk=>∃ σ' H',Inv X pins σ' H' s'/\D.bk σ' H'
 |.cont=>∃ σ' H',Inv X pins σ' H' s'/\D.ct σ' H'
 |.ret u=>∃ v σ' H',Inv X pins σ' H' s'/\zO v u/\D.rt v H'
def PE (X:Cx) (e:Expr) (t:TE):Prop:=
 ∀ (pins:List (Addr×Obj)) (s:Shared) (σ:St) (H:Hp) (Q:VK),Inv X pins σ H s->t σ H Q->wpAny (model X.prog X.w) X.A (eval e X.env) (EP X pins σ Q) X.xe s
def PT (X:Cx) (e:Expr) (t:TT):Prop:=
 ∀ (pins:List (Addr×Obj)) (s:Shared) (σ:St) (H:Hp) (Q:Bool->Hp->Prop),Inv X pins σ H s->t σ H Q->wpAny (model X.prog X.w) X.A (isTrue e X.env (eval e X.env)) (TP X pins σ Q) X.xe s
def PW (X:Cx) (e:Expr) (t:TT):Prop:=
 ∀ (whole:Sem Value) (pins:List (Addr×Obj)) (s:Shared) (σ:St) (H:Hp) (Q:Bool->Hp->Prop),Inv X pins σ H s->t σ H Q->wpAny (model X.prog X.w) X.A (isTrue e X.env whole) (TP X pins σ Q) X.xe s
def PW.pt {X:Cx} {e:Expr} {t:TT} (h:PW X e t):PT X e t:=h _
def PA (X:Cx) (es:List Expr) (t:TA):Prop:=
 ∀ (pos:Pos) (pins:List (Addr×Obj)) (s:Shared) (σ:St) (H:Hp) (Q:List V->Hp->Prop),Inv X pins σ H s->t σ H Q->wpAny (model X.prog X.w) X.A (spliced (backTo pos (starEach es X.env))) (AP X pins σ Q) X.xe s
def PS (X:Cx) (st:Stmt) (t:TS):Prop:=
 ∀ (pins:List (Addr×Obj)) (s:Shared) (σ:St) (H:Hp) (D:Ends),Inv X pins σ H s->t D σ H->wpAny (model X.prog X.w) X.A (exec st X.env) (SP X pins D) X.xe s
def PSs (X:Cx) (st:List Stmt) (t:TS):Prop:=
 ∀ (pins:List (Addr×Obj)) (s:Shared) (σ:St) (H:Hp) (D:Ends),Inv X pins σ H s->t D σ H->wpAny (model X.prog X.w) X.A (execs st X.env) (SP X pins D) X.xe s
def thn {α:Type} {t:Sem α} {Q Q':α->Shared->Prop} {M:Model} {A:Around} {E:Value->Shared->Prop} {s:Shared} (h:wpAny M A t Q E s) (hQ:∀ a s,Q a s->Q' a s):wpAny M A t Q' E s:=y2 h hQ λ_ _ x=>x
section
variable {X:Cx}
def qp6 (i:Nat):TE:=λσ H Q=>∃ v,σ[i]?=some (some v)/\Q v H
def tC (v:V):TE:=λ_ H Q=>Q v H
def ql5 {i:Nat} {x:Str} {pos:Pos} (hN:X.N[i]?=some x) (hv:Vis X.env.scope x) (hd:(x==("__debug__" : Str))=false:=by decide) (hcd:(x==("__classdict__" : Str))=false:=by decide):PE X (.Name x pos) (qp6 i):=by
 intro pins s σ H Q I h;obtain ⟨v,e,h⟩:=h;obtain ⟨m,hn,hl⟩:=I.loc;obtain ⟨u,r,l⟩:=hl i x v hN e hv;have fin:EP X pins σ Q u s:=⟨v,H,I,r,h⟩
 rcases l with ⟨hk,hm⟩|⟨hk,c,hc,hcell⟩
 ·exact wpAny_Name (wpAny_loadName_local I.ok.kind hk hn hm fin) hd
 ·rcases hk with hk|hk
  ·exact wpAny_Name (wpAny_loadName_cell I.ok.kind hk hc hcell fin) hd
  ·exact wpAny_Name (wpAny_loadName_free I.ok.kind hk hc hcell fin hcd) hd
def qjs {i j pos}:PE X (.Constant (.int i) j pos) (tC (.int i)):=λ_ _ _ H _ I h=>wpAny_Constant_int ⟨.int i,H,I.tok _,⟨_,rfl⟩,h⟩
def qnB {b j pos}:PE X (.Constant (.bool b) j pos) (tC (.bl b)):=λ_ _ _ H _ I h=>Constant_bool ⟨.bl b,H,I,rfl,h⟩
def qmj {j pos}:PE X (.Constant .none j pos) (tC .non):=λ_ _ _ H _ I h=>Constant_none ⟨.non,H,I,rfl,h⟩
def qmB {x j pos}:PE X (.Constant (.str x) j pos) (tC (.str x)):=λ_ _ _ H _ I h=>Calls.Constant_str ⟨.str x,H,I.tok _,⟨_,rfl⟩,h⟩
def Gl (X:Cx) (x:Str):Prop:=X.env.kindOf x=some .globalImplicit
def qbk {E:Value->Shared->Prop} {pins:List (Addr×Obj)} {s:Shared} {σ:St} {H:Hp} {x:Str} {u:Value} {pos:Pos} {Q:Value->Shared->Prop} (I:Inv X pins σ H s) (hg:Gl X x) (hm:X.mg x=some u) (h:Q u s)
  (hd:(x==("__debug__" : Str))=false:=by decide):wpAny (model X.prog X.w) X.A (eval (.Name x pos) X.env) Q E s:=
 Calls.Name_function_global I.ok.kind hg (Calls.loadGlobal_global (by rw [I.ok.glob];exact I.mod.glob.keeps I.bk) hm h) hd
def EL {E:Value->Shared->Prop} {pins:List (Addr×Obj)} {s:Shared} {σ:St} {H:Hp} {x:Str} {u:Value} {pos:Pos} {Q:Value->Shared->Prop} (I:Inv X pins σ H s) (hg:Gl X x) (hm:X.mg x=none) (hv:bootBuiltins x=some u) (h:Q u s)
  (hn:x≠"__name__" := by decide) (hd:(x==("__debug__" : Str))=false:=by decide):wpAny (model X.prog X.w) X.A (eval (.Name x pos) X.env) Q E s:=by
 obtain ⟨mb,h1,h2⟩:=I.mod.blt;exact Calls.Name_function_global I.ok.kind hg (Calls.loadGlobal_builtin (by rw [I.ok.glob];exact I.mod.glob.keeps I.bk) hm (by rw [I.ok.blt];exact h1.keeps I.bk) ((h2 x hn).trans hv) h) hd
def KZ {x:Str} {v:V} {u:Value} {pos:Pos} (hg:Gl X x) (hm:X.mg x=none) (hv:bootBuiltins x=some u) (r:zO v u) (hn:x≠"__name__" := by decide) (hd:(x==("__debug__" : Str))=false:=by decide):PE X (.Name x pos) (tC v):=
 λ_ _ _ H _ I h=>EL I hg hm hv ⟨v,H,I,r,h⟩ hn hd
variable {a b:Expr} {ta tb:TE} {pos:Pos}
def tB (t:TE):TT:=λσ H Q=>t σ H λx H1=>∃ c,x=.bl c/\Q c H1
def qln {e:Expr} {t:TE} (h:PE X e t) (he:∀ whole,isTrue e X.env whole=(do let v←whole;standAt e.pos;holding [v] (truthy v)):=by intro _;rfl):PT X e (tB t):=by
 intro pins s σ H Q I hw;refine isTrue_plain (thn (h pins s σ H _ I hw) λv s1 ⟨x,H1,I1,r1,q1⟩=>?_) (he _);obtain ⟨d,rfl,q⟩:=q1;cases r1;exact wpAny_truthy_bool ⟨H1,I1,q⟩
variable {tA tB':TT} {QG:List Expr}
def qqc (t u:TT):TT:=λσ H Q=>t σ H λc H1=>if c=true then u σ H1 Q else Q false H1
def tOr (t u:TT):TT:=λσ H Q=>t σ H λc H1=>if c=true then Q true H1 else u σ H1 Q
def qqf (t:TT):TT:=λσ H Q=>t σ H λc H1=>Q (!c) H1
def qiH (ha:PT X a tA):PW X (.BoolOp .And [a] pos) tA:=by
 intro wh pins s σ H Q I h;refine isTrue_and (thn (ha pins s σ H Q I h) λc s1 e=>?_);cases c with
 |true=>exact isTrue_and_nil e
 |false=>exact e
def qj7 (ha:PT X a tA):PW X (.BoolOp .Or [a] pos) tA:=by
 intro wh pins s σ H Q I h;refine isTrue_or (thn (ha pins s σ H Q I h) λc s1 e=>?_);cases c with
 |false=>exact isTrue_or_nil e
 |true=>exact e
def qjG (ha:PT X a tA) (hb:PW X (.BoolOp .And (b::QG) pos) tB'):PW X (.BoolOp .And (a::b::QG) pos) (qqc tA tB'):=by
 intro wh pins s σ H Q I h;refine isTrue_and (thn (ha pins s σ H _ I h) λc s1 ⟨H1,I1,q1⟩=>?_);cases c with
 |true=>exact hb wh pins s1 σ H1 Q I1 q1
 |false=>exact ⟨H1,I1,q1⟩
def qnJ (ha:PT X a tA) (hb:PW X (.BoolOp .Or (b::QG) pos) tB'):PW X (.BoolOp .Or (a::b::QG) pos) (tOr tA tB'):=by
 intro wh pins s σ H Q I h;refine isTrue_or (thn (ha pins s σ H _ I h) λc s1 ⟨H1,I1,q1⟩=>?_);cases c with
 |true=>exact ⟨H1,I1,q1⟩
 |false=>exact hb wh pins s1 σ H1 Q I1 q1
def qlp (ha:PT X a tA):PT X (.UnaryOp .Not a pos) (qqf tA):=by
 intro pins s σ H Q I h;exact isTrue_not (ha pins s σ H (λc H1=>Q (!c) H1) I h)
def qnp (ta tb:TE):TE:=λσ H Q=>ta σ H λx H1=>∃ c,x=.bl c/\if c=true then tb σ H1 Q else Q (.bl false) H1
def qof (ta:TE):TE:=λσ H Q=>ta σ H λx H1=>∃ c,x=.bl c/\Q (.bl (!c)) H1
def ql2 {op} {t:TE} (h:PE X a t):PE X (.BoolOp op [a] pos) t:=λpins s σ H Q I hw=>BoolOp_one (h pins s σ H Q I hw)
def qkW (ha:PE X a ta) (hb:PE X (.BoolOp .And (b::QG) pos) tb):PE X (.BoolOp .And (a::b::QG) pos) (qnp ta tb):=by
 intro pins s σ H Q I h;refine BoolOp_and (thn (ha pins s σ H _ I h) λv s1 ⟨x,H1,I1,r1,q1⟩=>?_);obtain ⟨c,rfl,q1⟩:=q1;cases r1;refine wpAny_truthy_bool ?_;cases c with
 |true=>exact hb pins s1 σ H1 Q I1 q1
 |false=>exact ⟨.bl false,H1,I1,rfl,q1⟩
def qme (ha:PE X a ta):PE X (.UnaryOp .Not a pos) (qof ta):=by
 intro pins s σ H Q I h;refine UnaryOp_ (thn (ha pins s σ H _ I h) λv s1 ⟨x,H1,I1,r1,q1⟩=>?_);obtain ⟨c,rfl,q1⟩:=q1;cases r1;exact not_of (wpAny_truthy_bool ⟨.bl (!c),H1,I1,rfl,q1⟩)
def tIf (t:TT) (ta tb:TE):TE:=λσ H Q=>t σ H λc H1=>if c=true then ta σ H1 Q else tb σ H1 Q
def qej {c:Expr} (hc:PT X c tA) (ha:PE X a ta) (hb:PE X b tb):PE X (.IfExp c a b pos) (tIf tA ta tb):=by
 intro pins s σ H Q I h;refine wpAny_IfExp (thn (hc pins s σ H _ I h) λd s1 ⟨H1,I1,q1⟩=>?_);cases d with
 |true=>exact ha pins s1 σ H1 Q I1 q1
 |false=>exact hb pins s1 σ H1 Q I1 q1
end
def SqL (K:Frg) (H:Hp) (a:Addr) (xs:List V):Prop:=
 Rd H a (.lst xs) ∨
  ∃ (o:Obj) (its:Array Value) (n:Nat),K.lookup a=some o/\o.cls=.type "list"/\o.dict=none/\o.data=.seq its n/\its.size<=sizeLine/\zb xs its.toList
def SqT (K:Frg) (H:Hp) (a:Addr) (xs:List V):Prop:=
 Rd H a (.tup xs) ∨
  ∃ (o:Obj) (its:Array Value) (n:Nat),K.lookup a=some o/\o.cls=.type "tuple"/\o.data=.seq its n/\its.size<=sizeLine/\zb xs its.toList/\o.dict=none
def qpY:Value->Option V
 |.none=>some .non
 |.bool b=>some (.bl b)
 |.int i _=>some (.int i)
 |.str x _=>some (.str x)
 |.bytes b _=>some (.byt b)
 |.float b _=>some (.flt b)
 |.ref a=>some (.ref a)
 |.type n=>some (.ty n)
 |_=>none
def zO.abs {x:V} {u:Value} (r:zO x u):qpY u=some x:=by
 cases x with
 |non=>cases r;rfl
 |bl _=>cases r;rfl
 |int _=>obtain ⟨t,rfl⟩:=r;rfl
 |str _=>obtain ⟨t,rfl⟩:=r;rfl
 |byt _=>obtain ⟨t,rfl⟩:=r;rfl
 |flt _=>obtain ⟨t,rfl⟩:=r;rfl
 |ref _=>cases r;rfl
 |ty _=>cases r;rfl
theorem zO.inj {x y:V} {u:Value} (r:zO x u) (q:zO y u):x=y:=Option.some.inj (r.abs.symm.trans q.abs)
theorem zb.inj:∀ {xs ys:List V} {us:List Value},zb xs us->zb ys us->xs=ys
 |_,_,_,.nil,.nil=>rfl
 |_,_,_,.cons r t,.cons r' t'=>by rw [r.inj r',zb.inj t t']
section
variable {X:Cx} {pins:List (Addr×Obj)} {σ:St} {H:Hp} {s:Shared} {a:Addr} {xs ys:List V}
def SqL.of {K:Frg} (h:H a=some (.lst xs)):SqL K H a xs:=.inl (.inl h)
def SqT.of {K:Frg} (h:H a=some (.tup xs)):SqT K H a xs:=.inl (.inl h)
def Inv.list (I:Inv X pins σ H s) (h:SqL X.K H a xs):∃ its:List Value,zb xs its/\PlainL s.heap a its.toArray/\xs.length<=sizeLine:=by
 rcases h with h|⟨o,its,n,hk,hc,hd,hs,hz,r⟩
 ·obtain ⟨z,its,n,r,e⟩:=h.ok I.hok;exact ⟨its,r,⟨_,n,e,rfl,rfl,rfl⟩,z⟩
 ·refine ⟨its.toList,r,⟨o,n,I.kIn a o hk,hc,hd,by simpa using hs⟩,?_⟩;have e:=r.length;simp only [Array.length_toList] at e;omega
def Inv.tuple (I:Inv X pins σ H s) (h:SqT X.K H a xs):∃ its:List Value,zb xs its/\IsTup s.heap a its.toArray/\xs.length<=sizeLine:=by
 rcases h with h|⟨o,its,n,hk,hc,hs,hz,r,_⟩
 ·obtain ⟨z,its,r,p⟩:=h.ok I.hok;exact ⟨its,r,p.tup,z⟩
 ·refine ⟨its.toList,r,⟨o,I.kIn a o hk,hc,n,by simpa using hs⟩,?_⟩;have e:=r.length;simp only [Array.length_toList] at e;omega
def Inv.list_inj (I:Inv X pins σ H s) (h:SqL X.K H a xs) (h':SqL X.K H a ys):xs=ys:=by
 obtain ⟨its,r,⟨o,n,e,_,_,d⟩,_⟩:=I.list h;obtain ⟨its',r',⟨o',n',e',_,_,d'⟩,_⟩:=I.list h';rw [e] at e';cases e';rw [d] at d';injection d' with d1 _;have:its=its':=by simpa using congrArg Array.toList d1
 subst this;exact r.inj r'
def Inv.tuple_inj (I:Inv X pins σ H s) (h:SqT X.K H a xs) (h':SqT X.K H a ys):xs=ys:=by
 obtain ⟨its,r,⟨o,e,_,n,d⟩,_⟩:=I.tuple h;obtain ⟨its',r',⟨o',e',_,n',d'⟩,_⟩:=I.tuple h';rw [e] at e';cases e';rw [d] at d';injection d' with d1 _;have:its=its':=by simpa using congrArg Array.toList d1
 subst this;exact r.inj r'
end
abbrev Cx.wish (X:Cx) (E:Value->Shared->Prop):Cx:={ X with xe:=E }
abbrev Cx.nox (X:Cx):Cx:=X.wish λ_ _=>False
theorem Cx.Ok.wish {X:Cx} (ok:X.Ok) (E:Value->Shared->Prop):(X.wish E).Ok:=
 ⟨ok.mod,ok.kind,ok.glob,ok.blt,ok.above,ok.inj,ok.has,ok.cab,ok.hd,ok.frames,ok.stk,ok.exf,ok.bs,ok.bsz,ok.noex,ok.exfs,ok.funs,ok.frf⟩
def Cx.Ok.unwish {X:Cx} {E:Value->Shared->Prop} (ok:(X.wish E).Ok):X.Ok:=
 ⟨ok.mod,ok.kind,ok.glob,ok.blt,ok.above,ok.inj,ok.has,ok.cab,ok.hd,ok.frames,ok.stk,ok.exf,ok.bs,ok.bsz,ok.noex,ok.exfs,ok.funs,ok.frf⟩
section
variable {X:Cx} {pins:List (Addr×Obj)} {σ:St} {H:Hp} {s:Shared} {E:Value->Shared->Prop}
theorem Inv.wish (I:Inv X pins σ H s) (E:Value->Shared->Prop):Inv (X.wish E) pins σ H s:=⟨I.ok.wish E,I.os,I.bare,I.base,I.loc,I.cell,I.free,I.freeC,I.pin,I.hok,I.len⟩
theorem Inv.unwish (I:Inv (X.wish E) pins σ H s):Inv X pins σ H s:=⟨I.ok.unwish,I.os,I.bare,I.base,I.loc,I.cell,I.free,I.freeC,I.pin,I.hok,I.len⟩
theorem SP.unwish {D:Ends} {f:Flow} {s':Shared} (h:SP (X.wish E) pins D f s'):SP X pins D f s':=by
 cases f with
 |next=>obtain ⟨σ',H',I,q⟩:=h;exact ⟨σ',H',I.unwish,q⟩
 |brk=>obtain ⟨σ',H',I,q⟩:=h;exact ⟨σ',H',I.unwish,q⟩
 |cont=>obtain ⟨σ',H',I,q⟩:=h;exact ⟨σ',H',I.unwish,q⟩
 |ret u=>obtain ⟨v,σ',H',I,r,q⟩:=h;exact ⟨v,σ',H',I.unwish,r,q⟩
theorem PSs.nox {st:List Stmt} {t:TS} (h:PSs X.nox st t):PSs X st t:=λpins s σ H D I hw=>
 y2 (h pins s σ H D (I.wish _) hw) (λ_ _ q=>q.unwish) λ_ _ z=>False.elim z
end
section
variable {X:Cx} {st:Stmt} {QG:List Stmt} {t u:TS} {e:Expr} {te:TE} {pos:Pos}
def qn3:TS:=λD σ H=>D.nx σ H
def qp9 (t u:TS):TS:=λD σ H=>t { D with nx:=u D } σ H
def qiw:PSs X [] qn3:=λ_ _ σ H _ I h=>wpAny_execs_nil ⟨σ,H,I,h⟩
def qd8 (h1:PS X st t) (h2:PSs X QG u):PSs X (st::QG) (qp9 t u):=by
 intro pins s σ H D I h;refine wpAny_execs_cons (thn (h1 pins s σ H { D with nx:=u D } I h) λf s1 q=>?_);cases f with
 |next=>
  obtain ⟨σ',H',I',q⟩:=q;exact h2 pins s1 σ' H' D I' q
 |ret v=>exact q
 |brk=>exact q
 |cont=>exact q
def qgZ (h1:PS X st t):PSs X [st] t:=by
 intro pins s σ H D I h;refine wpAny_execs_cons (thn (h1 pins s σ H D I h) λf s1 q=>?_);cases f with
 |next=>exact wpAny_execs_nil q
 |ret v=>exact q
 |brk=>exact q
 |cont=>exact q
def Inv.quiet {pins:List (Addr×Obj)} {σ:St} {H:Hp} {s:Shared} (I:Inv X pins σ H s):interactive X.env=false:=by simp [interactive,I.ok.kind]
def qny (te:TE):TS:=λD σ H=>te σ H λ_ H1=>D.nx σ H1
def qiu (he:PE X e te) (hs:swapsWith e none pos.line X.env=pure false:=by rfl):PS X (.Expr e pos) (qny te):=by
 intro pins s σ H D I h;exact wpAny_Expr_any (thn (he pins s σ H _ I h) λv s1 ⟨x,H1,I1,r1,q1⟩=>⟨σ,H1,I1,q1⟩) I.quiet hs
def qp0 (te:TE):TS:=λD σ H=>te σ H D.rt
def qjL (he:PE X e te):PS X (.Return (some e) pos) (qp0 te):=by
 intro pins s σ H D I h;exact wpAny_Return_some (thn (he pins s σ H _ I h) λv s1 ⟨x,H1,I1,r1,q1⟩=>⟨x,σ,H1,I1,r1,q1⟩)
def qp7 (c:TT) (t u:TS):TS:=λD σ H=>c σ H λb H1=>if b=true then t D σ H1 else u D σ H1
def qnS {c:Expr} {a b:List Stmt} {tc:TT} (hc:PT X c tc) (ha:PSs X a t) (hb:PSs X b u):PS X (.If c a b pos) (qp7 tc t u):=by
 intro pins s σ H D I h;refine wpAny_If (thn (hc pins s σ H _ I h) λd s1 ⟨H1,I1,q1⟩=>?_);cases d with
 |true=>exact ha pins s1 σ H1 D I1 q1
 |false=>exact hb pins s1 σ H1 D I1 q1
end
abbrev TG:=V->St->Hp->(St->Hp->Prop)->Prop
abbrev TGs:=List V->St->Hp->(St->Hp->Prop)->Prop
def PG (X:Cx) (target:Expr) (t:TG):Prop:=
 ∀ (pins:List (Addr×Obj)) (s:Shared) (σ:St) (H:Hp) (v:V) (u:Value) (Q:St->Hp->Prop),Inv X pins σ H s->zO v u->t v σ H Q ->
  wpAny (model X.prog X.w) X.A (assign target X.env u) (λ_ s'=>∃ σ' H',Inv X pins σ' H' s'/\Q σ' H') X.xe s
def PGs (X:Cx) (ts:List Expr) (t:TGs):Prop:=
 ∀ (pins:List (Addr×Obj)) (s:Shared) (σ:St) (H:Hp) (vs:List V) (us:List Value) (Q:St->Hp->Prop),Inv X pins σ H s->zb vs us->t vs σ H Q ->
  wpAny (model X.prog X.w) X.A (assignInOrder ((assignEach ts X.env).map (·.2)) us) (λ_ s'=>∃ σ' H',Inv X pins σ' H' s'/\Q σ' H') X.xe s
abbrev qoz:=V->V->V->Hp->(Hp->Prop)->Prop
def qps (X:Cx) (t:qoz):Prop:=
 ∀ (pins:List (Addr×Obj)) (s:Shared) (σ:St) (H:Hp) (o i v:V) (ov iv u:Value) (Q:Hp->Prop),Inv X pins σ H s->zO o ov->zO i iv->zO v u->t o i v H Q ->
  wpAny (model X.prog X.w) X.A (setItem ov iv u) (λ_ s'=>∃ H',Inv X pins σ H' s'/\Q H') X.xe s
section
variable {X:Cx} {pos:Pos}
def qhB (i:Nat):TG:=λv σ H Q=>Q (σ.set i (some v)) H
def qhZ {i:Nat} {x:Str} (hN:X.N.Nodup) (hi:X.N[i]?=some x) (hx:Loc X.env.scope x) (hf:X.fn x=true\/X.env.scope.names.lookup x=some .local:=by first|exact .inl rfl|exact .inr rfl|assumption):PG X (.Name x pos) (qhB i):=by
 intro pins s σ H v u Q I r h;exact wpAny_assign_Name (DQ I hN hi hx r (λs' I'=>⟨_,H,I',h⟩) hf)
def NF:TGs:=λvs σ H Q=>vs=[]/\Q σ H
def je (t:TG) (u:TGs):TGs:=λvs σ H Q=>∃ v r,vs=v::r/\t v σ H λσ' H'=>u r σ' H' Q
def qg2:PGs X [] NF:=by
 intro pins s σ H vs us Q I r h;obtain ⟨e,h⟩:=h;subst e;cases r;exact assignInOrder_nil ⟨σ,H,I,h⟩
def qd0 {e:Expr} {es:List Expr} {t:TG} {u:TGs} (h1:PG X e t) (h2:PGs X es u)
  (hs:(assignEach (e::es) X.env).map (·.2)=assign e X.env::(assignEach es X.env).map (·.2):=by rfl):PGs X (e::es) (je t u):=by
 intro pins s σ H vs us Q I r h;obtain ⟨v,vr,e1,h⟩:=h;subst e1;cases r with
 |cons r rr=>
  rw [hs];refine assignInOrder_cons (thn (h1 pins s σ H _ _ _ I r h) λ_ s1 ⟨σ1,H1,I1,q1⟩=>?_);exact h2 pins s1 σ1 H1 _ _ Q I1 rr q1
def M1 (K:Frg) (n:Nat) (t:TGs):TG:=λv σ H Q=>∃ a xs,v=.ref a/\SqT K H a xs/\xs.length=n/\t xs σ H Q
def qka {es:List Expr} {k:Nat} {t:TGs} {n:Nat} (hc:X.calm=true) (h:PGs X es t)
  (hn:(assignEach es X.env).length=n:=by rfl) (hst:(assignEach es X.env).findIdx? (·.1)=none:=by rfl):PG X (.Tuple es k pos) (M1 X.K n t):=by
 intro pins s σ H v u Q I r hw;obtain ⟨a,xs,e1,hq,hl,hw⟩:=hw;subst e1;cases r;obtain ⟨its,rv,ht,hz⟩:=I.tuple hq;refine assign_Tuple_tuple (I.ok.hd hc) ht (by simp [hn,← hl,rv.length]) hst λh' hx=>?_;have I1:Inv X pins σ H { s with heap:=h' }:=I.kept (t':=s.toks) λb o e=>hx b o (u6 (y6 e)) e;exact h pins _ σ H xs _ Q I1 (by simpa using rv) hw
def qpP (to ti:TE) (t:qoz):TG:=λv σ H Q=>to σ H λo H1=>ti σ H1 λi H2=>t o i v H2 λH3=>Q σ H3
def qmg {o i:Expr} {to ti:TE} {t:qoz} (ho:PE X o to) (hi:PE X i ti) (hs:qps X t)
  (ha:∀ v,assign (.Subscript o i pos) X.env v=(do
   let ov←holding [v] (eval o X.env)
   let iv←holding [v,ov] (eval i X.env)
   standAt pos
   holding [v,ov,iv] (setItem ov iv v)
   release [v,ov,iv] []):=by intro _;rfl):PG X (.Subscript o i pos) (qpP to ti t):=by
 intro pins s σ H v u Q I r h;rw [ha];refine x8 (wpAny_holding (thn (ho pins s σ H _ I h) λov s1 ⟨x,H1,I1,r1,q1⟩=>?_));refine x8 (wpAny_holding (thn (hi pins s1 σ H1 _ I1 q1) λiv s2 ⟨y,H2,I2,r2,q2⟩=>?_));refine x8 (wpAny_standAt (x8 (wpAny_holding (thn (hs pins s2 σ H2 x y v ov iv u _ I2 r1 r2 r q2) λ_ s3 ⟨H3,I3,q3⟩=>?_))));exact wpAny_release ⟨σ,H3,I3,q3⟩
def qoZ (te:TE) (g:TG):TS:=λD σ H=>te σ H λx H1=>g x σ H1 D.nx
def qkJ {tg e:Expr} {te:TE} {g:TG} (he:PE X e te) (hg:PG X tg g) (hs:swapsWithSole [tg] e pos.line X.env=pure false:=by rfl) (hw:swappedStores [tg] e X.env=pure none:=by rfl)
  (h1:(assignEach [tg] X.env).map (·.2)=[assign tg X.env]:=by rfl):PS X (.Assign [tg] e pos) (qoZ te g):=by
 intro pins s σ H D I h;refine wpAny_Assign_stores (thn (he pins s σ H _ I h) λv s1 ⟨x,H1,I1,r1,q1⟩=>?_) hs hw;rw [h1];exact thn (hg pins s1 σ H1 x v _ I1 r1 q1) λ_ s2 q=>q
def qkE {i:Nat} {x:Str} {e:Expr} {te:TE} {pos':Pos} (hN:X.N.Nodup) (hi:X.N[i]?=some x) (hx:Loc X.env.scope x) (he:PE X e te) (hs:swapsWith e (some (.Name x pos')) pos.line X.env=pure false:=by rfl) (hf:X.fn x=true\/X.env.scope.names.lookup x=some .local:=by first|exact .inl rfl|exact .inr rfl|assumption) :
  PS X (.Assign [.Name x pos'] e pos) (qoZ te (qhB i)):=by
 intro pins s σ H D I h;refine wpAny_Assign_Name (thn (he pins s σ H _ I h) λv s1 ⟨y,H1,I1,r1,q1⟩=>?_) hs;exact DQ I1 hN hi hx r1 (λs2 I2=>⟨_,H1,I2,q1⟩) hf
def qpO (i j:Nat) (ta:TA):TS:=λD σ H=>ta σ H λvs H1=>∃ v w,vs=[v,w]/\D.nx ((σ.set i (some v)).set j (some w)) H1
def qlb {i j:Nat} {x y:Str} {a b:Expr} {ta:TA} {px py pt:Pos} {kt k2 pt2} (hc:X.calm=true) (hN:X.N.Nodup) (hi:X.N[i]?=some x) (hj:X.N[j]?=some y) (hij:i≠j)
  (hx:X.env.scope.names.lookup x=some .local) (hy:X.env.scope.names.lookup y=some .local) (ha:PA X [a,b] ta)
  (hw:swappedStores [.Tuple [.Name x px,.Name y py] kt pt] (.Tuple [a,b] k2 pt2) X.env=pure (some [x,y]))
  (hs:swapsWithSole [.Tuple [.Name x px,.Name y py] kt pt] (.Tuple [a,b] k2 pt2) pos.line X.env=pure false:=by rfl) :
  PS X (.Assign [.Tuple [.Name x px,.Name y py] kt pt] (.Tuple [a,b] k2 pt2) pos) (qpO i j ta):=by
 intro pins s σ H D I h;rw [exec_Assign_arm];refine x8 (wpAny_standAt ?_);rw [hs];refine x8 (x9 ?_);rw [if_neg (by decide)];refine x8 (Tuple_ (thn (ha _ pins s σ H _ I h) λus s1 ⟨vs,H1,I1,r1,q1⟩=>?_));obtain ⟨v,w,e1,q1⟩:=q1;subst e1;obtain ⟨u1,u2,rfl,rv,rw'⟩:∃ u1 u2,us=[u1,u2]/\zO v u1/\zO w u2:=by
  cases r1 with
  |cons p q=>
   cases q with
   |cons p' q'=>
    cases q';exact ⟨_,_,rfl,p,p'⟩
 refine wpAny_newObj_type ?_ (by show 2<=sizeLine;decide);have I2:Inv X pins σ H1 { s1 with heap:=s1.heap.push { cls:=.type "tuple",data:=.seq [u1,u2].toArray } }:=I1.kept (t':=s1.toks) λb o e=>y3 _ e;rw [hw];refine x8 (x9 ?_);show wpAny (model X.prog X.w) X.A (do rule "assign.swapped-stores";let items←unpackItems (.ref s1.heap.objs.size) 2 none;assignInOrder [λv=>bindName X.env y v,λv=>bindName X.env x v] items.reverse;pure Flow.next) _ _ _;refine x8 (wpAny_rule (x8 (unpackItems_tuple (items:=#[u1,u2]) (I.ok.hd hc) (IsTup.new s1.heap _) λh' hx'=>?_)));have I3:=I2.kept (h':=h') (t':=s1.toks) λb o e=>hx' b o (u6 (y6 e)) e;show wpAny _ _ (assignInOrder [λv=>bindName X.env y v,λv=>bindName X.env x v] [u2,u1] >>= λ_=>pure Flow.next) _ _ _;refine x8 (assignInOrder_cons (wpAny_bindName (DQ I3 hN hj (.inl hy) rw' (λs2 I4=>?_) (.inr hy))));refine assignInOrder_cons (wpAny_bindName (DQ I4 hN hi (.inl hx) rv (λs3 I5=>assignInOrder_nil (x9 ?_)) (.inr hx)));rw [List.set_comm _ _ (Ne.symm hij)] at I5;exact ⟨_,H1,I5,q1⟩
end
section
variable {X:Cx} {pos:Pos}
end
structure It where
 go:Nat->Hp->Prop
 yld:Nat->Hp->V->Hp->Prop
 stop:Nat->Hp->Prop
def KQ (X:Cx) (pins:List (Addr×Obj)) (H:Hp) (b:Addr):Prop:=
 H b=none/\b≠X.env.locals/\b∉X.fs/\(b∈X.ex\/X.s₀.heap.objs.size<=b)/\(∀ x c,X.env.cells.lookup x=some c->c≠b)/\∀ p∈X.pn++pins,p.1≠b
def Inv.fpOk {X:Cx} {pins:List (Addr×Obj)} {σ:St} {H H':Hp} {s:Shared} {b:Addr} (I:Inv X pins σ H s) (hb:s.heap.objs.size<=b) (hn:H' b=none):KQ X pins H' b:=by
 refine ⟨hn,Nat.ne_of_gt (v9 I.lt hb),I.nofs hb,.inr (u5 I.sz hb),λx c e z=>?_,λp hp z=>?_⟩
 ·obtain ⟨v,q⟩:=I.cell x c e;exact absurd (v9 q.lt (by rw [z];exact hb)) (Nat.lt_irrefl _)
 ·exact absurd (v9 (y6 (I.pin p hp).1) (by rw [z];exact hb)) (Nat.lt_irrefl _)
structure Turn (P:Program) (w:World) (K:Frg) (tg:Expr) (J:It) (fp:List Addr) (it:Addr) (tn:Nat->Heap->Prop):Prop where
 mem:it∈fp
 obj:∀ i h,tn i h->∀ b∈fp,∃ o,h.get? b=some o/\∀ v,o.data≠.cell v
 keep:∀ i h h',tn i h->(∀ b∈fp,∀ o,h.get? b=some o->h'.get? b=some o)->tn i h'
 item:∀ (X:Cx),X.prog=P->X.w=w->X.K=K->X.calm=true->∀ (i:Nat) (pins:List (Addr×Obj)) (s:Shared) (σ:St) (H:Hp) (E:Value->Shared->Prop),Inv X pins σ H s->(∀ b∈fp,KQ X pins H b)->tn i s.heap->J.go i H ->
  wpAny (model P w) X.A (pyNext (.ref it)) (λr s1=>∃ u,r=some u /\
   wpAny (model P w) X.A (letOwnedTupleGo tg (.ref it) u) (λ_ s2=>∃ x H',Inv X pins σ H' s2/\zO x u/\J.yld i H x H'/\tn (i+1) s2.heap/\∀ b∈fp,H' b=none) E s1) E s
 done:∀ (X:Cx),X.prog=P->X.w=w->X.K=K->X.calm=true->∀ (i:Nat) (pins:List (Addr×Obj)) (s:Shared) (σ:St) (H:Hp) (E:Value->Shared->Prop),Inv X pins σ H s->(∀ b∈fp,KQ X pins H b)->tn i s.heap->J.stop i H ->
  wpAny (model P w) X.A (pyNext (.ref it)) (λr s1=>r=none/\Inv X pins σ H s1) E s
 self:∀ (A:Around) (i:Nat) (s:Shared) (Q:Value->Shared->Prop) (E:Value->Shared->Prop),tn i s.heap->Q (.ref it) s->wpAny (model P w) A (pyIter (.ref it)) Q E s
abbrev TI:=St->Hp->(It->Hp->Prop)->Prop
def PIE (X:Cx) (pins:List (Addr×Obj)) (σ:St) (tg:Expr) (R:It->Hp->Prop) (itv:Value) (s2:Shared):Prop:=
 ∃ (it:Addr) (fp:List Addr) (tn:Nat->Heap->Prop) (J:It) (H':Hp),itv=.ref it/\Inv X pins σ H' s2/\Turn X.prog X.w X.K tg J fp it tn/\tn 0 s2.heap/\(∀ b∈fp,KQ X pins H' b)/\R J H'
def PI (X:Cx) (tg iter:Expr) (wi:TI):Prop:=
 ∀ (pins:List (Addr×Obj)) (s:Shared) (σ:St) (H:Hp) (R:It->Hp->Prop),Inv X pins σ H s->wi σ H R ->
  wpAny (model X.prog X.w) X.A (eval iter X.env) (λv s1=>wpAny (model X.prog X.w) X.A (pyIter v) (PIE X pins σ tg R) X.xe s1) X.xe s
def qim {M:Model} {A:Around} {E:Value->Shared->Prop} {s:Shared} {tg:Expr} {it:Addr} {u:Value} {o:Obj} {n:String} {vs:Array Value} {Q:Unit->Shared->Prop} (ho:s.heap.get? it=some o) (hc:o.cls=.type n) (hd:o.data=.fields vs)
    (hn:["enumerate","zip","dict_itemiterator","dict_reverseitemiterator","odict_iterator","itertools.zip_longest","itertools.pairwise"].contains n=false) (hQ:Q () s):wpAny M A (letOwnedTupleGo tg (.ref it) u) Q E s:=by
  unfold letOwnedTupleGo;cases tg<;>first
    |exact x9 hQ
    | (cases u<;>first
        |exact x9 hQ
        | (refine x8 (wpAny_load ho ?_)
           rw [hc,hd];show wpAny M A (if (["enumerate","zip","dict_itemiterator","dict_reverseitemiterator","odict_iterator","itertools.zip_longest","itertools.pairwise"].contains n&&vs[0]?==some (rawInt _))=true then _ else _) Q E s;rw [if_neg (by intro h;rw [hn,Bool.false_and] at h;cases h)];exact x9 hQ))
def Itl (K:Frg) (a:Addr):It:=
 ⟨λi H=>∃ xs x,SqL K H a xs/\xs[i]?=some x,λi H x H'=>H'=H/\∀ xs,SqL K H a xs->xs[i]?=some x,λi H=>∃ xs,SqL K H a xs/\xs.length<=i⟩
def Itt (K:Frg) (a:Addr):It:=
 ⟨λi H=>∃ xs x,SqT K H a xs/\xs[i]?=some x,λi H x H'=>H'=H/\∀ xs,SqT K H a xs->xs[i]?=some x,λi H=>∃ xs,SqT K H a xs/\xs.length<=i⟩
def Itr (lo:Int) (n:Nat):It:=⟨λi _=>i<n,λi H x H'=>H'=H/\x=.int (lo+i),λi _=>n<=i⟩
def qdc {P:Program} {w:World} {K:Frg} {tg:Expr} (a it:Addr):Turn P w K tg (Itl K a) [it] it (λi h=>h.IsListIter it a i) where
 mem:=by simp
 obj:=λi h st b hb=>by
  have e:b=it:=by simpa using hb
  subst e;obtain ⟨o,e,c,d⟩:=st;exact ⟨o,e,λv z=>by rw [d] at z;cases z⟩
 keep:=λi h h' st k=>st.at λo e=>k it (by simp) o e
 item:=by
  intro X hP hw hK hc i pins s σ H E I hf st hg;subst hP hw hK;obtain ⟨xs,x,hq,hx⟩:=hg;obtain ⟨its,rv,p,hz⟩:=I.list hq;obtain ⟨u,hu,ru⟩:=rv.get hx;obtain ⟨f0,f1,f2,f3,f4,f5⟩:=hf it (by simp);refine wpAny_pyNext_list_item st p.isList (x:=u) (by simpa using hu) λh' st' sb=>?_;have I1:Inv X pins σ H { s with heap:=h' }:=I.turned (t':=s.toks) (λb o hb e=>(sb.2 b hb).trans e) f0 f1 f3 f4 f5;obtain ⟨o,e,c,d⟩:=id st';exact ⟨u,rfl,qim (s:={ s with heap:=h' }) e c d (by decide) ⟨x,H,I1,ru,⟨rfl,λys hy=>by rw [I.list_inj hy hq];exact hx⟩,st',λb hb=>(hf b hb).1⟩⟩
 done:=by
  intro X hP hw hK hc i pins s σ H E I hf st hg;subst hP hw hK;obtain ⟨xs,hq,hx⟩:=hg;obtain ⟨its,rv,p,hz⟩:=I.list hq;obtain ⟨f0,f1,f2,f3,f4,f5⟩:=hf it (by simp);have hl:=rv.length;exact wpAny_pyNext_list_end (I.ok.hd hc) st p.isList (by simp;omega) λh' eb=>⟨rfl,I.turned (t':=s.toks) (λb o hb e=>eb b o hb e) f0 f1 f3 f4 f5⟩
 self:=λ_ _ _ _ _ st h=>wpAny_pyIter_listiter st h
def qaj {P:Program} {w:World} {K:Frg} {tg:Expr} (a it:Addr):Turn P w K tg (Itt K a) [it] it (λi h=>h.IsTupleIter it a i) where
 mem:=by simp
 obj:=λi h st b hb=>by
  have e:b=it:=by simpa using hb
  subst e;obtain ⟨o,e,c,d⟩:=st;exact ⟨o,e,λv z=>by rw [d] at z;cases z⟩
 keep:=λi h h' st k=>st.at λo e=>k it (by simp) o e
 item:=by
  intro X hP hw hK hc i pins s σ H E I hf st hg;subst hP hw hK;obtain ⟨xs,x,hq,hx⟩:=hg;obtain ⟨its,rv,p,hz⟩:=I.tuple hq;obtain ⟨u,hu,ru⟩:=rv.get hx;obtain ⟨f0,f1,f2,f3,f4,f5⟩:=hf it (by simp);refine wpAny_pyNext_tuple_item st (show s.heap.IsTuple a its.toArray from p) (x:=u) (by simpa using hu) λh' st' sb=>?_;have I1:Inv X pins σ H { s with heap:=h' }:=I.turned (t':=s.toks) (λb o hb e=>(sb.2 b hb).trans e) f0 f1 f3 f4 f5;obtain ⟨o,e,c,d⟩:=id st';exact ⟨u,rfl,qim (s:={ s with heap:=h' }) e c d (by decide) ⟨x,H,I1,ru,⟨rfl,λys hy=>by rw [I.tuple_inj hy hq];exact hx⟩,st',λb hb=>(hf b hb).1⟩⟩
 done:=by
  intro X hP hw hK hc i pins s σ H E I hf st hg;subst hP hw hK;obtain ⟨xs,hq,hx⟩:=hg;obtain ⟨its,rv,p,hz⟩:=I.tuple hq;obtain ⟨f0,f1,f2,f3,f4,f5⟩:=hf it (by simp);have hl:=rv.length;exact wpAny_pyNext_tuple_end (I.ok.hd hc) st (show s.heap.IsTuple a its.toArray from p) (by simp;omega) λh' eb=>⟨rfl,I.turned (t':=s.toks) (λb o hb e=>eb b o hb e) f0 f1 f3 f4 f5⟩
 self:=λ_ _ _ _ _ st h=>wpAny_pyIter_tupleiter st h
def qaA {P:Program} {w:World} {K:Frg} {tg:Expr} (it:Addr) (lo:Int) (n:Nat):Turn P w K tg (Itr lo n) [it] it (λi h=>IsRangeIter h it (lo+(i:Nat)*1) ((n:Int)-(i:Nat)) 1) where
 mem:=by simp
 obj:=λi h st b hb=>by
  have e:b=it:=by simpa using hb
  subst e;exact ⟨_,st,λv z=>by
   have z':Data.fields _=Data.cell v:=z;cases z'⟩
 keep:=λi h h' st k=>k it (by simp) _ st
 item:=by
  intro X hP hw hK hc i pins s σ H E I hf st hg;subst hP hw hK;obtain ⟨f0,f1,f2,f3,f4,f5⟩:=hf it (by simp);have W:=Walks.range (prog:=X.prog) (w:=X.w) (I.ok.hd hc) it lo 1 n;refine W.item i s _ _ hg st λv h' tk hv st' kk=>?_;obtain ⟨t,rfl⟩:=hv;have I1:Inv X pins σ H { s with heap:=h',toks:=tk }:=I.turned (λb o hb e=>kk b o (by simpa using hb) e) f0 f1 f3 f4 f5;refine ⟨_,rfl,qim (s:={ s with heap:=h',toks:=tk }) (n:="range_iterator") st' rfl rfl (by decide) ⟨.int (lo+i),H,I1,⟨t,?_⟩,⟨rfl,rfl⟩,st',λb hb=>(hf b hb).1⟩⟩;rw [Int.mul_one]
 done:=by
  intro X hP hw hK hc i pins s σ H E I hf st hg;subst hP hw hK;obtain ⟨f0,f1,f2,f3,f4,f5⟩:=hf it (by simp);exact wpAny_pyNext_range_end (I.ok.hd hc) st (by have:n<=i:=hg;omega) λh' eb=>⟨rfl,I.turned (t':=s.toks) (λb o hb e=>eb b o hb e) f0 f1 f3 f4 f5⟩
 self:=λ_ _ _ _ _ st h=>wpAny_pyIter_rangeiter st h
section
variable {X:Cx} {tg:Expr}
def qeq {pins:List (Addr×Obj)} {σ:St} {H:Hp} {s:Shared} {R:It->Hp->Prop} {E:Value->Shared->Prop} {lo hi:Int} {t u v:Tok} {tk:Nat} (I:Inv X pins σ H s) (h1:-(2 ^ 62)<=lo) (h2:lo<2 ^ 62) (h3:-(2 ^ 62)<=hi) (h4:hi<2 ^ 62)
  (q:R (Itr lo (hi-lo).toNat) H):wpAny (model X.prog X.w) X.A (pyIter (.ref s.heap.objs.size)) (PIE X pins σ tg R) E { s with heap:=s.heap.push { cls:=.type "range",data:=.fields #[.int lo t,.int hi u,.int 1 v] },toks:=tk }:=by
 refine wpAny_pyIter_range (IsRange.new ..) (small_one h1 h2 h3 h4) ?_;have I1:Inv X pins σ H { s with heap:=s.heap.push { cls:=.type "range",data:=.fields #[.int lo t,.int hi u,.int 1 v] },toks:=tk }:=I.kept λb o e=>y3 _ e;refine ⟨(s.heap.push { cls:=.type "range",data:=.fields #[.int lo t,.int hi u,.int 1 v] }).objs.size,[(s.heap.push { cls:=.type "range",data:=.fields #[.int lo t,.int hi u,.int 1 v] }).objs.size],_,_,H,rfl,
  I1.kept (t':=tk) λb o e=>y3 _ e,qaA _ lo (hi-lo).toNat,?_,λb hb=>?_,q⟩
 ·have e1:lo+((0:Nat):Int)*1=lo:=by simp
  have e2:(((hi-lo).toNat:Nat):Int)-((0:Nat):Int)=Builtin.Range.rangeSize lo hi 1:=by rw [rangeSize_one];split<;>omega
  show IsRangeIter _ _ (lo+((0:Nat):Int)*1) ((((hi-lo).toNat:Nat):Int)-((0:Nat):Int)) 1;rw [e1,e2];exact y4 _ rfl
 ·have e:b=(s.heap.push { cls:=.type "range",data:=.fields #[.int lo t,.int hi u,.int 1 v] }).objs.size:=by simpa using hb
  subst e;exact I1.fpOk (v6 _) (I1.hok.fresh (v6 _))
def qoh (ta:TA):TI:=λσ H R=>ta σ H λvs H1=>∃ j:Int,vs=[.int j]/\-(2 ^ 62)<=j/\j<2 ^ 62/\R (Itr 0 j.toNat) H1
def qdp {a:Expr} {ta:TA} {p pos:Pos} (hg:Gl X "range") (hm:X.mg "range" = none) (ha:PA X [a] ta) (hs:starEach [a] X.env=[(false,eval a X.env)]:=by rfl):PI X tg (.Call (.Name "range" p) [a] [] pos) (qoh ta):=by
 intro pins s σ H R I h;refine Call_ (EL I hg hm boot_range (PyProof.Rows.callWith_type1 (thn (ha pos pins s σ H _ I h) λus s1 ⟨vs,H1,I1,r1,q1⟩=>?_) hs rfl));obtain ⟨j,e,q1,q2,q⟩:=q1;subst e;cases r1 with
 |cons r rr=>
  cases rr;obtain ⟨t,rfl⟩:=r;exact call_range_1 (qeq I1 (by omega) (by omega) q1 q2 (by simpa using q))
def qpR (wi:TI) (g:TG) (tb:TS):TS:=λD σ H=>wi σ H λJ H1=>∃ W:Nat->Nat->St->Hp->Prop,(∃ m,W 0 m σ H1)/\∀ i m σ H,W i m σ H ->
 (J.stop i H/\D.nx σ H)\/(J.go i H/\∃ N:St->Hp->Prop,(∀ σ' H',N σ' H'->∃ m',m'<m/\W (i+1) m' σ' H')/\∀ x H',J.yld i H x H'->g x σ H' λσ2 H2=>tb { D with nx:=N,ct:=N,bk:=D.nx } σ2 H2)
def S8 (fp:List Addr) (h:Heap):List (Addr×Obj):=fp.filterMap λb=>(h.get? b).map λo=>(b,o)
def JL {fp:List Addr} {h:Heap} {b:Addr} {o:Obj} (hb:b∈fp) (e:h.get? b=some o):(b,o)∈S8 fp h:=List.mem_filterMap.mpr ⟨b,hb,by rw [e];rfl⟩
def qcL {fp:List Addr} {h:Heap} {p:Addr×Obj} (hp:p∈S8 fp h):p.1∈fp/\h.get? p.1=some p.2:=by
 obtain ⟨b,hb,e⟩:=List.mem_filterMap.mp hp;cases q:h.get? b with
 |none=>rw [q] at e;cases e
 |some o=>
  rw [q] at e;have e':(b,o)=p:=Option.some.inj e;subst e';exact ⟨hb,q⟩
def Inv.pinned {pins:List (Addr×Obj)} {σ:St} {H:Hp} {s:Shared} {fp:List Addr} (I:Inv X pins σ H s) (hf:∀ b∈fp,KQ X pins H b) (ho:∀ b∈fp,∃ o,s.heap.get? b=some o/\∀ v,o.data≠.cell v):Inv X (pins++S8 fp s.heap) σ H s:=
 I.pins_of λp hp=>(List.mem_append.mp hp).elim (λz=>I.pin p (v8 _ z)) λz=>by
  obtain ⟨hb,e⟩:=qcL z;obtain ⟨f0,f1,f2,_⟩:=hf p.1 hb;obtain ⟨o,e',d⟩:=ho p.1 hb;rw [e] at e';cases e';exact ⟨e,f0,f1,f2,d⟩
def Inv.unpinned {pins pl:List (Addr×Obj)} {σ:St} {H:Hp} {s:Shared} (I:Inv X (pins++pl) σ H s):Inv X pins σ H s:=I.pins_of λp hp=>I.pin p (v8 _ (List.mem_append_left _ hp))
def qjF {iter:Expr} {body:List Stmt} {wi:TI} {g:TG} {tb:TS} {pos:Pos} (hp:PassesOwn (model X.prog X.w) X.A X.env X.xe) (hc:X.calm=true) (hi:PI X tg iter wi) (hg:PG X tg g) (hb:PSs X body tb)
  (hs:∀ x,foldedSetIterable iter X.env x=pure x:=by intro _;rfl):PS X (.For tg iter body [] pos) (qpR wi g tb):=by
 intro pins s σ H D I h;refine wpAny_For (thn (hi pins s σ H _ I h) λv s1 h1=>thn h1 λitv s2 h2=>?_) hs;obtain ⟨it,fp,tn,J,H2,e,I2,T,st2,f2,W,⟨m0,w0⟩,turn⟩:=h2;subst e
 -- what stays true of the iterator's objects through the loop
 have stat:∀ {H':Hp},(∀ b∈fp,H' b=none)->∀ b∈fp,KQ X pins H' b:=λhn b hb=>⟨hn b hb,(f2 b hb).2⟩
 refine codeAny_forLoop_any (λn s'=>∃ i σ' H',Inv X pins σ' H' s'/\tn i s'.heap/\(∀ b∈fp,H' b=none)/\W i n σ' H') ?_ m0 ⟨0,σ,H2,I2,st2,λb hb=>(f2 b hb).1,w0⟩;rintro n s3 ⟨i,σ3,H3,I3,st3,fr3,w3⟩;rcases turn i n σ3 H3 w3 with ⟨stop,qn⟩|⟨go,N,hN,step⟩
 ·refine wpAny_passesOwn hp (thn (T.done X rfl rfl rfl hc i pins s3 σ3 H3 X.xe I3 (stat fr3) st3 stop) λr s4 ⟨hr,I4⟩=>?_);subst hr;exact wpAny_execs_nil ⟨σ3,H3,I4,qn⟩
 ·refine wpAny_passesOwn hp (thn (T.item X rfl rfl rfl hc i pins s3 σ3 H3 X.xe I3 (stat fr3) st3 go) λr s4 ⟨u,hr,h4⟩=>?_);subst hr;refine wpAny_passesOwn hp (thn h4 λ_ s5 ⟨x,H5,I5,r5,y5,st5,fr5⟩=>?_);have I5':=I5.pinned (stat fr5) (T.obj _ _ st5);refine wpAny_passesOwn hp (thn (hg _ s5 σ3 H5 x u _ I5' r5 (step x H5 y5)) λ_ s6 ⟨σ6,H6,I6,q6⟩=>?_);refine wpAny_passesOwn hp (thn (hb _ s6 σ6 H6 _ I6 q6) λf s7 q7=>?_);have again:∀ {σ7:St} {H7:Hp},Inv X (pins++S8 fp s5.heap) σ7 H7 s7->N σ7 H7->∃ m,m<n/\∃ i σ' H',Inv X pins σ' H' s7/\tn i s7.heap/\(∀ b∈fp,H' b=none)/\W i m σ' H':=λ{σ7 H7} I7 n7=>by
   obtain ⟨m',hm,w7⟩:=hN σ7 H7 n7;refine ⟨m',hm,i+1,σ7,H7,I7.unpinned,T.keep _ _ _ st5 λb hb o e=>(I7.pin (b,o) (v8 _ (v8 _ (JL hb e)))).1,λb hb=>?_,w7⟩;obtain ⟨o,e,d⟩:=T.obj _ _ st5 b hb;exact (I7.pin (b,o) (v8 _ (v8 _ (JL hb e)))).2.1
  cases f with
  |next=>obtain ⟨σ7,H7,I7,n7⟩:=q7;exact again I7 n7
  |cont=>obtain ⟨σ7,H7,I7,n7⟩:=q7;exact again I7 n7
  |brk=>obtain ⟨σ7,H7,I7,q7⟩:=q7;exact ⟨σ7,H7,I7.unpinned,q7⟩
  |ret v=>obtain ⟨x7,σ7,H7,I7,r7,q7⟩:=q7;exact ⟨x7,σ7,H7,I7.unpinned,r7,q7⟩
end
abbrev R2:=V->V->Hp->VK->Prop
def OpR (X:Cx) (f:Value->Value->Sem Value) (r:R2):Prop:=
 ∀ (pins:List (Addr×Obj)) (s:Shared) (σ:St) (H:Hp) (x y:V) (v u:Value) (Q:VK),Inv X pins σ H s->zO x v->zO y u->r x y H Q ->
  wpAny (model X.prog X.w) X.A (f v u) (EP X pins σ Q) X.xe s
def UnR (X:Cx) (f:Value->Sem Value) (r:V->Hp->VK->Prop):Prop:=
 ∀ (pins:List (Addr×Obj)) (s:Shared) (σ:St) (H:Hp) (x:V) (v:Value) (Q:VK),Inv X pins σ H s->zO x v->r x H Q ->
  wpAny (model X.prog X.w) X.A (f v) (EP X pins σ Q) X.xe s
def J3 (X:Cx) (f:Value) (r:List V->Hp->VK->Prop):Prop:=
 ∀ (pins:List (Addr×Obj)) (s:Shared) (σ:St) (H:Hp) (xs:List V) (us:List Value) (Q:VK),Inv X pins σ H s->zb xs us->r xs H Q ->
  wpAny (model X.prog X.w) X.A (call f us) (EP X pins σ Q) X.xe s
def tOp (r:R2) (ta tb:TE):TE:=λσ H Q=>ta σ H λx H1=>tb σ H1 λy H2=>r x y H2 Q
def tUn (r:V->Hp->VK->Prop) (ta:TE):TE:=λσ H Q=>ta σ H λx H1=>r x H1 Q
def rI (C:Int->Int->Prop) (g:Int->Int->V):R2:=λx y H Q=>∃ i j,x=.int i/\y=.int j/\C i j/\Q (g i j) H
def rI0 (g:Int->Int->V):R2:=λx y H Q=>∃ i j,x=.int i/\y=.int j/\Q (g i j) H
def rU (g:Int->V):V->Hp->VK->Prop:=λx H Q=>∃ i,x=.int i/\Q (g i) H
section
variable {X:Cx} {a b c:Expr} {ta tb tc:TE} {pos:Pos}
def qnR (ha:PE X a ta) (hb:PE X b tb) {pins:List (Addr×Obj)} {s:Shared} {σ:St} {H:Hp} {R:V->V->Hp->Prop} (I:Inv X pins σ H s)
  (h:ta σ H λx H1=>tb σ H1 λy H2=>R x y H2) {Q:Value->Shared->Prop} {f:Value->Value->Sem Value}
  (hf:∀ v u s2 x y H2,Inv X pins σ H2 s2->zO x v->zO y u->R x y H2->wpAny (model X.prog X.w) X.A (f v u) Q X.xe s2) :
  wpAny (model X.prog X.w) X.A (eval a X.env) (λv s₁=>wpAny (model X.prog X.w) X.A (eval b X.env) (λu s₂=>wpAny (model X.prog X.w) X.A (f v u) Q X.xe s₂) X.xe s₁) X.xe s:=by
 refine thn (ha pins s σ H _ I h) λv s1 ⟨x,H1,I1,r1,q1⟩=>?_;refine thn (hb pins s1 σ H1 _ I1 q1) λu s2 ⟨y,H2,I2,r2,q2⟩=>?_;exact hf v u s2 x y H2 I2 r1 r2 q2
def qol {op:Operator} {r:R2} (ho:OpR X (binaryOp op) r) (ha:PE X a ta) (hb:PE X b tb):PE X (.BinOp a op b pos) (tOp r ta tb):=by
 intro pins s σ H Q I h;exact wpAny_BinOp (qnR ha hb I h λv u s2 x y H2 I2 rx ry q=>ho pins s2 σ H2 x y v u Q I2 rx ry q)
def qoW {op:UnaryOp} {r:V->Hp->VK->Prop} (ho:UnR X (unaryOp op) r) (ha:PE X a ta):PE X (.UnaryOp op a pos) (tUn r ta):=by
 intro pins s σ H Q I h;exact UnaryOp_ (thn (ha pins s σ H _ I h) λv s1 ⟨x,H1,I1,r1,q1⟩=>ho pins s1 σ H1 x v Q I1 r1 q1)
def opI {f:Value->Value->Sem Value} {C:Int->Int->Prop} {g:Int->Int->Int}
  (rule:∀ (i j:Int) (t u:Tok) (s:Shared) (Q:Value->Shared->Prop) (E:Value->Shared->Prop),C i j->Q (.int (g i j) s.toks) { s with toks:=s.toks+1 }->wpAny (model X.prog X.w) X.A (f (.int i t) (.int j u)) Q E s) :
  OpR X f (rI C λi j=>.int (g i j)):=by
 intro pins s σ H x y v u Q I rx ry h;obtain ⟨i,j,rfl,rfl,hc,q⟩:=h;obtain ⟨t,rfl⟩:=rx;obtain ⟨t',rfl⟩:=ry;exact rule i j t t' s _ _ hc ⟨.int (g i j),H,I.tok _,⟨_,rfl⟩,q⟩
def qm5 {f:Value->Value->Sem Value} {g:Int->Int->Int}
  (rule:∀ (i j:Int) (t u:Tok) (s:Shared) (Q:Value->Shared->Prop) (E:Value->Shared->Prop),Q (.int (g i j) s.toks) { s with toks:=s.toks+1 }->wpAny (model X.prog X.w) X.A (f (.int i t) (.int j u)) Q E s) :
  OpR X f (rI0 λi j=>.int (g i j)):=by
 intro pins s σ H x y v u Q I rx ry h;obtain ⟨i,j,rfl,rfl,q⟩:=h;obtain ⟨t,rfl⟩:=rx;obtain ⟨t',rfl⟩:=ry;exact rule i j t t' s _ _ ⟨.int (g i j),H,I.tok _,⟨_,rfl⟩,q⟩
def qmZ {f:Value->Value->Sem Value} {g:Int->Int->Bool}
  (rule:∀ (i j:Int) (t u:Tok) (s:Shared) (Q:Value->Shared->Prop) (E:Value->Shared->Prop),Q (.bool (g i j)) s->wpAny (model X.prog X.w) X.A (f (.int i t) (.int j u)) Q E s) :
  OpR X f (rI0 λi j=>.bl (g i j)):=by
 intro pins s σ H x y v u Q I rx ry h;obtain ⟨i,j,rfl,rfl,q⟩:=h;obtain ⟨t,rfl⟩:=rx;obtain ⟨t',rfl⟩:=ry;exact rule i j t t' s _ _ ⟨.bl (g i j),H,I,rfl,q⟩
def qeQ (i j:Int):Prop:=0<j/\j<1073741824
def qco (i j:Int):Prop:=0<=j/\j<=1000000/\i.natAbs<2 ^ 64
def J6 (i j:Int):Prop:=(-(2 ^ 64)<i/\i<2 ^ 64)\/(-(2 ^ 64)<j/\j<2 ^ 64)
def J6.ok {i j:Int} (h:J6 i j):IntMulOk i j:=by
 rcases h with ⟨h1,h2⟩|⟨h1,h2⟩
 ·exact .of_left (intBits_le_64 h1 h2)
 ·exact .of_right (intBits_le_64 h1 h2)
def qaz (k:Nat):(0:Int)<=2 ^ k:=by
 rw [two_pow_cast];exact Int.natCast_nonneg _
def qf5:OpR X (binaryOp .Add) (rI0 λi j=>.int (i+j)):=qm5 λ_ _ _ _ _ _ _ q=>add_int q
def ql0:OpR X (binaryOp .Sub) (rI0 λi j=>.int (i-j)):=qm5 λ_ _ _ _ _ _ _ q=>sub_int q
def qkP:OpR X (binaryOp .Mult) (rI J6 λi j=>.int (i*j)):=opI λ_ _ _ _ _ _ _ hc q=>mul_int q hc.ok
def qhg:OpR X (binaryOp .FloorDiv) (rI qeQ λi j=>.int (i/j)):=opI λi j _ _ _ _ _ hc q=>by
 have h1:(0:Int)<j:=hc.1;have h2:j<1073741824:=hc.2;exact floordiv_int (by omega) (by rw [Int.fdiv_eq_ediv_of_nonneg i (by omega)];exact q) (.inl (PyProof.noPylong_small (by omega)))
def qj5:OpR X (binaryOp .Mod) (rI (λ_ j=>0<j) λi j=>.int (i%j)):=opI λi j _ _ _ _ _ hc q=>by
 have h1:(0:Int)<j:=hc;exact mod_int' (by omega) (by rw [Int.fmod_eq_emod_of_nonneg i (by omega)];exact q)
def qlu:OpR X (binaryOp .Pow) (rI qco λi j=>.int (i ^ j.toNat)):=opI λ_ _ _ _ _ _ _ hc q=>pow_int_small hc.1 hc.2.1 hc.2.2 q
def qk1:OpR X (binaryOp .LShift) (rI qco λi j=>.int (i*2 ^ j.toNat)):=opI λ_ _ _ _ _ _ _ hc q=>lshift_int_small hc.1 hc.2.1 hc.2.2 q
def qjD:OpR X (binaryOp .RShift) (rI (λ_ j=>0<=j) λi j=>.int (i/2 ^ j.toNat)):=opI λi j _ _ _ _ _ hc q=>
 rshift_int hc (by rw [Int.fdiv_eq_ediv_of_nonneg i (qaz _)];exact q)
def qk6:OpR X (binaryOp .BitAnd) (rI0 λi j=>.int (Builtin.bitAnd i j)):=qm5 λ_ _ _ _ _ _ _ q=>and_int q
def qmM:OpR X (binaryOp .BitXor) (rI0 λi j=>.int (Builtin.bitXor i j)):=qm5 λ_ _ _ _ _ _ _ q=>xor_int q
def unI {f:Value->Sem Value} {g:Int->Int}
  (rule:∀ (i:Int) (t:Tok) (s:Shared) (Q:Value->Shared->Prop) (E:Value->Shared->Prop),Q (.int (g i) s.toks) { s with toks:=s.toks+1 }->wpAny (model X.prog X.w) X.A (f (.int i t)) Q E s) :
  UnR X f (rU λi=>.int (g i)):=by
 intro pins s σ H x v Q I rx h;obtain ⟨i,rfl,q⟩:=h;obtain ⟨t,rfl⟩:=rx;exact rule i t s _ _ ⟨.int (g i),H,I.tok _,⟨_,rfl⟩,q⟩
def qkU:UnR X (unaryOp .USub) (rU λi=>.int (-i)):=unI λ_ _ _ _ _ q=>neg_int q
end
def qoL:V->V->Bool
 |.non,.non=>true|.non,.int _=>true|.int _,.non=>true|.non,.bl _=>true|.bl _,.non=>true|.non,.str _=>true|.str _,.non=>true
 |.int _,.int _=>true|.bl _,.bl _=>true|.str _,.str _=>true|.byt _,.byt _=>true
 |.int _,.str _=>true|.str _,.int _=>true|.bl _,.str _=>true|.str _,.bl _=>true
 |_,_=>false
def rEq:R2:=λx y H Q=>qoL x y=true/\Q (.bl (decide (x=y))) H
def rNe:R2:=λx y H Q=>qoL x y=true/\Q (.bl (!decide (x=y))) H
def qbC {i j:Int}:decide (V.int i=V.int j)=(i==j):=by
 rw [Bool.eq_iff_iff];simp
def qfx {i j:Bool}:decide (V.bl i=V.bl j)=(i==j):=by
 rw [Bool.eq_iff_iff];simp
def qba {i j:Str}:decide (V.str i=V.str j)=(i==j):=by
 rw [Bool.eq_iff_iff];simp
def qbJ {i j:Array UInt8}:decide (V.byt i=V.byt j)=(i.toList==j.toList):=by
 rw [Bool.eq_iff_iff];cases i;cases j;simp
section
variable {X:Cx} {a b c:Expr} {ta tb tc:TE} {pos:Pos}
def qQ {pins:List (Addr×Obj)} {σ:St} {H:Hp} {s:Shared} {Q:VK} {k k':Bool} (I:Inv X pins σ H s) (q:Q (.bl k) H) (e:k=k'):EP X pins σ Q (.bool k') s:=by
 subst e;exact ⟨.bl k,H,I,rfl,q⟩
def qnv:OpR X (compareOp .Eq) rEq:=by
 intro pins s σ H x y v u Q I rx ry h;obtain ⟨hs,q⟩:=h;cases x with
 |non=>
  cases rx;cases y with
  |non=>cases ry;exact PySem.EqNone.eq_none_none (qQ I q (by simp))
  |bl j=>cases ry;exact PySem.EqNone.eq_none_bool (qQ I q (by simp))
  |int j=>obtain ⟨t',rfl⟩:=ry;exact PySem.EqNone.eq_none_int (qQ I q (by simp))
  |str j=>obtain ⟨t',rfl⟩:=ry;exact PySem.EqNone.eq_none_str (qQ I q (by simp))
  |_=>exact absurd (show false=true from hs) y8
 |bl i=>
  cases rx;cases y with
  |non=>cases ry;exact PySem.EqNone.eq_bool_none (qQ I q (by simp))
  |bl j=>cases ry;exact eq_bool (qQ I q qfx)
  |str j=>obtain ⟨t',rfl⟩:=ry;exact PySem.EqMixed.eq_bool_str (qQ I q (by simp))
  |_=>exact absurd (show false=true from hs) y8
 |int i=>
  obtain ⟨t,rfl⟩:=rx;cases y with
  |non=>cases ry;exact PySem.EqNone.eq_int_none (qQ I q (by simp))
  |int j=>obtain ⟨t',rfl⟩:=ry;exact eq_int (qQ I q qbC)
  |str j=>obtain ⟨t',rfl⟩:=ry;exact PySem.EqMixed.eq_int_str (qQ I q (by simp))
  |_=>exact absurd (show false=true from hs) y8
 |str i=>
  obtain ⟨t,rfl⟩:=rx;cases y with
  |non=>cases ry;exact PySem.EqNone.eq_str_none (qQ I q (by simp))
  |bl j=>cases ry;exact PySem.EqMixed.eq_str_bool (qQ I q (by simp))
  |int j=>obtain ⟨t',rfl⟩:=ry;exact PySem.EqMixed.eq_str_int (qQ I q (by simp))
  |str j=>obtain ⟨t',rfl⟩:=ry;exact eq_str (qQ I q qba)
  |_=>exact absurd (show false=true from hs) y8
 |byt i=>
  obtain ⟨t,rfl⟩:=rx;cases y with
  |byt j=>obtain ⟨t',rfl⟩:=ry;exact PySem.W.eq_bytes (qQ I q qbJ)
  |_=>exact absurd (show false=true from hs) y8
 |_=>cases y<;>exact absurd (show false=true from hs) y8
def qnk:OpR X (compareOp .NotEq) rNe:=by
 intro pins s σ H x y v u Q I rx ry h;obtain ⟨hs,q⟩:=h;cases x with
 |non=>
  cases rx;cases y with
  |non=>cases ry;exact PySem.EqNone.ne_none_none (qQ I q (by simp))
  |bl j=>cases ry;exact PySem.EqNone.ne_none_bool (qQ I q (by simp))
  |int j=>obtain ⟨t',rfl⟩:=ry;exact PySem.EqNone.ne_none_int (qQ I q (by simp))
  |str j=>obtain ⟨t',rfl⟩:=ry;exact PySem.EqNone.ne_none_str (qQ I q (by simp))
  |_=>exact absurd (show false=true from hs) y8
 |bl i=>
  cases rx;cases y with
  |non=>cases ry;exact PySem.EqNone.ne_bool_none (qQ I q (by simp))
  |bl j=>cases ry;exact ne_bool (qQ I q (congrArg not qfx))
  |str j=>obtain ⟨t',rfl⟩:=ry;exact PySem.EqMixed.ne_bool_str (qQ I q (by simp))
  |_=>exact absurd (show false=true from hs) y8
 |int i=>
  obtain ⟨t,rfl⟩:=rx;cases y with
  |non=>cases ry;exact PySem.EqNone.ne_int_none (qQ I q (by simp))
  |int j=>obtain ⟨t',rfl⟩:=ry;exact ne_int (qQ I q (congrArg not qbC))
  |str j=>obtain ⟨t',rfl⟩:=ry;exact PySem.EqMixed.ne_int_str (qQ I q (by simp))
  |_=>exact absurd (show false=true from hs) y8
 |str i=>
  obtain ⟨t,rfl⟩:=rx;cases y with
  |non=>cases ry;exact PySem.EqNone.ne_str_none (qQ I q (by simp))
  |bl j=>cases ry;exact PySem.EqMixed.ne_str_bool (qQ I q (by simp))
  |int j=>obtain ⟨t',rfl⟩:=ry;exact PySem.EqMixed.ne_str_int (qQ I q (by simp))
  |str j=>obtain ⟨t',rfl⟩:=ry;exact ne_str (qQ I q (congrArg not qba))
  |_=>exact absurd (show false=true from hs) y8
 |byt i=>
  obtain ⟨t,rfl⟩:=rx;cases y with
  |byt j=>obtain ⟨t',rfl⟩:=ry;exact PySem.W.ne_bytes (qQ I q (congrArg not qbJ))
  |_=>exact absurd (show false=true from hs) y8
 |_=>cases y<;>exact absurd (show false=true from hs) y8
def qap:OpR X (compareOp .Lt) (rI0 λi j=>.bl (decide (i<j))):=qmZ λ_ _ _ _ _ _ _ q=>lt_int q
def qmJ:OpR X (compareOp .LtE) (rI0 λi j=>.bl (decide (i<=j))):=qmZ λ_ _ _ _ _ _ _ q=>le_int q
def qa1:OpR X (compareOp .Gt) (rI0 λi j=>.bl (decide (j<i))):=qmZ λ_ _ _ _ _ _ _ q=>gt_int q
def qkT:OpR X (compareOp .GtE) (rI0 λi j=>.bl (decide (j<=i))):=qmZ λ_ _ _ _ _ _ _ q=>ge_int q
def NJ:OpR X (compareOp .Is) (λx y H Q=>y=.non/\Q (.bl (decide (x=.non))) H):=by
 intro pins s σ H x y v u Q I rx ry h;obtain ⟨rfl,q⟩:=h;cases ry;refine is_none_gen (qQ I q ?_);cases x<;>first
  | (cases rx;rfl)
  | (obtain ⟨t,rfl⟩:=rx;rfl)
def qcV:OpR X (compareOp .IsNot) (λx y H Q=>y=.non/\Q (.bl (!decide (x=.non))) H):=by
 intro pins s σ H x y v u Q I rx ry h;obtain ⟨rfl,q⟩:=h;cases ry;refine isnot_none_gen (qQ I q ?_);cases x<;>first
  | (cases rx;rfl)
  | (obtain ⟨t,rfl⟩:=rx;rfl)
def OpR.or {f:Value->Value->Sem Value} {r r':R2} (h:OpR X f r) (h':OpR X f r'):OpR X f (λx y H Q=>r x y H Q\/r' x y H Q):=by
 intro pins s σ H x y v u Q I rx ry q;rcases q with q|q
 ·exact h pins s σ H x y v u Q I rx ry q
 ·exact h' pins s σ H x y v u Q I rx ry q
def qz (b:Expr) {op:CmpOp} (h:op≠.In:=by decide) (h2:op≠.NotIn:=by decide):behindInMarks op b=false:=by
 have e1:(op==CmpOp.In)=false:=by cases op<;>first|rfl|exact absurd rfl h
 have e2:(op==CmpOp.NotIn)=false:=by cases op<;>first|rfl|exact absurd rfl h2
 cases b<;>simp [behindInMarks,e1,e2]
def qhX {op:CmpOp} {r:R2} (ho:OpR X (compareOp op) r) (ha:PE X a ta) (hb:PE X b tb) (hm:behindInMarks op b=false):PE X (.Compare a [op] [b] pos) (tOp r ta tb):=by
 intro pins s σ H Q I h;exact wpAny_Compare1 (qnR ha hb I h λv u s2 x y H2 I2 rx ry q=>ho pins s2 σ H2 x y v u Q I2 rx ry q) hm
def qg7 (t:TE):TT:=λσ H Q=>t σ H λx H'=>∃ k,x=.bl k/\Q k H'
def qg6 {op:CmpOp} {r:R2} (ho:OpR X (compareOp op) r) (ha:PE X a ta) (hb:PE X b tb) (hm:behindInMarks op b=false):PT X (.Compare a [op] [b] pos) (qg7 (tOp r ta tb)):=by
 intro pins s σ H Q I h;refine wpAny_isTrue_Compare1 (thn (ha pins s σ H _ I h) λv s1 ⟨x,H1,I1,r1,q1⟩=>thn (hb pins s1 σ H1 _ I1 q1) λu s2 ⟨y,H2,I2,r2,q2⟩=>
  thn (ho pins s2 σ H2 x y v u _ I2 r1 r2 q2) λc s3 ⟨z,H3,I3,r3,k,e,q3⟩=>?_) hm
 subst e;cases r3;exact wpAny_truthy_bool ⟨H3,I3,q3⟩
def qfg (r r':R2) (ta tb tc:TE):TE:=λσ H Q=>ta σ H λx H1=>tb σ H1 λy H2=>r x y H2 λz H3=>∃ k,z=.bl k /\
 (if k=true then tc σ H3 λw' H4=>r' y w' H4 Q else Q (.bl false) H3)
def qeD {op op':CmpOp} {r r':R2} (ho:OpR X (compareOp op) r) (ho':OpR X (compareOp op') r') (ha:PE X a ta) (hb:PE X b tb) (hc:PE X c tc)
  (hm:lastMarks [op,op'] [b,c]=false:=by with_unfolding_all rfl):PT X (.Compare a [op,op'] [b,c] pos) (qg7 (qfg r r' ta tb tc)):=by
 intro pins s σ H Q I h;refine isTrue_chain (thn (ha pins s σ H _ I h) λv s1 ⟨x,H1,I1,r1,q1⟩=>test_link (thn (hb pins s1 σ H1 _ I1 q1) λu s2 ⟨y,H2,I2,r2,q2⟩=>
  thn (ho pins s2 σ H2 x y v u _ I2 r1 r2 q2) λd s3 ⟨z,H3,I3,r3,k,e,q3⟩=>?_)) hm
 subst e;cases r3;refine wpAny_truthy_bool ?_;cases k with
 |false=>
  obtain ⟨k',e',q'⟩:=q3;cases e';exact ite_ff ⟨H3,I3,q'⟩
 |true=>
  refine ite_tt (test_last (thn (hc pins s3 σ H3 _ I3 q3) λw' s4 ⟨z',H4,I4,r4,q4⟩=>thn (ho' pins s4 σ H4 y z' u w' _ I4 r2 r4 q4) λd' s5 ⟨z2,H5,I5,r5,k2,e2,q5⟩=>?_));subst e2;cases r5;exact wpAny_truthy_bool ⟨H5,I5,q5⟩
def R8:(sizeLine:Nat)<2 ^ 63:=by rw [y9];decide
def XO {x:V} {us:List Value} (r:zb [x] us):∃ u,us=[u]/\zO x u:=by
 cases r with
 |cons r1 r2=>cases r2;exact ⟨_,rfl,r1⟩
def qbo {x y:V} {us:List Value} (r:zb [x,y] us):∃ u w',us=[u,w']/\zO x u/\zO y w':=by
 cases r with
 |cons r1 r2=>
  cases r2 with
  |cons r3 r4=>cases r4;exact ⟨_,_,rfl,r1,r3⟩
def MZ:J3 X (.builtin "abs") (λxs H Q=>∃ i,xs=[.int i]/\Q (.int (if i<0 then -i else i)) H):=by
 intro pins s σ H xs us Q I r h;obtain ⟨i,rfl,q⟩:=h;obtain ⟨u,rfl,t,rfl⟩:=XO r;exact call_abs_int λu tk=>⟨.int (if i<0 then -i else i),H,I.tok _,⟨_,rfl⟩,q⟩
def qbZ (hc:X.calm=true):J3 X (.builtin "max") (λxs H Q=>∃ i j,xs=[.int i,.int j]/\Q (.int (if j > i then j else i)) H):=by
 intro pins s σ H xs us Q I r h;obtain ⟨i,j,rfl,q⟩:=h;obtain ⟨u,w',rfl,⟨t,rfl⟩,⟨t',rfl⟩⟩:=qbo r;refine max_two_ints (I.ok.hd hc) λh' tk k=>⟨_,H,I.kept k,?_,q⟩
 by_cases hj:j > i
 ·rw [if_pos hj,if_pos hj];exact ⟨_,rfl⟩
 ·rw [if_neg hj,if_neg hj];exact ⟨_,rfl⟩
def DX (hc:X.calm=true):J3 X (.builtin "min") (λxs H Q=>∃ i j,xs=[.int i,.int j]/\Q (.int (if j<i then j else i)) H):=by
 intro pins s σ H xs us Q I r h;obtain ⟨i,j,rfl,q⟩:=h;obtain ⟨u,w',rfl,⟨t,rfl⟩,⟨t',rfl⟩⟩:=qbo r;refine min_two_ints (I.ok.hd hc) λh' tk k=>⟨_,H,I.kept k,?_,q⟩
 by_cases hj:j<i
 ·rw [if_pos hj,if_pos hj];exact ⟨_,rfl⟩
 ·rw [if_neg hj,if_neg hj];exact ⟨_,rfl⟩
def JF:J3 X (.type "int") (λxs H Q=>(∃ i,xs=[.int i]/\Q (.int i) H)\/∃ k,xs=[.bl k]/\Q (.int (if k then 1 else 0)) H):=by
 intro pins s σ H xs us Q I r h;rcases h with ⟨i,rfl,q⟩|⟨k,rfl,q⟩
 ·obtain ⟨u,rfl,t,rfl⟩:=XO r;exact call_int_int ⟨.int i,H,I,⟨_,rfl⟩,q⟩
 ·obtain ⟨u,rfl,r1⟩:=XO r;cases r1;exact call_int_bool ⟨.int (if k then 1 else 0),H,I.tok _,⟨_,rfl⟩,q⟩
def qo9 (K:Frg) (x:V) (H:Hp) (n:Nat):Prop:=
 match x with
 |.str y=>y.length<=sizeLine/\n=y.length
 |.byt y=>y.size<=sizeLine/\n=y.size
 |.ref p=>(∃ xs,SqL K H p xs/\n=xs.length)\/∃ xs,SqT K H p xs/\n=xs.length
 |_=>False
def qY:J3 X (.builtin "len") (λxs H Q=>∃ x n,xs=[x]/\qo9 X.K x H n/\Q (.int n) H):=by
 intro pins s σ H xs us Q I r h;obtain ⟨x,n,rfl,e,q⟩:=h;obtain ⟨u,rfl,rx⟩:=XO r;have hl:=R8;have hs:sizeLine=16777216:=y9;cases x with
 |str y=>
  obtain ⟨t,rfl⟩:=rx;obtain ⟨hy,e'⟩:y.length<=sizeLine/\n=y.length:=e;subst e';exact len_str (by omega) ⟨.int _,H,I.tok _,⟨_,rfl⟩,q⟩
 |byt y=>
  obtain ⟨t,rfl⟩:=rx;obtain ⟨hy,e'⟩:y.size<=sizeLine/\n=y.size:=e;subst e';exact PySem.W.len_bytes (by omega) ⟨.int _,H,I.tok _,⟨_,rfl⟩,q⟩
 |ref p=>
  cases rx;have e':(∃ xs,SqL X.K H p xs/\n=xs.length)\/∃ xs,SqT X.K H p xs/\n=xs.length:=e;rcases e' with ⟨xs,hx,e'⟩|⟨xs,hx,e'⟩
  ·subst e';obtain ⟨its,r',pl,hz⟩:=I.list hx;have hlen:=r'.length;exact Calls.call_len_list pl.isList (by simp only [size_toArray];omega) ⟨.int xs.length,H,I.tok _,⟨_,by simp only [size_toArray];rw [hlen]⟩,q⟩
  ·subst e';obtain ⟨its,r',pl,hz⟩:=I.tuple hx;have hlen:=r'.length;exact len_tuple pl (by simp only [size_toArray];omega) ⟨.int xs.length,H,I.tok _,⟨_,by simp only [size_toArray];rw [hlen]⟩,q⟩
 |_=>exact (show False from e).elim
end
section
variable {prog:Program} {w:World} {A:Around} {E:Value->Shared->Prop} {s:Shared} {K:Frg} {x dx C f:Addr} {mA:Str->Option Value} {name:Str} {v:Value}
end
section
variable {P:Program} {w:World} {H H':Hp} {h h':Heap} {a C dx:Addr} {fs fs':List (Str×V)}
end
section
variable {X:Cx} {pins:List (Addr×Obj)} {σ:St} {H:Hp} {s:Shared} {a C dx:Addr} {fs:List (Str×V)} {f:Str} {v:V} {A:Around} {E:Value->Shared->Prop}
def Inv.made (I:Inv X pins σ H s):Inv X pins σ (upd (upd H s.heap.objs.size (.own (s.heap.objs.size+1))) (s.heap.objs.size+1) (.ins C s.heap.objs.size []))
  { s with heap:=(s.heap.push PySem.W.emptyDict).push (PySem.W.instObj C s.heap.objs.size) }:=by
 have e1:(s.heap.push PySem.W.emptyDict).get? s.heap.objs.size=some PySem.W.emptyDict:=y4 s.heap rfl;have e2:((s.heap.push PySem.W.emptyDict).push (PySem.W.instObj C s.heap.objs.size)).get? (s.heap.objs.size+1)=some (PySem.W.instObj C s.heap.objs.size):=by
  have:=y4 (s.heap.push PySem.W.emptyDict) (o:=PySem.W.instObj C s.heap.objs.size) rfl
  rwa [Heap.size_push] at this
 have e3:(s.heap.push PySem.W.emptyDict).Ns s.heap.objs.size (λ_=>none):=⟨PySem.W.emptyDict,#[],_,e1,rfl,(λe he=>absurd he (by simp)),λ_=>rfl⟩
 have I1:=I.laid (a:=s.heap.objs.size) (o:=.own (s.heap.objs.size+1)) (h':=s.heap.push PySem.W.emptyDict) (t':=s.toks) (λb u q=>y3 _ q) (v6 _) ⟨_,e1⟩;refine I1.laid (a:=s.heap.objs.size+1) (o:=.ins C s.heap.objs.size []) (t':=s.toks) (λb u q=>y3 _ q) (Nat.le_of_eq (Heap.size_push _ _)) ?_;have ne:s.heap.objs.size≠s.heap.objs.size+1:=u6 (Nat.lt_succ_self _);refine ⟨by rw [qv ne,qI],Nat.zero_le _,ne,e2,λ_=>none,(Heap.Ns1.of_empty e3).at λo q=>y3 _ q,λ_=>True.intro,λy hy=>absurd rfl hy⟩
end
section
variable {X:Cx} {o e value:Expr} {f:Str} {pos pos' tpos:Pos} {ta tv:TE}
end
section
variable {X:Cx} {pins:List (Addr×Obj)} {σ:St} {H:Hp} {s:Shared} {A:Around} {E:Value->Shared->Prop} {Q:Value->Shared->Prop} {c:Value} {b:Bool}
end
structure Room (k:Nat) (A:Around):Prop where
 hd:A.handled=none
 dp:A.depth+3*k+5<recursionLimit
 un:A.units+16*k+200<cLine
 gd:A.guards=some []
def Room.mono {j k:Nat} {A:Around} (r:Room k A) (h:j<=k):Room j A:=⟨r.hd,by have:=r.dp;omega,by have:=r.un;omega,r.gd⟩
theorem Room.deeper {k:Nat} {A:Around} (r:Room (k+1) A) (env:Env):Room k (A.deeper env):=
 ⟨r.hd,by have:=r.dp;show A.depth+1+3*k+5<_;omega,by have:=r.un;show A.units+3+16*k+200<_;omega,r.gd⟩
theorem Room.in1 {k:Nat} {A:Around} (r:Room (k+1) A):Room k A.in1:=
 ⟨r.hd,by have:=r.dp;show A.depth+3*k+5<_;omega,by have:=r.un;show A.units+1+16*k+200<_;omega,r.gd⟩
theorem Room.depth {k:Nat} {A:Around} (r:Room k A):A.depth<recursionLimit:=by have:=r.dp;omega
theorem Room.units {k:Nat} {A:Around} (r:Room k A):A.units+64<cLine:=by have:=r.un;omega
def qpS:TA:=λ_ H Q=>Q [] H
def qdR (ta:TE) (tr:TA):TA:=λσ H Q=>ta σ H λx H1=>tr σ H1 λxs H2=>Q (x::xs) H2
section
variable {X:Cx} {e:Expr} {es:List Expr} {te:TE} {t:TA} {pos:Pos}
def NN:PA X [] qpS:=λ_ _ _ _ H Q I h=>Calls.spliced_nil ⟨[],H,I,.nil,h⟩
def j8 (ha:PE X e te) (hr:PA X es t) (hs:starEach (e::es) X.env=(false,eval e X.env)::starEach es X.env:=by rfl):PA X (e::es) (qdR te t):=by
 intro pos pins s σ H Q I h;rw [hs];show wpAny _ _ (spliced ((false,eval e X.env)::backTo pos (starEach es X.env))) _ _ s;refine Calls.spliced_cons (thn (ha pins s σ H _ I h) λu s1 ⟨x,H1,I1,r1,q1⟩=>?_);exact thn (hr pos pins s1 σ H1 _ I1 q1) λus s2 ⟨xs,H2,I2,r2,q2⟩=>⟨x::xs,H2,I2,.cons r1 r2,q2⟩
def qqv (t:TA):TE:=λσ H Q=>t σ H λxs H1=>xs.length<=sizeLine/\∀ p,H1 p=none->Q (.ref p) (upd H1 p (.tup xs))
def qqq (t:TA):TE:=λσ H Q=>t σ H λxs H1=>xs.length<=sizeLine/\∀ p,H1 p=none->Q (.ref p) (upd H1 p (.lst xs))
def qf3 {x1} (h:PA X es t):PE X (.Tuple es x1 pos) (qqv t):=by
 intro pins s σ H Q I hq;refine wpAny_Tuple_spliced (thn (h pos pins s σ H _ I hq) λus s1 ⟨xs,H1,I1,r,z,q⟩=>⟨by rw [← r.length];exact z,?_⟩);have hf:H1 s1.heap.objs.size=none:=I1.hok.fresh (v6 _);refine ⟨.ref s1.heap.objs.size,upd H1 s1.heap.objs.size (.tup xs),I1.laid (t':=s1.toks) (λb u e=>y3 _ e) (v6 _) ?_,rfl,q _ hf⟩;exact ⟨z,us,r,⟨_,y4 _ rfl,rfl,_,rfl,rfl⟩⟩
def qj6 (h:PA X es t):PE X (.List es pos) (qqq t):=by
 intro pins s σ H Q I hq;refine wpAny_List_spliced (thn (h pos pins s σ H _ I hq) λus s1 ⟨xs,H1,I1,r,z,q⟩=>⟨by rw [← r.length];exact z,?_⟩);have hf:H1 s1.heap.objs.size=none:=I1.hok.fresh (v6 _);refine ⟨.ref s1.heap.objs.size,upd H1 s1.heap.objs.size (.lst xs),I1.laid (t':=s1.toks) (λb u e=>y3 _ e) (v6 _) ?_,rfl,q _ hf⟩;exact ⟨z,us,0,r,y4 _ rfl⟩
end
abbrev Sp:=List V->Hp->VK->XK->Prop
abbrev CXT:=List Env->Hp->Shared->XK->Value->Shared->Prop
structure Env0 (P:Program) (w:World) (K:Frg) (mg:Str->Option Value) (base:Heap) (A:Around) (outer:List Env) (s:Shared) (H:Hp):Prop where
 frames:A.frames=some outer
 mod:Mod K mg base
 bs:∀ b o,base.get? b=some o->s.heap.get? b=some o/\H b=none
 bsz:base.objs.size<=s.heap.objs.size
 funs:s.heap.FunFrames base outer
 frf:∀ b∈frs outer,H b=none
 hok:HOk P w H s.heap
 bare:AllBare s.gens
def CE (outer:List Env) (P:Program) (w:World) (H:Hp) (s:Shared) (Q:VK) (u:Value) (s':Shared):Prop:=
 ∃ v H',s'.os=s.os/\AllBare s'.gens/\Un (frs outer) [] H H' s.heap s'.heap/\HOk P w H' s'.heap/\zO v u/\Q v H'
def CR (CX:CXT) (outer:List Env) (P:Program) (w:World) (H:Hp) (s:Shared) (Q:VK) (E:XK) (r:Result) (s':Shared):Prop:=
 match r with
 |.ok (.ret u)=>CE outer P w H s Q u s'
 |.ok _=>False
 |.error e=>CX outer H s E e s'
structure FnOk (P:Program) (w:World) (K:Frg) (mg:Str->Option Value) (base:Heap) (CX:CXT) (k:Nat) (f:Addr) (fd:FuncData) (ps:List Str) (sp:Sp):Prop where
 len:∀ vs H Q E,sp vs H Q E->vs.length=ps.length
 run:∀ (A:Around) (outer:List Env) (s:Shared) (H:Hp) (args:Args) (us:List Value) (vs:List V) (Q:VK) (E:XK),Room k A->Env0 P w K mg base A outer s H->BindsTo s fd args (ps.zip us)->zb vs us->sp vs H Q E ->
  codeAny (model P w) A (.call (.ref f) args) (CR CX outer P w H s Q E) s
theorem FnOk.mono {P:Program} {w:World} {K:Frg} {mg:Str->Option Value} {base:Heap} {CX:CXT} {j k:Nat} {f:Addr} {fd:FuncData} {ps:List Str} {sp:Sp} (F:FnOk P w K mg base CX j f fd ps sp) (h:j<=k) :
  FnOk P w K mg base CX k f fd ps sp:=⟨F.len,λA outer s H args us vs Q E hr=>F.run A outer s H args us vs Q E (hr.mono h)⟩
def FnOk.imp {P:Program} {w:World} {K:Frg} {mg:Str->Option Value} {base:Heap} {CX:CXT} {k:Nat} {f:Addr} {fd:FuncData} {ps:List Str} {sp sp':Sp} (F:FnOk P w K mg base CX k f fd ps sp)
  (h:∀ vs H Q E,sp' vs H Q E->sp vs H Q E):FnOk P w K mg base CX k f fd ps sp':=
 ⟨λvs H Q E q=>F.len vs H Q E (h _ _ _ _ q),λA outer s H args us vs Q E hr he hb hv hs=>F.run A outer s H args us vs Q E hr he hb hv (h _ _ _ _ hs)⟩
theorem Env0.in1 {P:Program} {w:World} {K:Frg} {mg:Str->Option Value} {base:Heap} {A:Around} {outer:List Env} {s:Shared} {H:Hp} (e:Env0 P w K mg base A outer s H) :
  Env0 P w K mg base A.in1 outer s H:=⟨e.frames,e.mod,e.bs,e.bsz,e.funs,e.frf,e.hok,e.bare⟩
section
variable {X:Cx} {pins:List (Addr×Obj)} {σ:St} {H:Hp} {s s':Shared}
def Inv.env0 (I:Inv X pins σ H s):Env0 X.prog X.w X.K X.mg X.base X.A X.stack s H:=
 ⟨I.ok.frames,I.ok.mod,I.bs,u5 I.ok.bsz I.sz,I.stack,I.stkFree,I.hok,I.bare⟩
def Inv.after {Q:VK} {u:Value} (I:Inv X pins σ H s) (h:CE X.stack X.prog X.w H s Q u s'):EP X pins σ Q u s':=by
 obtain ⟨v,H',os,bare,un,hok,r,q⟩:=h;obtain ⟨hh,g,d,t,os'⟩:=s';obtain rfl:os'=s.os:=os;exact ⟨v,H',I.call (h':=hh) (g':=g) (d':=d) (t':=t) (ch:=[]) un hok bare (λb z=>absurd z (by simp)),r,q⟩
end
def qnA (sp:Sp) (dvs:List V) (E:XK) (t:TA):TE:=λσ H Q=>t σ H λvs H1=>sp (vs++dvs) H1 Q E
def WK (K:Frg) (fd:FuncData) (ps:List Str) (ds:List Value):Prop:=
 ∀ (s:Shared) (us:List Value),K.In s.heap->(us++ds).length=ps.length->BindsTo s fd ⟨us,[]⟩ (ps.zip (us++ds))
def WK.all {K:Frg} {fd:FuncData} {ps:List Str} (h:∀ us:List Value,us.length=ps.length->bindArgs fd ⟨us,[]⟩=pure (ps.zip us)):WK K fd ps []:=λs us _ hl=>by
 rw [List.append_nil] at hl ⊢;exact .of_eq (h us hl)
def qbX (CX:CXT) (X:Cx) (E:XK):Prop:=∀ (pins:List (Addr×Obj)) (σ:St) (H:Hp) (s:Shared) (e:Value) (s':Shared),Inv X pins σ H s->CX X.stack H s E e s'->X.xe e s'
section
variable {X:Cx} {CX:CXT} {k:Nat} {f C:Addr} {fd:FuncData} {ps:List Str} {sp:Sp} {dvs:List V} {ds:List Value} {E:XK} {x m:Str} {p pos apos:Pos} {e o:Expr} {es:List Expr} {ta:TE} {t:TA}
def qge {pins:List (Addr×Obj)} {σ:St} {H:Hp} {s:Shared} {Q:VK} {us:List Value} {vs:List V} (F:FnOk X.prog X.w X.K X.mg X.base CX k f fd ps sp) (hr:Room k X.A) (hb:WK X.K fd ps ds) (hd:zb dvs ds) (hx:qbX CX X E)
  (I:Inv X pins σ H s) (r:zb vs us) (h:sp (vs++dvs) H Q E):wpAny (model X.prog X.w) X.A (call (.ref f) us) (EP X pins σ Q) X.xe s:=by
 have r2:zb (vs++dvs) (us++ds):=r.append hd;have hl:(us++ds).length=ps.length:=by rw [← r2.length];exact F.len _ _ _ _ h
 refine wpAny_call (codeAny_mono (F.run X.A X.stack s H ⟨us,[]⟩ (us++ds) (vs++dvs) Q E hr I.env0 (hb s us I.kIn hl) r2 h) λr s' hq=>?_);cases r with
 |error e=>exact hx pins σ H s e s' I hq
 |ok fl=>
  cases fl with
  |ret u=>exact I.after hq
  |next=>exact False.elim hq
  |brk=>exact False.elim hq
  |cont=>exact False.elim hq
def qh2 (F:FnOk X.prog X.w X.K X.mg X.base CX k f fd ps sp) (hr:Room k X.A) (hg:Gl X x) (hm:X.mg x=some (.ref f)) (hk:PySem.W.keepIn X.K (.ref f)=true) (hb:WK X.K fd ps ds) (hd:zb dvs ds) (hx:qbX CX X E)
  (ha:PA X (e::es) t) (hdb:(x==("__debug__" : Str))=false:=by decide) (he:starEach (e::es) X.env=(false,eval e X.env)::starEach es X.env:=by rfl) (hpl:(backTo pos (starEach es X.env)).any (·.1)=false:=by rfl) :
  PE X (.Call (.Name x p) (e::es) [] pos) (qnA sp dvs E t):=by
 intro pins s σ H Q I h;refine wpAny_Call_Name_kw (qbk I hg hm ?_ hdb);refine PySem.W.callWith_K (h₀:=X.base) I.ok.mod.kin hk (thn (ha pos pins s σ H _ I h) λus s1 ⟨vs,H1,I1,r,q⟩=>⟨I1.kIn,?_⟩) he hpl;exact qge F hr hb hd hx I1 r q
end
section
variable {X:Cx} {CX:CXT} {k:Nat} {f C:Addr} {fd:FuncData} {ps ks:List Str} {sp:Sp} {E:XK} {x m:Str} {p pos apos kpos:Pos} {e o:Expr} {es:List Expr} {kws:List Keyword} {te ta:TE} {t tk:TA} {nm:Option Str}
variable {g:List Value->List Value->List Value} {gV:List V->List V->List V}
end
structure FnScope (N P:List Str) (sc:Scope):Prop where
 kind:sc.kind=.function
 co:sc.isCoroutine=false
 gen:sc.isGenerator=false
 nd:N.Nodup
 pre:N.take P.length=P
 par:∀ x∈P,sc.names.lookup x=some .local\/sc.names.lookup x=some .cell
 nofree:∀ y∈sc.names,y.2≠.free
theorem TY {kindOf:Str->Option NameKind} {x:Str}:∀ {binds:List (Str×Value)} {m:Str->Option Value},(∀ v,(x,v)∉binds)->bindL kindOf binds m x=m x
 |[],_,_=>rfl
 | (n,v)::r,m,h=>by
  unfold bindL;rw [TY λw hw=>h w (v7 _ hw)];split
  ·have:x≠n:=by rintro rfl;exact h v u8
   simp [this]
  ·rfl
theorem R9 {kindOf:Str->Option NameKind} {x:Str}:∀ {binds:List (Str×Value)} {m:Str->Option Value},(∀ v,(x,v)∉binds)->bindC kindOf binds m x=m x
 |[],_,_=>rfl
 | (n,v)::r,m,h=>by
  unfold bindC;rw [R9 λw hw=>h w (v7 _ hw)];split
  ·rfl
  ·have:x≠n:=by rintro rfl;exact h v u8
   simp [this]
theorem T1 {kindOf:Str->Option NameKind} {x:Str} {v:Value}:∀ {P:List Str} {vs:List Value} {i:Nat} {m:Str->Option Value},P.Nodup->P[i]?=some x->vs[i]?=some v->kindOf x=some .local ->
  bindL kindOf (P.zip vs) m x=some v
 |[],_,_,_,_,h,_,_=>by simp at h
 |_::_,[],_,_,_,_,h,_=>by simp at h
 |p::P,w::vs,0,m,nd,h1,h2,hk=>by
  simp at h1 h2;subst h1;subst h2;show bindL kindOf ((p,w)::P.zip vs) m p=_;unfold bindL;rw [TY λv hv=>(List.nodup_cons.mp nd).1 (List.of_mem_zip hv).1,if_pos hk];simp
 |p::P,w::vs,i+1,m,nd,h1,h2,hk=>by
  show bindL kindOf ((p,w)::P.zip vs) m x=_;unfold bindL;exact T1 (i:=i) (List.nodup_cons.mp nd).2 (by simpa using h1) (by simpa using h2) hk
theorem TD {kindOf:Str->Option NameKind} {x:Str} {v:Value}:∀ {P:List Str} {vs:List Value} {i:Nat} {m:Str->Option Value},P.Nodup->P[i]?=some x->vs[i]?=some v->kindOf x≠some .local ->
  bindC kindOf (P.zip vs) m x=some v
 |[],_,_,_,_,h,_,_=>by simp at h
 |_::_,[],_,_,_,_,h,_=>by simp at h
 |p::P,w::vs,0,m,nd,h1,h2,hk=>by
  simp at h1 h2;subst h1;subst h2;show bindC kindOf ((p,w)::P.zip vs) m p=_;unfold bindC;rw [R9 λv hv=>(List.nodup_cons.mp nd).1 (List.of_mem_zip hv).1,if_neg hk];simp
 |p::P,w::vs,i+1,m,nd,h1,h2,hk=>by
  show bindC kindOf ((p,w)::P.zip vs) m x=_;unfold bindC;exact TD (i:=i) (List.nodup_cons.mp nd).2 (by simpa using h1) (by simpa using h2) hk
def start (N:List Str) (vs:List V):St:=vs.map some++List.replicate (N.length-vs.length) none
def qaR (CX:CXT) (P:Program) (w:World) (K:Frg) (mg:Str->Option Value) (base:Heap) (N:List Str) (qual:Str) (scope:Scope) (f:Addr) (cd:Value) (A:Around) (outer:List Env) (s:Shared) (H:Hp) (E:XK):Cx where
 prog:=P
 w:=w
 K:=K
 mg:=mg
 base:=base
 A:=A.deeper (envOfC qual scope s.heap.objs.size f cd)
 N:=N
 s₀:=s
 H₀:=H
 env:=envOfC qual scope s.heap.objs.size f cd
 outer:=outer
 stack:=envOfC qual scope s.heap.objs.size f cd::outer
 ex:=[]
 calm:=true
 fn:=λ_=>true
 pn:=[]
 xe:=λe s'=>wpAny (model P w) (A.deeper (envOfC qual scope s.heap.objs.size f cd)) (leaving (envOfC qual scope s.heap.objs.size f cd) e) (λ_ s''=>CX outer H s E e s'') (λe' s''=>CX outer H s E e' s'') s'
def M5 {sc:Scope} {n:Nat} {x:Str} (h:sc.names.lookup x=some .cell):∃ c,(cellsFrom n sc.names []).lookup x=some c:=by
 have q:=PySem.W.cellsFrom_some sc.names n [] (.inl h);exact Option.isSome_iff_exists.mp q
def qa2 {CX:CXT} {P:Program} {w:World} {K:Frg} {mg:Str->Option Value} {base:Heap} {N ps:List Str} {qual:Str} {scope:Scope} {f:Addr} {cd:Value} {A:Around} {outer:List Env} {s s1:Shared} {H:Hp} {E:XK} {us:List Value} {vs:List V}
  (S:FnScope N ps scope) (hd:A.handled=none) (e0:Env0 P w K mg base A outer s H) (hl:vs.length=ps.length) (r:zb vs us)
  (x:InCallC s s.heap.objs.size (bindL (envOfC qual scope s.heap.objs.size f cd).kindOf (ps.zip us) λ_=>none) (cellsFrom (s.heap.objs.size+1) scope.names []) (bindC (envOfC qual scope s.heap.objs.size f cd).kindOf (ps.zip us) λ_=>none) s1) :
  Inv (qaR CX P w K mg base N qual scope f cd A outer s H E) [] (start N vs) H s1:=by
 have hpl:ps.length<=N.length:=by have:=congrArg List.length S.pre;rw [List.length_take] at this;omega
 obtain ⟨h1,tk,rfl,hk⟩:=x.done;have noA:∀ b:Addr,b∉(qaR CX P w K mg base N qual scope f cd A outer s H E).ex:=λb z=>absurd (show b∈([]:List Addr) from z) (by simp);refine ⟨⟨e0.mod,S.kind,rfl,rfl,v6 _,λy z c h1 h2=>?_,λy hy=>?_,λy c _ h=>?_,λ_=>hd,Around.frames_deeper e0.frames,.inr ⟨rfl,rfl⟩,λb z=>absurd z (noA b),e0.bs,e0.bsz,λb _ _=>noA b,λb z=>absurd z (noA b),e0.funs,e0.frf⟩,
  rfl,e0.bare,Un.kept hk,⟨_,x.toInCall.ns,λi y v h1 h2 h3=>?_⟩,λy c h=>⟨_,x.cell y c h⟩,e0.hok.fresh (v6 _),λy c h=>?_,λp hp=>absurd (show p∈([]:List (Addr×Obj)) from hp) (by simp),e0.hok.kept hk,?_⟩
 ·exact name_of_addr x.apart (PySem.mem_of_lookup h1) (PySem.mem_of_lookup h2)
 ·have hy:scope.names.lookup y=some .cell\/scope.names.lookup y=some .free:=hy;rcases hy with hy|hy
  ·exact M5 hy
  ·exact absurd rfl (S.nofree _ (PySem.mem_of_lookup hy))
 ·exact Nat.le_of_lt (x.above y c (PySem.mem_of_lookup h))
 ·have hi:i<vs.length:=by
   unfold start at h2;by_cases hi:i<vs.length
   ·exact hi
   ·rw [List.getElem?_append_right (by simpa using hi)] at h2;rw [List.getElem?_replicate] at h2;split at h2<;>cases h2
  have ha:vs[i]?=some v:=by
   unfold start at h2;rw [List.getElem?_append_left (by simpa using hi),getElem?_map] at h2;cases e:vs[i]? with
   |none=>rw [e] at h2;cases h2
   |some a=>rw [e] at h2;cases h2;rfl
  obtain ⟨u,hu,rv⟩:=r.get ha;have hp:ps[i]?=some y:=by
   rw [← S.pre,List.getElem?_take_of_lt (by omega)];exact h1
  have ndP:ps.Nodup:=by rw [← S.pre];exact S.nd.sublist (List.take_sublist _ _)
  refine ⟨u,rv,?_⟩;rcases S.par y (u4 hp) with k|k
  ·exact .inl ⟨k,T1 ndP hp hu k⟩
  ·obtain ⟨c,e⟩:=M5 (n:=s.heap.objs.size+1) k;refine .inr ⟨.inl k,c,e,?_⟩;have q:=x.cell y c e;rw [TD ndP hp hu (by show scope.names.lookup y≠_;rw [k];decide)] at q;exact q
 ·exact e0.hok.fresh (Nat.le_of_lt (x.above y c (PySem.mem_of_lookup h)))
 ·unfold start;show _=N.length;rw [length_append,length_map,List.length_replicate];omega
def qjd {CX:CXT} {P:Program} {w:World} {K:Frg} {mg:Str->Option Value} {base:Heap} {k:Nat} {f:Addr} {name qual:Str} {params:Arguments} {body:List Stmt} {scope:Scope} {dV kV doc pm cdv ct oc:Value} {an od:Option Addr}
  {osl:Array (Option Value)} {N ps:List Str} {sp:Sp} (lk:K.lookup f=some ⟨oc,od,.func (PySem.W.fnOf name qual params body scope dV kV doc pm an cdv ct),osl⟩) (hcd:PySem.W.codeIn K cdv qual=true) (S:FnScope N ps scope)
  (len:∀ vs H Q E,sp vs H Q E->vs.length=ps.length)
  (hbody:∀ (A:Around) (outer:List Env) (s:Shared) (H:Hp) (vs:List V) (Q:VK) (E:XK),Room k (A.deeper (envOfC qual scope s.heap.objs.size f cdv))->sp vs H Q E ->
   ∃ t,PSs (qaR CX P w K mg base N qual scope f cdv A outer s H E) body t/\t { nx:=λ_ H'=>Q .non H',rt:=Q } (start N vs) H) :
  FnOk P w K mg base CX (k+1) f (PySem.W.fnOf name qual params body scope dV kV doc pm an cdv ct) ps sp:=by
 refine ⟨len,λA outer s H args us vs Q E hr e0 hb r hsp=>?_⟩;have hl:=len _ _ _ _ hsp;have KX:K.In s.heap:=e0.mod.kin.keeps λb o e=>(e0.bs b o e).1;have lim:s.heap.NoLimit:=e0.mod.nolimit.keeps λb o e=>(e0.bs b o e).1;have hkind:∀ y∈ps.zip us,scope.names.lookup y.1=some .local\/(scope.names.lookup y.1=some .cell/\((cellsFrom (s.heap.objs.size+1) scope.names []).lookup y.1).isSome=true):=λ⟨n,v⟩ hy=>by
  rcases S.par n (List.of_mem_zip hy).1 with q|q
  ·exact .inl q
  ·exact .inr ⟨q,PySem.W.cellsFrom_some _ _ _ (.inl q)⟩
 refine codeAny_call_function hr.depth (KX _ _ lk) rfl S.co S.gen rfl (PySem.W.codeRec_of KX hcd) (hb _ _ _ _ ?_);refine wpAny_newFunctionEnv_cells S.kind hkind λenv he s1 x=>?_;subst he;refine ⟨lim.keeps x.toInCall.keep,codeAny_func ?_⟩;obtain ⟨t,ht,hq⟩:=hbody A outer s H vs Q E (hr.deeper _) hsp;have I:Inv (qaR CX P w K mg base N qual scope f cdv A outer s H E) [] (start N vs) H s1:=qa2 S hr.hd e0 hl r x;refine y2 (ht [] s1 (start N vs) H _ I hq) (λfl s' hs=>?_) λe s' hs=>hs;have fin:∀ {σ':St} {H':Hp} {v:V} {u:Value},Inv (qaR CX P w K mg base N qual scope f cdv A outer s H E) [] σ' H' s'->zO v u->Q v H'->CE outer P w H s Q u s':=
  λ{σ' H' v u} J rv q=>⟨v,H',J.os,J.bare,J.base,J.hok,rv,q⟩
 cases fl with
 |ret u=>
  obtain ⟨v,σ',H',J,rv,q⟩:=hs;exact fin J rv q
 |next=>
  obtain ⟨σ',H',J,q⟩:=hs;exact fin (v:=V.non) (u:=Value.none) J rfl q
 |brk=>
  obtain ⟨_,_,_,q⟩:=hs;exact False.elim q
 |cont=>
  obtain ⟨_,_,_,q⟩:=hs;exact False.elim q
section
variable {X:Cx} {x:Str} {p pos:Pos} {e:Expr} {es:List Expr} {t:TA} {id T:String} {r:List V->Hp->VK->Prop}
def tCB (r:List V->Hp->VK->Prop) (t:TA):TE:=λσ H Q=>t σ H λvs H1=>r vs H1 Q
def RN (hc:J3 X (.builtin id) r) (hg:Gl X x) (hm:X.mg x=none) (hv:bootBuiltins x=some (.builtin id)) (ha:PA X (e::es) t) (hn:x≠"__name__" := by decide) (hdb:(x==("__debug__" : Str))=false:=by decide)
  (he:starEach (e::es) X.env=(false,eval e X.env)::starEach es X.env:=by rfl) (hpl:(backTo pos (starEach es X.env)).any (·.1)=false:=by rfl):PE X (.Call (.Name x p) (e::es) [] pos) (tCB r t):=by
 intro pins s σ H Q I h;refine wpAny_Call_Name_kw (EL I hg hm hv ?_ hn hdb);exact PyProof.Rows.callWith_builtin1 (thn (ha pos pins s σ H _ I h) λus s1 ⟨vs,H1,I1,r1,q1⟩=>hc pins s1 σ H1 vs us Q I1 r1 q1) he hpl
def qa6 (hc:J3 X (.type T) r) (hg:Gl X x) (hm:X.mg x=none) (hv:bootBuiltins x=some (.type T)) (ha:PA X (e::es) t) (hn:x≠"__name__" := by decide) (hdb:(x==("__debug__" : Str))=false:=by decide)
  (he:starEach (e::es) X.env=(false,eval e X.env)::starEach es X.env:=by rfl) (hpl:(backTo pos (starEach es X.env)).any (·.1)=false:=by rfl):PE X (.Call (.Name x p) (e::es) [] pos) (tCB r t):=by
 intro pins s σ H Q I h;refine wpAny_Call_Name_kw (EL I hg hm hv ?_ hn hdb);exact PyProof.Rows.callWith_type1 (thn (ha pos pins s σ H _ I h) λus s1 ⟨vs,H1,I1,r1,q1⟩=>hc pins s1 σ H1 vs us Q I1 r1 q1) he hpl
end
end L2
namespace HT
open PySem PyProof.Rows
section
open PySem.SeqAt
open PySem.MeetsSeq PySem.MeetsSeq2 PySem.MeetsSeq3
end
section
variable {prog:Program} {w:World} {A:Around} {E:Value->Shared->Prop} {s:Shared}
def qiE {t b:Addr} {vs ws:List Value} {Q:Value->Shared->Prop} (ht:IsTup s.heap t vs.toArray) (hb:IsTup s.heap b ws.toArray) (hv:vs≠[])
  (h1:ws=[]->Q (.ref t) s) (h2:ws≠[]->Q (.ref s.heap.objs.size) { s with heap:=s.heap.push { cls:=.type "tuple",data:=.seq (vs++ws).toArray } })
  (hsz:vs.length+ws.length<=sizeLine):wpAny (model prog w) A (binaryOp .Add (.ref t) (.ref b)) Q E s:=by
 obtain ⟨⟨cls,dd,data,sl⟩,ho,hc,n,hd⟩:=id ht;obtain ⟨⟨cls2,dd2,data2,sl2⟩,ho2,hc2,n2,hd2⟩:=id hb;simp only at hc hd hc2 hd2;subst hc hd hc2 hd2;have e:vs.toArray++ws.toArray=(vs++ws).toArray:=by simp
 by_cases hw:ws=[]
 ·exact concat_meets ⟨_,ho,rfl⟩ ⟨_,ho2,rfl⟩ noFill_tuple_add seq_tuple_add PySem.F.slot_tuple_add PySem.F.entry_tuple_add (PySem.F.args_tuple_add_2 _ _)
   (tuple_addW1 t b vs.toArray ws.toArray n n2 dd dd2 sl sl2 (by simpa using hv) (by simp [hw])) ⟨ho,ho2,h1 hw⟩
 ·refine concat_meets ⟨_,ho,rfl⟩ ⟨_,ho2,rfl⟩ noFill_tuple_add seq_tuple_add PySem.F.slot_tuple_add PySem.F.entry_tuple_add (PySem.F.args_tuple_add_2 _ _)
   (tuple_addW2 t b vs.toArray ws.toArray n n2 dd dd2 sl sl2 (by simpa using hv) (by simpa using hw) (by rw [size_toArray,size_toArray];exact hsz)) ⟨ho,ho2,?_⟩
  rw [e];exact h2 hw
def sIx (n d:Nat):Option Int->Nat
 |none=>d
 |some v=>if v<0 then (v+(n:Int)).toNat else min v.toNat n
def NP (n d:Nat):sIx n d none=d:=rfl
def RH (n d k:Nat):sIx n d (some (k:Int))=min k n:=by
 show (if (k:Int)<0 then ((k:Int)+(n:Int)).toNat else min (k:Int).toNat n)=min k n;rw [if_neg (by omega),Int.toNat_natCast]
def qks (n d:Nat) (hd:d<=n) (o:Option Int):sIx n d o<=n:=by
 cases o with
 |none=>exact hd
 |some v=>
  show (if v<0 then (v+(n:Int)).toNat else min v.toNat n)<=n;by_cases hv:v<0
  ·rw [if_pos hv];omega
  ·rw [if_neg hv];exact Nat.min_le_right _ _
def qbn (v:Int) (n d:Nat):(if v<0 then max (v+(n:Int)) 0 else min v (n:Int))=((sIx n d (some v):Nat):Int):=by
 show (if v<0 then max (v+(n:Int)) 0 else min v (n:Int))=(((if v<0 then (v+(n:Int)).toNat else min v.toNat n):Nat):Int);by_cases hv:v<0
 ·simp only [if_pos hv];omega
 ·simp only [if_neg hv];omega
def NZ (lo hi:Option Int) (n:Nat):Builtin.Slice.sliceAdjust lo hi 1 (n:Int)=(((sIx n 0 lo:Nat):Int),((sIx n n hi:Nat):Int)):=by
 have h1:¬ ((1:Int)<0):=by omega
 unfold Builtin.Slice.sliceAdjust;simp only [h1,if_false];refine Prod.ext ?_ ?_
 ·cases lo with
  |none=>rfl
  |some v=>exact qbn v n 0
 ·cases hi with
  |none=>rfl
  |some v=>exact qbn v n n
def qai (i j:Nat):Builtin.Slice.slicePlaces (i:Int) (j:Int) 1=j-i:=by
 unfold Builtin.Slice.slicePlaces;have h1:(1:Int) > 0:=by omega
 simp only [h1,if_true,Int.ediv_one];split<;>omega
def U5 {v:Value} {o:Option Int} {Q:Option Int->Shared->Prop} (p:IsPart v o) (h:Q o s):wpAny (model prog w) A (Builtin.Slice.slicePartIndex v) Q E s:=by
 cases p with
 |none=>exact slicePart_none h
 |int i t=>exact slicePart_int h
def ZS {sl:Addr} {vl vu:Value} {lo hi:Option Int} {n:Nat} {Q:Int×Int×Nat->Shared->Prop} (hs:s.heap.IsSliceOf sl vl vu .none) (pl:IsPart vl lo) (pu:IsPart vu hi)
  (h:Q (((sIx n 0 lo:Nat):Int),1,sIx n n hi-sIx n 0 lo) s):wpAny (model prog w) A (Builtin.Slice.sliceApplied (.ref sl) (pure (n:Int))) Q E s:=by
 obtain ⟨os,hos,hcs,hds⟩:=id hs;unfold Builtin.Slice.sliceApplied Builtin.Slice.sliceFields;refine x8 (x8 (wpAny_field hos hds (x:=vl) rfl (x8 (wpAny_field hos hds (x:=vu) rfl (x8 (wpAny_field hos hds (x:=.none) rfl (x9 ?_)))))));refine x8 (slicePart_none ?_);show wpAny _ _ (if ((1:Int)==0)=true then _ else _) _ _ s;rw [if_neg (by decide)];refine x8 (U5 pl (x8 (U5 pu (x8 (x9 ?_)))));show wpAny _ _ (match Builtin.Slice.sliceAdjust lo hi 1 (n:Int) with|(lo,hi)=>pure (lo,(1:Int),Builtin.Slice.slicePlaces lo hi 1)) _ _ s;rw [NZ lo hi n];show wpAny _ _ (pure (((sIx n 0 lo:Nat):Int),(1:Int),Builtin.Slice.slicePlaces ((sIx n 0 lo:Nat):Int) ((sIx n n hi:Nat):Int) 1)) _ _ s;rw [qai];exact x9 h
def qd9 (xs:Array Value) (i k:Nat):((List.range k).filterMap λ(m:Nat)=>xs[((i:Int)+(m:Int)*1).toNat]?).toArray=((xs.toList.drop i).take k).toArray:=by
 have e:(λ(m:Nat)=>xs[((i:Int)+(m:Int)*1).toNat]?)=λm=>xs[i+m]?:=by
  funext m;have:((i:Int)+(m:Int)*1).toNat=i+m:=by omega
  rw [this]
 rw [e];have:=pick_run xs i k;rw [List.filterMap_map] at this;have e2:((λx=>xs[x]?)∘λx=>i+x)=λm=>xs[i+m]?:=rfl;rw [e2] at this;rw [this]
def UK {t sl:Addr} {items:Array Value} {vl vu:Value} {lo hi:Option Int} {Q:Value->Shared->Prop} (ht:IsTup s.heap t items) (hs:s.heap.IsSliceOf sl vl vu .none) (pl:IsPart vl lo) (pu:IsPart vu hi)
  (hw:¬ (sIx items.size 0 lo=0/\sIx items.size items.size hi=items.size))
  (h:Q (.ref s.heap.objs.size) { s with heap:=s.heap.push { cls:=.type "tuple",data:=.seq ((items.toList.drop (sIx items.size 0 lo)).take (sIx items.size items.size hi-sIx items.size 0 lo)).toArray } })
  (hsz:items.size<=sizeLine):wpAny (model prog w) A (getItem (.ref t) (.ref sl)) Q E s:=by
 have htake:sizeOk (.seq ((items.toList.drop (sIx items.size 0 lo)).take (sIx items.size items.size hi-sIx items.size 0 lo)).toArray):=by
  show ((items.toList.drop (sIx items.size 0 lo)).take (sIx items.size items.size hi-sIx items.size 0 lo)).toArray.size<=sizeLine;rw [size_toArray,List.length_take,List.length_drop,Array.length_toList];omega
 have hj:sIx items.size items.size hi<=items.size:=qks _ _ (v6 _) hi;obtain ⟨os,hos,hcs,hds⟩:=id hs;have hTs:s.TypeIs (.ref sl) "slice" := ⟨os,hos,hcs⟩
 unfold getItem
 try with_reducible refine wpAny_holding ?_
 first|refine x8 (x9 ?_)|skip
 refine x8 (wpAny_sequenceKey ht.typeIs (by decide) ?_);refine x8 (wpAny_callSpecial?_slot (name:=Str.ofString "__getitem__") ht.typeIs PyProof.Rows.slot_tuple_getitem
  (wpAny_call_entry PyProof.Rows.slot_tuple_getitem ht.typeIs entry_tuple_getitem ?_ (args_tuple_getitem _ _)))
 show wpAny _ _ (Builtin.Tuple.tupleItemsOf (.ref t) >>= _) _ _ s;refine x8 (tupleItemsOf_ ht ?_);refine x8 (wpAny_typeOf hTs ?_);rw [if_pos (by decide)];refine x8 (ZS hs pl pu ?_);have hno:¬ ((((sIx items.size 0 lo:Nat):Int)==0&&(1:Int)==1&&(sIx items.size items.size hi-sIx items.size 0 lo)==items.size)=true):=by
  intro q;rw [Bool.and_eq_true,Bool.and_eq_true] at q;have q1:((sIx items.size 0 lo:Nat):Int)=0:=eq_of_beq q.1.1;have q2:sIx items.size items.size hi-sIx items.size 0 lo=items.size:=eq_of_beq q.2;exact hw ⟨by omega,by omega⟩
 show wpAny _ _ (if (((sIx items.size 0 lo:Nat):Int)==0&&(1:Int)==1&&(sIx items.size items.size hi-sIx items.size 0 lo)==items.size)=true then _ else _) _ _ s;rw [if_neg hno,qd9]
 first
  |exact x8 (m:=Builtin.Tuple.tupleExact _) (wpAny_newObj_type (x9 ⟨_,rfl,x9 h⟩) htake)
  |exact x8 (m:=Builtin.Tuple.tupleExact _) (wpAny_newObj_type (x8 (x9 (x9 ⟨_,rfl,x9 h⟩))) htake)
  |exact x8 (x8 (m:=Builtin.Tuple.tupleExact _) (wpAny_newObj_type (x9 (x9 ⟨_,rfl,x9 h⟩)) htake))
  |exact x8 (x8 (m:=Builtin.Tuple.tupleExact _) (wpAny_newObj_type (x9 ⟨_,rfl,x9 h⟩) htake))
end
end HT
namespace L2
open PySem PySem.Spec PyProof.Rows
abbrev TO:=St->Hp->(Option Int->Hp->Prop)->Prop
def PO (X:Cx) (e:Option Expr) (t:TO):Prop:=
 ∀ (pins:List (Addr×Obj)) (s:Shared) (σ:St) (H:Hp) (Q:Option Int->Hp->Prop),Inv X pins σ H s->t σ H Q ->
  wpAny (model X.prog X.w) X.A (evalPart e X.env) (λu s'=>∃ o H',Inv X pins σ H' s'/\IsPart u o/\Q o H') X.xe s
def qht:TO:=λ_ H Q=>Q none H
def qnC (t:TE):TO:=λσ H Q=>t σ H λx H1=>∃ i,x=.int i/\Q (some i) H1
section
variable {X:Cx} {e:Expr} {te:TE} {lo hi:Option Expr} {tl th:TO} {pos p2:Pos}
def qih:PO X none qht:=by
 intro pins s σ H Q I h;rw [evalPart_none];exact x9 ⟨none,H,I,.none,h⟩
def qgY (h:PE X e te):PO X (some e) (qnC te):=by
 intro pins s σ H Q I hw;rw [evalPart_some];refine thn (h pins s σ H _ I hw) λu s1 ⟨x,H1,I1,r1,q1⟩=>?_;obtain ⟨i,rfl,q⟩:=q1;obtain ⟨t,rfl⟩:=r1;exact ⟨some i,H1,I1,.int i t,q⟩
def SlR (X:Cx) (r:V->Option Int->Option Int->Hp->VK->Prop):Prop:=
 ∀ (pins:List (Addr×Obj)) (s:Shared) (σ:St) (H:Hp) (x:V) (v vl vu:Value) (lo hi:Option Int) (sl:Addr) (Q:VK),Inv X pins σ H s->zO x v->s.heap.IsSliceOf sl vl vu .none->IsPart vl lo->IsPart vu hi->r x lo hi H Q ->
  ∃ T id,typeLookup (.type T) "__getitem__" = pure (some (.builtin id))/\s.TypeIs v T/\wpAny (model X.prog X.w) X.A (getItem v (.ref sl)) (EP X pins σ Q) X.xe s
def SlR.or {r r':V->Option Int->Option Int->Hp->VK->Prop} (h:SlR X r) (h':SlR X r'):SlR X (λx lo hi H Q=>r x lo hi H Q\/r' x lo hi H Q):=by
 intro pins s σ H x v vl vu lo hi sl Q I rx hs pl pu q;rcases q with q|q
 ·exact h pins s σ H x v vl vu lo hi sl Q I rx hs pl pu q
 ·exact h' pins s σ H x v vl vu lo hi sl Q I rx hs pl pu q
def tSl (r:V->Option Int->Option Int->Hp->VK->Prop) (te:TE) (tl th:TO):TE:=λσ H Q=>te σ H λx H1=>tl σ H1 λl H2=>th σ H2 λu H3=>r x l u H3 Q
def NH {r:V->Option Int->Option Int->Hp->VK->Prop} (hr:SlR X r) (he:PE X e te) (hl:PO X lo tl) (hu:PO X hi th):PE X (.Subscript e (.Slice lo hi none p2) pos) (tSl r te tl th):=by
 intro pins s σ H Q I h;refine Subscript_ (thn (he pins s σ H _ I h) λv s1 ⟨x,H1,I1,r1,q1⟩=>?_);refine wpAny_Slice (thn (hl pins s1 σ H1 _ I1 q1) λvl s2 ⟨l,H2,I2,pl,q2⟩=>thn (hu pins s2 σ H2 _ I2 q2) λvu s3 ⟨u,H3,I3,pu,q3⟩=>?_);rw [evalPart_none];refine x9 ?_;have I4:Inv X pins σ H3 { s3 with heap:=s3.heap.push { cls:=.type "slice",data:=.fields #[vl,vu,.none] } }:=I3.kept (t':=s3.toks) λb ob q=>y3 _ q;obtain ⟨T,id,hT,ht,hg⟩:=hr pins { s3 with heap:=s3.heap.push { cls:=.type "slice",data:=.fields #[vl,vu,.none] } } σ H3 x v vl vu l u s3.heap.objs.size Q I4 r1 (Heap.IsSliceOf.new ..) pl pu q3;show wpAny (model X.prog X.w) X.A (subscriptTail e (.Slice lo hi none p2) v (.ref s3.heap.objs.size)) (EP X pins σ Q) X.xe { s3 with heap:=s3.heap.push { cls:=.type "slice",data:=.fields #[vl,vu,.none] } };exact tail_any (ops:=[.ref s3.heap.objs.size,v]) ht hT hg (by with_unfolding_all rfl)
def qgJ (xs:List V) (lo hi:Option Int):List V:=(xs.drop (HT.sIx xs.length 0 lo)).take (HT.sIx xs.length xs.length hi-HT.sIx xs.length 0 lo)
def W5 (xs:List V) (lo hi:Option Int):(qgJ xs lo hi).length<=xs.length:=by
 unfold qgJ;rw [List.length_take,List.length_drop];omega
def qqx (K:Frg):V->Option Int->Option Int->Hp->VK->Prop:=λx lo hi H Q=>∃ a xs,x=.ref a/\SqT K H a xs /\
 ¬ (HT.sIx xs.length 0 lo=0/\HT.sIx xs.length xs.length hi=xs.length)/\∀ p,H p=none->Q (.ref p) (upd H p (.tup (qgJ xs lo hi)))
def qgh:SlR X (qqx X.K):=by
 intro pins s σ H x v vl vu lo hi sl Q I rx hs pl pu h;obtain ⟨a,xs,rfl,hx,hw,q⟩:=h;cases rx;obtain ⟨its,r,ht,hz⟩:=I.tuple hx;have hlen:its.toArray.size=xs.length:=by rw [size_toArray];exact r.length.symm
 refine ⟨"tuple",_,PyProof.Rows.slot_tuple_getitem.lookup,ht.typeIs,?_⟩;refine HT.UK ht hs pl pu (by rw [hlen];exact hw) ?_ (by rw [hlen];exact hz);rw [hlen];refine ⟨.ref s.heap.objs.size,_,I.laid (t':=s.toks) (o:=.tup (qgJ xs lo hi)) (λb ob q=>y3 _ q) (v6 _) ?_,rfl,q _ (I.hok.fresh (v6 _))⟩;exact ⟨u5 (W5 xs lo hi) hz,_,(r.drop (HT.sIx xs.length 0 lo)).take (HT.sIx xs.length xs.length hi-HT.sIx xs.length 0 lo),VS.new _ _⟩
def qhE (K:Frg):R2:=λx y H Q=>∃ a b xs ys,x=.ref a/\y=.ref b/\SqT K H a xs/\SqT K H b ys/\xs≠[]/\xs.length+ys.length<=sizeLine /\
 (ys=[]->Q (.ref a) H)/\(ys≠[]->∀ p,H p=none->Q (.ref p) (upd H p (.tup (xs++ys))))
def zb.nil_iff {xs:List V} {us:List Value} (r:zb xs us):us=[]↔xs=[]:=by
 cases r with
 |nil=>simp
 |cons _ _=>simp
def qcH:OpR X (binaryOp .Add) (qhE X.K):=by
 intro pins s σ H x y v u Q I rx ry h;obtain ⟨a,b,xs,ys,rfl,rfl,ha,hb,hx,hz,q1,q2⟩:=h;cases rx;cases ry;obtain ⟨its,r1,p1,_⟩:=I.tuple ha;obtain ⟨its2,r2,p2,_⟩:=I.tuple hb;refine HT.qiE p1 p2 (λz=>hx (r1.nil_iff.mp z)) (λz=>⟨.ref a,H,I,rfl,q1 (r2.nil_iff.mp z)⟩) (λz=>?_) (by rw [← r1.length,← r2.length];exact hz);refine ⟨.ref s.heap.objs.size,_,I.laid (t':=s.toks) (o:=.tup (xs++ys)) (λb ob q=>y3 _ q) (v6 _) ?_,rfl,q2 (λw=>z (r2.nil_iff.mpr w)) _ (I.hok.fresh (v6 _))⟩;exact ⟨by rw [length_append];exact hz,_,r1.append r2,VS.new _ _⟩
end
def ixN (n:Nat) (i:Int):Option Nat:=if 0<=i then (if i<n then some i.toNat else none) else if -(n:Int)<=i then some (i+n).toNat else none
def atI {α:Type} (xs:List α) (i:Int):Option α:=(ixN xs.length i).bind λj=>xs[j]?
def qbH {n:Nat} {i:Int} {j:Nat} (h:ixN n i=some j):seqIndex? i n=some j/\j<n/\-(n:Int)<=i/\i<n:=by
 unfold ixN at h;by_cases h0:0<=i
 ·rw [if_pos h0] at h;by_cases h1:i<n
  ·rw [if_pos h1] at h;have e:i.toNat=j:=Option.some.inj h;exact ⟨by rw [seqIndex_of h0 h1,e],by omega,by omega,h1⟩
  ·rw [if_neg h1] at h;cases h
 ·rw [if_neg h0] at h;by_cases h1:-(n:Int)<=i
  ·rw [if_pos h1] at h;have e:(i+n).toNat=j:=Option.some.inj h;exact ⟨by rw [seqIndex_neg (by omega) h1,e],by omega,h1,by omega⟩
  ·rw [if_neg h1] at h;cases h
def KK {α:Type} {xs:List α} {i:Int} {v:α} (h:atI xs i=some v):∃ j,seqIndex? i xs.length=some j/\xs[j]?=some v/\j<xs.length/\-(xs.length:Int)<=i/\i<xs.length:=by
 unfold atI at h;cases e:ixN xs.length i with
 |none=>rw [e] at h;cases h
 |some j=>
  rw [e] at h;obtain ⟨h1,h2,h3,h4⟩:=qbH e;exact ⟨j,h1,h,h2,h3,h4⟩
def qdx (b:Expr):Prop:=∀ o i,subscripted b false o i=operate [o,i] (getItem o i)
def IxR (X:Cx) (r:R2):Prop:=
 ∀ (value slice:Expr) (pins:List (Addr×Obj)) (s:Shared) (σ:St) (H:Hp) (x y:V) (v u:Value) (Q:VK),Inv X pins σ H s->zO x v->zO y u->r x y H Q ->
  subscripted slice false v u=operate [v,u] (getItem v u)->wpAny (model X.prog X.w) X.A (subscriptTail value slice v u) (EP X pins σ Q) X.xe s
def MtR (X:Cx) (id:String) (r:V->List V->Hp->VK->Prop):Prop:=
 ∀ (pins:List (Addr×Obj)) (s:Shared) (σ:St) (H:Hp) (x:V) (xs:List V) (v:Value) (us:List Value) (Q:VK),Inv X pins σ H s->zO x v->zb xs us->r x xs H Q ->
  wpAny (model X.prog X.w) X.A (call (.builtin id) (v::us)) (EP X pins σ Q) X.xe s
section
variable {X:Cx} {a b:Expr} {ta tb:TE} {pos:Pos}
def IxR.or {r r':R2} (h:IxR X r) (h':IxR X r'):IxR X (λx y H Q=>r x y H Q\/r' x y H Q):=by
 intro value slice pins s σ H x y v u Q I rx ry q hs;rcases q with q|q
 ·exact h value slice pins s σ H x y v u Q I rx ry q hs
 ·exact h' value slice pins s σ H x y v u Q I rx ry q hs
def qnt {r:R2} (hr:IxR X r) (ha:PE X a ta) (hb:PE X b tb) (hs:qdx b):PE X (.Subscript a b pos) (tOp r ta tb):=by
 intro pins s σ H Q I h;exact Subscript_ (qnR ha hb I h λv u s2 x y H2 I2 rx ry q=>hr a b pins s2 σ H2 x y v u Q I2 rx ry q (hs _ _))
def qpA (K:Frg):R2:=λx y H Q=>∃ p xs i v,x=.ref p/\y=.int i/\SqL K H p xs/\atI xs i=some v/\Q v H
def qpw (K:Frg):R2:=λx y H Q=>∃ p xs i v,x=.ref p/\y=.int i/\SqT K H p xs/\atI xs i=some v/\Q v H
def qpf:R2:=λx y H Q=>∃ z i c,x=.str z/\y=.int i/\z.length<=sizeLine/\atI z.cps.toList i=some c/\Q (.str ⟨#[c]⟩) H
def qhP:IxR X (qpA X.K):=by
 intro value slice pins s σ H x y v u Q I rx ry h hs;obtain ⟨p,xs,i,z,rfl,rfl,hq,he,q⟩:=h;cases rx;obtain ⟨t,rfl⟩:=ry;obtain ⟨its,r,pl,hz⟩:=I.list hq;obtain ⟨j,h1,h2,h3,h4,h5⟩:=KK he;obtain ⟨w,ew,rw'⟩:=r.get h2;have hl:=r.length;have hn:=R8;have fin:EP X pins σ Q w s:=⟨z,H,I,rw',q⟩
 by_cases h0:0<=i
 ·have hj:i.toNat=j:=by
   rw [seqIndex_of h0 h5] at h1;exact Option.some.inj h1
  exact item_listR pl.isList h0 (by omega) (by rw [hj];simpa using ew) fin hs
 ·have hj:(i+(its.toArray.size:Int)).toNat=j:=by
   rw [seqIndex_neg (by omega) h4] at h1;rw [size_toArray,← hl];exact Option.some.inj h1
  exact subscriptTail_builtinR (x:=w) pl.isList.typeIs slot_list_getitem.lookup
   (wpAny_getItem_list_neg (Q:=λr s'=>r=w/\EP X pins σ Q r s') pl.isList (by omega) (by rw [size_toArray]<;>omega) (by omega) (by rw [hj];simpa using ew) ⟨rfl,fin⟩) hs
def qmx:IxR X (qpw X.K):=by
 intro value slice pins s σ H x y v u Q I rx ry h hs;obtain ⟨p,xs,i,z,rfl,rfl,hq,he,q⟩:=h;cases rx;obtain ⟨t,rfl⟩:=ry;obtain ⟨its,r,pl,hz⟩:=I.tuple hq;obtain ⟨j,h1,h2,h3,h4,h5⟩:=KK he;obtain ⟨w,ew,rw'⟩:=r.get h2;have hl:=r.length;have hn:=R8;have fin:EP X pins σ Q w s:=⟨z,H,I,rw',q⟩
 exact subscriptTail_builtinR (x:=w) pl.typeIs slot_tuple_getitem.lookup
  (getItem_tuple (j:=j) (Q:=λr s'=>r=w/\EP X pins σ Q r s') pl (by omega) (by omega) (by rw [size_toArray,← hl];exact h1) (by simpa using ew) ⟨rfl,fin⟩) hs
def qjO:IxR X qpf:=by
 intro value slice pins s σ H x y v u Q I rx ry h hs;obtain ⟨z,i,c,rfl,rfl,hz,he,q⟩:=h;obtain ⟨t,rfl⟩:=rx;obtain ⟨t',rfl⟩:=ry;obtain ⟨j,h1,h2,h3,h4,h5⟩:=KK he;have hl:z.cps.toList.length=z.length:=by simp [Str.length]
 rw [hl] at h1 h4 h5;have hn:=R8;exact tail_any (typeIs_str s z t) slot_str_getitem.lookup (getItem_str (c:=c) (by
  have e1:decide (i < -(2 ^ 63:Int))=false:=u9 (by omega);have e2:decide (i ≥ 2 ^ 63)=false:=u9 (by omega);rw [e1,e2,Bool.or_false]) (by rw [h1];simpa using h2) ⟨.str ⟨#[c]⟩,H,I.tok _,⟨_,rfl⟩,q⟩) hs
def rIx (K:Frg):R2:=λx y H Q=>qpA K x y H Q\/qpw K x y H Q\/qpf x y H Q
def qmP:IxR X (rIx X.K):=qhP.or (qmx.or qjO)
def qao (its:List Value) (n j:Nat) (u:Value):Obj.mapSeq (·.setIfInBounds j u) { cls:=.type "list",data:=.seq its.toArray n }={ cls:=.type "list",data:=.seq (its.set j u).toArray n }:=by
 simp [Obj.mapSeq]
theorem Inv.lst {pins:List (Addr×Obj)} {σ:St} {H:Hp} {s:Shared} {p:Addr} {xs:List V} (I:Inv X pins σ H s) (h:H p=some (.lst xs)) :
  ∃ (its:List Value) (n:Nat),zb xs its/\s.heap.get? p=some { cls:=.type "list",data:=.seq its.toArray n }/\xs.length<=sizeLine:=by
 obtain ⟨z,its,n,r,e⟩:=I.hok p _ h;exact ⟨its,n,r,e,z⟩
def Inv.lstUpd {pins:List (Addr×Obj)} {σ:St} {H:Hp} {s:Shared} {p:Addr} {xs ys:List V} {its its':List Value} {n n':Nat} {f:Obj->Obj} (I:Inv X pins σ H s) (h:H p=some (.lst xs))
  (ho:s.heap.get? p=some { cls:=.type "list",data:=.seq its.toArray n }) (hf:f { cls:=.type "list",data:=.seq its.toArray n }={ cls:=.type "list",data:=.seq its'.toArray n' }) (r:zb ys its') (hz:ys.length<=sizeLine) (t:Nat) :
  Inv X pins σ (upd H p (.lst ys)) { s with heap:=s.heap.update p f,toks:=t }:=by
 have e:(s.heap.update p f).get? p=some { cls:=.type "list",data:=.seq its'.toArray n' }:=by
  rw [Heap.get?_update_self f ho (by rw [hf]<;>rfl),hf]
 refine I.write (x:=p) (e:=p) (by rw [h];trivial) (.inl rfl) (λb u hb q=>(Heap.get?_update_other _ _ (Ne.symm hb)).trans q) ⟨_,e⟩ ?_;exact ⟨hz,its',n',r,e⟩
def qoA:V->V->V->Hp->(Hp->Prop)->Prop:=λo i v H Q=>∃ p xs k j,o=.ref p/\i=.int k/\H p=some (.lst xs)/\ixN xs.length k=some j/\Q (upd H p (.lst (xs.set j v)))
def qep:qps X qoA:=by
 intro pins s σ H o i v ov iv u Q I ro ri rv h;obtain ⟨p,xs,k,j,rfl,rfl,hp,hj,q⟩:=h;cases ro;obtain ⟨t,rfl⟩:=ri;obtain ⟨its,n,r,ho,hz⟩:=I.lst hp;obtain ⟨h1,h2,h3,h4⟩:=qbH hj;have hl:=r.length;have hn:=R8;have I':Inv X pins σ (upd H p (.lst (xs.set j v))) { s with heap:=s.heap.update p (Obj.mapSeq (·.setIfInBounds j u)) }:=
  I.lstUpd hp ho (qao its n j u) (r.set rv j) (by rw [List.length_set];exact hz) s.toks
 by_cases h0:0<=k
 ·have hk:k.toNat=j:=by
   rw [seqIndex_of h0 h4] at h1;exact Option.some.inj h1
  exact PySem.W.ki_setAt ho h0 (by omega) (by rw [size_toArray,← hl];exact h4) (by rw [hk];exact ⟨_,I',q⟩)
 ·have hk:(k+(its.toArray.size:Int)).toNat=j:=by
   rw [seqIndex_neg (by omega) h3] at h1;rw [size_toArray,← hl];exact Option.some.inj h1
  exact PySem.W.ki_setBack ho (by omega) (by rw [size_toArray,← hl];exact h3) (by omega) (by rw [hk];exact ⟨_,I',q⟩)
def R6 (lo hi:Option Int) (n:Nat):(sliceBounds lo hi none n).1=((HT.sIx n 0 lo:Nat):Int)/\(sliceBounds lo hi none n).2.1=((HT.sIx n n hi:Nat):Int)/\(sliceBounds lo hi none n).2.2=1:=by
 refine ⟨?_,?_,rfl⟩
 ·cases lo with
  |none=>simp [sliceBounds,HT.sIx]
  |some i=>
   simp only [sliceBounds,HT.sIx,Option.getD_none,show (1:Int) > 0 by decide,if_true];by_cases h:i<0
   ·simp only [h,if_true]<;>omega
   ·simp only [h,if_false]<;>omega
 ·cases hi with
  |none=>simp [sliceBounds,HT.sIx]
  |some i=>
   simp only [sliceBounds,HT.sIx,Option.getD_none,show (1:Int) > 0 by decide,if_true];by_cases h:i<0
   ·simp only [h,if_true]<;>omega
   ·simp only [h,if_false]<;>omega
def C9 (its:List Value) (lo hi:Option Int):slicePick its.toArray lo hi none=((its.drop (HT.sIx its.length 0 lo)).take (HT.sIx its.length its.length hi-HT.sIx its.length 0 lo)).toArray:=by
 obtain ⟨h1,h2,h3⟩:=R6 lo hi its.toArray.size;unfold slicePick;rw [h1,h2,h3];simp only [sliceRange_one,pick_run,size_toArray]<;>rfl
def qqa (K:Frg):V->Option Int->Option Int->Hp->VK->Prop:=λx lo hi H Q=>∃ a xs,x=.ref a/\SqL K H a xs/\∀ p,H p=none->Q (.ref p) (upd H p (.lst (qgJ xs lo hi)))
def qb6:SlR X (qqa X.K):=by
 intro pins s σ H x v vl vu lo hi sl Q I rx hs pl pu h;obtain ⟨a,xs,rfl,hx,q⟩:=h;cases rx;obtain ⟨its,r,ht,hz⟩:=I.list hx;have hlen:=r.length;refine ⟨"list",_,slot_list_getitem.lookup,ht.isList.typeIs,?_⟩;refine wpAny_getItem_list_slice ht.isList hs pl pu .none (by simp) ?_ (by rw [size_toArray]<;>omega);rw [C9,← hlen];refine ⟨.ref s.heap.objs.size,_,I.laid (t':=s.toks) (o:=.lst (qgJ xs lo hi)) (λb ob q=>y3 _ q) (v6 _) ?_,rfl,q _ (I.hok.fresh (v6 _))⟩;exact ⟨u5 (W5 xs lo hi) hz,_,0,(r.drop (HT.sIx xs.length 0 lo)).take (HT.sIx xs.length xs.length hi-HT.sIx xs.length 0 lo),y4 _ rfl⟩
def XU:V->Bool
 |.non=>true
 |.bl _=>true
 |.int _=>true
 |.str _=>true
 |_=>false
def eqV:V->V->Bool
 |.non,.non=>true
 |.bl a,.bl b=>a==b
 |.bl a,.int b=>(if a then 1 else 0)==b
 |.int a,.bl b=>a==(if b then 1 else 0)
 |.int a,.int b=>a==b
 |.str a,.str b=>a==b
 |_,_=>false
def qjX {A:Around} {s:Shared} {y x:V} {u v:Value} (ry:zO y u) (rx:zO x v) (fy:XU y=true) (fx:XU x=true):SeqAt.EqAt A s u v (eqV y x):=by
 cases y with
 |non=>
  cases ry;cases x with
  |non=>cases rx;exact SeqAt.EqAt.same _
  |bl b=>cases rx;exact SeqAt.EqAt.none_bool b
  |int b=>obtain ⟨t,rfl⟩:=rx;exact SeqAt.EqAt.none_int b t
  |str b=>obtain ⟨t,rfl⟩:=rx;exact SeqAt.EqAt.none_str b t
  |_=>exact absurd (show false=true from fx) y8
 |bl a=>
  cases ry;cases x with
  |non=>cases rx;exact SeqAt.EqAt.bool_none a
  |bl b=>cases rx;exact SeqAt.EqAt.bool_bool a b
  |int b=>obtain ⟨t,rfl⟩:=rx;exact SeqAt.EqAt.bool_int a b t
  |str b=>obtain ⟨t,rfl⟩:=rx;exact SeqAt.EqAt.bool_str a b t
  |_=>exact absurd (show false=true from fx) y8
 |int a=>
  obtain ⟨t',rfl⟩:=ry;cases x with
  |non=>cases rx;exact SeqAt.EqAt.int_none a t'
  |bl b=>cases rx;exact SeqAt.EqAt.int_bool a t' b
  |int b=>obtain ⟨t,rfl⟩:=rx;exact SeqAt.EqAt.int_int a t' b t
  |str b=>obtain ⟨t,rfl⟩:=rx;exact SeqAt.EqAt.int_str a t' b t
  |_=>exact absurd (show false=true from fx) y8
 |str a=>
  obtain ⟨t',rfl⟩:=ry;cases x with
  |non=>cases rx;exact SeqAt.EqAt.str_none a t'
  |bl b=>cases rx;exact SeqAt.EqAt.str_bool a t' b
  |int b=>obtain ⟨t,rfl⟩:=rx;exact SeqAt.EqAt.str_int a t' b t
  |str b=>obtain ⟨t,rfl⟩:=rx;exact SeqAt.EqAt.str_str a t' b t
  |_=>exact absurd (show false=true from fx) y8
 |_=>exact absurd (show false=true from fy) y8
def eqU (x:V) (u:Value):Bool:=match u with
 |.none=>eqV .non x
 |.bool b=>eqV (.bl b) x
 |.int i _=>eqV (.int i) x
 |.str z _=>eqV (.str z) x
 |_=>false
def qfk {x y:V} {u:Value} (r:zO y u) (f:XU y=true):eqU x u=eqV y x:=by
 cases y with
 |non=>cases r;rfl
 |bl b=>cases r;rfl
 |int i=>obtain ⟨t,rfl⟩:=r;rfl
 |str z=>obtain ⟨t,rfl⟩:=r;rfl
 |_=>exact absurd (show false=true from f) y8
theorem D9 {x:V}:∀ {xs:List V} {us:List Value},zb xs us->xs.all XU=true->us.any (eqU x)=xs.any λy=>eqV y x
 |_,_,.nil,_=>rfl
 |y::xs,u::us,.cons r t,f=>by
  rw [List.all_cons,Bool.and_eq_true] at f;rw [List.any_cons,List.any_cons,qfk r f.1,D9 t f.2]
theorem VW {A:Around} {s:Shared} {x:V} {v:Value} (rx:zO x v) (fx:XU x=true):∀ {xs:List V} {us:List Value},zb xs us->xs.all XU=true->∀ u∈us,SeqAt.EqAt A s u v (eqU x u)
 |_,_,.nil,_=>λu hu=>by cases hu
 |y::xs,u::us,.cons r t,f=>λu' hu=>by
  rw [List.all_cons,Bool.and_eq_true] at f;rcases mem_cons.mp hu with rfl|hu
  ·rw [qfk r f.1];exact qjX r rx f.1 fx
  ·exact VW rx fx t f.2 u' hu
def inV (x:V) (xs:List V):Bool:=xs.any λy=>eqV y x
def rIn (K:Frg) (neg:Bool):R2:=λx y H Q=>∃ p xs,y=.ref p/\(SqL K H p xs\/SqT K H p xs)/\XU x=true/\xs.all XU=true/\Q (.bl (if neg then !inV x xs else inV x xs)) H
def qcl:OpR X (compareOp .In) (rIn X.K false):=by
 intro pins s σ H x y v u Q I rx ry h;obtain ⟨p,xs,rfl,hq,fx,fs,q⟩:=h;cases ry;rcases hq with hq|hq
 ·obtain ⟨its,r,pl,hz⟩:=I.list hq;refine SeqAt.in_listAt (eqU x) pl.isList (λw hw=>VW rx fx r fs w (by simpa using hw)) ⟨.bl _,H,I,rfl,?_⟩;rw [show its.toArray.any (eqU x)=its.any (eqU x) by simp,D9 r fs];exact q
 ·obtain ⟨its,r,pl,hz⟩:=I.tuple hq;refine SeqAt.in_tupleAt (eqU x) pl (λw hw=>VW rx fx r fs w (by simpa using hw)) ⟨.bl _,H,I,rfl,?_⟩;rw [show its.toArray.any (eqU x)=its.any (eqU x) by simp,D9 r fs];exact q
def EH:OpR X (compareOp .NotIn) (rIn X.K true):=by
 intro pins s σ H x y v u Q I rx ry h;obtain ⟨p,xs,rfl,hq,fx,fs,q⟩:=h;cases ry;rcases hq with hq|hq
 ·obtain ⟨its,r,pl,hz⟩:=I.list hq;refine SeqAt.notIn_listAt (eqU x) pl.isList (λw hw=>VW rx fx r fs w (by simpa using hw)) ⟨.bl _,H,I,rfl,?_⟩;rw [show its.toArray.any (eqU x)=its.any (eqU x) by simp,D9 r fs];exact q
 ·obtain ⟨its,r,pl,hz⟩:=I.tuple hq;refine SeqAt.notIn_tupleAt (eqU x) pl (λw hw=>VW rx fx r fs w (by simpa using hw)) ⟨.bl _,H,I,rfl,?_⟩;rw [show its.toArray.any (eqU x)=its.any (eqU x) by simp,D9 r fs];exact q
def EK:J3 X (.type "list") (λxs H Q=>∃ p ys,xs=[.ref p]/\(SqL X.K H p ys\/SqT X.K H p ys)/\∀ l,H l=none->Q (.ref l) (upd H l (.lst ys))):=by
 intro pins s σ H xs us Q I r h;obtain ⟨p,ys,rfl,hq,q⟩:=h;obtain ⟨u,rfl,rx⟩:=XO r;cases rx;have fin:∀ (its:List Value),zb ys its->ys.length<=sizeLine->∀ (h':Heap) (c':Nat),(∀ b o',s.heap.get? b=some o'->h'.get? b=some o') ->
   h'.get? s.heap.objs.size=some { cls:=.type "list",dict:=none,data:=.seq its.toArray c',slots:=#[] }->EP X pins σ Q (.ref s.heap.objs.size) { s with heap:=h' }:=λits r' hz h' c' kp e=>
  ⟨.ref s.heap.objs.size,_,I.laid (t':=s.toks) kp (v6 _) (show VE X.prog X.w _ h' _ (.lst ys) from ⟨hz,its,c',r',e⟩),rfl,q _ (I.hok.fresh (v6 _))⟩
 rcases hq with hq|hq
 ·obtain ⟨its,r',pl,hz⟩:=I.list hq;have hlen:=r'.length;obtain ⟨o,ho,hc,n,hd⟩:=pl.isList;exact call_list_seq p (.inl rfl) ho hc hd (λh' c' kp e=>fin its r' hz h' c' kp e) (by simp only [size_toArray]<;>omega)
 ·obtain ⟨its,r',pl,hz⟩:=I.tuple hq;have hlen:=r'.length;obtain ⟨o,ho,hc,n,hd⟩:=pl;exact call_list_seq p (.inr rfl) ho hc hd (λh' c' kp e=>fin its r' hz h' c' kp e) (by simp only [size_toArray]<;>omega)
def jB:J3 X (.type "tuple") (λxs H Q=>∃ p ys,xs=[.ref p]/\((SqL X.K H p ys/\∀ l,H l=none->Q (.ref l) (upd H l (.tup ys)))\/(SqT X.K H p ys/\Q (.ref p) H))):=by
 intro pins s σ H xs us Q I r h;obtain ⟨p,ys,rfl,h⟩:=h;obtain ⟨u,rfl,rx⟩:=XO r;cases rx;rcases h with ⟨hq,q⟩|⟨hq,q⟩
 ·obtain ⟨its,r',pl,hz⟩:=I.list hq;have hlen:=r'.length;refine call_tuple_list pl.isList (λh' kp=>?_) (by simp only [size_toArray]<;>omega);have I1:Inv X pins σ H { s with heap:=h' }:=I.kept (t':=s.toks) kp;have I2:Inv X pins σ (upd H h'.objs.size (.tup ys)) { s with heap:=h'.push { cls:=.type "tuple",data:=.seq its.toArray } }:=
   I1.laid (t':=s.toks) (λb o e=>y3 _ e) (v6 _) (show VE X.prog X.w _ _ _ (.tup ys) from ⟨hz,its,r',VS.new _ _⟩)
  exact ⟨.ref h'.objs.size,_,I2,rfl,q _ (I1.hok.fresh (v6 _))⟩
 ·obtain ⟨its,r',pl,hz⟩:=I.tuple hq;exact call_tuple_same pl ⟨.ref p,H,I,rfl,q⟩
def tyV (K:Frg) (T:String) (x:V) (H:Hp):Prop:=match x with
 |.str _=>T="str"
 |.int _=>T="int"
 |.ref p=>(T="list"/\∃ xs,SqL K H p xs)\/(T="tuple"/\∃ o,K.lookup p=some o/\o.cls=.type "tuple"/\o.dict=none) ∨
   (T="dict"/\((∃ kvs,H p=some (.dK kvs))\/∃ kvs,H p=some (.dT kvs)))\/(T="set"/\∃ S n,H p=some (.set S n))
 |_=>False
def qfu {pins:List (Addr×Obj)} {σ:St} {H:Hp} {s:Shared} {T:String} {x:V} {v:Value} (I:Inv X pins σ H s) (r:zO x v) (ty:tyV X.K T x H) :
  s.TypeIs v T/\∀ a,v=.ref a->∃ ob,s.heap.get? a=some ob/\ob.dict=none:=by
 cases x with
 |str z=>
  obtain ⟨t,rfl⟩:=r;cases (show T="str" from ty);exact ⟨typeIs_str s z t,λ_ e=>nomatch e⟩
 |int i=>
  obtain ⟨t,rfl⟩:=r;cases (show T="int" from ty);exact ⟨typeIs_int s i t,λ_ e=>nomatch e⟩
 |ref p=>
  cases r;rcases ty with ⟨rfl,xs,hq⟩|⟨rfl,o,hk,hc,hd⟩|⟨rfl,hk⟩|⟨rfl,S,n,hk⟩
  ·obtain ⟨its,_,pl,_⟩:=I.list hq;refine ⟨pl.isList.typeIs,λa e=>?_⟩;cases e;obtain ⟨o,n,e,c,hd,_⟩:=pl;exact ⟨o,e,hd⟩
  ·refine ⟨⟨o,I.kIn p o hk,hc⟩,λa e=>?_⟩;cases e;exact ⟨o,I.kIn _ o hk,hd⟩
  ·have z:∃ o,s.heap.get? p=some o/\o.ExactDict:=by
    rcases hk with ⟨kvs,hk⟩|⟨kvs,hk⟩
    ·obtain ⟨_,_,_,_,o,_,_,e,ex,_⟩:=I.hok p _ hk;exact ⟨o,e,ex⟩
    ·obtain ⟨_,_,_,_,o,_,_,e,ex,_⟩:=I.hok p _ hk;exact ⟨o,e,ex⟩
   obtain ⟨o,e,ex⟩:=z;refine ⟨⟨o,e,ex.1⟩,λa e2=>?_⟩;cases e2;exact ⟨o,e,ex.2.1⟩
  ·obtain ⟨o,_,_,_,e,ex,_⟩:=I.hok p _ hk;refine ⟨⟨o,e,ex.1⟩,λa e2=>?_⟩;cases e2;exact ⟨o,e,ex.2.1⟩
 |_=>exact False.elim ty
def qpQ (K:Frg) (T:String) (r:V->List V->Hp->VK->Prop) (to:TE):TE:=λσ H Q=>to σ H λx H1=>tyV K T x H1/\r x [] H1 Q
def tBM (K:Frg) (T:String) (r:V->List V->Hp->VK->Prop) (to:TE) (t:TA):TE:=λσ H Q=>to σ H λx H1=>tyV K T x H1/\t σ H1 λxs H2=>r x xs H2 Q
variable {o e:Expr} {es:List Expr} {to:TE} {t:TA} {name:Str} {apos cpos:Pos} {T id:String} {r:V->List V->Hp->VK->Prop}
def qll (pa:PlainAttrs T) (slot:Slot T name id) (hty:typeOf (.builtin id)=pure (.type "method_descriptor")) (hm:MtR X id r) (ho:PE X o to)
  (hbase:attributeBase o name X.env (eval o X.env)=eval o X.env:=by rfl) (hline:(apos.endLine==cpos.line)=true:=by rfl):PE X (.Call (.Attribute o name apos) [] [] cpos) (qpQ X.K T r to):=by
 intro pins s σ H Q I h;refine wpAny_Call_method0_late hbase hline (thn (ho pins s σ H _ I h) λv s1 ⟨x,H1,I1,r1,ty,q1⟩=>?_);obtain ⟨h1,h2⟩:=qfu I1 r1 ty;exact ⟨T,id,pa,slot,hty,h1,h2,Calls.callWith_builtin rfl (PySem.evalArgs_none (hm pins s1 σ H1 x [] v [] Q I1 r1 .nil q1))⟩
def qoV (pa:PlainAttrs T) (slot:Slot T name id) (hty:typeOf (.builtin id)=pure (.type "method_descriptor")) (hm:MtR X id r) (ho:PE X o to) (ha:PA X (e::es) t)
  (hbase:attributeBase o name X.env (eval o X.env)=eval o X.env:=by rfl)
  (hfew:((backTo cpos (starEach (e::es) X.env)).all (λx=>!x.1)&&(backToKw cpos (keywordEach [] X.env)).all (λx=>x.1.isSome)
   && decide ((e::es).length+([]:List Keyword).length+(if ([]:List Keyword).isEmpty then 0 else 1)<30))=true:=by rfl)
  (hline:(apos.endLine==cpos.line)=true:=by rfl) (hs:starEach (e::es) X.env=(false,eval e X.env)::starEach es X.env:=by rfl) (hplain:(backTo cpos (starEach es X.env)).any (·.1)=false:=by rfl) :
  PE X (.Call (.Attribute o name apos) (e::es) [] cpos) (tBM X.K T r to t):=by
 intro pins s σ H Q I h;refine wpAny_Call_method_late hbase hfew hline rfl (thn (ho pins s σ H _ I h) λv s1 ⟨x,H1,I1,r1,ty,q1⟩=>?_);obtain ⟨h1,h2⟩:=qfu I1 r1 ty;refine ⟨T,id,pa,slot,hty,h1,h2,?_⟩;have hA:=ha cpos pins s1 σ H1 _ I1 q1;rw [hs] at hA ⊢;refine Calls.callWith_builtin (by show (false||(backTo cpos (starEach es X.env)).any (·.1))=false;rw [hplain]<;>rfl) (Calls.evalArgs_plain ?_);exact thn hA λus s2 ⟨vs,H2,I2,r2,q2⟩=>hm pins s2 σ H2 x vs v us Q I2 r1 r2 q2
end
def MtM (X:Cx) (id:String) (r:V->List V->Hp->VK->Prop):Prop:=
 ∀ (pins:List (Addr×Obj)) (s:Shared) (σ:St) (H:Hp) (x:V) (xs:List V) (v:Value) (us:List Value) (Q:VK),Inv X pins σ H s->zO x v->zb xs us->r x xs H Q ->
  wpAny (model X.prog X.w) X.A (call (.builtin id) (v::us)) (EP X pins σ Q) X.xe s
def zb.one:∀ {x:V} {us:List Value},zb [x] us->∃ u,us=[u]/\zO x u
 |_,_,.cons r .nil=>⟨_,rfl,r⟩
def zb.zero:∀ {us:List Value},zb [] us->us=[]
 |_,.nil=>rfl
theorem zb.dropLast {xs:List V} {us:List Value} (h:zb xs us):zb xs.dropLast us.dropLast:=by
 induction h with
 |nil=>exact .nil
 |cons r t ih=>
  cases t with
  |nil=>exact .nil
  |cons q t'=>exact .cons r ih
theorem zb.eraseIdx:∀ {xs:List V} {us:List Value} (i:Nat),zb xs us->zb (xs.eraseIdx i) (us.eraseIdx i)
 |_,_,_,.nil=>.nil
 |_,_,0,.cons _ t=>t
 |_,_,i+1,.cons r t=>.cons r (zb.eraseIdx i t)
theorem zb.reverse {xs:List V} {us:List Value} (h:zb xs us):zb xs.reverse us.reverse:=by
 induction h with
 |nil=>exact .nil
 |cons r t ih=>rw [List.reverse_cons,List.reverse_cons];exact zb.append ih (.cons r .nil)
theorem zb.rep {xs:List V} {us:List Value} (h:zb xs us):∀ k:Nat,zb (List.replicate k xs).flatten (List.replicate k us).flatten
 |0=>.nil
 |k+1=>by
  rw [List.replicate_succ,List.replicate_succ,List.flatten_cons,List.flatten_cons];exact zb.append h (zb.rep h k)
theorem RZ (its:List Value):∀ (k:Nat) (acc:List Value),
  List.foldl (λx1 x2=>x1++x2) acc.toArray (List.replicate k its.toArray)=(acc++(List.replicate k its).flatten).toArray
 |0,acc=>by simp
 |k+1,acc=>by
  have e:acc.toArray++its.toArray=(acc++its).toArray:=by simp
  have e2:(acc++its)++(List.replicate k its).flatten=acc++(List.replicate (k+1) its).flatten:=by
   rw [List.replicate_succ,List.flatten_cons,List.append_assoc]
  rw [← e2,← RZ its k (acc++its),← e,List.replicate_succ,List.foldl_cons]
section
variable {X:Cx} {pins:List (Addr×Obj)} {σ:St} {H:Hp} {s:Shared} {l b:Addr} {xs ys zs:List V}
def Inv.lset {its its':List Value} {n:Nat} {f:Array Value->Array Value} {t':Nat} (I:Inv X pins σ H s) (hH:H l=some (.lst xs))
  (e:s.heap.get? l=some { cls:=.type "list",data:=.seq its.toArray n }) (hf:f its.toArray=its'.toArray) (hv:zb ys its') (hz:ys.length<=sizeLine) :
  Inv X pins σ (upd H l (.lst ys)) { s with heap:=s.heap.update l (Obj.mapSeq f),toks:=t' }:=by
 have q:=PySem.IsL.update e f;rw [hf] at q;refine I.write (x:=l) (e:=l) (by rw [hH];exact trivial) (.inl rfl) (λb' u hb hu=>(Heap.get?_update_other s.heap (Obj.mapSeq f) (Ne.symm hb)).trans hu) ⟨_,q⟩ ?_;exact ⟨hz,its',_,hv,q⟩
def Inv.lnew {its:List Value} {t':Nat} (I:Inv X pins σ H s) (hv:zb ys its) (hz:ys.length<=sizeLine) :
  Inv X pins σ (upd H s.heap.objs.size (.lst ys)) { s with heap:=s.heap.push { cls:=.type "list",data:=.seq its.toArray },toks:=t' }:=
 I.laid (λ_ _ q=>y3 _ q) (v6 _) ⟨hz,its,0,hv,y4 _ rfl⟩
theorem Inv.fresh (I:Inv X pins σ H s):H s.heap.objs.size=none:=I.hok.fresh (v6 _)
def Inv.lstM (I:Inv X pins σ H s) (hH:H l=some (.lst xs)):xs.length<=sizeLine/\∃ (its:List Value) (n:Nat),zb xs its/\xs.length=its.length/\s.heap.get? l=some { cls:=.type "list",data:=.seq its.toArray n }:=by
 obtain ⟨z,its,n,r,e⟩:=I.hok l _ hH;exact ⟨z,its,n,r,r.length,e⟩
def MP {n:Nat} (h:n<=sizeLine):Builtin.List.listTooLong n=false:=by
 unfold Builtin.List.listTooLong;exact u9 (by omega)
end
section
variable {X:Cx}
def qbe:V->List V->Hp->VK->Prop:=λx vs H Q=>∃ l xs y,x=.ref l/\vs=[y]/\H l=some (.lst xs)/\xs.length<sizeLine/\Q .non (upd H l (.lst (xs++[y])))
def TC:MtM X "list.append" qbe:=by
 intro pins s σ H x vs v us Q I rx rv h;obtain ⟨l,xs,y,rfl,rfl,hH,hz,q⟩:=h;cases rx;obtain ⟨u,rfl,ru⟩:=rv.one;obtain ⟨z,its,n,r,hl,e⟩:=I.lstM hH;refine call_meets F.slot_list_append ⟨_,e,rfl⟩ F.entry_list_append (F.args_list_append_2 _ _) (PySem.list_append l its.toArray n u (by rw [size_toArray];omega)) ⟨e,?_⟩;refine ⟨.non,_,I.lset (its':=its++[u]) hH e (by simp) (r.append (.cons ru .nil)) ?_,rfl,q⟩;rw [length_append,List.length_singleton];omega
def qcx:V->List V->Hp->VK->Prop:=λx vs H Q=>∃ l b xs zs,x=.ref l/\vs=[.ref b]/\H l=some (.lst xs)/\H b=some (.lst zs)/\xs.length+zs.length<=sizeLine/\Q .non (upd H l (.lst (xs++zs)))
def qcf:MtM X "list.extend" qcx:=by
 intro pins s σ H x vs v us Q I rx rv h;obtain ⟨l,b,xs,zs,rfl,rfl,hH,hB,hz,q⟩:=h;cases rx;obtain ⟨u,rfl,ru⟩:=rv.one;cases ru;obtain ⟨z,its,n,r,hl,e⟩:=I.lstM hH;obtain ⟨z2,its2,n2,r2,hl2,e2⟩:=I.lstM hB;have hsz:its.toArray.size+its2.toArray.size<=sizeLine:=by rw [size_toArray,size_toArray];omega
 have hlong:¬ (!its.toArray.isEmpty&&Builtin.List.listTooLong (its.toArray.size+its2.toArray.size))=true:=by
  rw [MP hsz,Bool.and_false];exact y8
 refine call_meets F.slot_list_extend ⟨_,e,rfl⟩ F.entry_list_extend (F.args_list_extend_2 _ _)
  (AutoSeq1.list_extend_list_list_0 l its.toArray n b its2.toArray n2 hlong (by rw [size_toArray];omega) (by omega)) ⟨e,e2,?_⟩
 refine ⟨.non,_,I.lset (its':=its++its2) hH e (by simp) (r.append r2) ?_,rfl,q⟩;rw [length_append];omega
def qoF:R2:=λx y H Q=>∃ l b xs zs,x=.ref l/\y=.ref b/\H l=some (.lst xs)/\H b=some (.lst zs)/\xs.length+zs.length<=sizeLine/\∀ p,H p=none->Q (.ref p) (upd H p (.lst (xs++zs)))
def qf1:OpR X (binaryOp .Add) qoF:=by
 intro pins s σ H x y v u Q I rx ry h;obtain ⟨l,b,xs,zs,rfl,rfl,hH,hB,hz,q⟩:=h;cases rx;cases ry;obtain ⟨z,its,n,r,hl,e⟩:=I.lstM hH;obtain ⟨z2,its2,n2,r2,hl2,e2⟩:=I.lstM hB;refine PySem.P.add_list e e2 ?_ (by rw [size_toArray,size_toArray];omega);have ea:its.toArray++its2.toArray=(its++its2).toArray:=by simp
 rw [ea];exact ⟨.ref _,_,I.lnew (t':=s.toks) (r.append r2) (by rw [length_append];omega),rfl,q _ I.fresh⟩
def qo5:R2:=λx y H Q=>∃ l k xs,x=.ref l/\y=.int k/\H l=some (.lst xs)/\-(2 ^ 63)<=k/\k<2 ^ 63/\xs.length*k.toNat<=sizeLine /\
 ∀ p,H p=none->Q (.ref p) (upd H p (.lst (List.replicate k.toNat xs).flatten))
def qie {α:Type} (xs:List α) (k:Nat):(List.replicate k xs).flatten.length=k*xs.length:=by
 induction k with
 |zero=>simp
 |succ k ih=>rw [List.replicate_succ,List.flatten_cons,length_append,ih,Nat.succ_mul,Nat.add_comm]
def qku:OpR X (binaryOp .Mult) qo5:=by
 intro pins s σ H x y v u Q I rx ry h;obtain ⟨l,k,xs,rfl,rfl,hH,h1,h2,hz,q⟩:=h;cases rx;obtain ⟨t,rfl⟩:=ry;obtain ⟨z,its,n,r,hl,e⟩:=I.lstM hH;have hlen:its.toArray.size*k.toNat<=sizeLine:=by rw [size_toArray,← hl];exact hz
 have hcap:¬ its.toArray.size*k.toNat > (2 ^ 63-1)/8:=by
  have:(sizeLine:Nat)<=(2 ^ 63-1)/8:=by decide
  omega
 have hfit:¬ (!Builtin.List.listFitsIndex k)=true:=by
  rw [fitsIndex_both h1 h2];exact y8
 have hlong:¬ Builtin.List.listTooLong (its.toArray.size*k.toNat)=true:=by
  rw [MP hlen];exact y8
 have hnew:List.foldl (λx1 x2=>x1++x2) #[] (List.replicate (if its.toArray.isEmpty=true then 0 else k.toNat) its.toArray)=(List.replicate k.toNat its).flatten.toArray:=by
  have f0:∀ m:Nat,List.foldl (λx1 x2=>x1++x2) #[] (List.replicate m its.toArray)=(List.replicate m its).flatten.toArray:=λm=>by
   have:=RZ its m [];rw [List.nil_append] at this;exact this
  rw [f0];cases its with
  |nil=>simp
  |cons a r'=>rw [if_neg (by simp)]
 refine wpAny_binaryOp_repeat_ref (T:="list") (U:="int") (by decide) ⟨_,e,rfl⟩ (λs'=>typeIs_int s' k t) noFill_list_mul F.fills_int_mul F.slot_int_rmul repeat_list F.slot_int_index.lookup
  (call_meets F.slot_int_rmul (typeIs_int s k t) F.entry_int_rmul (F.args_int_rmul_2 _ _) (int___rmul___int_list k t l its.toArray n)
   ⟨e,rfl,⟨_,e,rfl⟩,call_meets F.slot_list_mul ⟨_,e,rfl⟩ F.entry_list_mul (F.args_list_mul_2 _ _) (AutoListH.list___mul___list_int_3 l its.toArray n k t hfit hcap hlong) ⟨e,?_⟩⟩)
 rw [hnew];exact ⟨.ref _,_,I.lnew (t':=s.toks) (r.rep k.toNat) (by rw [qie,Nat.mul_comm];exact hz),rfl,q _ I.fresh⟩
end
section
variable {prog:Program} {w:World} {A:Around} {E:Value->Shared->Prop} {s:Shared}
end
section
variable {X:Cx}
end
end L2
namespace Att
open PySem PySem.W PySem.Calls PyProof.Rows
def W9 {P:Params} {h:Heap}:∀ (ns:List Int) (vs:List Value),WellAll P h vs (ns.map WData.int)->IntsAre vs ns:=by
 intro ns;induction ns with
 |nil=>
  intro vs w;rw [List.map_nil] at w;cases w;exact .nil
 |cons n ns ih=>
  intro vs w;rw [map_cons] at w;cases w with
  |cons a b=>
   cases a;exact .cons _ _ (ih _ b)
def qcm {l:OpenLaw} {n:Nat} (hn:l.most=some n) {P:Params} {h:Heap} {args:List WData} {vals:List Value}
  (hpre:l.row.toRowW.claim.pre args=true) (hwl:WellAll P h vals args) :
  ∃ a vs ns,vals=[Value.ref a]/\args=[WData.list (ns.map WData.int)]/\h.get? a=some { cls:=.type "list",data:=.seq vs.toArray }/\IntsAre vs ns/\ns.length<=n:=by
 have hsh:WShape.hasAll [] args [.list .int]=true:=(pre_splitW hpre).1;have hc:l.pre.holds [] { args:=args }=true:=(pre_splitW hpre).2;obtain ⟨d,r,rfl,h1,h2⟩:=hasAllW_cons hsh;obtain rfl:=hasAllW_nil h2;obtain ⟨xs,rfl,h3⟩:=hasW_list h1;obtain ⟨ns,rfl⟩:=items_int h3;have hlen:ns.length<=n:=by
  unfold OpenLaw.pre at hc;have h4:(WTm.not (.lt (.lit (.int (n:Int))) (.len (.arg 0)))).holds [] { args:=[.list (ns.map .int)] }=true:=by
   have h4:=(holds_andW hc).1;rw [hn] at h4;exact h4
  have h5:=condW_of h4 (w_not (w_lt w_lit (w_len_list (w_arg rfl))));rw [length_map] at h5;refine Nat.le_of_not_lt λq=>?_;have q':(n:Int)<((ns.length:Nat):Int):=by omega
  first
   | (rw [za0 q'] at h5;exact absurd h5 (by decide))
   | (simp at h5;omega)
 cases hwl with
 |cons w1 w2=>
  cases w2;cases w1 with
  |list ho hall=>exact ⟨_,_,ns,rfl,rfl,ho,W9 ns _ hall,hlen⟩
def qcC (l:OpenLaw) (args:List WData):l.row.toRowW.claim.post args (.bool true) args=true:=
 postW_of (r:=l.row.toRowW) (X:=(true==true))
  (show WShape.has [] (.bool true) .bool=true by first|rfl|decide|simp [WShape.has,WShape.arms,WShape.armsAll])
  (show (WTm.eq .res (.lit (.bool true))).value [] { args:=args,res:=some (.bool true),after:=args }=some (.bool (true==true)) from w_eq_bool (w_res rfl) w_lit) rfl
def LG {l:OpenLaw} {n:Nat} {q:Program} {loose:List Str} {XP:(Str->Option Value)->Heap->Prop} {YP:World->Heap->Prop} {d:DefRec}
  (hn:l.most=some n) (hdf:d.params.defaults=[])
  (call:∀ (w:World) (s₀ s₁:Shared) (mg mb:Str->Option Value) (fa:Addr) (o:Obj) (pm cd doc:Value) (a:Addr) (vs:List Value) (ns:List Int),
   Ground q loose [] XP w s₀ mg mb s₁.heap->YP w s₁.heap ->
   s₁.heap.get? fa=some o->o.data=.func (docDef d.name d.params d.body d.scope pm cd doc)->s₁.heap.CodeRec cd d.name->mg d.name=some (.ref fa) ->
   s₁.heap.get? a=some { cls:=.type "list",data:=.seq vs.toArray }->IntsAre vs ns->ns.length<=n->s₁.gens=#[] ->
   codeAny (model l.prog w) callerA (.call (.ref fa) ⟨[.ref a],[]⟩) (λr s'=>r=.ok (.ret (.bool true))/\OldK s₁.heap s'.heap/\s'.os=s₁.os/\AllBare s'.gens) s₁) :
  WalkO q loose XP YP l.row.toRowW d [] (λf vs=>PySem.call f vs):=by
 intro w s₀ s₁ mg mb G Y fa o pm cd doc dV kV ho hd hcd hD hmg hg args vals as hpre hlay hrd hwl hlo;obtain rfl:dV=.none:=Dflts.none hD hdf;obtain rfl:kV=.none:=Dflts.noKw hD;obtain ⟨a,vs,ns,rfl,rfl,hobj,hints,hlen⟩:=qcm hn hpre hwl;refine enter_call (codeAny_mono (call w s₀ s₁ mg mb fa o pm cd doc a vs ns G Y ho (fd_plain hd) hcd hmg hobj hints hlen hg) λr s' hq=>?_);obtain ⟨rfl,h2,h3,h4⟩:=hq;exact ⟨.inl ⟨.bool true,.bool true,[],rfl,λ_=>rfl,.bool true,qcC l _,λ_=>⟨List.Pairwise.nil,λ_ hm=>(nomatch hm)⟩⟩,h2,h3,h4⟩
section
variable {prog:Program} {w:World} {A:Around} {E:Value->Shared->Prop} {s:Shared} {K:Frag}
end
end Att
namespace L2
open PySem PySem.Spec PyProof.Rows
theorem SU:∀ {vs:List Value} {ns:List Int},IntsAre vs ns->zb (ns.map V.int) vs
 |_,_,.nil=>.nil
 |_,_,.cons n t h=>.cons ⟨t,rfl⟩ (SU h)
def QF (s:Stmt):Arguments:=match s with
 |.FunctionDef _ a _ _ _ _ _ _ _ _=>a
 |_=>{ posonlyargs:=[],args:=[],vararg:=none,kwonlyargs:=[],kw_defaults:=[],kwarg:=none,defaults:=[] }
def zo (s:Stmt):List Stmt:=match s with
 |.FunctionDef _ _ b _ _ _ _ _ _ _=>b
 |_=>[]
def qh (s:Stmt):Scope:=match s with
 |.FunctionDef _ _ _ _ _ _ sc _ _ _=>sc
 |_=>{ kind:=.function,names:=[],isGenerator:=false,isCoroutine:=false }
abbrev CX0:CXT:=λ_ _ _ _ _ _=>False
abbrev E0:XK:=λ_ _ _=>False
def qmE {X:Cx}:qbX CX0 X E0:=λ_ _ _ _ _ _ _ h=>h.elim
structure Fun (K:Frg) (x qual:Str) (st:Stmt) (f:Addr) (fd:FuncData):Prop where
 ex:∃ (oc:Value) (od:Option Addr) (kV doc pm:Value) (an:Option Addr) (cdv ct:Value) (osl:Array (Option Value)),
  fd=PySem.W.fnOf x qual (QF st) (zo st) (qh st) .none kV doc pm an cdv ct/\K.lookup f=some ⟨oc,od,.func fd,osl⟩/\PySem.W.codeIn K cdv qual=true
 kp:PySem.W.keepIn K (.ref f)=true
section
variable {P:Program} {w:World} {K:Frg} {mg:Str->Option Value} {base:Heap}
def Fun.ok {x qual:Str} {st:Stmt} {f:Addr} {fd:FuncData} {N ps:List Str} {k:Nat} {sp:Sp} (F:Fun K x qual st f fd) (S:FnScope N ps (qh st)) (len:∀ vs H Q E,sp vs H Q E->vs.length=ps.length)
  (hbody:∀ (cdv:Value) (A:Around) (outer:List Env) (s:Shared) (H:Hp) (vs:List V) (Q:VK) (E:XK),Room k (A.deeper (envOfC qual (qh st) s.heap.objs.size f cdv))->sp vs H Q E ->
   ∃ t,PSs (qaR CX0 P w K mg base N qual (qh st) f cdv A outer s H E).nox (zo st) t/\t { nx:=λ_ H'=>Q .non H',rt:=Q } (start N vs) H):FnOk P w K mg base CX0 (k+1) f fd ps sp:=by
 obtain ⟨oc,od,kV,doc,pm,an,cdv,ct,osl,rfl,lk,hcd⟩:=F.ex;refine qjd lk hcd S len λA outer s H vs Q E hr hsp=>?_;obtain ⟨t,h,q⟩:=hbody cdv A outer s H vs Q E hr hsp;exact ⟨t,h.nox,q⟩
def Fun.binds {x qual:Str} {st:Stmt} {f:Addr} {fd:FuncData} {ps:List Str} (F:Fun K x qual st f fd)
  (h:∀ (kV doc pm:Value) (an:Option Addr) (cdv ct:Value) (us:List Value),us.length=ps.length->bindArgs (PySem.W.fnOf x qual (QF st) (zo st) (qh st) .none kV doc pm an cdv ct) ⟨us,[]⟩=pure (ps.zip us)):WK K fd ps []:=by
 obtain ⟨oc,od,kV,doc,pm,an,cdv,ct,osl,rfl,lk,hcd⟩:=F.ex;exact .all (h kV doc pm an cdv ct)
def qcF {x qual:Str} {st:Stmt} {f:Addr} {oc:Value} {od an:Option Addr} {osl:Array (Option Value)} {kV doc pm cdv ct:Value} (l:K.lookup f=some ⟨oc,od,.func (PySem.W.fnOf x qual (QF st) (zo st) (qh st) .none kV doc pm an cdv ct),osl⟩)
  (c:PySem.W.codeIn K cdv qual=true) (k:PySem.W.keepIn K (.ref f)=true):Fun K x qual st f (PySem.W.fnOf x qual (QF st) (zo st) (qh st) .none kV doc pm an cdv ct):=⟨⟨oc,od,kV,doc,pm,an,cdv,ct,osl,rfl,l,c⟩,k⟩
end
section
variable {X:Cx}
end
def qom {A B:Prop} (h:B):if false=true then A else B:=by
 rw [if_neg y8];exact h
def qnW {A B:Prop} (h:A):if true=true then A else B:=by
 rw [if_pos rfl];exact h
end L2
set_option maxHeartbeats 4000000
namespace L3
open PySem PySem.Spec PyProof.Rows L2
set_option genInjectivity true in
inductive T where
 |non|bl (b:Bool)|int (i:Int)|str (x:Str)|tup (xs:List T)|ref (a:Addr)
inductive O where
 |lst (xs:List T)
 |frz (xs:List T)
 |dct (kvs:List (Int×T))
 |exn (C:Addr)
 |tab (ks:List Str) (xs:List T)
 |clo (i:Nat) (ts:List T)
abbrev Gp:=Addr->Option O
def gu (G:Gp) (a:Addr) (o:O):Gp:=λb=>if b=a then some o else G b
def qG {G:Gp} {a:Addr} {o:O}:gu G a o a=some o:=by unfold gu;rw [if_pos rfl]
def jc {G:Gp} {a b:Addr} {o:O} (h:b≠a):gu G a o b=G b:=by unfold gu;rw [if_neg h]
mutual
inductive Rp (K:Frg) (H:Hp):T->V->Prop
 |non:Rp K H .non .non
 |bl (b:Bool):Rp K H (.bl b) (.bl b)
 |int (i:Int):Rp K H (.int i) (.int i)
 |str (x:Str):Rp K H (.str x) (.str x)
 |ref (a:Addr):Rp K H (.ref a) (.ref a)
 |tup {xs:List T} {a:Addr} {vs:List V}:SqT K H a vs->Rps K H xs vs->Rp K H (.tup xs) (.ref a)
inductive Rps (K:Frg) (H:Hp):List T->List V->Prop
 |nil:Rps K H [] []
 |cons {x:T} {v:V} {xs:List T} {vs:List V}:Rp K H x v->Rps K H xs vs->Rps K H (x::xs) (v::vs)
end
def IsX (a C:Addr) (h:Heap):Prop:=∃ o vs,h.get? a=some o/\o.cls=.ref C/\o.data=.fields vs
def CdR (o:Obj) (q:Str):Prop:=∃ vs t,o.data=.fields vs/\vs[1]?=some (.str q t)
def K7 (K:Frg) (i:Nat):Option FuncData:=(K.filterMap λp=>match p.2.cls,p.2.data with
 |.str _ _,.func fd=>some fd
 |_,_=>none)[i]?
def frN (sc:Scope):List Str:=(sc.names.filter λp=>p.2==.free).map λp=>p.1
def psN (sc:Scope):List Str:=(sc.names.filter λp=>p.2==.local).map λp=>p.1
structure CloOk (clos:List (Str×Addr)) (fr:List Str):Prop where
 inj:∀ x y a,clos.lookup x=some a->clos.lookup y=some a->x=y
 has:∀ x∈fr,∃ a,clos.lookup x=some a
 nd:(clos.map λp=>p.1).Nodup
def qoR (H:Hp) (clos:List (Str×Addr)) (fr:List Str) (ws:List V):Prop:=ws.length=fr.length/\(∀ x c,clos.lookup x=some c->∃ o v,H c=some (.frz o (.own c))/\o.data=.cell v) /\
 ∀ (i:Nat) (x:Str) (v:V),fr[i]?=some x->ws[i]?=some v->∃ c o u,clos.lookup x=some c/\H c=some (.frz o (.own c))/\o.data=.cell (some u)/\zO v u
structure LamF (H:Hp) (f:Addr) (fd:FuncData) (body:Expr) (clos:List (Str×Addr)) (c:Addr) (ws:List V):Prop where
 bd:fd.body=.expr body
 fo:∃ pm ctv,H f=some (.frz (PySem.W.kla_obj "<lambda>" fd.qualname fd.params body fd.scope clos pm c ctv) (.own f))
 co:∃ oc,H c=some (.frz oc (.own c))/\CdR oc fd.qualname
 ok:CloOk clos (frN fd.scope)
 caps:qoR H clos (frN fd.scope) ws
def CV (K:Frg):List (Addr×Addr×Str):=K.filterMap λp=>match p.2.cls,p.2.data with
 |.str _ _,.fields vs=>(match vs[0]?,vs[1]? with|some (Value.ref P),some (Value.str q _)=>some (p.1,P,q)|_,_=>none)
 |_,_=>none
def LW (H:Hp) (P:Addr) (q:Str):Prop:=∃ ps,H P=some (.tbl ps)/\TriplesOk ps.toList/\∀ pos cv,codeAmong pos ps.toList=some cv->∃ c oc,cv=.ref c/\H c=some (.frz oc (.own c))/\CdR oc q
def qi6 (K:Frg) (H:Hp):Prop:=∀ t∈CV K,LW H t.2.1 t.2.2
def OR (K:Frg) (H:Hp) (a:Addr):O->Prop
 |.lst xs=>∃ vs,H a=some (.lst vs)/\Rps K H xs vs
 |.frz xs=>∃ vs,(∃ o,H a=some (.frz o (.lst vs)))/\Rps K H xs vs
 |.dct kvs=>∃ vs,H a=some (.dK ((kvs.map λp=>(Sum.inl p.1:Key)).zip vs))/\Rps K H (kvs.map λp=>p.2) vs
 |.exn C=>H a=some (.ext (IsX a C))
 |.tab ks xs=>∃ vs,H a=some (.dK ((ks.map λk=>(Sum.inr k:Key)).zip vs))/\Rps K H xs vs
 |.clo i ts=>∃ fd body clos c ws,K7 K i=some fd/\LamF H a fd body clos c ws/\Rps K H ts ws
structure HR (K:Frg) (G:Gp) (H:Hp):Prop where
 at':∀ a o,G a=some o->OR K H a o
 tabs:qi6 K H
instance {K:Frg} {G:Gp} {H:Hp}:CoeFun (HR K G H) λ_=>∀ a o,G a=some o->OR K H a o:=⟨HR.at'⟩
def K0:HO->Bool
 |.tbl _=>true
 |_=>false
def Kp (G:Gp) (H:Hp) (G':Gp) (H':Hp):Prop:=∀ a o,H a=some o->G a=none->K0 o=false->H' a=some o/\G' a=none
def Kp.refl {G:Gp} {H:Hp}:Kp G H G H:=λ_ _ h g _=>⟨h,g⟩
def Kp.trans {G G1 G2:Gp} {H H1 H2:Hp} (a:Kp G H G1 H1) (b:Kp G1 H1 G2 H2):Kp G H G2 H2:=λx o h g t=>
 let ⟨h1,g1⟩:=a x o h g t;b x o h1 g1 t
section
variable {K:Frg} {G G':Gp} {H H':Hp}
def HR.noneT (hr:HR K G H) {a:Addr} {vs:List V} (h:Rd H a (.tup vs)):G a=none:=by
 cases e:G a with
 |none=>rfl
 |some o=>
  have q:=hr a o e;cases o with
  |lst xs=>
   obtain ⟨us,q1,_⟩:=q;rcases h with h|⟨ob,h⟩<;>(rw [q1] at h;cases h)
  |frz xs=>
   obtain ⟨us,⟨o1,q1⟩,_⟩:=q;rcases h with h|⟨ob,h⟩<;>(rw [q1] at h;cases h)
  |dct kvs=>
   obtain ⟨us,q1,_⟩:=q;rcases h with h|⟨ob,h⟩<;>(rw [q1] at h;cases h)
  |exn C=>
   have q1:H a=some (.ext (IsX a C)):=q;rcases h with h|⟨ob,h⟩<;>(rw [q1] at h;cases h)
  |tab ks xs=>
   obtain ⟨us,q1,_⟩:=q;rcases h with h|⟨ob,h⟩<;>(rw [q1] at h;cases h)
  |clo i ts=>
   obtain ⟨_,_,_,_,_,_,⟨_,⟨_,_,q1⟩,_⟩,_⟩:=q;rcases h with h|⟨ob,h⟩<;>(rw [q1] at h;cases h)
def HR.noneC (hr:HR K G H) {c:Addr} {oc:Obj} (h:H c=some (.frz oc (.own c))) (r:∀ fd,oc.data≠.func fd):G c=none:=by
 cases e:G c with
 |none=>rfl
 |some o=>
  have q:=hr c o e;cases o with
  |lst xs=>obtain ⟨us,q1,_⟩:=q;rw [q1] at h;cases h
  |frz xs=>obtain ⟨us,⟨o1,q1⟩,_⟩:=q;rw [q1] at h;cases h
  |dct kvs=>obtain ⟨us,q1,_⟩:=q;rw [q1] at h;cases h
  |exn C=>have q1:H c=some (.ext (IsX c C)):=q;rw [q1] at h;cases h
  |tab ks xs=>obtain ⟨us,q1,_⟩:=q;rw [q1] at h;cases h
  |clo i ts=>
   obtain ⟨_,_,_,_,_,_,⟨_,⟨_,_,q1⟩,_⟩,_⟩:=q;rw [q1] at h;cases h;exact absurd rfl (r _)
def CdR.nf {o:Obj} {q:Str} (x:CdR o q) (fd:FuncData):o.data≠.func fd:=λz=>by
 obtain ⟨vs,t,e,_⟩:=x;rw [e] at z;cases z
def qbB {o:Obj} {v:Option Value} (x:o.data=.cell v) (fd:FuncData):o.data≠.func fd:=λz=>by rw [x] at z;cases z
def LamF.keep {f:Addr} {fd:FuncData} {body:Expr} {clos:List (Str×Addr)} {c:Addr} {ws:List V} (x:LamF H f fd body clos c ws) (k:∀ a o,(a=f\/∀ fd,o.data≠.func fd)->H a=some (.frz o (.own a))->H' a=some (.frz o (.own a))):LamF H' f fd body clos c ws:=by
 obtain ⟨bd,⟨pm,ctv,fo⟩,⟨oc,co,cr⟩,ok,c1,c2,c3⟩:=x;refine ⟨bd,⟨pm,ctv,k _ _ (.inl rfl) fo⟩,⟨oc,k _ _ (.inr cr.nf) co,cr⟩,ok,c1,λy a e=>?_,λi y v e1 e2=>?_⟩
 ·obtain ⟨o,v,q,d⟩:=c2 y a e;exact ⟨o,v,k _ _ (.inr (qbB d)) q,d⟩
 ·obtain ⟨a,o,u,l,q,d,r⟩:=c3 i y v e1 e2;exact ⟨a,o,u,l,k _ _ (.inr (qbB d)) q,d,r⟩
def LW.keep {P:Addr} {q:Str} (x:LW H P q) (k:∀ ps,H P=some (.tbl ps)->H' P=some (.tbl ps)) (kc:∀ c oc,H c=some (.frz oc (.own c))->CdR oc q->H' c=some (.frz oc (.own c))):LW H' P q:=
 let ⟨ps,e,t,c⟩:=x
 ⟨ps,k ps e,t,λpos cv z=>let ⟨c',oc,a,b,r⟩:=c pos cv z;⟨c',oc,a,kc c' oc b r,r⟩⟩
theorem qi6.upd {p:Addr} {ho:HO} (x:qi6 K H) (h1:∀ ps,H p≠some (.tbl ps)) (h2:∀ oc,H p≠some (.frz oc (.own p))):qi6 K (upd H p ho):=λt ht=>
 (x t ht).keep (λps e=>by rw [qv (λz=>h1 ps (by rw [← z];exact e))];exact e) λc oc e _=>by rw [qv (λz=>h2 oc (by rw [← z];exact e))];exact e
def HR.tabU (hr:HR K G H) {p:Addr} {o:O} {ho:HO} (g:G p=some o) (n:∀ i ts,o≠.clo i ts):qi6 K (upd H p ho):=by
 have q:=hr p o g;refine hr.tabs.upd (λps e=>?_) λoc e=>?_ <;>
 ·cases o with
  |lst xs=>obtain ⟨us,q1,_⟩:=q;rw [q1] at e;cases e
  |frz xs=>obtain ⟨us,⟨o1,q1⟩,_⟩:=q;rw [q1] at e;cases e
  |dct kvs=>obtain ⟨us,q1,_⟩:=q;rw [q1] at e;cases e
  |exn C=>have q1:H p=some (.ext (IsX p C)):=q;rw [q1] at e;cases e
  |tab ks xs=>obtain ⟨us,q1,_⟩:=q;rw [q1] at e;cases e
  |clo i ts=>exact n i ts rfl
def DG (hr:HR K G H) (k:Kp G H G' H') {a:Addr} {vs:List V} (h:SqT K H a vs):SqT K H' a vs:=by
 rcases h with h|h
 ·have g:=hr.noneT h;rcases h with h|⟨o,h⟩
  ·exact .inl (.inl (k a _ h g rfl).1)
  ·exact .inl (.inr ⟨o,(k a _ h g rfl).1⟩)
 ·exact .inr h
mutual
theorem Rp.keep (hr:HR K G H) (k:Kp G H G' H'):∀ {x:T} {v:V},Rp K H x v->Rp K H' x v
 |_,_,.non=>.non
 |_,_,.bl b=>.bl b
 |_,_,.int i=>.int i
 |_,_,.str x=>.str x
 |_,_,.ref a=>.ref a
 |_,_,.tup h hs=>.tup (DG hr k h) (Rps.keep hr k hs)
theorem Rps.keep (hr:HR K G H) (k:Kp G H G' H'):∀ {x:List T} {v:List V},Rps K H x v->Rps K H' x v
 |_,_,.nil=>.nil
 |_,_,.cons a b=>.cons (Rp.keep hr k a) (Rps.keep hr k b)
end
theorem Rps.length:∀ {xs:List T} {vs:List V},Rps K H xs vs->xs.length=vs.length
 |_,_,.nil=>rfl
 |_,_,.cons _ b=>by simp [Rps.length b]
theorem Rps.get:∀ {xs:List T} {vs:List V} {i:Nat} {x:T},Rps K H xs vs->xs[i]?=some x->∃ v,vs[i]?=some v/\Rp K H x v
 |_,_,_,_,.nil,e=>by simp at e
 |_,_,0,_,.cons r _,e=>by simp at e;subst e;exact ⟨_,rfl,r⟩
 |_,_,i+1,x,.cons _ t,e=>by
  obtain ⟨u,h1,h2⟩:=Rps.get (i:=i) (x:=x) t (by simpa using e);exact ⟨u,by simpa using h1,h2⟩
theorem Rps.append:∀ {xs ys:List T} {vs us:List V},Rps K H xs vs->Rps K H ys us->Rps K H (xs++ys) (vs++us)
 |_,_,_,_,.nil,s=>s
 |_,_,_,_,.cons r t,s=>.cons r (Rps.append t s)
theorem Rps.take:∀ {xs:List T} {vs:List V} (n:Nat),Rps K H xs vs->Rps K H (xs.take n) (vs.take n)
 |_,_,0,_=>.nil
 |_,_,_+1,.nil=>.nil
 |_,_,n+1,.cons r t=>.cons r (Rps.take n t)
theorem Rps.drop:∀ {xs:List T} {vs:List V} (n:Nat),Rps K H xs vs->Rps K H (xs.drop n) (vs.drop n)
 |_,_,0,r=>r
 |_,_,_+1,.nil=>.nil
 |_,_,n+1,.cons _ t=>Rps.drop n t
theorem Rps.set {x:T} {v:V} (r:Rp K H x v):∀ {xs:List T} {vs:List V} (i:Nat),Rps K H xs vs->Rps K H (xs.set i x) (vs.set i v)
 |_,_,_,.nil=>.nil
 |_,_,0,.cons _ t=>.cons r t
 |_,_,i+1,.cons q t=>.cons q (Rps.set r i t)
theorem Rps.ints:∀ (ns:List Int),Rps K H (ns.map T.int) (ns.map V.int)
 |[]=>.nil
 |n::r=>.cons (.int n) (Rps.ints r)
def Kp.laid {p:Addr} {ho:HO} (hp:H p=none):Kp G H G (upd H p ho):=λa o h g _=>⟨by rw [qv (qB h hp)];exact h,g⟩
def HR.free (hr:HR K G H) {p:Addr} (hp:H p=none):G p=none:=by
 cases e:G p with
 |none=>rfl
 |some o=>
  have q:=hr p o e;cases o with
  |lst xs=>obtain ⟨us,q1,_⟩:=q;rw [hp] at q1;cases q1
  |frz xs=>obtain ⟨us,⟨o1,q1⟩,_⟩:=q;rw [hp] at q1;cases q1
  |dct kvs=>obtain ⟨us,q1,_⟩:=q;rw [hp] at q1;cases q1
  |exn C=>have q1:H p=some (.ext (IsX p C)):=q;rw [hp] at q1;cases q1
  |tab ks xs=>obtain ⟨us,q1,_⟩:=q;rw [hp] at q1;cases q1
  |clo i ts=>obtain ⟨_,_,_,_,_,_,⟨_,⟨_,_,q1⟩,_⟩,_⟩:=q;rw [hp] at q1;cases q1
theorem OR.keep (hr:HR K G H) (k:Kp G H G' H') {a:Addr} {o:O} (h:OR K H a o) (e:∀ u,H a=some u->H' a=some u):OR K H' a o:=by
 cases o with
 |lst xs=>obtain ⟨vs,h1,h2⟩:=h;exact ⟨vs,e _ h1,h2.keep hr k⟩
 |frz xs=>obtain ⟨vs,⟨o,h1⟩,h2⟩:=h;exact ⟨vs,⟨o,e _ h1⟩,h2.keep hr k⟩
 |dct kvs=>obtain ⟨vs,h1,h2⟩:=h;exact ⟨vs,e _ h1,h2.keep hr k⟩
 |exn C=>exact e _ h
 |tab ks xs=>obtain ⟨vs,h1,h2⟩:=h;exact ⟨vs,e _ h1,h2.keep hr k⟩
 |clo i ts=>
  obtain ⟨fd,body,clos,c,ws,l,f,r⟩:=h;exact ⟨fd,body,clos,c,ws,l,f.keep λb o n q=>by
   rcases n with rfl|n
   ·exact e _ q
   ·exact (k b _ q (hr.noneC q n) rfl).1,r.keep hr k⟩
theorem HR.laid (hr:HR K G H) {p:Addr} {ho:HO} (hp:H p=none):HR K G (upd H p ho):=⟨λa o e=>
 (hr a o e).keep hr (Kp.laid hp) λu h=>by rw [qv (qB h hp)];exact h,hr.tabs.upd (λ_ e=>by rw [hp] at e;cases e) λ_ e=>by rw [hp] at e;cases e⟩
def Kp.newL {p:Addr} {ho:HO} {o':O} (hp:H p=none):Kp G H (gu G p o') (upd H p ho):=λa o h g _=>
 ⟨by rw [qv (qB h hp)];exact h,by rw [jc (qB h hp)];exact g⟩
def HR.newL (hr:HR K G H) {p:Addr} {xs:List T} {vs:List V} (hp:H p=none) (r:Rps K H xs vs):HR K (gu G p (.lst xs)) (upd H p (.lst vs)):=⟨λa o e=>by
 by_cases ha:a=p
 ·subst ha;rw [qG] at e;cases e;exact ⟨vs,qI,r.keep hr (Kp.laid hp)⟩
 ·rw [jc ha] at e;exact (hr a o e).keep hr (Kp.laid hp) λu h=>by rw [qv ha];exact h,(hr.laid hp).tabs⟩
def Kp.wr {p:Addr} {ho:HO} {o o':O} (g:G p=some o):Kp G H (gu G p o') (upd H p ho):=λa ob h ga _=>by
 have ha:a≠p:=by intro e;subst e;rw [g] at ga;cases ga
 exact ⟨by rw [qv ha];exact h,by rw [jc ha];exact ga⟩
theorem HR.wr (hr:HR K G H) {p:Addr} {ys xs:List T} {vs:List V} (g:G p=some (.lst ys)) (r:Rps K H xs vs):HR K (gu G p (.lst xs)) (upd H p (.lst vs)):=⟨λa o e=>by
 have k:Kp G H (gu G p (.lst xs)) (upd H p (.lst vs)):=Kp.wr g;by_cases ha:a=p
 ·subst ha;rw [qG] at e;cases e;exact ⟨vs,qI,r.keep hr k⟩
 ·rw [jc ha] at e;exact (hr a o e).keep hr k λu h=>by rw [qv ha];exact h,hr.tabU g λ_ _ z=>nomatch z⟩
end
abbrev St3:=List (Option T)
structure Rel (K:Frg) (τ:St3) (G:Gp) (σ:L2.St) (H:Hp):Prop where
 hp:HR K G H
 len:τ.length=σ.length
 st:∀ (i:Nat) (t:T),τ[i]?=some (some t)->∃ v,σ[i]?=some (some v)/\Rp K H t v
def Rel.next {K:Frg} {τ:St3} {G G':Gp} {σ:L2.St} {H H':Hp} (r:Rel K τ G σ H) (hr:HR K G' H') (k:Kp G H G' H'):Rel K τ G' σ H':=
 ⟨hr,r.len,λi t e=>let ⟨v,h1,h2⟩:=r.st i t e;⟨v,h1,h2.keep r.hp k⟩⟩
theorem Rel.set {K:Frg} {τ:St3} {G:Gp} {σ:L2.St} {H:Hp} {t:T} {v:V} (r:Rel K τ G σ H) (i:Nat) (h:Rp K H t v):Rel K (τ.set i (some t)) G (σ.set i (some v)) H:=by
 refine ⟨r.hp,by simp [r.len],λj u e=>?_⟩;by_cases hij:i=j
 ·subst hij;rw [List.getElem?_set_self'] at e;have hl:i<τ.length:=by
   cases q:τ[i]? with
   |none=>rw [q] at e;cases e
   |some z=>exact (za2 q).1
  rw [v4 hl] at e;have e':t=u:=by simpa using e
  subst e';exact ⟨v,by rw [List.getElem?_set_self (by rw [← r.len];exact hl)],h⟩
 ·rw [List.getElem?_set_ne hij] at e;obtain ⟨w,h1,h2⟩:=r.st j u e;exact ⟨w,by rw [List.getElem?_set_ne hij];exact h1,h2⟩
abbrev Q3:=T->Gp->Prop
abbrev TE3:=St3->Gp->Q3->Prop
abbrev TT3:=St3->Gp->(Bool->Gp->Prop)->Prop
abbrev TA3:=St3->Gp->(List T->Gp->Prop)->Prop
def Aft (K:Frg) (G:Gp) (H:Hp) (q:Q3) (Q:VK):Prop:=∀ x G',q x G'->∀ v H',Rp K H' x v->HR K G' H'->Kp G H G' H'->Q v H'
def qm9 (K:Frg) (G:Gp) (H:Hp) (q:Bool->Gp->Prop) (Q:Bool->Hp->Prop):Prop:=∀ x G',q x G'->∀ H',HR K G' H'->Kp G H G' H'->Q x H'
def qqw (K:Frg) (G:Gp) (H:Hp) (q:List T->Gp->Prop) (Q:List V->Hp->Prop):Prop:=∀ x G',q x G'->∀ v H',Rps K H' x v->HR K G' H'->Kp G H G' H'->Q v H'
def lE (K:Frg) (t:TE3):TE:=λσ H Q=>∃ τ G q,Rel K τ G σ H/\t τ G q/\Aft K G H q Q
def lT (K:Frg) (t:TT3):TT:=λσ H Q=>∃ τ G q,Rel K τ G σ H/\t τ G q/\qm9 K G H q Q
def lA (K:Frg) (t:TA3):TA:=λσ H Q=>∃ τ G q,Rel K τ G σ H/\t τ G q/\qqw K G H q Q
abbrev E3 (X:Cx) (e:Expr) (t:TE3):Prop:=PE X e (lE X.K t)
abbrev C3 (X:Cx) (e:Expr) (t:TT3):Prop:=PT X e (lT X.K t)
abbrev W3 (X:Cx) (e:Expr) (t:TT3):Prop:=PW X e (lT X.K t)
abbrev A3 (X:Cx) (es:List Expr) (t:TA3):Prop:=PA X es (lA X.K t)
def Aft.back {K:Frg} {G G1:Gp} {H H1:Hp} {q:Q3} {Q:VK} (a:Aft K G H q Q) (k:Kp G H G1 H1):Aft K G1 H1 q Q:=λx G' h v H' r hr k'=>a x G' h v H' r hr (k.trans k')
def qm9.back {K:Frg} {G G1:Gp} {H H1:Hp} {q:Bool->Gp->Prop} {Q:Bool->Hp->Prop} (a:qm9 K G H q Q) (k:Kp G H G1 H1):qm9 K G1 H1 q Q:=λx G' h H' hr k'=>a x G' h H' hr (k.trans k')
def DC {X:Cx} {e:Expr} {t t':TE} (h:PE X e t) (w:∀ σ H Q,t' σ H Q->t σ H Q):PE X e t':=λpins s σ H Q I q=>h pins s σ H Q I (w σ H Q q)
def qni {X:Cx} {e:Expr} {t t':TT} (h:PT X e t) (w:∀ σ H Q,t' σ H Q->t σ H Q):PT X e t':=λpins s σ H Q I q=>h pins s σ H Q I (w σ H Q q)
def qpD {X:Cx} {e:Expr} {t t':TT} (h:PW X e t) (w:∀ σ H Q,t' σ H Q->t σ H Q):PW X e t':=λwh pins s σ H Q I q=>h wh pins s σ H Q I (w σ H Q q)
def qpC {X:Cx} {e:List Expr} {t t':TA} (h:PA X e t) (w:∀ σ H Q,t' σ H Q->t σ H Q):PA X e t':=λpos pins s σ H Q I q=>h pos pins s σ H Q I (w σ H Q q)
def zf {K:Frg} {ta:TE3} {τ:St3} {G:Gp} {σ:L2.St} {H:Hp} {q:Q3} {Q:VK} (r:Rel K τ G σ H) (h:ta τ G q)
  (n:∀ x G1,q x G1->∀ v H1,Rp K H1 x v->HR K G1 H1->Kp G H G1 H1->Rel K τ G1 σ H1->Q v H1):lE K ta σ H Q:=
 ⟨τ,G,q,r,h,λx G1 hq v H1 rx hr k=>n x G1 hq v H1 rx hr k (r.next hr k)⟩
def RX {K:Frg} {ta:TT3} {τ:St3} {G:Gp} {σ:L2.St} {H:Hp} {q:Bool->Gp->Prop} {Q:Bool->Hp->Prop} (r:Rel K τ G σ H) (h:ta τ G q)
  (n:∀ x G1,q x G1->∀ H1,HR K G1 H1->Kp G H G1 H1->Rel K τ G1 σ H1->Q x H1):lT K ta σ H Q:=
 ⟨τ,G,q,r,h,λx G1 hq H1 hr k=>n x G1 hq H1 hr k (r.next hr k)⟩
def Z3 {K:Frg} {ta:TA3} {τ:St3} {G:Gp} {σ:L2.St} {H:Hp} {q:List T->Gp->Prop} {Q:List V->Hp->Prop} (r:Rel K τ G σ H) (h:ta τ G q)
  (n:∀ x G1,q x G1->∀ v H1,Rps K H1 x v->HR K G1 H1->Kp G H G1 H1->Rel K τ G1 σ H1->Q v H1):lA K ta σ H Q:=
 ⟨τ,G,q,r,h,λx G1 hq v H1 rx hr k=>n x G1 hq v H1 rx hr k (r.next hr k)⟩
section
variable {X:Cx} {a b c:Expr} {ta tb tc:TE3} {pos:Pos}
def v3 (i:Nat):TE3:=λτ G q=>match τ[i]? with|some (some t)=>q t G|_=>False
def c3 (t:T):TE3:=λ_ G q=>q t G
def e_c {t:T} {v:V} {e:Expr} (h:PE X e (tC v)) (hr:∀ H,Rp X.K H t v):E3 X e (c3 t):=DC h λσ H Q ⟨τ,G,q,r,h,af⟩=>af t G h v H (hr H) r.hp Kp.refl
def n3:TE3:=λ_ _ _=>False
abbrev R3:=T->T->Gp->Q3->Prop
def XD (K:Frg) (r3:R3) (r:R2):Prop:=∀ x y v u G H q Q,HR K G H->Rp K H x v->Rp K H y u->r3 x y G q->Aft K G H q Q->r v u H Q
def o3 (r:R3) (ta tb:TE3):TE3:=λτ G q=>ta τ G λx G1=>tb τ G1 λy G2=>r x y G2 q
def qbs {K:Frg} {r3:R3} {r:R2} (hr:XD K r3 r) {σ:L2.St} {H:Hp} {Q:VK} (h:lE K (o3 r3 ta tb) σ H Q):tOp r (lE K ta) (lE K tb) σ H Q:=by
 obtain ⟨τ,G,q,rl,h,af⟩:=h;refine zf rl h λx G1 h1 v H1 rx hr1 k1 rl1=>zf rl1 h1 λy G2 h2 u H2 ry hr2 k2 rl2=>?_;exact hr x y v u G2 H2 q Q hr2 (rx.keep hr1 k2) ry h2 (af.back (k1.trans k2))
def qaU {op:Operator} {r3:R3} {r:R2} (ho:OpR X (binaryOp op) r) (hr:XD X.K r3 r) (ha:E3 X a ta) (hb:E3 X b tb):E3 X (.BinOp a op b pos) (o3 r3 ta tb):=
 DC (qol ho ha hb) λ_ _ _ h=>qbs hr h
def tb3 (t:TE3):TT3:=λτ G q=>t τ G λx G'=>match x with|.bl k=>q k G'|_=>False
def qho {K:Frg} {t:TE3} {t2:TE} (hw:∀ σ H Q,lE K t σ H Q->t2 σ H Q) {σ:L2.St} {H:Hp} {Q:Bool->Hp->Prop} (h:lT K (tb3 t) σ H Q):qg7 t2 σ H Q:=by
 obtain ⟨τ,G,q,rl,h,af⟩:=h;refine hw _ _ _ (zf rl h λx G1 h1 v H1 rx hr1 k1 rl1=>?_);cases x with
 |bl k=>cases rx;exact ⟨k,rfl,af k G1 h1 H1 hr1 k1⟩
 |_=>exact h1.elim
def ch3 (r r':R3) (ta tb tc:TE3):TE3:=λτ G q=>ta τ G λx G1=>tb τ G1 λy G2=>r x y G2 λz G3=>match z with
 |.bl k=>if k=true then tc τ G3 λw G4=>r' y w G4 q else q (.bl false) G3
 |_=>False
def qoj {K:Frg} {r3 r3':R3} {r r':R2} (hr:XD K r3 r) (hr':XD K r3' r') {σ:L2.St} {H:Hp} {Q:VK} (h:lE K (ch3 r3 r3' ta tb tc) σ H Q):qfg r r' (lE K ta) (lE K tb) (lE K tc) σ H Q:=by
 obtain ⟨τ,G,q,rl,h,af⟩:=h;refine zf rl h λx G1 h1 v H1 rx hr1 k1 rl1=>zf rl1 h1 λy G2 h2 u H2 ry hr2 k2 rl2=>?_;refine hr x y v u G2 H2 _ _ hr2 (rx.keep hr1 k2) ry h2 λz G3 h3 w H3 rz hr3 k3=>?_;cases z with
 |bl k=>
  cases rz;refine ⟨k,rfl,?_⟩;cases k with
  |false=>
   rw [if_neg y8];rw [show (match T.bl false with|.bl k=>if k=true then tc τ G3 λw G4=>r3' y w G4 q else q (.bl false) G3|_=>False)=q (.bl false) G3 from by simp] at h3;exact af _ G3 h3 _ H3 (.bl false) hr3 ((k1.trans k2).trans k3)
  |true=>
   rw [if_pos rfl];refine zf (rl2.next hr3 k3) (show tc τ G3 λw G4=>r3' y w G4 q from by simpa using h3) λw G4 h4 w' H4 rw' hr4 k4 rl4=>?_;exact hr' y w _ _ G4 H4 q Q hr4 ((ry.keep hr2 k3).keep hr3 k4) rw' h4 (af.back (((k1.trans k2).trans k3).trans k4))
 |_=>exact h3.elim
def qo7 (K:Frg) (r3:T->Gp->Q3->Prop) (r:V->Hp->VK->Prop):Prop:=∀ x v G H q Q,HR K G H->Rp K H x v->r3 x G q->Aft K G H q Q->r v H Q
def u3 (r:T->Gp->Q3->Prop) (ta:TE3):TE3:=λτ G q=>ta τ G λx G1=>r x G1 q
def qp8 {op:UnaryOp} {r3:T->Gp->Q3->Prop} {r:V->Hp->VK->Prop} (ho:UnR X (unaryOp op) r) (hr:qo7 X.K r3 r) (ha:E3 X a ta):E3 X (.UnaryOp op a pos) (u3 r3 ta):=
 DC (qoW ho ha) λ_ _ _ ⟨τ,G,q,rl,h,af⟩=>zf rl h λx G1 h1 v H1 rx hr1 k1 rl1=>hr x v G1 H1 q _ hr1 rx h1 (af.back k1)
def qdF:T->Gp->Q3->Prop:=λx G q=>match x with|.int i=>q (.int (-i)) G|_=>False
def qh3 {K:Frg}:qo7 K qdF (rU λi=>.int (-i)):=λx v G H q Q hr rx h af=>by
 cases x with
 |int i=>cases rx;exact ⟨i,rfl,af _ G h _ H (.int _) hr Kp.refl⟩
 |_=>exact h.elim
def iI (f:Int->Int->Int):R3:=λx y G q=>match x,y with|.int i,.int j=>q (.int (f i j)) G|_,_=>False
def iC (C:Int->Int->Prop) (f:Int->Int->Int):R3:=λx y G q=>match x,y with|.int i,.int j=>C i j/\q (.int (f i j)) G|_,_=>False
def iB (f:Int->Int->Bool):R3:=λx y G q=>match x,y with|.int i,.int j=>q (.bl (f i j)) G|_,_=>False
def qbz {K:Frg} {f:Int->Int->Int}:XD K (iI f) (rI0 λi j=>.int (f i j)):=λx y v u G H q Q hr rx ry h af=>by
 cases x<;>try exact h.elim
 cases y<;>try exact h.elim
 cases rx;cases ry;exact ⟨_,_,rfl,rfl,af _ G h _ H (.int _) hr Kp.refl⟩
def XX {K:Frg} {C:Int->Int->Prop} {f:Int->Int->Int}:XD K (iC C f) (rI C λi j=>.int (f i j)):=λx y v u G H q Q hr rx ry h af=>by
 cases x<;>try exact h.elim
 cases y<;>try exact h.elim
 cases rx;cases ry;exact ⟨_,_,rfl,rfl,h.1,af _ G h.2 _ H (.int _) hr Kp.refl⟩
def jK {K:Frg} {f:Int->Int->Bool}:XD K (iB f) (rI0 λi j=>.bl (f i j)):=λx y v u G H q Q hr rx ry h af=>by
 cases x<;>try exact h.elim
 cases y<;>try exact h.elim
 cases rx;cases ry;exact ⟨_,_,rfl,rfl,af _ G h _ H (.bl _) hr Kp.refl⟩
def qeU:T->T->Option Bool
 |.non,.non=>some true|.non,.int _=>some false|.int _,.non=>some false|.non,.bl _=>some false|.bl _,.non=>some false|.non,.str _=>some false|.str _,.non=>some false
 |.int i,.int j=>some (decide (i=j))|.bl i,.bl j=>some (decide (i=j))|.str i,.str j=>some (decide (i=j))
 |.int _,.str _=>some false|.str _,.int _=>some false|.bl _,.str _=>some false|.str _,.bl _=>some false
 |_,_=>none
def M3 {K:Frg} {H:Hp} {x y:T} {v u:V} {k:Bool} (rx:Rp K H x v) (ry:Rp K H y u) (h:qeU x y=some k):qoL v u=true/\decide (v=u)=k:=by
 cases rx<;>cases ry<;>simp [qeU] at h<;>subst h<;>refine ⟨rfl,?_⟩<;>simp
def qas (neg:Bool):R3:=λx y G q=>match y with|.non=>q (.bl (match x with|.non=>!neg|_=>neg)) G|_=>False
def qe6 {K:Frg} {H:Hp} {x:T} {v:V} (rx:Rp K H x v):decide (v=.non)=(match x with|.non=>true|_=>false):=by
 cases rx<;>simp
def CF {K:Frg}:XD K (qas false) (λx y H Q=>y=.non/\Q (.bl (decide (x=.non))) H):=λx y v u G H q Q hr rx ry h af=>by
 cases y<;>try exact h.elim
 cases ry;refine ⟨rfl,?_⟩;rw [qe6 rx];refine af _ G h _ H ?_ hr Kp.refl;cases x<;>exact .bl _
def MM {K:Frg}:XD K (qas true) (λx y H Q=>y=.non/\Q (.bl (!decide (x=.non))) H):=λx y v u G H q Q hr rx ry h af=>by
 cases y<;>try exact h.elim
 cases ry;refine ⟨rfl,?_⟩;rw [qe6 rx];refine af _ G h _ H ?_ hr Kp.refl;cases x<;>exact .bl _
variable {tA tB:TT3} {QG:List Expr}
def qgi (t u:TT3):TT3:=λτ G q=>t τ G λk G1=>if k=true then u τ G1 q else q false G1
def or3 (t u:TT3):TT3:=λτ G q=>t τ G λk G1=>if k=true then q true G1 else u τ G1 q
def qaS (t:TT3):TT3:=λτ G q=>t τ G λk G1=>q (!k) G1
def RJ (ta tb:TE3):TE3:=λτ G q=>ta τ G λx G1=>match x with|.bl k=>if k=true then tb τ G1 q else q (.bl false) G1|_=>False
def qhz (ta:TE3):TE3:=λτ G q=>ta τ G λx G1=>match x with|.bl k=>q (.bl (!k)) G1|_=>False
def if3 (t:TT3) (ta tb:TE3):TE3:=λτ G q=>t τ G λk G1=>if k=true then ta τ G1 q else tb τ G1 q
variable {e:Expr} {es:List Expr} {te:TE3} {t:TA3}
def qj:TA3:=λ_ G q=>q [] G
def qc (ta:TE3) (tr:TA3):TA3:=λτ G q=>ta τ G λx G1=>tr τ G1 λxs G2=>q (x::xs) G2
def XJ (t:TA3):TE3:=λτ G q=>t τ G λxs G1=>xs.length<=sizeLine/\q (.tup xs) G1
def jO (t:TA3):TE3:=λτ G q=>t τ G λxs G1=>xs.length<=sizeLine/\∀ p,G1 p=none->q (.ref p) (gu G1 p (.lst xs))
def qaV (K:Frg) (r3:List T->Gp->Q3->Prop) (r:List V->Hp->VK->Prop):Prop:=∀ xs vs G H q Q,HR K G H->Rps K H xs vs->r3 xs G q->Aft K G H q Q->r vs H Q
def cb3 (r:List T->Gp->Q3->Prop) (t:TA3):TE3:=λτ G q=>t τ G λxs G1=>r xs G1 q
def qkY {K:Frg} {r3:List T->Gp->Q3->Prop} {r:List V->Hp->VK->Prop} (hr:qaV K r3 r) {σ:L2.St} {H:Hp} {Q:VK} (h:lE K (cb3 r3 t) σ H Q):tCB r (lA K t) σ H Q:=by
 obtain ⟨τ,G,q,rl,h,af⟩:=h;exact Z3 rl h λxs G1 h1 vs H1 rs hr1 k1 rl1=>hr xs vs G1 H1 q Q hr1 rs h1 (af.back k1)
end
def getL (G:Gp) (p:Addr):Option (List T):=match G p with|some (.lst xs)=>some xs|some (.frz xs)=>some xs|_=>none
section
variable {K:Frg} {G G':Gp} {H H':Hp}
def zz (hr:HR K G H) {p:Addr} {xs:List T} (h:getL G p=some xs):∃ vs,SqL K H p vs/\Rps K H xs vs:=by
 unfold getL at h;split at h
 ·rename_i ys e;cases h;obtain ⟨vs,h1,h2⟩:=hr p _ e;exact ⟨vs,SqL.of h1,h2⟩
 ·rename_i ys e;cases h;obtain ⟨vs,⟨o,h1⟩,h2⟩:=hr p _ e;exact ⟨vs,.inl (.inr ⟨o,h1⟩),h2⟩
 ·cases h
theorem HR.lst (hr:HR K G H) {p:Addr} {xs:List T} (h:G p=some (.lst xs)):∃ vs,H p=some (.lst vs)/\Rps K H xs vs:=hr p _ h
theorem Rps.atI {xs:List T} {vs:List V} {i:Int} {x:T} (r:Rps K H xs vs) (h:atI xs i=some x):∃ v,L2.atI vs i=some v/\Rp K H x v:=by
 unfold L2.atI at h ⊢;rw [← r.length];cases e:ixN xs.length i with
 |none=>rw [e] at h;cases h
 |some j=>
  rw [e] at h;exact r.get (by simpa using h)
end
def ix3:R3:=λx y G q=>match x,y with
 |.tup xs,.int i=>(match atI xs i with|some z=>q z G|none=>False)
 |.ref p,.int i=>(match getL G p with|some xs=>(match atI xs i with|some z=>q z G|none=>False)|none=>False)
 |_,_=>False
section
variable {X:Cx} {a b c e:Expr} {es:List Expr} {ta tb tc te:TE3} {t:TA3} {pos:Pos}
def qlZ {K:Frg}:XD K ix3 (rIx K):=λx y v u G H q Q hr rx ry h af=>by
 cases x<;>try exact h.elim
 case tup xs=>
  cases y<;>try exact h.elim
  case int i=>
   unfold ix3 at h;simp only at h;split at h
   ·rename_i z e;cases ry;cases rx with
    |tup hs rs=>
     obtain ⟨w,e2,rw'⟩:=rs.atI e;exact .inr (.inl ⟨_,_,i,w,rfl,rfl,hs,e2,af z G h w H rw' hr Kp.refl⟩)
   ·exact h.elim
 case ref p=>
  cases y<;>try exact h.elim
  case int i=>
   unfold ix3 at h;simp only at h;split at h
   ·rename_i xs e0;split at h
    ·rename_i z e;cases ry;cases rx;obtain ⟨vs,hs,rs⟩:=zz hr e0;obtain ⟨w,e2,rw'⟩:=rs.atI e;exact .inl ⟨p,vs,i,w,rfl,rfl,hs,e2,af z G h w H rw' hr Kp.refl⟩
    ·exact h.elim
   ·exact h.elim
def VL {α:Type} (xs:List α) (lo hi:Option Int):List α:=(xs.drop (HT.sIx xs.length 0 lo)).take (HT.sIx xs.length xs.length hi-HT.sIx xs.length 0 lo)
def Rps.cut {K:Frg} {H:Hp} {xs:List T} {vs:List V} (r:Rps K H xs vs) (lo hi:Option Int):Rps K H (VL xs lo hi) (qgJ vs lo hi):=by
 unfold VL qgJ;rw [r.length];exact (r.drop _).take _
abbrev TO3:=St3->Gp->(Option Int->Gp->Prop)->Prop
def lO (K:Frg) (t:TO3):TO:=λσ H Q=>∃ τ G q,Rel K τ G σ H/\t τ G q/\∀ x G',q x G'->∀ H',HR K G' H'->Kp G H G' H'->Q x H'
abbrev P3 (X:Cx) (e:Option Expr) (t:TO3):Prop:=PO X e (lO X.K t)
def np3:TO3:=λ_ G q=>q none G
def sp3 (t:TE3):TO3:=λτ G q=>t τ G λx G1=>match x with|.int i=>q (some i) G1|_=>False
def qo2 {X:Cx} {e:Option Expr} {t t':TO} (h:PO X e t) (w:∀ σ H Q,t' σ H Q->t σ H Q):PO X e t':=λpins s σ H Q I q=>h pins s σ H Q I (w σ H Q q)
def sl3:T->Option Int->Option Int->Gp->Q3->Prop:=λx lo hi G q=>match x with
 |.tup xs=>¬ (HT.sIx xs.length 0 lo=0/\HT.sIx xs.length xs.length hi=xs.length)/\q (.tup (VL xs lo hi)) G
 |.ref p=>(match getL G p with|some xs=>∀ a,G a=none->q (.ref a) (gu G a (.lst (VL xs lo hi)))|none=>False)
 |_=>False
def qnf (te:TE3) (tl th:TO3):TE3:=λτ G q=>te τ G λx G1=>tl τ G1 λl G2=>th τ G2 λu G3=>sl3 x l u G3 q
def qbN {K:Frg} {H:Hp} {xs:List T} {vs:List V} (r:Rps K H xs vs):vs=[]↔xs=[]:=by
 cases r<;>simp
def ZX:R3:=λx y G q=>match x,y with
 |.tup xs,.tup ys=>xs≠[]/\xs.length+ys.length<=sizeLine/\q (.tup (xs++ys)) G
 |.ref a,.ref b=>(match G a,G b with|some (.lst xs),some (.lst ys)=>xs.length+ys.length<=sizeLine/\∀ p,G p=none->q (.ref p) (gu G p (.lst (xs++ys)))|_,_=>False)
 |.int i,.int j=>q (.int (i+j)) G
 |_,_=>False
def RT {K:Frg}:XD K ZX (λx y H Q=>(rI0 (λi j=>.int (i+j)) x y H Q\/qhE K x y H Q)\/qoF x y H Q):=λx y v u G H q Q hr rx ry h af=>by
 cases x<;>try exact h.elim
 case int i=>
  cases y<;>try exact h.elim
  cases rx;cases ry;exact .inl (.inl ⟨_,_,rfl,rfl,af _ G h _ H (.int _) hr Kp.refl⟩)
 case tup xs=>
  cases y<;>try exact h.elim
  case tup ys=>
   obtain ⟨h1,h2,h3⟩:=h;cases rx with
   |tup hs rs=>
    cases ry with
    |tup hs' rs'=>
     refine .inl (.inr ⟨_,_,_,_,rfl,rfl,hs,hs',λz=>h1 ((qbN rs).mp z),by rw [← rs.length,← rs'.length];exact h2,λz=>?_,λz p hp=>?_⟩)
     ·have e:=(qbN rs').mp z;subst e;rw [List.append_nil] at h3;exact af _ G h3 _ H (.tup hs rs) hr Kp.refl
     ·exact af _ G h3 _ _ (.tup (SqT.of qI) ((rs.append rs').keep hr (Kp.laid hp))) (hr.laid hp) (Kp.laid hp)
 case ref a=>
  cases y<;>try exact h.elim
  case ref b=>
   unfold ZX at h;simp only at h;split at h
   ·rename_i xs ys e1 e2;cases rx;cases ry;obtain ⟨vs,g1,r1⟩:=hr.lst e1;obtain ⟨us,g2,r2⟩:=hr.lst e2;refine .inr ⟨a,b,vs,us,rfl,rfl,g1,g2,by rw [← r1.length,← r2.length];exact h.1,λp hp=>?_⟩;exact af _ _ (h.2 p (hr.free hp)) _ _ (.ref p) (hr.newL hp (r1.append r2)) (Kp.newL hp)
   ·exact h.elim
def WI:T->Bool
 |.non=>true|.bl _=>true|.int _=>true|.str _=>true|_=>false
def eqF:T->T->Bool
 |.non,.non=>true
 |.bl a,.bl b=>a==b
 |.bl a,.int b=>(if a then 1 else 0)==b
 |.int a,.bl b=>a==(if b then 1 else 0)
 |.int a,.int b=>a==b
 |.str a,.str b=>a==b
 |_,_=>false
def KY {K:Frg} {H:Hp} {x:T} {v:V} (r:Rp K H x v) (h:WI x=true):XU v=true:=by
 cases r<;>first|rfl|(cases h)
theorem CI {K:Frg} {H:Hp}:∀ {x:List T} {v:List V},Rps K H x v->x.all WI=true->v.all XU=true
 |_,_,.nil,_=>rfl
 |_,_,.cons a b,h=>by
  rw [List.all_cons,Bool.and_eq_true] at h ⊢;exact ⟨KY a h.1,CI b h.2⟩
def qkz {K:Frg} {H:Hp} {x y:T} {v u:V} (r:Rp K H x v) (s:Rp K H y u) (h:WI x=true) (h':WI y=true):eqV v u=eqF x y:=by
 cases r<;>first|(cases h;done)|(cases s<;>first|rfl|(cases h';done))
theorem qbS {K:Frg} {H:Hp} {x:T} {v:V} (r:Rp K H x v) (h:WI x=true):∀ {ys:List T} {us:List V},Rps K H ys us->ys.all WI=true->inV v us=ys.any λy=>eqF y x
 |_,_,.nil,_=>rfl
 |_,_,.cons a b,h'=>by
  rw [List.all_cons,Bool.and_eq_true] at h';unfold inV;rw [List.any_cons,List.any_cons,qkz a r h'.1 h];congr 1;exact qbS r h b h'.2
def in3 (neg:Bool):R3:=λx y G q=>WI x=true/\match y with
 |.tup ys=>ys.all WI=true/\q (.bl (if neg then !(ys.any λy=>eqF y x) else (ys.any λy=>eqF y x))) G
 |.ref p=>(match getL G p with|some ys=>ys.all WI=true/\q (.bl (if neg then !(ys.any λy=>eqF y x) else (ys.any λy=>eqF y x))) G|none=>False)
 |_=>False
def qcJ {K:Frg} {neg:Bool}:XD K (in3 neg) (rIn K neg):=λx y v u G H q Q hr rx ry h af=>by
 obtain ⟨hf,h⟩:=h;cases y<;>try exact h.elim
 case tup ys=>
  cases ry with
  |tup hs rs=>
   refine ⟨_,_,rfl,.inr hs,KY rx hf,CI rs h.1,?_⟩;rw [qbS rx hf rs h.1];exact af _ G h.2 _ H (.bl _) hr Kp.refl
 case ref p=>
  simp only at h;split at h
  ·rename_i ys e;cases ry;obtain ⟨us,hs,rs⟩:=zz hr e;refine ⟨_,_,rfl,.inl hs,KY rx hf,CI rs h.1,?_⟩;rw [qbS rx hf rs h.1];exact af _ G h.2 _ H (.bl _) hr Kp.refl
  ·exact h.elim
def UD:List T->Gp->Q3->Prop:=λxs G q=>match xs with
 |[.tup ys]=>q (.int ys.length) G
 |[.str y]=>y.length<=sizeLine/\q (.int y.length) G
 |[.ref p]=>(match getL G p with|some ys=>q (.int ys.length) G|none=>False)
 |_=>False
def T7 {K:Frg} {H:Hp} {x:T} {vs:List V} (r:Rps K H [x] vs):∃ v,vs=[v]/\Rp K H x v:=by
 cases r with
 |cons a b=>cases b;exact ⟨_,rfl,a⟩
def qnT {K:Frg} {H:Hp} {x y:T} {vs:List V} (r:Rps K H [x,y] vs):∃ v u,vs=[v,u]/\Rp K H x v/\Rp K H y u:=by
 cases r with
 |cons a b=>cases b with|cons c d=>cases d;exact ⟨_,_,rfl,a,c⟩
def zv {K:Frg}:qaV K UD (λxs H Q=>∃ x n,xs=[x]/\qo9 K x H n/\Q (.int n) H):=λxs vs G H q Q hr rs h af=>by
 unfold UD at h;split at h
 ·obtain ⟨v,rfl,r⟩:=T7 rs;cases r with
  |tup hs r2=>exact ⟨_,_,rfl,.inr ⟨_,hs,rfl⟩,by rw [← r2.length];exact af _ G h _ H (.int _) hr Kp.refl⟩
 ·obtain ⟨v,rfl,r⟩:=T7 rs;cases r;exact ⟨_,_,rfl,⟨h.1,rfl⟩,af _ G h.2 _ H (.int _) hr Kp.refl⟩
 ·obtain ⟨v,rfl,r⟩:=T7 rs;split at h
  ·rename_i ys e;cases r;obtain ⟨us,hs,r2⟩:=zz hr e;exact ⟨_,_,rfl,.inl ⟨_,hs,rfl⟩,by rw [← r2.length];exact af _ G h _ H (.int _) hr Kp.refl⟩
  ·exact h.elim
 ·exact h.elim
def qmm:List T->Gp->Q3->Prop:=λxs G q=>match xs with|[.int i]=>q (.int (if i<0 then -i else i)) G|_=>False
def qcE {K:Frg}:qaV K qmm (λxs H Q=>∃ i,xs=[.int i]/\Q (.int (if i<0 then -i else i)) H):=λxs vs G H q Q hr rs h af=>by
 unfold qmm at h;split at h
 ·obtain ⟨v,rfl,r⟩:=T7 rs;cases r;exact ⟨_,rfl,af _ G h _ H (.int _) hr Kp.refl⟩
 ·exact h.elim
def qfV:List T->Gp->Q3->Prop:=λxs G q=>match xs with|[.int i,.int j]=>q (.int (if j<i then j else i)) G|_=>False
def K5 {K:Frg}:qaV K qfV (λxs H Q=>∃ i j,xs=[.int i,.int j]/\Q (.int (if j<i then j else i)) H):=λxs vs G H q Q hr rs h af=>by
 unfold qfV at h;split at h
 ·obtain ⟨v,u,rfl,r,r'⟩:=qnT rs;cases r;cases r';exact ⟨_,_,rfl,af _ G h _ H (.int _) hr Kp.refl⟩
 ·exact h.elim
def qmv:List T->Gp->Q3->Prop:=λxs G q=>match xs with|[.int i,.int j]=>q (.int (if j > i then j else i)) G|_=>False
def qia {K:Frg}:qaV K qmv (λxs H Q=>∃ i j,xs=[.int i,.int j]/\Q (.int (if j > i then j else i)) H):=λxs vs G H q Q hr rs h af=>by
 unfold qmv at h;split at h
 ·obtain ⟨v,u,rfl,r,r'⟩:=qnT rs;cases r;cases r';exact ⟨_,_,rfl,af _ G h _ H (.int _) hr Kp.refl⟩
 ·exact h.elim
def qc1:List T->Gp->Q3->Prop:=λxs G q=>match xs with|[.int i]=>q (.int i) G|[.bl k]=>q (.int (if k then 1 else 0)) G|_=>False
def W2 {K:Frg}:qaV K qc1 (λxs H Q=>(∃ i,xs=[.int i]/\Q (.int i) H)\/∃ k,xs=[.bl k]/\Q (.int (if k then 1 else 0)) H):=λxs vs G H q Q hr rs h af=>by
 unfold qc1 at h;split at h
 ·obtain ⟨v,rfl,r⟩:=T7 rs;cases r;exact .inl ⟨_,rfl,af _ G h _ H (.int _) hr Kp.refl⟩
 ·obtain ⟨v,rfl,r⟩:=T7 rs;cases r;exact .inr ⟨_,rfl,af _ G h _ H (.int _) hr Kp.refl⟩
 ·exact h.elim
def EI:List T->Gp->Q3->Prop:=λxs G q=>match xs with
 |[.tup ys]=>q (.tup ys) G
 |[.ref p]=>(match getL G p with|some ys=>q (.tup ys) G|none=>False)
 |_=>False
def VM {K:Frg}:qaV K EI (λxs H Q=>∃ p ys,xs=[.ref p]/\((SqL K H p ys/\∀ l,H l=none->Q (.ref l) (upd H l (.tup ys)))\/(SqT K H p ys/\Q (.ref p) H))):=λxs vs G H q Q hr rs h af=>by
 unfold EI at h;split at h
 ·obtain ⟨v,rfl,r⟩:=T7 rs;cases r with
  |tup hs r2=>exact ⟨_,_,rfl,.inr ⟨hs,af _ G h _ H (.tup hs r2) hr Kp.refl⟩⟩
 ·obtain ⟨v,rfl,r⟩:=T7 rs;split at h
  ·rename_i ys e;cases r;obtain ⟨us,hs,r2⟩:=zz hr e;exact ⟨_,_,rfl,.inl ⟨hs,λl hl=>af _ G h _ _ (.tup (SqT.of qI) (r2.keep hr (Kp.laid hl))) (hr.laid hl) (Kp.laid hl)⟩⟩
  ·exact h.elim
 ·exact h.elim
def qal:List T->Gp->Q3->Prop:=λxs G q=>match xs with
 |[.tup ys]=>∀ p,G p=none->q (.ref p) (gu G p (.lst ys))
 |[.ref p]=>(match getL G p with|some ys=>∀ p,G p=none->q (.ref p) (gu G p (.lst ys))|none=>False)
 |_=>False
def NE {K:Frg}:qaV K qal (λxs H Q=>∃ p ys,xs=[.ref p]/\(SqL K H p ys\/SqT K H p ys)/\∀ l,H l=none->Q (.ref l) (upd H l (.lst ys))):=λxs vs G H q Q hr rs h af=>by
 unfold qal at h;split at h
 ·obtain ⟨v,rfl,r⟩:=T7 rs;cases r with
  |tup hs r2=>exact ⟨_,_,rfl,.inr hs,λl hl=>af _ _ (h l (hr.free hl)) _ _ (.ref l) (hr.newL hl r2) (Kp.newL hl)⟩
 ·obtain ⟨v,rfl,r⟩:=T7 rs;split at h
  ·rename_i ys e;cases r;obtain ⟨us,hs,r2⟩:=zz hr e;exact ⟨_,_,rfl,.inl hs,λl hl=>af _ _ (h l (hr.free hl)) _ _ (.ref l) (hr.newL hl r2) (Kp.newL hl)⟩
  ·exact h.elim
 ·exact h.elim
def qhK:T->List T->Gp->Q3->Prop:=λx xs G q=>match x,xs with
 |.ref l,[.ref b]=>(match G l,G b with|some (.lst ys),some (.lst zs)=>ys.length+zs.length<=sizeLine/\q .non (gu G l (.lst (ys++zs)))|_,_=>False)
 |_,_=>False
def qaT:T->List T->Gp->Q3->Prop:=λx xs G q=>match x,xs with
 |.ref l,[y]=>(match G l with|some (.lst ys)=>ys.length<sizeLine/\q .non (gu G l (.lst (ys++[y])))|_=>False)
 |_,_=>False
def qo0 (K:Frg) (r3:T->List T->Gp->Q3->Prop) (r:V->List V->Hp->VK->Prop):Prop:=∀ x xs v vs G H q Q,HR K G H->Rp K H x v->Rps K H xs vs->r3 x xs G q->Aft K G H q Q->r v vs H Q
def qiF {K:Frg}:qo0 K qhK qcx:=λx xs v vs G H q Q hr rx rs h af=>by
 unfold qhK at h;split at h
 ·rename_i l b;split at h
  ·rename_i ys zs e1 e2;cases rx;obtain ⟨u,rfl,r⟩:=T7 rs;cases r;obtain ⟨vs,g1,r1⟩:=hr.lst e1;obtain ⟨us,g2,r2⟩:=hr.lst e2;exact ⟨l,b,vs,us,rfl,rfl,g1,g2,by rw [← r1.length,← r2.length];exact h.1,af _ _ h.2 _ _ .non (hr.wr e1 (r1.append r2)) (Kp.wr e1)⟩
  ·exact h.elim
 ·exact h.elim
def qiq {K:Frg}:qo0 K qaT qbe:=λx xs v vs G H q Q hr rx rs h af=>by
 unfold qaT at h;split at h
 ·rename_i l y;split at h
  ·rename_i ys e1;cases rx;obtain ⟨u,rfl,r⟩:=T7 rs;obtain ⟨vs,g1,r1⟩:=hr.lst e1;exact ⟨l,vs,u,rfl,rfl,g1,by rw [← r1.length];exact h.1,af _ _ h.2 _ _ .non (hr.wr e1 (r1.append (.cons r .nil))) (Kp.wr e1)⟩
  ·exact h.elim
 ·exact h.elim
def bm3 (r:T->List T->Gp->Q3->Prop) (to:TE3) (t:TA3):TE3:=λτ G q=>to τ G λx G1=>(match x with|.ref p=>(getL G1 p).isSome=true|_=>False)/\t τ G1 λxs G2=>r x xs G2 q
def qpB {o:Expr} {to:TE3} {name:Str} {apos cpos:Pos} {id:String} {r3:T->List T->Gp->Q3->Prop} {r:V->List V->Hp->VK->Prop} (slot:Slot "list" name id) (hty:typeOf (.builtin id)=pure (.type "method_descriptor")) (hm:MtR X id r) (hr:qo0 X.K r3 r) (ho:E3 X o to) (ha:A3 X (e::es) t)
  (hbase:attributeBase o name X.env (eval o X.env)=eval o X.env:=by rfl)
  (hfew:((backTo cpos (starEach (e::es) X.env)).all (λx=>!x.1)&&(backToKw cpos (keywordEach [] X.env)).all (λx=>x.1.isSome)
   && decide ((e::es).length+([]:List Keyword).length+(if ([]:List Keyword).isEmpty then 0 else 1)<30))=true:=by rfl)
  (hline:(apos.endLine==cpos.line)=true:=by rfl) (hs:starEach (e::es) X.env=(false,eval e X.env)::starEach es X.env:=by rfl) (hplain:(backTo cpos (starEach es X.env)).any (·.1)=false:=by rfl) :
  E3 X (.Call (.Attribute o name apos) (e::es) [] cpos) (bm3 r3 to t):=
 DC (qoV PySem.F.plainAttrs_list slot hty hm ho ha hbase hfew hline hs hplain) λ_ _ _ ⟨τ,G,q,rl,h,af⟩=>zf rl h λx G1 h1 v H1 rx hr1 k1 rl1=>by
  obtain ⟨hp,h1⟩:=h1;cases x<;>try exact hp.elim
  case ref p=>
   cases rx;have hp':(getL G1 p).isSome=true:=hp;obtain ⟨ys,e⟩:=Option.isSome_iff_exists.mp hp';obtain ⟨us,hs,r2⟩:=zz hr1 e;exact ⟨.inl ⟨rfl,us,hs⟩,Z3 rl1 h1 λxs G2 h2 vs H2 rs hr2 k2 rl2=>hr _ xs _ vs G2 H2 q _ hr2 (.ref p) rs h2 (af.back (k1.trans k2))⟩
end
def tyT (G:Gp):T->Option String
 |.non=>some "NoneType" |.bl _=>some "bool" |.int _=>some "int" |.str _=>some "str" |.tup _=>some "tuple"
 |.ref p=>if (getL G p).isSome then some "list" else none
def ju (t c:String):Bool:=t==c||(t == "bool" && c == "int")
def CK (K:Frg):∀ t∈["NoneType","bool","int","str","tuple","list"],∀ c∈["bool","int","str","tuple","list"],PySem.W.kitOne K (.type t) (.type c)=some (ju t c):=by
 intro t ht c hc;simp only [mem_cons,not_mem_nil,or_false] at ht hc;rcases ht with rfl|rfl|rfl|rfl|rfl|rfl<;>rcases hc with rfl|rfl|rfl|rfl|rfl<;>kernel_rfl
section
variable {X:Cx} {a b c e:Expr} {es:List Expr} {ta tb tc te:TE3} {t:TA3} {pos:Pos}
def TyS (K:Frg) (H:Hp) (x:V) (t:String):Prop:=match x with
 |.non=>t="NoneType" |.bl _=>t="bool" |.int _=>t="int" |.str _=>t="str"
 |.ref a=>(t="tuple"/\∃ vs,SqT K H a vs)\/(t="list"/\∃ vs,SqL K H a vs)
 |_=>False
def TyS.mem {K:Frg} {H:Hp} {x:V} {t:String} (h:TyS K H x t):t∈["NoneType","bool","int","str","tuple","list"]:=by
 cases x<;>simp [TyS] at h<;>first|(subst h;decide)|(rcases h with ⟨rfl,_⟩|⟨rfl,_⟩<;>decide)
def TyS.kitx {pins:List (Addr×Obj)} {σ:L2.St} {H:Hp} {s:Shared} {x:V} {u:Value} {t:String} (I:Inv X pins σ H s) (rx:zO x u) (h:TyS X.K H x t) :
  ∃ HH:Heap->Prop,PySem.W.KitX X.K u (.type t) HH/\HH s.heap/\u≠.builtin "__main__.__loader__#opaque" := by
 cases x with
 |non=>cases (show u=Value.none from rx);cases (show t=_ from h);exact ⟨_,PySem.W.kitx_none,True.intro,λz=>nomatch z⟩
 |bl y=>cases (show u=Value.bool y from rx);cases (show t=_ from h);exact ⟨_,PySem.W.kitx_bool,True.intro,λz=>nomatch z⟩
 |int i=>obtain ⟨tk,q⟩:=(show ∃ t,u=Value.int i t from rx);cases q;cases (show t=_ from h);exact ⟨_,PySem.W.kitx_int,True.intro,λz=>nomatch z⟩
 |str y=>obtain ⟨tk,q⟩:=(show ∃ t,u=Value.str y t from rx);cases q;cases (show t=_ from h);exact ⟨_,PySem.W.kitx_str,True.intro,λz=>nomatch z⟩
 |ref a=>
  cases (show u=Value.ref a from rx);rcases (show (t="tuple"/\∃ vs,SqT X.K H a vs)\/(t="list"/\∃ vs,SqL X.K H a vs) from h) with ⟨rfl,vs,hs⟩|⟨rfl,vs,hs⟩
  ·obtain ⟨its,_,p,_⟩:=I.tuple hs;obtain ⟨o,h1,h2,_⟩:=p;exact ⟨_,PySem.W.kitx_tuple,⟨o,h1,h2⟩,λz=>nomatch z⟩
  ·obtain ⟨its,_,p,_⟩:=I.list hs;obtain ⟨o,n,h1,h2,_⟩:=p;exact ⟨_,PySem.W.kitx_list,⟨o,h1,h2⟩,λz=>nomatch z⟩
 |_=>exact False.elim h
abbrev Z2:List String:=["bool","int","str","tuple","list"]
def qdV:J3 X (.builtin "isinstance") (λxs H Q=>∃ x t c,xs=[x,.ty c]/\TyS X.K H x t/\c∈Z2/\Q (.bl (ju t c)) H):=by
 intro pins s σ H xs us Q I r h;obtain ⟨x,t,c,rfl,ht,hc,q⟩:=h;obtain ⟨u,w,rfl,rx,rc⟩:=qbo r;cases (show w=Value.type c from rc);obtain ⟨HH,kx,hh,ne⟩:=ht.kitx I rx;exact PySem.W.kia_one kx I.kIn hh (CK X.K t ht.mem c hc) ne λtk=>⟨.bl _,H,I.tok tk,rfl,q⟩
def qdY (K:Frg) {t c d:String} (ht:t∈["NoneType","bool","int","str","tuple","list"]) (hc:c∈Z2) (hd:d∈Z2):PySem.W.kitAny K (.type t) [.type c,.type d]=some (ju t c||ju t d):=by
 unfold PySem.W.kitAny;rw [CK K t ht c hc];cases ju t c with
 |true=>rfl
 |false=>
  show PySem.W.kitAny K (.type t) [.type d]=_;unfold PySem.W.kitAny;rw [CK K t ht d hd];cases ju t d<;>rfl
def qdg:J3 X (.builtin "isinstance") (λxs H Q=>∃ x t c d p,xs=[x,.ref p]/\H p=some (.tup [.ty c,.ty d])/\TyS X.K H x t/\c∈Z2/\d∈Z2/\Q (.bl (ju t c||ju t d)) H):=by
 intro pins s σ H xs us Q I r h;obtain ⟨x,t,c,d,p,rfl,hp,ht,hc,hd,q⟩:=h;obtain ⟨u,w,rfl,rx,rc⟩:=qbo r;cases (show w=Value.ref p from rc);obtain ⟨HH,kx,hh,ne⟩:=ht.kitx I rx;obtain ⟨_,its,rv,⟨o,ho,hcl,n,hda,_⟩⟩:=(show VE X.prog X.w H s.heap p (.tup [.ty c,.ty d]) from I.hok p _ hp)
 obtain ⟨u1,u2,rfl,r1,r2⟩:=qbo rv;cases (show u1=Value.type c from r1);cases (show u2=Value.type d from r2);obtain ⟨cl,dd,da,sl⟩:=o;cases (show cl=_ from hcl);cases (show da=_ from hda);exact PySem.W.kia_tup kx I.kIn hh ho (qdY X.K ht.mem hc hd) ne λtk=>⟨.bl _,H,I.tok tk,rfl,q⟩
def qfU {K:Frg} {G:Gp} {H:Hp} (hr:HR K G H) {x:T} {v:V} {t:String} (r:Rp K H x v) (h:tyT G x=some t):TyS K H v t:=by
 cases r with
 |non=>cases h;rfl
 |bl _=>cases h;rfl
 |int _=>cases h;rfl
 |str _=>cases h;rfl
 |tup hs rs=>cases h;exact .inl ⟨rfl,_,hs⟩
 |ref a=>
  have h:(if (getL G a).isSome then some "list" else none)=some t:=h;split at h
  ·rename_i e;cases h;obtain ⟨ys,e⟩:=Option.isSome_iff_exists.mp e;obtain ⟨us,hs,_⟩:=zz hr e;exact .inr ⟨rfl,us,hs⟩
  ·cases h
def NO (f:String->Bool) (te:TE3):TE3:=λτ G q=>te τ G λx G1=>match tyT G1 x with|some t=>q (.bl (f t)) G1|none=>False
structure Ends3 where
 nx:St3->Gp->Prop
 rt:Q3
 bk:St3->Gp->Prop:=λ_ _=>False
 ct:St3->Gp->Prop:=λ_ _=>False
abbrev TS3:=Ends3->St3->Gp->Prop
def qfP (K:Frg) (G:Gp) (H:Hp) (q:St3->Gp->Prop) (Q:L2.St->Hp->Prop):Prop:=∀ τ G',q τ G'->∀ σ H',Rel K τ G' σ H'->Kp G H G' H'->Q σ H'
structure AftD (K:Frg) (G:Gp) (H:Hp) (d:Ends3) (D:Ends):Prop where
 nx:qfP K G H d.nx D.nx
 rt:Aft K G H d.rt D.rt
 bk:qfP K G H d.bk D.bk
 ct:qfP K G H d.ct D.ct
def qfP.back {K:Frg} {G G1:Gp} {H H1:Hp} {q:St3->Gp->Prop} {Q:L2.St->Hp->Prop} (a:qfP K G H q Q) (k:Kp G H G1 H1):qfP K G1 H1 q Q:=λx G' h v H' r k'=>a x G' h v H' r (k.trans k')
theorem AftD.back {K:Frg} {G G1:Gp} {H H1:Hp} {d:Ends3} {D:Ends} (a:AftD K G H d D) (k:Kp G H G1 H1):AftD K G1 H1 d D:=⟨a.nx.back k,a.rt.back k,a.bk.back k,a.ct.back k⟩
def lS (K:Frg) (t:TS3):TS:=λD σ H=>∃ τ G d,Rel K τ G σ H/\t d τ G/\AftD K G H d D
abbrev S3 (X:Cx) (st:Stmt) (t:TS3):Prop:=PS X st (lS X.K t)
abbrev B3 (X:Cx) (st:List Stmt) (t:TS3):Prop:=PSs X st (lS X.K t)
def qf4 {X:Cx} {st:Stmt} {t t':TS} (h:PS X st t) (w:∀ D σ H,t' D σ H->t D σ H):PS X st t':=λpins s σ H D I q=>h pins s σ H D I (w D σ H q)
def qjh {X:Cx} {st:List Stmt} {t t':TS} (h:PSs X st t) (w:∀ D σ H,t' D σ H->t D σ H):PSs X st t':=λpins s σ H D I q=>h pins s σ H D I (w D σ H q)
variable {st:Stmt} {QG:List Stmt} {t1 t2:TS3} {tA:TT3}
def zE:TS3:=λd τ G=>d.nx τ G
def qK (t u:TS3):TS3:=λd τ G=>t { d with nx:=u d } τ G
def VO (te:TE3):TS3:=λd τ G=>te τ G λ_ G1=>d.nx τ G1
def zB (te:TE3):TS3:=λd τ G=>te τ G d.rt
def Z5 (c:TT3) (t u:TS3):TS3:=λd τ G=>c τ G λk G1=>if k=true then t d τ G1 else u d τ G1
abbrev TG3:=T->St3->Gp->(St3->Gp->Prop)->Prop
abbrev MD:=List T->St3->Gp->(St3->Gp->Prop)->Prop
def lG (K:Frg) (t:TG3):TG:=λv σ H Q=>∃ x τ G q,Rp K H x v/\Rel K τ G σ H/\t x τ G q/\qfP K G H q Q
def lGs (K:Frg) (t:MD):TGs:=λv σ H Q=>∃ x τ G q,Rps K H x v/\Rel K τ G σ H/\t x τ G q/\qfP K G H q Q
abbrev G3 (X:Cx) (e:Expr) (t:TG3):Prop:=PG X e (lG X.K t)
abbrev Gs3 (X:Cx) (es:List Expr) (t:MD):Prop:=PGs X es (lGs X.K t)
def qnm {X:Cx} {e:Expr} {t t':TG} (h:PG X e t) (w:∀ v σ H Q,t' v σ H Q->t v σ H Q):PG X e t':=λpins s σ H v u Q I r q=>h pins s σ H v u Q I r (w v σ H Q q)
def ql3 {X:Cx} {e:List Expr} {t t':TGs} (h:PGs X e t) (w:∀ v σ H Q,t' v σ H Q->t v σ H Q):PGs X e t':=λpins s σ H v u Q I r q=>h pins s σ H v u Q I r (w v σ H Q q)
def gn3 (i:Nat):TG3:=λx τ G q=>q (τ.set i (some x)) G
def J4:MD:=λxs τ G q=>match xs with|[]=>q τ G|_=>False
def qU (t:TG3) (u:MD):MD:=λxs τ G q=>match xs with|x::r=>t x τ G λτ' G'=>u r τ' G' q|[]=>False
def J5 (n:Nat) (t:MD):TG3:=λx τ G q=>match x with|.tup xs=>xs.length=n/\t xs τ G q|_=>False
def qgQ:T->T->T->Gp->(Gp->Prop)->Prop:=λo i v G q=>match o,i with
 |.ref p,.int k=>(match G p with|some (.lst xs)=>(match ixN xs.length k with|some j=>q (gu G p (.lst (xs.set j v)))|none=>False)|_=>False)
 |_,_=>False
def ET (to ti:TE3):TG3:=λx τ G q=>to τ G λo G1=>ti τ G1 λi G2=>qgQ o i x G2 λG3=>q τ G3
def za (te:TE3) (g:TG3):TS3:=λd τ G=>te τ G λx G1=>g x τ G1 d.nx
def qfL (i j:Nat) (ta:TA3):TS3:=λd τ G=>ta τ G λxs G1=>match xs with|[x,y]=>d.nx ((τ.set i (some x)).set j (some y)) G1|_=>False
end
abbrev TI3:=St3->Gp->(List T->(Gp->Prop)->Gp->Prop)->Prop
def qlw (K:Frg) (J:It) (items:List T) (stay:Gp->Prop) (G0:Gp) (H0:Hp):Prop:=∀ G H,HR K G H->Kp G0 H0 G H->stay G ->
 (∀ i x,items[i]?=some x->J.go i H)/\(∀ i x v H',items[i]?=some x->J.yld i H v H'->Rp K H' x v/\HR K G H'/\Kp G H G H')/\J.stop items.length H
def lI (K:Frg) (wi:TI3):TI:=λσ H R=>∃ τ G r,Rel K τ G σ H/\wi τ G r/\∀ items stay G',r items stay G'->∀ J H',HR K G' H'->Kp G H G' H'->qlw K J items stay G' H'->R J H'
abbrev I3 (X:Cx) (tg iter:Expr) (wi:TI3):Prop:=PI X tg iter (lI X.K wi)
def qnq {X:Cx} {tg e:Expr} {t t':TI} (h:PI X tg e t) (w:∀ σ H R,t' σ H R->t σ H R):PI X tg e t':=λpins s σ H R I q=>h pins s σ H R I (w σ H R q)
section
variable {X:Cx} {a b c e l tg:Expr} {es:List Expr} {ta tb tc te:TE3} {t:TA3} {pos:Pos}
def qjE {tl:TE} (hl:PE X l tl):PI X tg l (λσ H R=>tl σ H λx H1=>∃ a,x=.ref a/\(((∃ xs,SqL X.K H1 a xs)/\R (Itl X.K a) H1)\/((∃ xs,SqT X.K H1 a xs)/\R (Itt X.K a) H1))):=by
 intro pins s σ H R I h;refine thn (hl pins s σ H _ I h) λv s1 ⟨x,H1,I1,r1,q1⟩=>?_;obtain ⟨a,e,⟨⟨xs,hq⟩,q⟩|⟨⟨xs,hq⟩,q⟩⟩:=q1
 ·subst e;cases r1;obtain ⟨its,rv,p,hz⟩:=I1.list hq;refine wpAny_pyIter_list p.isList ?_;refine ⟨s1.heap.objs.size,[s1.heap.objs.size],_,_,H1,rfl,I1.kept (t':=s1.toks) λb o e=>y3 _ e,qdc a _,⟨_,y4 _ rfl,rfl,rfl⟩,λb hb=>?_,q⟩;have e:b=s1.heap.objs.size:=by simpa using hb
  subst e;exact I1.fpOk (v6 _) (I1.hok.fresh (v6 _))
 ·subst e;cases r1;obtain ⟨its,rv,p,hz⟩:=I1.tuple hq;refine wpAny_pyIter_tuple (show s1.heap.IsTuple a its.toArray from p) ?_;refine ⟨s1.heap.objs.size,[s1.heap.objs.size],_,_,H1,rfl,I1.kept (t':=s1.toks) λb o e=>y3 _ e,qaj a _,⟨_,y4 _ rfl,rfl,rfl⟩,λb hb=>?_,q⟩;have e:b=s1.heap.objs.size:=by simpa using hb
  subst e;exact I1.fpOk (v6 _) (I1.hok.fresh (v6 _))
def U7 (tl:TE3):TI3:=λτ G r=>tl τ G λx G1=>match x with
 |.tup xs=>r xs (λ_=>True) G1
 |.ref p=>(match getL G1 p with|some xs=>r xs (λG=>getL G p=some xs) G1|none=>False)
 |_=>False
def qk4 {K:Frg} {p:Addr} {xs:List T} {G0:Gp} {H0:Hp}:qlw K (Itl K p) xs (λG=>getL G p=some xs) G0 H0:=by
 intro G H hr _ hs;obtain ⟨vs,sq,rs⟩:=zz hr hs;refine ⟨λi x hi=>?_,λi x v H' hi y=>?_,⟨vs,sq,by rw [rs.length];exact v6 _⟩⟩
 ·obtain ⟨v,hv,_⟩:=rs.get hi;exact ⟨vs,v,sq,hv⟩
 ·obtain ⟨e,y⟩:=y;subst e;obtain ⟨w,hw,rw'⟩:=rs.get hi;have e2:=(y vs sq).symm.trans hw;cases e2;exact ⟨rw',hr,Kp.refl⟩
def qlR {K:Frg} {p:Addr} {xs:List T} {vs:List V} {G0:Gp} {H0:Hp} (hr0:HR K G0 H0) (sq0:SqT K H0 p vs) (rs0:Rps K H0 xs vs):qlw K (Itt K p) xs (λ_=>True) G0 H0:=by
 intro G H hr k _;have sq:=DG hr0 k sq0;have rs:=rs0.keep hr0 k;refine ⟨λi x hi=>?_,λi x v H' hi y=>?_,⟨vs,sq,by rw [rs.length];exact v6 _⟩⟩
 ·obtain ⟨v,hv,_⟩:=rs.get hi;exact ⟨vs,v,sq,hv⟩
 ·obtain ⟨e,y⟩:=y;subst e;obtain ⟨w,hw,rw'⟩:=rs.get hi;have e2:=(y vs sq).symm.trans hw;cases e2;exact ⟨rw',hr,Kp.refl⟩
def qbu (lo:Int) (n:Nat):List T:=(List.range n).map λ(i:Nat)=>T.int (lo+(i:Int))
def qj3 {K:Frg} {lo:Int} {n:Nat} {G0:Gp} {H0:Hp}:qlw K (Itr lo n) (qbu lo n) (λ_=>True) G0 H0:=by
 intro G H hr k _;have hl:(qbu lo n).length=n:=by simp [qbu]
 refine ⟨λi x hi=>?_,λi x v H' hi y=>?_,(show n<=(qbu lo n).length by rw [hl];exact v6 n)⟩
 ·have:=(za2 hi).1;rw [hl] at this;exact this
 ·obtain ⟨e,y⟩:=y;subst e;subst y;have h1:=(za2 hi).1;rw [hl] at h1;unfold qbu at hi;rw [getElem?_map,List.getElem?_range h1] at hi;have e:T.int (lo+(i:Int))=x:=by simpa using hi
  subst e;exact ⟨.int _,hr,Kp.refl⟩
def Y0 (ta:TA3):TI3:=λτ G r=>ta τ G λxs G1=>match xs with
 |[.int j]=>(-(2 ^ 62)<=j/\j<2 ^ 62)/\r (qbu 0 j.toNat) (λ_=>True) G1
 |[.int i,.int j]=>(-(2 ^ 62)<=i/\i<2 ^ 62/\-(2 ^ 62)<=j/\j<2 ^ 62)/\r (qbu i (j-i).toNat) (λ_=>True) G1
 |_=>False
def CJ (stay:Gp->Prop) (g:TG3) (tb:TS3) (d:Ends3):List T->St3->Gp->Prop
 |[],τ,G=>stay G/\d.nx τ G
 |x::r,τ,G=>stay G/\g x τ G λτ2 G2=>tb { d with nx:=CJ stay g tb d r,ct:=CJ stay g tb d r,bk:=d.nx } τ2 G2
def EX (wi:TI3) (g:TG3) (tb:TS3):TS3:=λd τ G=>wi τ G λitems stay G1=>CJ stay g tb d items τ G1
def qdl {stay:Gp->Prop} {g:TG3} {tb:TS3} {d:Ends3} (items:List T) (Pv:Nat->St3->Gp->Prop) {τ:St3} {G:Gp} (h0:Pv 0 τ G) (hst:∀ i τ G,i<=items.length->Pv i τ G->stay G)
  (hs:∀ i x τ G (nx:St3->Gp->Prop),items[i]?=some x->Pv i τ G->(∀ τ G,Pv (i+1) τ G->nx τ G)->g x τ G λτ2 G2=>tb { d with nx:=nx,ct:=nx,bk:=d.nx } τ2 G2)
  (hd:∀ τ G,Pv items.length τ G->d.nx τ G):CJ stay g tb d items τ G:=by
 have key:∀ (r:List T) (i:Nat) τ G,items.drop i=r->i<=items.length->Pv i τ G->CJ stay g tb d r τ G:=by
  intro r;induction r with
  |nil=>
   intro i τ G e hi p;have:i=items.length:=by have:=congrArg List.length e;simp at this;omega
   subst this;exact ⟨hst _ τ G hi p,hd τ G p⟩
  |cons x r ih=>
   intro i τ G e hi p;have hl:i<items.length:=by
    apply Classical.byContradiction;intro z;rw [List.drop_eq_nil_of_le (by omega)] at e;cases e
   have e':=List.drop_eq_getElem_cons hl;rw [e] at e';injection e' with e1 e2;refine ⟨hst i τ G hi p,hs i x τ G _ (by rw [v4 hl,e1]) p λτ2 G2 p2=>ih (i+1) τ2 G2 e2.symm hl p2⟩
 exact key items 0 τ G (by simp) (Nat.zero_le _) h0
abbrev Sp3:=List T->Gp->Q3->Prop
def lSp (K:Frg) (sp:Sp3):Sp:=λvs H Q _=>∃ ts G q,HR K G H/\Rps K H ts vs/\sp ts G q/\Aft K G H q Q
def Fn3 (P:Program) (w:World) (K:Frg) (mg:Str->Option Value) (base:Heap) (k:Nat) (x:Str) (sp:Sp3):Prop:=
 ∃ f fd ps,FnOk P w K mg base CX0 k f fd ps (lSp K sp)/\WK K fd ps []/\PySem.W.keepIn K (.ref f)=true/\mg x=some (.ref f)
theorem Fn3.mono {P:Program} {w:World} {K:Frg} {mg:Str->Option Value} {base:Heap} {j k:Nat} {x:Str} {sp:Sp3} (F:Fn3 P w K mg base j x sp) (h:j<=k):Fn3 P w K mg base k x sp:=
 let ⟨f,fd,ps,a,b,c,d⟩:=F;⟨f,fd,ps,a.mono h,b,c,d⟩
theorem Fn3.imp {P:Program} {w:World} {K:Frg} {mg:Str->Option Value} {base:Heap} {k:Nat} {x:Str} {sp sp':Sp3} (F:Fn3 P w K mg base k x sp) (h:∀ ts G q,sp' ts G q->sp ts G q):Fn3 P w K mg base k x sp':=
 let ⟨f,fd,ps,a,b,c,d⟩:=F;⟨f,fd,ps,a.imp λvs H Q E ⟨ts,G,q,h1,h2,h3,h4⟩=>⟨ts,G,q,h1,h2,h _ _ _ h3,h4⟩,b,c,d⟩
def qE (N:List Str) (ts:List T):St3:=ts.map some++List.replicate (N.length-ts.length) none
def W8 {K:Frg} {N:List Str} {G:Gp} {H:Hp} {ts:List T} {vs:List V} (hr:HR K G H) (rs:Rps K H ts vs):Rel K (qE N ts) G (L2.start N vs) H:=by
 refine ⟨hr,by simp [qE,L2.start,rs.length],λi t e=>?_⟩;unfold qE at e;by_cases hi:i<ts.length
 ·rw [List.getElem?_append_left (by simpa using hi),getElem?_map] at e;cases q:ts[i]? with
  |none=>rw [q] at e;cases e
  |some z=>
   rw [q] at e;have e':z=t:=by simpa using e
   subst e';obtain ⟨v,hv,r⟩:=rs.get q;refine ⟨v,?_,r⟩;unfold L2.start;rw [List.getElem?_append_left (by rw [length_map,← rs.length];exact hi),getElem?_map,hv];rfl
 ·rw [List.getElem?_append_right (by simpa using hi),List.getElem?_replicate] at e;split at e<;>cases e
def qmF {P:Program} {w:World} {K:Frg} {mg:Str->Option Value} {base:Heap} {x qual:Str} {st:Stmt} {f:Addr} {fd:FuncData} {N ps:List Str} {k:Nat} {sp:Sp3} {t3:TS3} (F:Fun K x qual st f fd) (S:FnScope N ps (qh st)) (bd:WK K fd ps []) (hm:mg x=some (.ref f))
  (body:∀ (cdv:Value) (A:Around) (outer:List Env) (s:Shared) (H:Hp) (E:XK),Room k (A.deeper (envOfC qual (qh st) s.heap.objs.size f cdv)) ->
   B3 (qaR CX0 P w K mg base N qual (qh st) f cdv A outer s H E).nox (zo st) t3)
  (read:∀ ts G q,sp ts G q->ts.length=ps.length/\t3 { nx:=λ_ G'=>q .non G',rt:=q } (qE N ts) G):Fn3 P w K mg base (k+1) x sp:=by
 refine ⟨f,fd,ps,F.ok S (λvs H Q E ⟨ts,G,q,h1,h2,h3,h4⟩=>by rw [← h2.length];exact (read ts G q h3).1) λcdv A outer s H vs Q E hr ⟨ts,G,q,h1,h2,h3,h4⟩=>?_,bd,F.kp,hm⟩;refine ⟨_,body cdv A outer s H E hr,qE N ts,G,_,W8 h1 h2,(read ts G q h3).2,⟨λτ' G' h' σ' H' rl' k'=>h4 _ G' h' _ H' .non rl'.hp k',h4,λ_ _ z=>z.elim,λ_ _ z=>z.elim⟩⟩
end
def clos (env:Env):List (Str×NameKind)->List (Str×Addr)->List (Str×Addr)
 |[],cs=>cs
 | (n,k)::r,cs=>if k=.free then clos env r ((n,(env.cells.lookup n).getD 0)::cs) else clos env r cs
def VR {scope:Scope} {env:Env} (h:∀ y∈scope.names,y.2=.free->∃ c,env.cells.lookup y.1=some c):closureFor scope env=pure (clos env scope.names []):=by
 have key:∀ (l:List (Str×NameKind)) (cs:List (Str×Addr)),(∀ y∈l,y.2=.free->∃ c,env.cells.lookup y.1=some c) ->
   (forIn l cs λ(x:Str×NameKind) (r:List (Str×Addr))=>if (x.2==NameKind.free)=true then (do let a←cellOf env x.1;pure (ForInStep.yield ((x.1,a)::r))) else pure (ForInStep.yield r))=(pure (clos env l cs):Sem _):=by
  intro l;induction l with
  |nil=>intro cs _;rfl
  |cons y r ih=>
   intro cs hl;obtain ⟨n,k⟩:=y;rw [List.forIn_cons];by_cases hk:k=.free
   ·subst hk;obtain ⟨c,hc⟩:=hl (n,.free) u8 rfl;have e:cellOf env n=pure c:=by unfold cellOf;rw [show List.lookup n env.cells=some c from hc]
    simp only [beq_self_eq_true,if_true];rw [e,pure_bind,pure_bind];show forIn r ((n,c)::cs) _=_;rw [ih _ λz hz=>hl z (v7 _ hz)];show _=(pure (if NameKind.free=NameKind.free then clos env r ((n,(env.cells.lookup n).getD 0)::cs) else clos env r cs):Sem _);rw [if_pos rfl,show List.lookup n env.cells=some c from hc];rfl
   ·have hb:(k==NameKind.free)=false:=by cases k<;>first|rfl|exact absurd rfl hk
    simp only [hb,Bool.false_eq_true,if_false];rw [pure_bind];show forIn r cs _=_;rw [ih _ λz hz=>hl z (v7 _ hz)];show _=(pure (if k=NameKind.free then clos env r ((n,(env.cells.lookup n).getD 0)::cs) else clos env r cs):Sem _);rw [if_neg hk]
 have:=key scope.names [] h;unfold closureFor;refine Eq.trans ?_ this;exact bind_pure (m:=Sem) _
theorem ZF {env:Env}:∀ (l:List (Str×NameKind)) (cs:List (Str×Addr)) (x:Str) (c:Addr),(∀ y∈l,y.2=.free->∃ c,env.cells.lookup y.1=some c) ->
  (∀ x c,cs.lookup x=some c->env.cells.lookup x=some c)->(clos env l cs).lookup x=some c->env.cells.lookup x=some c
 |[],_,_,_,_,h,e=>h _ _ e
 | (n,k)::r,cs,x,c,hl,h,e=>by
  unfold clos at e;split at e
  ·rename_i hk;refine ZF r _ x c (λy hy=>hl y (v7 _ hy)) (λx c e=>?_) e;rw [List.lookup_cons] at e;split at e
   ·rename_i hx;have hx':x=n:=by simpa using hx
    subst hx';obtain ⟨d,hd⟩:=hl (x,k) u8 hk;have hd:List.lookup x env.cells=some d:=hd;rw [hd] at e ⊢;exact e
   ·exact h _ _ e
  ·exact ZF r cs x c (λy hy=>hl y (v7 _ hy)) h e
theorem VT {env:Env}:∀ (l:List (Str×NameKind)) (cs:List (Str×Addr)) (x:Str),((x,NameKind.free)∈l\/∃ c,cs.lookup x=some c)->∃ c,(clos env l cs).lookup x=some c
 |[],_,_,h=>by
  rcases h with h|h
  ·simp at h
  ·exact h
 | (n,k)::r,cs,x,h=>by
  unfold clos;have put:∀ d:Addr,(x=n\/∃ c,cs.lookup x=some c)->∃ c,((n,d)::cs).lookup x=some c:=λd z=>by
   rw [List.lookup_cons];cases hx:x==n with
   |true=>exact ⟨d,rfl⟩
   |false=>
    rcases z with z|z
    ·rw [z] at hx;simp at hx
    ·exact z
  split
  ·rename_i hk;refine VT r _ x ?_;rcases h with h|h
   ·rcases mem_cons.mp h with e|e
    ·cases e;exact .inr (put _ (.inl rfl))
    ·exact .inl e
   ·exact .inr (put _ (.inr h))
  ·rename_i hk;refine VT r _ x ?_;rcases h with h|h
   ·rcases mem_cons.mp h with e|e
    ·cases e;exact absurd rfl hk
    ·exact .inl e
   ·exact .inr h
theorem C7 {env:Env}:∀ (l:List (Str×NameKind)) (cs:List (Str×Addr)) (x:Str) (c:Addr),(clos env l cs).lookup x=some c->(x,NameKind.free)∈l\/cs.lookup x=some c
 |[],_,_,_,e=>.inr e
 | (n,k)::r,cs,x,c,e=>by
  unfold clos at e;split at e
  ·rename_i hk;rcases C7 r _ x c e with z|z
   ·exact .inl (v7 _ z)
   ·rw [List.lookup_cons] at z;split at z
    ·rename_i hx;have hx':x=n:=by simpa using hx
     subst hx';subst hk;exact .inl u8
    ·exact .inr z
  ·rcases C7 r cs x c e with z|z
   ·exact .inl (v7 _ z)
   ·exact .inr z
theorem QU {α:Type}:∀ (xs ys:List (Str×α)) (x:Str),(xs++ys).lookup x=(match xs.lookup x with|some c=>some c|none=>ys.lookup x)
 |[],ys,x=>rfl
 | (n,c)::xs,ys,x=>by
  rw [cons_append,List.lookup_cons,List.lookup_cons];cases x==n with
  |true=>rfl
  |false=>exact QU xs ys x
theorem ja:∀ (l:List (Str×NameKind)) {n:Nat} {acc:List (Str×Addr)},cellsFrom n l acc=cellsFrom n l []++acc
 |[],_,_=>rfl
 | (x,k)::r,n,acc=>by
  unfold cellsFrom;split
  ·rw [ja r (acc:=(x,n)::acc),ja r (acc:=[(x,n)]),List.append_assoc];rfl
  ·exact ja r
theorem QX:∀ (l:List (Str×NameKind)) (n:Nat) (acc:List (Str×Addr)) (x:Str) (c:Addr),(x,c)∈cellsFrom n l acc->(x,NameKind.cell)∈l\/(x,c)∈acc
 |[],_,_,_,_,h=>.inr h
 | (y,k)::r,n,acc,x,c,h=>by
  unfold cellsFrom at h;split at h
  ·rename_i hk;have hk:k=.cell:=by simpa using hk
   rcases QX r _ _ x c h with z|z
   ·exact .inl (v7 _ z)
   ·rcases mem_cons.mp z with e|e
    ·cases e;subst hk;exact .inl u8
    ·exact .inr e
  ·rcases QX r _ _ x c h with z|z
   ·exact .inl (v7 _ z)
   ·exact .inr z
theorem jy:∀ (l:List (Str×NameKind)) (n:Nat) (acc:List (Str×Addr)) (x:Str),((x,NameKind.cell)∈l\/∃ c,acc.lookup x=some c)->∃ c,(cellsFrom n l acc).lookup x=some c
 |[],_,_,_,h=>by
  rcases h with h|h
  ·simp at h
  ·exact h
 | (y,k)::r,n,acc,x,h=>by
  unfold cellsFrom;have put:(x=y\/∃ c,acc.lookup x=some c)->∃ c,((y,n)::acc).lookup x=some c:=λz=>by
   rw [List.lookup_cons];cases hx:x==y with
   |true=>exact ⟨n,rfl⟩
   |false=>
    rcases z with z|z
    ·rw [z] at hx;simp at hx
    ·exact z
  split
  ·refine jy r _ _ x ?_;rcases h with h|h
   ·rcases mem_cons.mp h with e|e
    ·cases e;exact .inr (put (.inl rfl))
    ·exact .inl e
   ·exact .inr (put (.inr h))
  ·rename_i hk;refine jy r _ _ x ?_;rcases h with h|h
   ·rcases mem_cons.mp h with e|e
    ·cases e;exact absurd rfl hk
    ·exact .inl e
   ·exact .inr h
def EY {M:Model} {A:Around} {E:Value->Shared->Prop} {s:Shared} {scope:Scope} {globals:Addr} {cl:List (Str×Addr)} {qual:Str} {env:Env} {Q:Env->Shared->Prop}
  (hQ:∀ h₁:Heap,h₁.Ns s.heap.objs.size (λ_=>none)->(∀ b o,s.heap.get? b=some o->h₁.get? b=some o)->CellsOk h₁ (s.heap.objs.size+1) (cellsFrom (s.heap.objs.size+1) scope.names [])->Q (newEnv scope s.heap.objs.size globals (cellsFrom (s.heap.objs.size+1) scope.names cl) qual none .none (some env) builtinsNs) { s with heap:=h₁ }) :
  wpAny M A (newFunctionEnv scope globals cl [] qual none .none (some env)) Q E s:=by
 simp only [newFunctionEnv,Option.isSome_some,if_true];refine x8 (wpAny_alloc ?_);refine x8 (wpAny_layCells _ (λname kind cells=>by cases hkc:kind==NameKind.cell<;>simp [hkc]) _ _ _ _ ?_);have ok:=cellsFrom_ok scope.names (s.heap.push { cls:=.type "dict",data:=.dict #[] }) (s.heap.objs.size+1) [] ⟨λ_ _ hm=>(nomatch hm),List.Pairwise.nil⟩ (by rw [Heap.size_push];exact v6 _);rw [Heap.size_push] at ok;rw [show ({ s with heap:=s.heap.push { cls:=.type "dict",data:=.dict #[] } }:Shared).heap.objs.size=s.heap.objs.size+1 from Heap.size_push ..];rw [List.forIn_nil];refine x8 (x9 (x9 ?_));exact hQ _ ((Heap.Ns.new s.heap (.type "dict")).keeps (pushCells_keeps _ _)) (λb o e=>pushCells_keeps _ _ b o (y3 _ e)) ok
def qx (X:Cx) (N':List Str) (scope:Scope) (s:Shared) (H:Hp) (fp:List Addr):Cx where
 prog:=X.prog
 w:=X.w
 K:=X.K
 mg:=X.mg
 base:=X.base
 A:=X.A
 N:=N'
 s₀:=s
 H₀:=H
 env:=compEnvC scope (cellsFrom (s.heap.objs.size+1) scope.names (clos X.env scope.names [])) s.heap.objs.size X.env
 outer:=X.stack
 stack:=X.stack
 ex:=fp
 fn:=λx=>scope.names.lookup x==some .cell
 calm:=true
 pn:=[]
 xe:=λ_ _=>False
def qdK (outer inner:Scope):Bool:=(inner.kind==.function)&&inner.names.all λy=>
 (y.2 != .cell||inner.names.lookup y.1==some .cell)&&(y.2 != .local||inner.names.lookup y.1==some .local)&&(y.2 != .free||(inner.names.lookup y.1==some .free&&(outer.names.lookup y.1==some .cell||outer.names.lookup y.1==some .free)))
def cap {α:Type} (m:List (Option Nat)) (σ:List (Option α)):List (Option α):=m.map λo=>match o with|some j=>(σ[j]?).join|none=>none
def U9 (N N':List Str) (scope:Scope) (m:List (Option Nat)):Bool:=(m.length==N'.length)&&(m.zip N').all λp=>match p.1 with
 |none=>true
 |some j=>N[j]?==some p.2&&scope.names.lookup p.2==some .free
def qcR {α:Type} {m:List (Option Nat)} {σ:List (Option α)} {i:Nat} {v:α} (h:(cap m σ)[i]?=some (some v)):∃ j,m[i]?=some (some j)/\σ[j]?=some (some v):=by
 unfold cap at h;rw [getElem?_map] at h;cases e:m[i]? with
 |none=>rw [e] at h;cases h
 |some o=>
  rw [e] at h;cases o with
  |none=>cases h
  |some j=>
   refine ⟨j,rfl,?_⟩;have h':(σ[j]?).join=some v:=by simpa using h
   cases q:σ[j]? with
   |none=>rw [q] at h';cases h'
   |some z=>rw [q] at h';exact congrArg some h'
def qcq {N N':List Str} {scope:Scope} {m:List (Option Nat)} (h:U9 N N' scope m=true) {i j:Nat} {x:Str} (e:m[i]?=some (some j)) (hx:N'[i]?=some x):N[j]?=some x/\scope.names.lookup x=some .free:=by
 unfold U9 at h;rw [Bool.and_eq_true] at h;have hm:(some j,x)∈m.zip N':=u4 (i:=i) (List.getElem?_zip_eq_some.mpr ⟨e,hx⟩);have:=List.all_eq_true.mp h.2 _ hm;simp only [Bool.and_eq_true,beq_iff_eq] at this;exact this
def qif {N N':List Str} {scope:Scope} {m:List (Option Nat)} {α:Type} (σ:List (Option α)) (h:U9 N N' scope m=true):(cap m σ).length=N'.length:=by
 unfold U9 at h;rw [Bool.and_eq_true] at h;unfold cap;rw [length_map];simpa using h.1
structure ScFacts (outer inner:Scope):Prop where
 kind:inner.kind=.function
 own:∀ y∈inner.names,y.2=.cell->inner.names.lookup y.1=some .cell
 loc:∀ y∈inner.names,y.2=.local->inner.names.lookup y.1=some .local
 free:∀ y∈inner.names,y.2=.free->inner.names.lookup y.1=some .free/\(outer.names.lookup y.1=some .cell\/outer.names.lookup y.1=some .free)
def qat {outer inner:Scope} (h:qdK outer inner=true):ScFacts outer inner:=by
 unfold qdK at h;rw [Bool.and_eq_true] at h;have ha:=List.all_eq_true.mp h.2;refine ⟨by simpa using h.1,λy hy e=>?_,λy hy e=>?_,λy hy e=>?_⟩
 ·have:=ha y hy;rw [e] at this;simpa using this
 ·have:=ha y hy;rw [e] at this;simpa using this
 ·have:=ha y hy;rw [e] at this;simpa using this
def j9 {scope:Scope} {env:Env} {x:Str} {k:NameKind} (h:(relabel scope env).names.lookup x=some k):scope.names.lookup x=some k\/(k=.cell/\scope.names.lookup x=some .free):=by
 have key:∀ (l:List (Str×NameKind)),(l.map λ(n,k)=>if (k==NameKind.free&&env.scope.kind==.function&&env.kindOf n==some .cell) then (n,NameKind.cell) else (n,k)).lookup x=some k->l.lookup x=some k\/(k=.cell/\l.lookup x=some .free):=by
  intro l;induction l with
  |nil=>intro h;simp at h
  |cons y r ih=>
   intro h;obtain ⟨n,j⟩:=y;rw [map_cons] at h;dsimp only at h;by_cases hc:(j==NameKind.free&&env.scope.kind==.function&&env.kindOf n==some .cell)=true
   ·rw [if_pos hc,List.lookup_cons] at h;rw [List.lookup_cons];cases hx:x==n with
    |true=>
     rw [hx] at h;have hk:NameKind.cell=k:=by simpa using h
     have hj:j=.free:=by simp only [Bool.and_eq_true,beq_iff_eq] at hc;exact hc.1.1
     exact .inr ⟨hk.symm,by rw [hj]⟩
    |false=>rw [hx] at h;exact ih h
   ·rw [if_neg hc,List.lookup_cons] at h;rw [List.lookup_cons];cases hx:x==n with
    |true=>rw [hx] at h;exact .inl h
    |false=>rw [hx] at h;exact ih h
 exact key scope.names h
def PF (X:Cx) (ifs:List Expr) (t:TT):Prop:=
 ∀ (pins:List (Addr×Obj)) (s:Shared) (σ:L2.St) (H:Hp) (Q:Bool->Hp->Prop),Inv X pins σ H s->t σ H Q ->
  wpAny (model X.prog X.w) X.A (forIn ifs true λc r=>if r=true then do let ok←isTrue c X.env (eval c X.env);pure (ForInStep.yield ok) else pure (ForInStep.yield r)) (TP X pins σ Q) X.xe s
def qld {X:Cx}:PF X [] (λ_ H Q=>Q true H):=λ_ _ _ H _ I h=>wpAny_tests_nil ⟨H,I,h⟩
def qkH {X:Cx} {c:Expr} {t:TT} (h:PT X c t):PF X [c] t:=λpins s σ H Q I q=>wpAny_tests_one (h pins s σ H Q I q)
section
variable {X:Cx} {pins:List (Addr×Obj)} {σ:L2.St} {H:Hp} {s:Shared}
def qdW {N':List Str} {scope:Scope} {fp:List Addr} {m:List (Option Nat)} {h1:Heap} {mm:Str->Option Value} (hc:X.calm=true) (I:Inv X pins σ H s) (sc:ScFacts X.env.scope scope) (hcap:U9 X.N N' scope m=true)
  (hfp:∀ b∈fp,KQ X pins H b) (hob:∀ b∈fp,∃ o,s.heap.get? b=some o) (hns:h1.Ns s.heap.objs.size mm) (hk:∀ b o,s.heap.get? b=some o->h1.get? b=some o) (hown:CellsOk h1 (s.heap.objs.size+1) (cellsFrom (s.heap.objs.size+1) scope.names [])) :
  Inv (qx X N' scope s H fp) [] (cap m σ) H { s with heap:=h1 }:=by
 have hcl:∀ y∈scope.names,y.2=.free->∃ c,X.env.cells.lookup y.1=some c:=λy hy e=>by
  rcases (sc.free y hy e).2 with z|z
  ·exact I.ok.has y.1 (.inl z)
  ·exact I.ok.has y.1 (.inr z)
 have cl:∀ x c,(clos X.env scope.names []).lookup x=some c->X.env.cells.lookup x=some c:=λx c e=>ZF scope.names [] x c hcl (λ_ _ z=>by simp at z) e;have clt:∀ x c,(clos X.env scope.names []).lookup x=some c->c<s.heap.objs.size:=λx c e=>by
  obtain ⟨v,q⟩:=I.cell x c (cl x c e);exact q.lt
 -- a cell of the block: its own,or one from around
 have cs:∀ x c,(cellsFrom (s.heap.objs.size+1) scope.names (clos X.env scope.names [])).lookup x=some c->((x,c)∈cellsFrom (s.heap.objs.size+1) scope.names []/\s.heap.objs.size+1<=c/\h1.IsCell c none)\/(clos X.env scope.names []).lookup x=some c:=λx c e=>by
  rw [ja,QU] at e;cases q:(cellsFrom (s.heap.objs.size+1) scope.names []).lookup x with
  |none=>rw [q] at e;exact .inr e
  |some d=>
   rw [q] at e;cases e;have mem:=PySem.mem_of_lookup q;exact .inl ⟨mem,(hown.empty x _ mem).2,(hown.empty x _ mem).1⟩
 have fpne:∀ b∈fp,b≠s.heap.objs.size:=λb hb=>let ⟨o,e⟩:=hob b hb;u6 (y6 e)
 refine ⟨⟨I.ok.mod,sc.kind,I.ok.glob,I.ok.blt,v6 _,λx y c e1 e2=>?_,λx hx=>?_,λx c hf e=>?_,λ_=>I.ok.hd hc,I.ok.frames,.inl rfl,λb hb=>⟨fpne b hb,λx c e=>?_⟩,I.bs,u5 I.ok.bsz I.sz,λb o e hb=>?_,λb hb z=>?_,I.stack,I.stkFree⟩,
  rfl,I.bare,Un.kept hk,⟨mm,hns,λi x v e1 e2 e3=>?_⟩,λx c e=>?_,I.fresh,λx c e=>?_,λp hp=>absurd (show p∈([]:List (Addr×Obj)) from hp) (by simp),I.hok.kept hk,qif σ hcap⟩
 ·rcases cs x c e1 with ⟨m1,l1,_⟩|z1<;>rcases cs y c e2 with ⟨m2,l2,_⟩|z2
  ·exact PySem.name_of_addr hown.apart m1 m2
  ·exact absurd (clt y c z2) (Nat.not_lt.mpr (u5 (Nat.le_succ _) l1))
  ·exact absurd (clt x c z1) (Nat.not_lt.mpr (u5 (Nat.le_succ _) l2))
  ·exact I.ok.inj x y c (cl x c z1) (cl y c z2)
 ·have hx:(relabel scope X.env).names.lookup x=some .cell\/(relabel scope X.env).names.lookup x=some .free:=hx;have hf:scope.names.lookup x=some .cell\/scope.names.lookup x=some .free:=by
   rcases hx with z|z
   ·rcases j9 z with q|⟨_,q⟩
    ·exact .inl q
    ·exact .inr q
   ·rcases j9 z with q|⟨q,_⟩
    ·exact .inr q
    ·cases q
  show ∃ c,(cellsFrom (s.heap.objs.size+1) scope.names (clos X.env scope.names [])).lookup x=some c;rcases hf with hf|hf
  ·exact jy scope.names _ _ x (.inl (PySem.mem_of_lookup hf))
  ·exact jy scope.names _ _ x (.inr (VT scope.names [] x (.inl (PySem.mem_of_lookup hf))))
 ·have hf:scope.names.lookup x=some .cell:=by simpa [qx] using hf
  rcases cs x c e with ⟨_,l1,_⟩|z1
  ·exact u5 (Nat.le_succ _) l1
  ·rcases C7 scope.names [] x c z1 with q|q
   ·rw [(sc.free _ q rfl).1] at hf;cases hf
   ·simp at q
 ·rcases cs x c e with ⟨_,l1,_⟩|z1
  ·obtain ⟨o,eo⟩:=hob b hb;exact Nat.ne_of_gt (v9 (y6 eo) (u5 (Nat.le_succ _) l1))
  ·exact (hfp b hb).2.2.2.2.1 x c (cl x c z1)
 ·rcases (hfp b hb).2.2.2.1 with z|z
  ·exact I.ok.noex b o e z
  ·exact absurd (v9 (y6 e) (u5 I.ok.bsz z)) (Nat.lt_irrefl _)
 ·rcases mem_cons.mp (I.stkSub b z) with q|q
  ·exact (hfp b hb).2.1 q
  ·exact (hfp b hb).2.2.1 q
 ·obtain ⟨j,ej,es⟩:=qcR e2;obtain ⟨hN,hfr⟩:=qcq hcap ej e1;have mem:=PySem.mem_of_lookup hfr;have ho:=(sc.free _ mem rfl).2;obtain ⟨m0,hn0,hl0⟩:=I.loc;obtain ⟨u,ru,lk⟩:=hl0 j x v hN es (ho.elim (λz=>.inr (.inl z)) λz=>.inr (.inr z));refine ⟨u,ru,.inr ⟨?_,?_⟩⟩
  ·rcases e3 with z|z|z
   ·rcases j9 z with q|⟨q,_⟩
    ·rw [hfr] at q;cases q
    ·cases q
   ·exact .inl z
   ·exact .inr z
  ·rcases lk with ⟨z,_⟩|⟨_,c,hc',hcell⟩
   ·have z:X.env.scope.names.lookup x=some .local:=z;rcases ho with q|q<;>(rw [z] at q;cases q)
   ·obtain ⟨c',hc2⟩:=VT (env:=X.env) scope.names [] x (.inl mem);have e:=cl x c' hc2;rw [hc'] at e;cases e;obtain ⟨o,eo,d⟩:=hcell;refine ⟨c,?_,o,hk c o eo,d⟩;show (cellsFrom (s.heap.objs.size+1) scope.names (clos X.env scope.names [])).lookup x=some c;rw [ja,QU];cases q:(cellsFrom (s.heap.objs.size+1) scope.names []).lookup x with
    |none=>exact hc2
    |some d=>
     rcases QX scope.names _ [] x d (PySem.mem_of_lookup q) with z|z
     ·rw [sc.own _ z rfl] at hfr;cases hfr
     ·simp at z
 ·rcases cs x c e with ⟨_,_,z⟩|z1
  ·exact ⟨none,z⟩
  ·obtain ⟨v,o,eo,d⟩:=I.cell x c (cl x c z1);exact ⟨v,o,hk c o eo,d⟩
 ·rcases cs x c e with ⟨_,l1,_⟩|z1
  ·exact I.hok.fresh (u5 (Nat.le_succ _) l1)
  ·exact I.freeC x c (cl x c z1)
def CB {N':List Str} {scope:Scope} {fp:List Addr} {pins':List (Addr×Obj)} {σ':L2.St} {H':Hp} {s':Shared} {h2:Heap} (I:Inv X pins σ H s) (hfp:∀ b∈fp,KQ X pins H b) (J:Inv (qx X N' scope s H fp) pins' σ' H' s')
  (sb:Heap.SameBut s.heap.objs.size s'.heap h2):Inv X pins σ H' { s' with heap:=h2 }:=by
 have ne:∀ b o,s.heap.get? b=some o->b≠s.heap.objs.size:=λb o e=>u6 (y6 e);have g:∀ b,b≠s.heap.objs.size->h2.get? b=s'.heap.get? b:=λb hb=>sb.2 b hb;have hn:H' s.heap.objs.size=none:=J.free;have u:Un (frs X.stack) fp H H' s.heap s'.heap:=J.base;refine I.call' (s':={ s' with heap:=h2 }) J.os ⟨λb o e n hb hx=>?_,λb o e n hb hx=>?_,u.free,λb o e hx=>?_,u.tups,u.frzs,u.tbls⟩ (λa o e=>?_) J.bare λb hb=>⟨(hfp b hb).2.2.2.1,(hfp b hb).2.1,(hfp b hb).2.2.2.2.1,(hfp b hb).2.2.2.2.2⟩
 ·show h2.get? b=_;rw [g b (ne b o e)];exact u.keep b o e n hb hx
 ·show ∃ sl,h2.get? b=_;rw [g b (ne b o e)];exact u.slot b o e n hb hx
 ·show ∃ o',h2.get? b=_;rw [g b (ne b o e)];exact u.there b o e hx
 ·refine (J.hok a o e).stay (λb v hb q=>?_) (λ_ q=>q) λ_ _ q=>q;have hb':b≠s.heap.objs.size:=by
   intro z;subst z;rcases hb with z|z
   ·rw [← z] at e;rw [hn] at e;cases e
   ·rw [hn] at z;cases z
  rw [g b hb'];exact q
end
def qko (ip:Pos) (tg:Expr) (ifs:List Expr) (it:Value) (env:Env) (body ag:Sem Fin):Sem Fin:=do
 standAt ip
 match←pyNext it with
 |none=>pure (.done .next)
 |some v=>
  letOwnedTupleGo tg it v
  assign tg env v
  let mut ok:=true
  for c in ifs do
   if ok then ok←isTrue c env (eval c env)
  if ok then body else ag
section
variable {X:Cx} {ce tg iter:Expr} {kx:Nat} {ip:Pos} {ifs:List Expr} {gs:List Comprehension} {body:Sem Fin} {pins:List (Addr×Obj)} {wi:TI} {g:TG} {tif:TT} {tb:Addr->(L2.St->Hp->Prop)->L2.St->Hp->Prop} {s:Shared} {σ:L2.St} {H:Hp}
def qey (J:It) (g:TG) (tif:TT) (tb:(L2.St->Hp->Prop)->L2.St->Hp->Prop) (QN:L2.St->Hp->Prop) (W:Nat->Nat->L2.St->Hp->Prop):Prop:=∀ i n σ H,W i n σ H ->
 (J.stop i H/\QN σ H)\/(J.go i H/\∀ x H',J.yld i H x H'->g x σ H' λσ2 H2=>tif σ2 H2 λk H3=>
  if k=true then tb (λσ4 H4=>∃ n',n'<n/\W (i+1) n' σ4 H4) σ2 H3 else ∃ n',n'<n/\W (i+1) n' σ2 H3)
def K8 {it D:Addr} {fp:List Addr} {tn:Nat->Heap->Prop} {J:It} {tb:(L2.St->Hp->Prop)->L2.St->Hp->Prop} {QN:L2.St->Hp->Prop} {Post:Result->Shared->Prop} {W:Nat->Nat->L2.St->Hp->Prop} {n0:Nat} (hc:X.calm=true) (hx:∀ v s,¬ X.xe v s)
  (hq:(Code.compLoop ce kx (.ref it) (.ref D) X.env).quiet=true) (ha:X.A.under (.compLoop ce kx (.ref it) (.ref D) X.env)=X.A) (hp:(model X.prog X.w).den (.compLoop ce kx (.ref it) (.ref D) X.env)=(qko ip tg ifs (.ref it) X.env body (again (.compLoop ce kx (.ref it) (.ref D) X.env))).onRaise (λx=>do noteFrame x X.env;theTreesLotGoes x))
  (T:Turn X.prog X.w X.K tg J fp it tn) (hg:PG X tg g) (hf:PF X ifs tif) (hb:∀ pins s σ H N Q E,Inv X pins σ H s->tb N σ H->(∀ s' σ' H',Inv X pins σ' H' s'->N σ' H'->wpAny (model X.prog X.w) X.A (again (.compLoop ce kx (.ref it) (.ref D) X.env)) Q E s')->wpAny (model X.prog X.w) X.A body Q E s)
  (stat:∀ H',(∀ b∈fp,H' b=none)->∀ b∈fp,KQ X pins H' b) (turn:qey J g tif tb QN W) (stop:∀ s σ H,Inv X pins σ H s->QN σ H->Post (.ok .next) s)
  (I:Inv X pins σ H s) (st:tn 0 s.heap) (fr:∀ b∈fp,H b=none) (w0:W 0 n0 σ H):codeAny (model X.prog X.w) X.A (.compLoop ce kx (.ref it) (.ref D) X.env) Post s:=by
 refine codeAny_loop hq (λn s'=>∃ i σ' H',Inv X pins σ' H' s'/\tn i s'.heap/\(∀ b∈fp,H' b=none)/\W i n σ' H') (λn s' hI=>?_) n0 ⟨0,σ,H,I,st,fr,w0⟩;rw [ha,hp];refine wpAny_noted ?_;refine x8 (wpAny_standAt (x8 ?_));obtain ⟨i,σ5,H5,I5,st5,fr5,w5⟩:=hI;rcases turn i n σ5 H5 w5 with ⟨sp,q⟩|⟨go,step⟩
 ·refine thn (T.done X rfl rfl rfl hc i pins s' σ5 H5 _ I5 (stat _ fr5) st5 sp) λr s6 ⟨hr,I6⟩=>?_;subst hr;exact x9 (stop _ _ _ I6 q)
 ·refine thn (T.item X rfl rfl rfl hc i pins s' σ5 H5 _ I5 (stat _ fr5) st5 go) λr s6 ⟨u,hr,h6⟩=>?_;subst hr;refine x8 (thn h6 λ_ s7 ⟨x,H7,I7,r7,y7,st7,fr7⟩=>?_);have I7':=I7.pinned (stat _ fr7) (T.obj _ _ st7);have again:∀ {σ8:L2.St} {H8:Hp} {s8:Shared},Inv X (pins++S8 fp s7.heap) σ8 H8 s8->(∃ n',n'<n/\W (i+1) n' σ8 H8) ->
    ∃ m',m'<n/\∃ i σ' H',Inv X pins σ' H' s8/\tn i s8.heap/\(∀ b∈fp,H' b=none)/\W i m' σ' H':=λ{σ8 H8 s8} I8 ⟨n',hn,w8⟩=>by
   refine ⟨n',hn,i+1,σ8,H8,I8.unpinned,T.keep _ _ _ st7 λb hb o e=>(I8.pin (b,o) (v8 _ (v8 _ (JL hb e)))).1,λb hb=>?_,w8⟩;obtain ⟨o,e,d⟩:=T.obj _ _ st7 b hb;exact (I8.pin (b,o) (v8 _ (v8 _ (JL hb e)))).2.1
  refine x8 (y2 (hg _ s7 σ5 H7 x u _ I7' r7 (step x H7 y7)) (λ_ s8 ⟨σ8,H8,I8,q8⟩=>?_) λ_ _ z=>(hx _ _ z).elim);refine x8 (y2 (hf _ s8 σ8 H8 _ I8 q8) (λk s9 ⟨H9,I9,q9⟩=>?_) λ_ _ z=>(hx _ _ z).elim);cases k with
  |false=>
   rw [if_neg y8] at q9;exact x9 ⟨rfl,again I9 q9⟩
  |true=>
   rw [if_pos rfl] at q9;exact hb _ _ _ _ _ _ _ I9 q9 λs10 σ10 H10 I10 q10=>x9 ⟨rfl,again I10 q10⟩
def tLG (wi:TI) (g:TG) (tif:TT) (tb:Addr->(L2.St->Hp->Prop)->L2.St->Hp->Prop) (m:List (Option Nat)):TE:=λσ H Q=>wi σ H λJ H1=>∀ D,H1 D=none ->
 ∃ W:Nat->Nat->L2.St->Hp->Prop,(∃ n,W 0 n (cap m σ) (upd H1 D (.lst [])))/\qey J g tif (tb D) (λ_ H=>Q (.ref D) H) W
def KW {elt:Expr} {scope:Scope} {pos cpos:Pos} {N':List Str} {m:List (Option Nat)} {bd:Addr->Env->Sem Fin->Sem Fin} {use:Option (Value->Sem Unit)} {Qc:Value->Shared->Prop} {QD:Addr->Hp->Prop} (hc:X.calm=true) (hi:PI X tg iter wi)
  (hp:∀ it D env,(model X.prog X.w).den (.compLoop (.ListComp elt (⟨tg,iter,ifs,0⟩::gs) scope pos) 0 (.ref it) (.ref D) env)=(qko iter.pos tg ifs (.ref it) env (bd D env (again (.compLoop (.ListComp elt (⟨tg,iter,ifs,0⟩::gs) scope pos) 0 (.ref it) (.ref D) env))) (again (.compLoop (.ListComp elt (⟨tg,iter,ifs,0⟩::gs) scope pos) 0 (.ref it) (.ref D) env))).onRaise (λx=>do noteFrame x env;theTreesLotGoes x))
  (hg:∀ s H fp,PG (qx X N' scope s H fp) tg g) (hf:∀ s H fp,PF (qx X N' scope s H fp) ifs tif)
  (hb:∀ s H fp D kk pins s' σ' H' N Q E,Inv (qx X N' scope s H fp) pins σ' H' s'->tb D N σ' H'->(∀ s2 σ2 H2,Inv (qx X N' scope s H fp) pins σ2 H2 s2->N σ2 H2->wpAny (model X.prog X.w) X.A kk Q E s2)->wpAny (model X.prog X.w) X.A (bd D (qx X N' scope s H fp).env kk) Q E s')
  (hsc:qdK X.env.scope scope=true) (hcap:U9 X.N N' scope m=true) (hs:∀ x,foldedSetIterable iter X.env x=pure x) (I:Inv X pins σ H s)
  (h:wi σ H λJ H1=>∀ D,H1 D=none->∃ W:Nat->Nat->L2.St->Hp->Prop,(∃ n,W 0 n (cap m σ) (upd H1 D (.lst [])))/\qey J g tif (tb D) (λ_ H=>QD D H) W)
  (fin:∀ (D:Addr) (s3:Shared) (H3:Hp) (fp:List Addr) (s6:Shared) (H6:Hp) (σ6:L2.St) (r:Flow),Inv X pins σ H3 s3->(∀ b∈fp,KQ X pins H3 b)->Inv (qx X N' scope s3 H3 fp) [] σ6 H6 s6->QD D H6->compPost (model X.prog X.w) X.A X.xe use Qc (.ref D) s3.heap.objs.size (.ok r) s6) :
  wpAny (model X.prog X.w) X.A (comprehension (.ListComp elt (⟨tg,iter,ifs,0⟩::gs) scope pos) scope X.env cpos (newList []) false (eval iter X.env) use) Qc X.xe s:=by
 have sc:=qat hsc;have hcl:∀ y∈scope.names,y.2=.free->∃ c,X.env.cells.lookup y.1=some c:=λy hy e=>by
  rcases (sc.free y hy e).2 with z|z
  ·exact I.ok.has y.1 (.inl z)
  ·exact I.ok.has y.1 (.inr z)
 refine wpAny_comprehension_free (g:=⟨tg,iter,ifs,0⟩) (gs:=gs) rfl hs (VR hcl) sc.kind sc.loc ?_;show wpAny _ _ (eval iter X.env) _ _ s;refine thn (hi pins s σ H _ I h) λv s1 h1=>thn h1 λitv s2 h2=>?_;obtain ⟨it,fp,tn,J,H2,rfl,I2,T,st2,f2,hW⟩:=h2;refine wpAny_newObj_type ?_;have hD:H2 s2.heap.objs.size=none:=I2.fresh;obtain ⟨W,⟨n0,w0⟩,turn⟩:=hW _ hD;generalize hDe:s2.heap.objs.size=D at *;have I3:Inv X pins σ (upd H2 D (.lst [])) { s2 with heap:=s2.heap.push { cls:=.type "list",dict:=none,data:=.seq ([]:List Value).toArray } }:=by
  subst hDe;exact I2.laid (t':=s2.toks) (λb u e=>y3 _ e) (v6 _) ⟨Nat.zero_le _,[],0,.nil,y4 _ rfl⟩
 have ob2:=T.obj 0 _ st2;have ob3:∀ b∈fp,∃ o,(s2.heap.push { cls:=.type "list",dict:=none,data:=.seq ([]:List Value).toArray }).get? b=some o:=λb hb=>let ⟨o,e,_⟩:=ob2 b hb;⟨o,y3 _ e⟩
 have f3:∀ b∈fp,KQ X pins (upd H2 D (.lst [])) b:=λb hb=>by
  obtain ⟨o,e,_⟩:=ob2 b hb;have:b≠D:=by rw [← hDe];exact u6 (y6 e)
  exact ⟨by rw [qv this];exact (f2 b hb).1,(f2 b hb).2⟩
 have k23:∀ b o,s2.heap.get? b=some o->(s2.heap.push { cls:=.type "list",dict:=none,data:=.seq ([]:List Value).toArray }).get? b=some o:=λb o e=>y3 _ e;generalize hH3:upd H2 D (.lst [])=H3 at *;generalize hs3:({ s2 with heap:=s2.heap.push { cls:=.type "list",dict:=none,data:=.seq ([]:List Value).toArray } }:Shared)=s3 at *;have ob3:∀ b∈fp,∃ o,s3.heap.get? b=some o:=by rw [← hs3];exact ob3
 have k23:∀ b o,s2.heap.get? b=some o->s3.heap.get? b=some o:=by rw [← hs3];exact k23
 refine EY λh₁ hns hk hown=>?_;have I4:Inv (qx X N' scope s3 H3 fp) [] (cap m σ) H3 { s3 with heap:=h₁ }:=qdW hc I3 sc hcap f3 ob3 hns hk hown;have tn4:tn 0 h₁:=T.keep _ _ _ st2 λb hb o e=>hk b o (k23 b o e);have stat:∀ H':Hp,(∀ b∈fp,H' b=none)->∀ b∈fp,KQ (qx X N' scope s3 H3 fp) [] H' b:=λH' hn b hb=>by
  refine ⟨hn b hb,I4.ok.exf b hb |>.1,I4.ok.exfs b hb,.inl hb,λx c e=>(I4.ok.exf b hb).2 x c e,λp hp=>absurd (show p∈([]:List (Addr×Obj)) from hp) (by simp)⟩
 exact codeAny_compStart_list (K8 (X:=qx X N' scope s3 H3 fp) rfl (λ_ _ z=>z) rfl rfl (hp _ _ _) T (hg _ _ _) (hf _ _ _) (hb s3 H3 fp D _) stat turn (λs6 σ6 H6 I6 q=>fin D s3 H3 fp s6 H6 σ6 _ I3 f3 I6 q) I4 tn4 (λb hb=>(f3 b hb).1) w0)
  (T.self X.A 0 _ _ _ tn4 (K8 (X:=qx X N' scope s3 H3 fp) rfl (λ_ _ z=>z) rfl rfl (hp _ _ _) T (hg _ _ _) (hf _ _ _) (hb s3 H3 fp D _) stat turn (λs6 σ6 H6 I6 q=>fin D s3 H3 fp s6 H6 σ6 _ I3 f3 I6 q) I4 tn4 (λb hb=>(f3 b hb).1) w0))
def apB (elt:Expr) (D:Addr) (env:Env) (kk:Sem Fin):Sem Fin:=do
 (do let _←call (.builtin "list.append") [.ref D,← eval elt env])
 kk
def tAp (te:TE) (D:Addr) (N:L2.St->Hp->Prop) (σ:L2.St) (H:Hp):Prop:=te σ H λy H4=>∃ zs,H4 D=some (.lst zs)/\zs.length<sizeLine/\N σ (upd H4 D (.lst (zs++[y])))
def qiD {elt:Expr} {te:TE} {D:Addr} {kk:Sem Fin} (hx:∀ v s,¬ X.xe v s) (he:PE X elt te):∀ pins s σ H N Q E,Inv X pins σ H s->tAp te D N σ H->(∀ s' σ' H',Inv X pins σ' H' s'->N σ' H'->wpAny (model X.prog X.w) X.A kk Q E s')->wpAny (model X.prog X.w) X.A (apB elt D X.env kk) Q E s:=λpins s σ H N Q E I h hk=>by
 refine x8 (x8 (y2 (he pins s σ H _ I h) (λw s10 ⟨y,H10,I10,r10,zs,hz,hl,q10⟩=>?_) λ_ _ z=>(hx _ _ z).elim));refine x8 (y2 (TC (X:=X) _ s10 σ H10 (.ref D) [y] (.ref D) [w] (λ_ H11=>H11=upd H10 D (.lst (zs++[y]))) I10 rfl (.cons r10 .nil) ⟨D,zs,y,rfl,rfl,hz,hl,rfl⟩) (λ_ s11 ⟨_,H11,I11,_,e11⟩=>?_) λ_ _ z=>(hx _ _ z).elim);subst e11;exact x9 (hk _ _ _ I11 q10)
def qfN {scope:Scope} {N':List Str} {Q:VK} (D:Addr) (s3:Shared) (H3:Hp) (fp:List Addr) (s6:Shared) (H6:Hp) (σ6:L2.St) (r:Flow) (I3:Inv X pins σ H3 s3) (f3:∀ b∈fp,KQ X pins H3 b) (I6:Inv (qx X N' scope s3 H3 fp) [] σ6 H6 s6) (q:Q (.ref D) H6):compPost (model X.prog X.w) X.A X.xe none (EP X pins σ Q) (.ref D) s3.heap.objs.size (.ok r) s6:=by
 obtain ⟨mm,hn6,_⟩:=I6.loc;exact ⟨mm,hn6,λh' sb=>⟨.ref D,H6,CB I3 f3 I6 sb,rfl,q⟩⟩
def qox {elt:Expr} {scope:Scope} {pos:Pos} {N':List Str} {m:List (Option Nat)} {te:TE} (hc:X.calm=true) (hi:PI X tg iter wi)
  (hg:∀ s H fp,PG (qx X N' scope s H fp) tg g) (hf:∀ s H fp,PF (qx X N' scope s H fp) ifs tif) (he:∀ s H fp,PE (qx X N' scope s H fp) elt te)
  (hsc:qdK X.env.scope scope=true) (hcap:U9 X.N N' scope m=true) (hs:∀ x,foldedSetIterable iter X.env x=pure x:=by intro _;rfl) :
  PE X (.ListComp elt [⟨tg,iter,ifs,0⟩] scope pos) (tLG wi g tif (tAp te) m):=by
 intro pins s σ H Q I h;rw [eval_ListComp];exact KW (use:=none) (bd:=apB elt) hc hi (λ_ _ _=>rfl) hg hf (λs H fp D kk=>qiD (λ_ _ z=>z) (he s H fp)) hsc hcap hs I h qfN
end
section
variable {K:Frg} {G G':Gp} {H H':Hp}
def qiI {D:Addr} {o:HO} {ws:List V} (hD:H D=some (.lst ws)) {a:Addr} {vs:List V} (h:SqT K H a vs):SqT K (upd H D o) a vs:=by
 rcases h with h|h
 ·refine .inl ?_;rcases h with h|⟨ob,h⟩
  ·have:a≠D:=by intro e;subst e;rw [hD] at h;cases h
   exact .inl (by rw [qv this];exact h)
  ·have:a≠D:=by intro e;subst e;rw [hD] at h;cases h
   exact .inr ⟨ob,by rw [qv this];exact h⟩
 ·exact .inr h
mutual
theorem Rp.wrD {D:Addr} {o:HO} {ws:List V} (hD:H D=some (.lst ws)):∀ {x:T} {v:V},Rp K H x v->Rp K (upd H D o) x v
 |_,_,.non=>.non
 |_,_,.bl b=>.bl b
 |_,_,.int i=>.int i
 |_,_,.str x=>.str x
 |_,_,.ref a=>.ref a
 |_,_,.tup h hs=>.tup (qiI hD h) (Rps.wrD hD hs)
theorem Rps.wrD {D:Addr} {o:HO} {ws:List V} (hD:H D=some (.lst ws)):∀ {x:List T} {v:List V},Rps K H x v->Rps K (upd H D o) x v
 |_,_,.nil=>.nil
 |_,_,.cons a b=>.cons (Rp.wrD hD a) (Rps.wrD hD b)
end
theorem HR.wrD {D:Addr} {o:HO} {ws:List V} (hr:HR K G H) (hD:H D=some (.lst ws)) (g:G D=none):HR K G (upd H D o):=⟨λa ob e=>by
 have ha:a≠D:=by intro z;subst z;rw [g] at e;cases e
 have q:=hr a ob e;cases ob with
 |lst xs=>obtain ⟨vs,h1,h2⟩:=q;exact ⟨vs,by rw [qv ha];exact h1,h2.wrD hD⟩
 |frz xs=>obtain ⟨vs,⟨o1,h1⟩,h2⟩:=q;exact ⟨vs,⟨o1,by rw [qv ha];exact h1⟩,h2.wrD hD⟩
 |dct kvs=>obtain ⟨vs,h1,h2⟩:=q;exact ⟨vs,by rw [qv ha];exact h1,h2.wrD hD⟩
 |exn C=>have h1:H a=some (.ext (IsX a C)):=q;exact (show _=_ by rw [qv ha];exact h1)
 |tab ks xs=>obtain ⟨vs,h1,h2⟩:=q;exact ⟨vs,by rw [qv ha];exact h1,h2.wrD hD⟩
 |clo i ts=>
  obtain ⟨fd,body,clos,c,ws,l,f,r⟩:=q;exact ⟨fd,body,clos,c,ws,l,f.keep λb o _ q=>by rw [qv (by rintro rfl;rw [hD] at q;cases q)];exact q,r.wrD hD⟩,hr.tabs.upd (λ_ z=>by rw [hD] at z;cases z) λ_ z=>by rw [hD] at z;cases z⟩
theorem Rel.wrD {D:Addr} {o:HO} {ws:List V} {τ:St3} {σ:L2.St} (r:Rel K τ G σ H) (hD:H D=some (.lst ws)) (g:G D=none):Rel K τ G σ (upd H D o):=
 ⟨r.hp.wrD hD g,r.len,λi t e=>let ⟨v,h1,h2⟩:=r.st i t e;⟨v,h1,h2.wrD hD⟩⟩
def Kp.wrD {D:Addr} {o:HO} (k:Kp G H G' H') (hD:H D=none):Kp G H G' (upd H' D o):=λa ob h g t=>by
 obtain ⟨h1,h2⟩:=k a ob h g t;exact ⟨by rw [qv (qB h hD)];exact h1,h2⟩
def qex {α:Type} {m:List (Option Nat)} {σ:List (Option α)} {i j:Nat} (h:m[i]?=some (some j)):(cap m σ)[i]?=some ((σ[j]?).join):=by
 unfold cap;rw [getElem?_map,h];rfl
theorem Rel.cap {τ:St3} {σ:L2.St} (r:Rel K τ G σ H) (m:List (Option Nat)):Rel K (cap m τ) G (L3.cap m σ) H:=by
 refine ⟨r.hp,by simp [L3.cap],λi t e=>?_⟩;obtain ⟨j,e1,e2⟩:=qcR e;obtain ⟨v,h1,h2⟩:=r.st j t e2;exact ⟨v,by rw [qex e1,h1];rfl,h2⟩
end
def qhk (stay:Gp->Prop) (g:TG3) (tif:TT3) (te:TE3) (q:Q3):List T->List T->St3->Gp->Prop
 |[],ys,_,G=>stay G/\∀ p,G p=none->q (.ref p) (gu G p (.lst ys))
 |x::r,ys,τ,G=>stay G/\g x τ G λτ2 G2=>tif τ2 G2 λk G3=>if k=true then te τ2 G3 λy G4=>ys.length<sizeLine/\qhk stay g tif te q r (ys++[y]) τ2 G4 else qhk stay g tif te q r ys τ2 G3
def lc3 (wi:TI3) (g:TG3) (tif:TT3) (te:TE3) (m:List (Option Nat)):TE3:=λτ G q=>wi τ G λitems stay G1=>qhk stay g tif te q items [] (cap m τ) G1
abbrev F3 (X:Cx) (ifs:List Expr) (t:TT3):Prop:=PF X ifs (lT X.K t)
def tt3:TT3:=λ_ G q=>q true G
def qkm {K:Frg} {m:List (Option Nat)} {wi:TI3} {g:TG3} {tif:TT3} {te:TE3} {σ:L2.St} {H:Hp} {Q:VK} (hh:lE K (lc3 wi g tif te m) σ H Q):tLG (lI K wi) (lG K g) (lT K tif) (tAp (lE K te)) m σ H Q:=by
  obtain ⟨τ,G,q,rl,h,af⟩:=hh;refine ⟨τ,G,_,rl,h,λitems stay G1 h1 J H1 hr1 k1 ok D hD=>?_⟩;have gD:G1 D=none:=hr1.free hD;refine ⟨λi n σ' H'=>n=items.length-i/\i<=items.length/\∃ τ' G' ys vs,Rel K τ' G' σ' H'/\Kp G1 H1 G' H'/\H' D=some (.lst vs)/\Rps K H' ys vs/\G' D=none/\qhk stay g tif te q (items.drop i) ys τ' G',
   ⟨_,rfl,Nat.zero_le _,cap m τ,G1,[],[],((rl.next hr1 k1).cap m).next (hr1.laid hD) (Kp.laid hD),Kp.laid hD,qI,.nil,gD,by simpa using h1⟩,?_⟩
  rintro i n σ' H' ⟨rfl,hi,τ',G',ys,vs,rl',k',hDl,rys,gD',h'⟩;by_cases hlt:i<items.length
  ·rw [List.drop_eq_getElem_cons hlt] at h';obtain ⟨hst,h'⟩:=h';obtain ⟨go,yld,_⟩:=ok G' H' rl'.hp k' hst;have hx:items[i]?=some items[i]:=v4 hlt;refine .inr ⟨go i _ hx,λv H2 y=>?_⟩;obtain ⟨rv,hr2,k2⟩:=yld i _ v H2 hx y;have nxt:∀ {τ4:St3} {G4:Gp} {σ4:L2.St} {H4:Hp} {ys4:List T} {vs4:List V},Rel K τ4 G4 σ4 H4->Kp G1 H1 G4 H4->H4 D=some (.lst vs4)->Rps K H4 ys4 vs4->G4 D=none->qhk stay g tif te q (items.drop (i+1)) ys4 τ4 G4 ->
     ∃ n',n'<items.length-i/\(n'=items.length-(i+1)/\i+1<=items.length/\∃ τ' G' ys vs,Rel K τ' G' σ4 H4/\Kp G1 H1 G' H4/\H4 D=some (.lst vs)/\Rps K H4 ys vs/\G' D=none/\qhk stay g tif te q (items.drop (i+1)) ys τ' G'):=
    λ{τ4 G4 σ4 H4 ys4 vs4} a b c d e f=>⟨_,by omega,rfl,hlt,τ4,G4,ys4,vs4,a,b,c,d,e,f⟩
   refine ⟨_,τ',G',_,rv,rl'.next hr2 k2,h',λτ3 G3 h3 σ3 H3 rl3 k3=>⟨τ3,G3,_,rl3,h3,λk G4 h4 H4 hr4 k4=>?_⟩⟩;have kk:=(k2.trans k3).trans k4;obtain ⟨hD4,gD4⟩:=kk D _ hDl gD' rfl;have rys4:=rys.keep rl'.hp kk;cases k with
   |false=>
    rw [if_neg y8] at h4;refine qom ?_;exact nxt (rl3.next hr4 k4) (k'.trans kk) hD4 rys4 gD4 h4
   |true=>
    rw [if_pos rfl] at h4;refine qnW ?_;refine ⟨τ3,G4,_,rl3.next hr4 k4,h4,λz G5 h5 w H5 rw5 hr5 k5=>?_⟩;obtain ⟨hD5,gD5⟩:=k5 D _ hD4 gD4 rfl;have rys5:=rys4.keep hr4 k5;exact ⟨vs,hD5,by rw [← rys.length];exact h5.1,nxt (((rl3.next hr4 k4).next hr5 k5).wrD hD5 gD5) (((k'.trans kk).trans k5).wrD hD) qI ((rys5.append (.cons rw5 .nil)).wrD hD5) gD5 h5.2⟩
  ·have e:i=items.length:=by omega
   subst e;rw [List.drop_length] at h';obtain ⟨_,_,stop⟩:=ok G' H' rl'.hp k' h'.1;refine .inl ⟨stop,af _ _ (h'.2 D gD') _ H' (.ref D) ⟨λa o e=>?_,rl'.hp.tabs⟩ λa o e ga t=>?_⟩
   ·by_cases ha:a=D
    ·subst ha;rw [qG] at e;cases e;exact ⟨vs,hDl,rys⟩
    ·rw [jc ha] at e;exact rl'.hp a o e
   ·obtain ⟨e1,g1⟩:=k1 a o e ga t;obtain ⟨e2,g2⟩:=k' a o e1 g1 t;exact ⟨e2,by rw [jc (qB e1 hD)];exact g2⟩
section
variable {X:Cx}
end
structure Src (P:Program) (w:World) (it c:Addr) (St:Nat->Heap->Prop) (Has:Array Value->Heap->Prop):Prop where
 obj:∀ {k h},St k h->∃ o,h.get? it=some o/\∀ v,o.data≠.cell v
 keep:∀ {k h h'},St k h->(∀ o,h.get? it=some o->h'.get? it=some o)->St k h'
 hkeep:∀ {xs h h'},Has xs h->(∀ o,h.get? c=some o->h'.get? c=some o)->Has xs h'
 item:∀ {A:Around} {s:Shared} {k:Nat} {xs:Array Value} {x:Value} {Q:Value->Shared->Prop} {E:Value->Shared->Prop},St k s.heap->Has xs s.heap->xs[k]?=some x ->
  (∀ h',St (k+1) h'->Heap.SameBut it s.heap h'->Q x { s with heap:=h' })->wpAny (model P w) A (Builtin.SmallTypes.nextOf (.ref it)) Q E s
 done:∀ {A:Around} {s:Shared} {k:Nat} {xs:Array Value} {Q:Value->Shared->Prop} {E:Value->Shared->Prop},A.handled=none->St k s.heap->Has xs s.heap->xs[k]?=none ->
  (∀ h' e,Heap.ExtBut it s.heap h'->(∃ o,h'.get? e=some o/\o.cls=.type "StopIteration")->E (.ref e) { s with heap:=h' })->wpAny (model P w) A (Builtin.SmallTypes.nextOf (.ref it)) Q E s
def qew {P:Program} {w:World} (it l:Addr):Src P w it l (λk h=>h.IsListIter it l k) (λxs h=>h.IsList l xs) where
 obj:=λst=>let ⟨o,e,_,d⟩:=st;⟨o,e,λv z=>by rw [d] at z;cases z⟩
 keep:=λst k=>st.at λo e=>k o e
 hkeep:=λst k=>st.at λo e=>k o e
 item:=λst hl hx hQ=>wpAny_nextOf_list_item st hl hx hQ
 done:=λhh st hl hx hE=>wpAny_nextOf_list_end hh st hl hx hE
def qak {P:Program} {w:World} {A:Around} {s:Shared} {it t:Addr} {i:Nat} {its:Array Value} {x:Value} {Q:Value->Shared->Prop} {E:Value->Shared->Prop} (hit:s.heap.IsTupleIter it t i) (ht:s.heap.IsTuple t its) (hx:its[i]?=some x)
  (hQ:∀ h',h'.IsTupleIter it t (i+1)->Heap.SameBut it s.heap h'->Q x { s with heap:=h' }):wpAny (model P w) A (Builtin.SmallTypes.nextOf (.ref it)) Q E s:=by
 obtain ⟨o1,e1,c1,d1⟩:=id hit;obtain ⟨o2,e2,_,n2,d2⟩:=ht;unfold Builtin.SmallTypes.nextOf;refine x8 (wpAny_callSpecial?_slot (name:=Str.ofString "__next__") hit.typeIs F.slot_tuple_iterator_next (wpAny_call_entry F.slot_tuple_iterator_next hit.typeIs F.entry_tuple_iterator_next ?_ (F.args_tuple_iterator_next_1 _)));refine x8 (m:=field (.ref it) 0) (wpAny_field e1 d1 (x:=.ref t) rfl ?_);rw [if_neg (show ¬ ((Value.ref t==Value.none)=true) by exact y8)];refine x8 (m:=field (.ref it) 1) (wpAny_field e1 d1 (x:=.int i 0) rfl ?_);refine x8 (m:=seqItems? (.ref t)) (wpAny_seqItems e2 d2 ?_);simp only [Int.toNat_natCast,hx];refine x8 (wpAny_setField e1 d1 (by simp) (x9 ⟨x,rfl,x9 (hQ _ ⟨_,Heap.get?_update_self _ e1 (Obj.isFreed_of_fields (Obj.data_mapFields d1 _)),(Obj.cls_mapFields ..).trans c1,?_⟩ (Heap.SameBut.update ..))⟩));rw [Obj.data_mapFields d1];simp [rawInt]
def XM {P:Program} {w:World} {A:Around} {s:Shared} {it t:Addr} {i:Nat} {its:Array Value} {Q:Value->Shared->Prop} {E:Value->Shared->Prop} (hh:A.handled=none) (hit:s.heap.IsTupleIter it t i) (ht:s.heap.IsTuple t its) (hx:its[i]?=none)
  (hE:∀ h' e,Heap.ExtBut it s.heap h'->(∃ o,h'.get? e=some o/\o.cls=.type "StopIteration")->E (.ref e) { s with heap:=h' }):wpAny (model P w) A (Builtin.SmallTypes.nextOf (.ref it)) Q E s:=by
 obtain ⟨o1,e1,c1,d1⟩:=id hit;obtain ⟨o2,e2,_,n2,d2⟩:=ht;unfold Builtin.SmallTypes.nextOf;refine x8 (wpAny_callSpecial?_slot (name:=Str.ofString "__next__") hit.typeIs F.slot_tuple_iterator_next (wpAny_call_entry F.slot_tuple_iterator_next hit.typeIs F.entry_tuple_iterator_next ?_ (F.args_tuple_iterator_next_1 _)));refine x8 (m:=field (.ref it) 0) (wpAny_field e1 d1 (x:=.ref t) rfl ?_);rw [if_neg (show ¬ ((Value.ref t==Value.none)=true) by exact y8)];refine x8 (m:=field (.ref it) 1) (wpAny_field e1 d1 (x:=.int i 0) rfl ?_);refine x8 (m:=seqItems? (.ref t)) (wpAny_seqItems e2 d2 ?_);simp only [Int.toNat_natCast,hx];refine x8 (wpAny_rule (x8 (wpAny_setField e1 d1 (by simp) ?_)));refine x8 (m:=newExc (.type "StopIteration") []) ?_;simp only [newExc,newTuple];refine x8 (wpAny_newObj_type ?_ (by size_fits));refine x8 (m:=firstArgMember _ _) (wpAny_of_eq (a:=Value.none) (by first|rfl|(simp only [firstArgMember]<;>rfl)) (wpAny_newObj_type ?_ (by size_fits)));simp only [raiseNew];refine x8 (wpAny_handled ?_)
 first|rw [show A.in1.handled=Option.none from hh]|rw [show A.handled=Option.none from hh]
 exact x8 (x9 (wpAny_throw (hE _ _ (((Heap.SameBut.update ..).extBut.push _).push _) ⟨_,y4 _ rfl,rfl⟩)))
def qhJ {P:Program} {w:World} (it t:Addr):Src P w it t (λk h=>h.IsTupleIter it t k) (λxs h=>h.IsTuple t xs) where
 obj:=λst=>let ⟨o,e,_,d⟩:=st;⟨o,e,λv z=>by rw [d] at z;cases z⟩
 keep:=λst k=>st.at λo e=>k o e
 hkeep:=λst k=>st.at λo e=>k o e
 item:=λst hl hx hQ=>qak st hl hx hQ
 done:=λhh st hl hx hE=>XM hh st hl hx hE
section
variable {P:Program} {w:World} {A:Around} {s:Shared} {z ti to i1 i2 c1 c2:Addr} {S1 S2:Nat->Heap->Prop} {H1 H2:Array Value->Heap->Prop} {k1 k2:Nat} {xs ys:Array Value} {x y a b:Value} {E:Value->Shared->Prop}
end
abbrev qop (b:Bool):String:=if b then "list_iterator" else "tuple_iterator"
abbrev KH (b:Bool) (c:Addr):Obj:={ cls:=.type (qop b),data:=.fields #[.ref c,.int 0 0] }
def qj1 (b:Bool) (it c:Addr) (k:Nat) (h:Heap):Prop:=match b with|true=>h.IsListIter it c k|false=>h.IsTupleIter it c k
def qgW (b:Bool) (c:Addr) (xs:Array Value) (h:Heap):Prop:=match b with|true=>h.IsList c xs|false=>h.IsTuple c xs
def Z0 {P:Program} {w:World} (b:Bool) (it c:Addr):Src P w it c (qj1 b it c) (qgW b c):=by
 cases b
 ·exact qhJ it c
 ·exact qew it c
def qhW {P:Program} {w:World} {A:Around} {s:Shared} {b:Bool} {c:Addr} {xs:Array Value} {Q:Value->Shared->Prop} {E:Value->Shared->Prop} (h:qgW b c xs s.heap) (q:Q (.ref s.heap.objs.size) { s with heap:=s.heap.push (KH b c) }) :
  wpAny (model P w) A (pyIter (.ref c)) Q E s:=by
 cases b
 ·exact wpAny_pyIter_tuple (show s.heap.IsTuple c xs from h) q
 ·exact wpAny_pyIter_list (show s.heap.IsList c xs from h) q
section
variable {P:Program} {w:World} {A:Around} {s:Shared} {E:Value->Shared->Prop}
end
def SqB (K:Frg) (b:Bool) (H:Hp) (a:Addr) (xs:List V):Prop:=match b with|true=>SqL K H a xs|false=>SqT K H a xs
def SqB.get {X:Cx} {pins:List (Addr×Obj)} {σ:L2.St} {H:Hp} {s:Shared} {b:Bool} {a:Addr} {xs:List V} (I:Inv X pins σ H s) (h:SqB X.K b H a xs):∃ its:List Value,zb xs its/\qgW b a its.toArray s.heap/\xs.length<=sizeLine:=by
 cases b
 ·obtain ⟨its,r,p,hz⟩:=I.tuple (show SqT X.K H a xs from h);exact ⟨its,r,(show s.heap.IsTuple a its.toArray from p),hz⟩
 ·obtain ⟨its,r,p,hz⟩:=I.list (show SqL X.K H a xs from h);exact ⟨its,r,p.isList,hz⟩
def SqB.inj {X:Cx} {pins:List (Addr×Obj)} {σ:L2.St} {H:Hp} {s:Shared} {b:Bool} {a:Addr} {xs ys:List V} (I:Inv X pins σ H s) (h:SqB X.K b H a xs) (h':SqB X.K b H a ys):xs=ys:=by
 cases b
 ·exact I.tuple_inj h h'
 ·exact I.list_inj h h'
def qnu {b:Bool} {c:Addr} {xs:Array Value} {h:Heap} (q:qgW b c xs h):c<h.objs.size:=by
 cases b
 ·obtain ⟨o,e,_⟩:=(show h.IsTuple c xs from q);exact y6 e
 ·obtain ⟨o,e,_⟩:=(show h.IsList c xs from q);exact y6 e
def qbj {X:Cx} {pins:List (Addr×Obj)} {σ:L2.St} {H:Hp} {s:Shared} (I:Inv X pins σ H s) {ch:List Addr} (hf:∀ b∈ch,KQ X pins H b) {h2:Heap} {t2:Nat} {x y:V} {u1 u2:Value} (r1:zO x u1) (r2:zO y u2)
  (hp:h2.get? s.heap.objs.size=some { cls:=.type "tuple",data:=.seq #[u1,u2] }) (kk:∀ c o,c∉ch->s.heap.get? c=some o->h2.get? c=some o):Inv X pins σ (upd H s.heap.objs.size (.tup [x,y])) { s with heap:=h2,toks:=t2 }:=by
 have hfr:H s.heap.objs.size=none:=I.fresh;refine I.step (g':=s.gens) (d':=s.drawn) (t':=t2) (ch:=ch) (λb hb=>?_) (λb o _ _ hcb e _=>kk b o hcb e) (λb o _ _ hcb e _=>⟨o.slots,kk b o hcb e⟩) (λb o _ e n=>by rw [qv (u6 (y6 e))];exact n) (λb o hcb e=>⟨o,kk b o hcb e⟩)
  (λb _ e=>by rw [qv (qB e hfr)];exact e) (λb _ _ e=>by rw [qv (qB e hfr)];exact e) (λb ps e=>⟨#[],by rw [qv (qB e hfr),e];simp⟩) (λm hm=>?_) (λb u e=>?_) I.bare
 ·obtain ⟨f0,f1,f2,f3,f4,f5⟩:=hf b hb;exact ⟨f3,f1,f4,f5⟩
 ·obtain ⟨o,es',ep,ho',r⟩:=hm;exact ⟨o,es',ep,kk _ o (λq=>(hf _ q).2.1 rfl) ho',r⟩
 ·by_cases hb:b=s.heap.objs.size
  ·subst hb;rw [qI] at e;cases e;exact ⟨by show 2<=sizeLine;decide,[u1,u2],.cons r1 (.cons r2 .nil),⟨_,hp,rfl,_,rfl,rfl⟩⟩
  ·rw [qv hb] at e;refine (I.hok b u e).stay (λc v hcb q=>kk c v (λm=>?_) q) (λ_ q=>by rw [qv (qB q hfr)];exact q) λ_ _ q=>by rw [qv (qB q hfr)];exact q
   have hn:=(hf c m).1;rcases hcb with q|q
   ·rw [q] at hn;rw [hn] at e;cases e
   ·rw [hn] at q;cases q
section
variable {X:Cx} {a b e l:Expr} {es:List Expr} {pos:Pos}
end
def CT (G:Gp):T->Option (List T)
 |.tup xs=>some xs
 |.ref p=>getL G p
 |_=>none
def qjT {K:Frg} {G0:Gp} {H0:Hp} {x:T} {v:V} {us:List T} (hr0:HR K G0 H0) (rx:Rp K H0 x v) (h:CT G0 x=some us) :
  ∃ b c,v=.ref c/\∀ G H,HR K G H->Kp G0 H0 G H->CT G x=some us->∃ vs,SqB K b H c vs/\Rps K H us vs:=by
 cases rx with
 |tup hs rs=>
  cases h;exact ⟨false,_,rfl,λG H hr k _=>⟨_,(DG hr0 k hs:SqT K H _ _),rs.keep hr0 k⟩⟩
 |ref a=>exact ⟨true,a,rfl,λG H hr k hq=>let ⟨vs,h1,h2⟩:=zz hr (show getL G a=some us from hq);⟨vs,h1,h2⟩⟩
 |_=>cases h
def qn8 (us vs:List T):List T:=(us.zip vs).map λp=>.tup [p.1,p.2]
section
variable {X:Cx} {a b e l:Expr} {es:List Expr} {pos:Pos} {t:TA3}
end
def qnM:Value->Bool
 |.type t=>t == "list"
 |_=>false
def UG:List (Addr×Obj)->Bool
 |[]=>true
 |p::r=>if qnM p.2.cls then false else UG r
theorem CA:∀ {K:List (Addr×Obj)} {a:Addr} {o:Obj},UG K=true->K.lookup a=some o->o.cls≠.type "list"
 |[],_,_,_,e=>by simp at e
 | (b,x)::r,a,o,h,e=>by
  unfold UG at h;split at h
  ·cases h
  ·rename_i hx;rw [List.lookup_cons] at e;split at e
   ·cases e;intro z;rw [z] at hx;exact hx rfl
   ·exact CA h e
def only (a:Addr) (ns:List Int):Gp:=λb=>if b=a then some (.frz (ns.map T.int)) else none
def qiU {K:Frg} {H:Hp} {a:Addr} {ns:List Int} (h:∃ o,H a=some (.frz o (.lst (ns.map V.int)))) (t:qi6 K H):HR K (only a ns) H:=⟨λb o e=>by
 unfold only at e;split at e
 ·rename_i hb;subst hb;cases e;exact ⟨_,h,Rps.ints ns⟩
 ·exact (nomatch e),t⟩
def R1:Sp3:=λts G q=>∃ (a:Addr) (ns:List Int),ts=[.ref a]/\G a=some (.frz (ns.map T.int))/\ns.length<=63/\∀ G',q (.bl true) G'
def qin {P:Program} {w:World} {K:Frg} {mg:Str->Option Value} {base:Heap} {x qual:Str} {st:Stmt} {f:Addr} {fd:FuncData} {N ps:List Str} {k:Nat} {sp:Sp3} {t3:TS3} (F:Fun K x qual st f fd) (S:FnScope N ps (qh st))
  (body:∀ (cdv:Value) (A:Around) (outer:List Env) (s:Shared) (H:Hp) (E:XK),Room k (A.deeper (envOfC qual (qh st) s.heap.objs.size f cdv)) ->
   B3 (qaR CX0 P w K mg base N qual (qh st) f cdv A outer s H E).nox (zo st) t3)
  (read:∀ ts G q,sp ts G q->ts.length=ps.length/\t3 { nx:=λ_ G'=>q .non G',rt:=q } (qE N ts) G):FnOk P w K mg base CX0 (k+1) f fd ps (lSp K sp):=by
 refine F.ok S (λvs H Q E ⟨ts,G,q,h1,h2,h3,h4⟩=>by rw [← h2.length];exact (read ts G q h3).1) λcdv A outer s H vs Q E hr ⟨ts,G,q,h1,h2,h3,h4⟩=>?_;refine ⟨_,body cdv A outer s H E hr,qE N ts,G,_,W8 h1 h2,(read ts G q h3).2,⟨λτ' G' h' σ' H' rl' k'=>h4 _ G' h' _ H' .non rl'.hp k',h4,λ_ _ z=>z.elim,λ_ _ z=>z.elim⟩⟩
abbrev eh1 (h:Heap) (o1:Obj):Heap:=h.push o1
abbrev eh2 (h:Heap) (o1:Obj):Heap:=(eh1 h o1).push { cls:=.type "enumerate",data:=.fields #[.none,.bool false,.ref h.objs.size,rawInt 0,.none,.none] }
def NY (c:Addr) (o1:Obj) (ob:Obj) :
  Meets (Builtin.«enumerate.__new__» ⟨[.type "enumerate",.ref c],[]⟩) (λ_ R s=>s.heap.get? c=some ob /\
   (∀ (P:Program) (w:World) (A:Around) (Q:Value->Shared->Prop) (E:Value->Shared->Prop),Q (.ref s.heap.objs.size) { s with heap:=eh1 s.heap o1 }->wpAny (model P w) A (pyIter (.ref c)) Q E s) /\
   R (.ok (.ret (.ref (eh1 s.heap o1).objs.size))) { s with heap:=eh2 s.heap o1 }):=
 .of_wp λprog w A R s h=>by
  obtain ⟨hp,g,d,tk,os⟩:=s;obtain ⟨hl,h1,h⟩:=h;have hsub:=sub_enumerate;have k1:=λA Q E=>h1 prog w A Q E
  wp_walk using wpAny_loadPart' hl
  refine wpAny_stack_any λst=>x9 ?_;split
  ·rename_i c _ _ _ _ _;cases (c==Value.type "enumerate")
   ·wp_walk using wpAny_loadPart' hl,k1 _ _ _
    exact ⟨_,rfl,h⟩
   ·wp_walk using wpAny_loadPart' hl,k1 _ _ _
    exact ⟨_,rfl,h⟩
  ·wp_walk using wpAny_loadPart' hl,k1 _ _ _
   exact ⟨_,rfl,h⟩
def qek {b:Bool} {c:Addr} {xs:Array Value} {h:Heap} (q:qgW b c xs h):∃ o,h.get? c=some o:=by
 cases b
 ·obtain ⟨o,e,_⟩:=(show h.IsTuple c xs from q);exact ⟨o,e⟩
 ·obtain ⟨o,e,_⟩:=(show h.IsList c xs from q);exact ⟨o,e⟩
section
variable {P:Program} {w:World} {A:Around} {s:Shared} {E:Value->Shared->Prop}
def qbl {b:Bool} {c:Addr} {xs:Array Value} {Q:Value->Shared->Prop} (h1:qgW b c xs s.heap)
  (q:∀ h',IsEnum h' (s.heap.objs.size+1) s.heap.objs.size 0 .none->qj1 b s.heap.objs.size c 0 h'->(∀ c o,s.heap.get? c=some o->h'.get? c=some o)->Q (.ref (s.heap.objs.size+1)) { s with heap:=h' }) :
  wpAny (model P w) A (call (.type "enumerate") [.ref c]) Q E s:=by
 obtain ⟨ob,hob⟩:=qek h1;refine callType_new F.called_enumerate (by decide) (F.typeCall_enumerate_1 _) (F.newCall_enumerate_1 _) (λobj=>F.args_object_init_2 obj _) F.entry_enumerate_new
  (NY c (KH b c) ob) ⟨hob,λP w A Q E q=>qhW h1 q,?_⟩
 have e1:(eh1 s.heap (KH b c)).objs.size=s.heap.objs.size+1:=Heap.size_push ..;have g2:(eh2 s.heap (KH b c)).get? (eh1 s.heap (KH b c)).objs.size=some _:=y4 _ rfl;have g1:(eh2 s.heap (KH b c)).get? s.heap.objs.size=some (KH b c):=y3 _ (y4 _ rfl);show _/\_;rw [e1] at g2 ⊢;refine ⟨⟨_,g2,rfl⟩,q _ g2 ?_ λc o e=>y3 _ (y3 _ e)⟩;cases b<;>exact ⟨_,g1,rfl,rfl⟩
end
def qeA {P:Program} {w:World} {A:Around} (hh:A.handled=none) (b:Bool) (it c:Addr) (hne:c≠it) (xs:Array Value) :
  Draws P w A it [it,c] xs.size (λi v=>xs[i]?=some v) (λi h=>qj1 b it c i h/\qgW b c xs h) where
 live:=λi h st=>let ⟨o,e,_⟩:=(Z0 (P:=P) (w:=w) b it c).obj st.1;⟨o,e⟩
 frame:=λi h h' st hk=>⟨(Z0 (P:=P) (w:=w) b it c).keep st.1 λo e=>hk it (by simp) o e,(Z0 (P:=P) (w:=w) b it c).hkeep st.2 λo e=>hk c (by simp) o e⟩
 item:=λi s Q E hi st hQ=>by
  refine (Z0 (P:=P) (w:=w) b it c).item st.1 st.2 (x:=xs[i]) (by simp [hi]) λh' st' sb=>?_;exact hQ _ h' s.toks (by simp [hi]) ⟨st',(Z0 (P:=P) (w:=w) b it c).hkeep st.2 λo e=>(sb.2 c hne).trans e⟩ sb
 done:=λs Q E st hE=>(Z0 (P:=P) (w:=w) b it c).done hh st.1 st.2 (by simp) hE
def CN {P:Program} {w:World} {A:Around} {s:Shared} {E:Value->Shared->Prop} {b:Bool} {e it c:Addr} {i:Nat} {xs:Array Value} {old:Value} {Q:Option Value->Shared->Prop} (hh:A.handled=none) (he:IsEnum s.heap e it i old) (p1:qj1 b it c i s.heap) (l1:qgW b c xs s.heap) (hx:xs[i]?=none)
  (hQ:∀ h',Heap.ExtBut it s.heap h'->Q none { s with heap:=h' }):wpAny (model P w) A (pyNext (.ref e)) Q E s:=by
 have hT:s.TypeIs (.ref e) "enumerate" := ⟨_,he,rfl⟩
 unfold pyNext;refine x8 (wpAny_attempt (wpAny_callSpecial?_slot (name:=Str.ofString "__next__") hT F.slot_enumerate_next
  (wpAny_call_entry F.slot_enumerate_next hT F.entry_enumerate_next ?_ (F.args_enumerate_next_1 _))))
 show wpAny _ _ (field (.ref e) 2 >>= _) _ _ _;refine x8 (wpAny_field he rfl (x:=.ref it) rfl ?_);refine x8 ((Z0 (P:=P) (w:=w) b it c).done (show A.in1.handled=none from hh) p1 l1 hx λh' x he' hx'=>?_);obtain ⟨o,ho,hc⟩:=hx';refine x8 (wpAny_isInstance (T:="StopIteration") (b:=true) ⟨o,ho,hc⟩ isSubtype_stop ?_);exact x9 (hQ _ he')
def Ite (K:Frg) (b:Bool) (c:Addr):It:=
  ⟨λi H=>∃ xs x,SqB K b H c xs/\xs[i]?=some x,
   λi H v H'=>∃ p x,H p=none/\v=.ref p/\H'=upd H p (.tup [.int i,x])/\(∀ xs,SqB K b H c xs->xs[i]?=some x),
   λi H=>∃ xs,SqB K b H c xs/\xs.length<=i⟩
def qkD (b:Bool) (e it c:Addr) (k:Nat) (h:Heap):Prop:=(∃ old,IsEnum h e it k old)/\qj1 b it c k h
def qcS {P:Program} {w:World} {K:Frg} {es:List Expr} {k1:Nat} {pt:Pos} {b:Bool} {e it c:Addr} (n1:e≠it) (n2:c≠e) (n3:c≠it):Turn P w K (.Tuple es k1 pt) (Ite K b c) [e,it] e (qkD b e it c) where
 mem:=by simp
 obj:=λi h ⟨⟨old,he⟩,p1⟩ d hd=>by
  simp only [mem_cons,not_mem_nil,or_false] at hd;rcases hd with rfl|rfl
  ·exact ⟨_,he,λv q=>by cases q⟩
  ·exact (Z0 (P:=P) (w:=w) b d c).obj p1
 keep:=λi h h' ⟨⟨old,he⟩,p1⟩ k=>⟨⟨old,k e (by simp) _ he⟩,(Z0 (P:=P) (w:=w) b it c).keep p1 λo e=>k it (by simp) o e⟩
 item:=by
  intro X hP hw hK hc i pins s σ H E I hf st hg;subst hP hw hK;obtain ⟨xs,x,sq,hx⟩:=hg;obtain ⟨its,rv,l1,z1⟩:=sq.get I;obtain ⟨u,hu,ru⟩:=rv.get hx;obtain ⟨⟨old,he⟩,p1⟩:=st;have hil:i<its.toArray.size:=by have:=(za2 hu).1;simpa using this
  refine wpAny_pyNext_enum_itemD (qeA (show X.A.in1.handled=none from I.ok.hd hc) b it c n3 its.toArray) he ⟨p1,l1⟩ hil n1 (by simp only [mem_cons,not_mem_nil,or_false,not_or];exact ⟨n1,Ne.symm n2⟩) λy h' tk hy ho st' ht hsz hk=>?_;have hy':y=u:=by
   have:its.toArray[i]?=some u:=by simpa using hu
   rw [this] at hy;exact (Option.some.inj hy).symm
  subst hy';have hfr:H s.heap.objs.size=none:=I.fresh;have free:∀ b∈[e,it],H b=none:=λb hb=>(hf b hb).1;refine ⟨_,rfl,wpAny_letOwnedTupleGo_enum ho λh2 hz2 s2=>?_⟩;have elt:e<s.heap.objs.size:=y6 he;have hp2:h2.get? s.heap.objs.size=some { cls:=.type "tuple",data:=.seq #[.int i tk,y] }:=(s2.2 _ (Nat.ne_of_gt elt)).trans ht;have up:∀ c o,c≠e->h'.get? c=some o->h2.get? c=some o:=λc o hc e=>(s2.2 c hc).trans e;have kk:∀ c o,c∉[e,it]->s.heap.get? c=some o->h2.get? c=some o:=λc o hc q=>by
   simp only [mem_cons,not_mem_nil,or_false,not_or] at hc;exact up c o hc.1 (hk c o hc.1 hc.2 q)
  have I3:Inv X pins σ (upd H s.heap.objs.size (.tup [.int i,x])) { s with heap:=h2,toks:=tk+1 }:=qbj I hf ⟨tk,rfl⟩ ru hp2 kk;refine ⟨.ref s.heap.objs.size,_,I3,rfl,⟨_,x,hfr,rfl,rfl,λzs q=>by rw [q.inj I sq];exact hx⟩,⟨⟨_,by push_cast;exact hz2⟩,(Z0 (P:=X.prog) (w:=X.w) b it c).keep st'.1 λo e=>up _ o (Ne.symm n1) e⟩,λb hb=>?_⟩;rw [qv (λq=>?_)]
  ·exact free b hb
  ·subst q;simp only [mem_cons,not_mem_nil,or_false] at hb;rcases hb with q|q
   ·exact absurd q (Nat.ne_of_gt elt)
   ·obtain ⟨o,e,_⟩:=(Z0 (P:=X.prog) (w:=X.w) b it c).obj p1;exact absurd q (Nat.ne_of_gt (y6 e))
 done:=by
  intro X hP hw hK hc i pins s σ H E I hf st hg;subst hP hw hK;obtain ⟨xs,sq,hend⟩:=hg;obtain ⟨its,rv,l1,z1⟩:=sq.get I;obtain ⟨⟨old,he⟩,p1⟩:=st;have e1:=rv.length;have free:∀ b∈[e,it],H b=none:=λb hb=>(hf b hb).1;refine CN (I.ok.hd hc) he p1 l1 (by simp;omega) λh' hk0=>⟨rfl,?_⟩
  have hk:∀ c o,c∉[e,it]->s.heap.get? c=some o->h'.get? c=some o:=λc o hcb q=>hk0 c o (by simp only [mem_cons,not_mem_nil,or_false,not_or] at hcb;exact hcb.2) q;refine I.step (g':=s.gens) (d':=s.drawn) (t':=s.toks) (ch:=[e,it]) (λb hb=>?_) (λb o _ _ hcb e _=>hk b o hcb e) (λb o _ _ hcb e _=>⟨o.slots,hk b o hcb e⟩) (λ_ _ _ _ n=>n) (λb o hcb e=>⟨o,hk b o hcb e⟩) (λ_ _ e=>e) (λ_ _ _ e=>e) (λb ps e=>⟨#[],by rw [e];simp⟩) (λm hm=>?_) (λb u e=>?_) I.bare
  ·obtain ⟨f0,f1,f2,f3,f4,f5⟩:=hf b hb;exact ⟨f3,f1,f4,f5⟩
  ·obtain ⟨o,es',ep,ho',r⟩:=hm;refine ⟨o,es',ep,hk _ o (λq=>?_) ho',r⟩;obtain ⟨f0,f1,_⟩:=hf X.env.locals q;exact f1 rfl
  ·refine (I.hok b u e).stay (λc v hcb q=>hk c v (λm=>?_) q) (λ_ q=>q) λ_ _ q=>q;have hn:=free c m;rcases hcb with q|q
   ·rw [q] at hn;rw [hn] at e;cases e
   ·rw [hn] at q;cases q
 self:=λA i s Q E st h=>let ⟨⟨old,he⟩,_⟩:=st;wpAny_pyIter_enum he h
section
variable {X:Cx} {a b e l:Expr} {es:List Expr} {pos:Pos}
def qhA {p pt:Pos} {k1:Nat} {ta:TA} (hg:Gl X "enumerate") (hm:X.mg "enumerate" = none) (ha:PA X [a] ta) (hs:starEach [a] X.env=[(false,eval a X.env)]:=by rfl) :
  PI X (.Tuple es k1 pt) (.Call (.Name "enumerate" p) [a] [] pos) (λσ H R=>ta σ H λvs H1=>∃ b1 c1 xs,vs=[.ref c1]/\SqB X.K b1 H1 c1 xs/\R (Ite X.K b1 c1) H1):=by
 intro pins s σ H R I h;refine Call_ (EL I hg hm PyProof.Rows.boot_enumerate (PyProof.Rows.callWith_type1 (thn (ha pos pins s σ H _ I h) λus s1 ⟨vs,H1,I1,r1,q1⟩=>?_) (by rw [hs];rfl) (by rfl)));obtain ⟨b1,c1,xs,rfl,sq1,q⟩:=q1;obtain ⟨u1,rfl,e1⟩:=XO r1;cases (show u1=Value.ref c1 from e1);obtain ⟨its1,rv1,l1,z1⟩:=sq1.get I1;refine qbl l1 λh' he hit hk=>wpAny_pyIter_enum he ?_;have lt:=qnu l1;have ne3:∀ n c:Nat,c<n->n+1≠n/\c≠n+1/\c≠n:=λn c h=>by omega
 obtain ⟨m1,m2,m3⟩:=ne3 _ _ lt;refine ⟨s1.heap.objs.size+1,[s1.heap.objs.size+1,s1.heap.objs.size],_,_,H1,rfl,I1.kept (t':=s1.toks) hk,qcS m1 m2 m3,⟨⟨_,he⟩,hit⟩,λc hc=>?_,q⟩;have hle:s1.heap.objs.size<=c:=by
  simp only [mem_cons,not_mem_nil,or_false] at hc;rcases hc with rfl|rfl<;>first|exact v6 _|exact Nat.le_add_right _ _
 exact I1.fpOk hle (I1.hok.fresh hle)
end
def jv (k:Nat):List T->List T
 |[]=>[]
 |x::r=>.tup [.int (k:Int),x]::jv (k+1) r
def qeR (us:List T):List T:=jv 0 us
theorem EG:∀ {us:List T} {k i:Nat} {x:T},(jv k us)[i]?=some x->∃ a,us[i]?=some a/\x=.tup [.int ((k+i:Nat):Int),a]
 |[],_,_,_,h=>by simp [jv] at h
 |u::us,k,0,x,h=>by simp [jv] at h;exact ⟨u,rfl,by simp [← h]⟩
 |u::us,k,i+1,x,h=>by
  simp [jv] at h;obtain ⟨a,ha,hx⟩:=EG h;exact ⟨a,by simpa using ha,by rw [hx];congr 4;omega⟩
theorem EN:∀ (us:List T) (k:Nat),(jv k us).length=us.length
 |[],_=>rfl
 |u::us,k=>by simp [jv,EN us]
def qbE (us:List T):(qeR us).length=us.length:=EN us 0
def TF {us:List T} {i:Nat} {x:T} (h:(qeR us)[i]?=some x):∃ a,us[i]?=some a/\x=.tup [.int (i:Int),a]:=by
 obtain ⟨a,ha,hx⟩:=EG h;exact ⟨a,ha,by rw [hx];congr 4;omega⟩
def qlx {K:Frg} {b1:Bool} {c1:Addr} {x:T} {us:List T} {G0:Gp} {H0:Hp}
  (f1:∀ G H,HR K G H->Kp G0 H0 G H->CT G x=some us->∃ vs,SqB K b1 H c1 vs/\Rps K H us vs) :
  qlw K (Ite K b1 c1) (qeR us) (λG=>CT G x=some us) G0 H0:=by
 intro G H hr k h1;obtain ⟨p,sp,rp⟩:=f1 G H hr k h1;refine ⟨λi z hz=>?_,λi z v H' hz hy=>?_,⟨p,sp,?_⟩⟩
 ·obtain ⟨a,ha,_⟩:=TF hz;obtain ⟨v,hv,_⟩:=rp.get ha;exact ⟨p,v,sp,hv⟩
 ·obtain ⟨a,ha,rfl⟩:=TF hz;obtain ⟨t,v1,ht,rfl,rfl,g1⟩:=hy;obtain ⟨v,hv,rv⟩:=rp.get ha;have e1:=(g1 p sp).symm.trans hv;obtain rfl:v1=v:=Option.some.inj e1;have kk:Kp G H G (upd H t (.tup [.int i,v1])):=Kp.laid ht;exact ⟨.tup (SqT.of qI) (.cons (.int _) (.cons (rv.keep hr kk) .nil)),hr.laid ht,kk⟩
 ·rw [← rp.length,qbE];exact v6 _
def EJ (ta:TA3):TI3:=λτ G r=>ta τ G λxs G1=>match xs with
 |[x]=>(match CT G1 x with|some us=>r (qeR us) (λG=>CT G x=some us) G1|_=>False)
 |_=>False
section
variable {X:Cx} {a b e l:Expr} {es:List Expr} {pos:Pos} {t:TA3}
end
section
variable {X:Cx} {a b c e:Expr} {es:List Expr} {ta tb tc te:TE3} {t:TA3} {pos:Pos}
def RD:List T->Option (List Int)
 |[]=>some []
 |.int i::r=>(match RD r with|some ns=>some (i::ns)|none=>none)
 |_=>none
def WL (ns:List Int):RD (ns.map T.int)=some ns:=by
 induction ns with
 |nil=>rfl
 |cons n r ih=>simp [RD,ih]
theorem DJ:∀ {xs:List T} {ns:List Int},RD xs=some ns->xs=ns.map T.int
 |[],_,h=>by simp [RD] at h;subst h;rfl
 |x::r,ns,h=>by
  unfold RD at h;split at h
  ·rename_i e;cases e
  ·rename_i i r' e;cases e;split at h
   ·rename_i ms e2;cases h;rw [DJ e2];rfl
   ·cases h
  ·cases h
theorem DS {K:Frg} {H:Hp}:∀ {ns:List Int} {vs:List V},Rps K H (ns.map T.int) vs->vs=ns.map V.int
 |[],_,r=>by cases r;rfl
 |n::ns,_,r=>by
  cases r with
  |cons a b=>cases a;rw [DS b];rfl
end
section
variable {X:Cx}
def qdO {i:Nat} {y:Str} {py spos:Pos} {elt tg iter:Expr} {ifs:List Expr} {scope:Scope} {pos:Pos} {N':List Str} {m:List (Option Nat)} {wi:TI} {g:TG} {tif:TT} {te:TE} (hc:X.calm=true) (hN:X.N.Nodup) (hi:PI X tg iter wi)
  (hg:∀ s H fp,PG (qx X N' scope s H fp) tg g) (hf:∀ s H fp,PF (qx X N' scope s H fp) ifs tif) (he:∀ s H fp,PE (qx X N' scope s H fp) elt te)
  (hsc:qdK X.env.scope scope=true) (hcap:U9 X.N N' scope m=true) (hs:∀ x,foldedSetIterable iter X.env x=pure x) (hiy:X.N[i]?=some y) (hl:X.env.scope.names.lookup y=some .local)
  (hsw:swapsWith (.ListComp elt [⟨tg,iter,ifs,0⟩] scope pos) (some (.Name y py)) spos.line X.env=pure true) :
  PS X (.Assign [.Name y py] (.ListComp elt [⟨tg,iter,ifs,0⟩] scope pos) spos) (qoZ (tLG wi g tif (tAp te) m) (qhB i)):=by
 intro pins s σ H D I h;rw [exec_Assign_Name_used _ _ _ _ hsw];refine x8 (wpAny_standAt (x8 ?_));show wpAny _ X.A (do let _←comprehension (.ListComp elt [⟨tg,iter,ifs,0⟩] scope pos) scope X.env _ (newList []) false (eval iter X.env) (some (assign (.Name y py) X.env))) _ _ s;refine x8 (y2 (KW (gs:=[]) (bd:=apB elt) (use:=some (assign (.Name y py) X.env)) (QD:=λD' H'=>D.nx (σ.set i (some (.ref D'))) H') (Qc:=λ_ s'=>∃ σ' H',Inv X pins σ' H' s'/\D.nx σ' H') hc hi (λ_ _ _=>rfl) hg hf (λs H fp D kk=>qiD (λ_ _ z=>z) (he s H fp)) hsc hcap hs I h λD' s3 H3 fp s6 H6 σ6 r I3 f3 I6 q=>?_) (λ_ s' hq=>x9 (x9 hq)) λ_ _ e=>e);have I7:Inv X pins σ H6 s6:=CB (h2:=s6.heap) I3 f3 I6 ⟨rfl,λ_ _=>rfl⟩;obtain ⟨mm,hn6,_⟩:=I6.loc;have hfC:KQ X pins H6 s3.heap.objs.size:=I3.fpOk (v6 _) I6.free;obtain ⟨f0,f1,f2,f3',f4,f5⟩:=hfC;show wpAny _ X.A (assign (.Name y py) X.env (.ref D')) _ _ _;refine wpAny_assign_Name (R7 I7 hN hiy (.inl hl) (v:=.ref D') rfl (λs8 I8 hch=>?_) (.inr hl));obtain ⟨a,sb,ha⟩:=hch;have hne:s3.heap.objs.size≠a:=by
  rcases ha with rfl|ha
  ·exact f1
  ·exact Ne.symm (f4 _ _ ha)
 refine ⟨mm,hn6.sameBut sb hne,λh' sb'=>⟨_,_,I8.turned (t':=s8.toks) (λb o hb e=>(sb'.2 b hb).trans e) f0 f1 f3' f4 f5,q⟩⟩
end
end L3
set_option autoImplicit true
namespace L3
open PySem PySem.Spec PyProof.Rows L2
structure jE3 (X:Cx) (e:Expr) (t:TE3):Prop where h:E3 X e t
structure jC3 (X:Cx) (e:Expr) (t:TT3):Prop where h:C3 X e t
structure jW3 (X:Cx) (e:Expr) (t:TT3):Prop where h:W3 X e t
structure jA3 (X:Cx) (e:List Expr) (t:TA3):Prop where h:A3 X e t
structure jP3 (X:Cx) (e:Option Expr) (t:TO3):Prop where h:P3 X e t
structure jS3 (X:Cx) (e:Stmt) (t:TS3):Prop where h:S3 X e t
structure jB3 (X:Cx) (e:List Stmt) (t:TS3):Prop where h:B3 X e t
structure jG3 (X:Cx) (e:Expr) (t:TG3):Prop where h:G3 X e t
structure jGs3 (X:Cx) (e:List Expr) (t:MD):Prop where h:Gs3 X e t
structure jI3 (X:Cx) (tg e:Expr) (t:TI3):Prop where h:I3 X tg e t
structure jF3 (X:Cx) (e:List Expr) (t:TT3):Prop where h:F3 X e t
def qb {X:Cx} (i:Nat) {x:Str} {pos:Pos} (hN:X.N[i]?=some x:=by rfl) (hv:Vis X.env.scope x:=by first|exact Or.inl rfl|exact Or.inr (Or.inl rfl)|exact Or.inr (Or.inr rfl)) (hd:(x==("__debug__" : Str))=false:=by decide)
  (hcd:(x==("__classdict__" : Str))=false:=by decide):jE3 X (.Name x pos) (v3 i):=⟨by
 refine DC (ql5 (i:=i) hN hv hd hcd) λσ H Q ⟨τ,G,q,r,h,af⟩=>?_;unfold v3 at h;split at h
 ·rename_i t e;obtain ⟨v,e2,rv⟩:=r.st i t e;exact ⟨v,e2,af t G h v H rv r.hp Kp.refl⟩
 ·exact h.elim⟩
def qf {X:Cx} {i:Int} {j pos}:jE3 X (.Constant (.int i) j pos) (c3 (.int i)):=⟨e_c qjs λ_=>.int i⟩
def YI {X:Cx} {b:Bool} {j pos}:jE3 X (.Constant (.bool b) j pos) (c3 (.bl b)):=⟨e_c qnB λ_=>.bl b⟩
def Z9 {X:Cx} {j pos}:jE3 X (.Constant .none j pos) (c3 .non):=⟨e_c qmj λ_=>.non⟩
def J8 {X:Cx} {x:Str} {j pos}:jE3 X (.Constant (.str x) j pos) (c3 (.str x)):=⟨e_c qmB λ_=>.str x⟩
def jN {ta:TE3} {tb:TE3} {pos:Pos} {a:Expr} {b:Expr} {X:Cx} {op:CmpOp} {r3:R3} {r:R2} (ho:OpR X (compareOp op) r) (hr:XD X.K r3 r) (ha:jE3 X a ta) (hb:jE3 X b tb) (hm:behindInMarks op b=false):jE3 X (.Compare a [op] [b] pos) (o3 r3 ta tb):=⟨have ha:=ha.h;have hb:=hb.h;DC (qhX ho ha hb hm) λ_ _ _ h=>qbs hr h⟩
def qO {ta:TE3} {tb:TE3} {pos:Pos} {a:Expr} {b:Expr} {X:Cx} {op:CmpOp} {r3:R3} {r:R2} (ho:OpR X (compareOp op) r) (hr:XD X.K r3 r) (ha:jE3 X a ta) (hb:jE3 X b tb) (hm:behindInMarks op b=false):jC3 X (.Compare a [op] [b] pos) (tb3 (o3 r3 ta tb)):=⟨have ha:=ha.h;have hb:=hb.h;qni (qg6 ho ha hb hm) λ_ _ _ h=>qho (λ_ _ _=>qbs hr) h⟩
def MA {ta:TE3} {tb:TE3} {tc:TE3} {pos:Pos} {a:Expr} {b:Expr} {c:Expr} {X:Cx} {op op':CmpOp} {r3 r3':R3} {r r':R2} (ho:OpR X (compareOp op) r) (hr:XD X.K r3 r) (ho':OpR X (compareOp op') r') (hr':XD X.K r3' r') (ha:jE3 X a ta) (hb:jE3 X b tb) (hc:jE3 X c tc)
  (hm:lastMarks [op,op'] [b,c]=false:=by with_unfolding_all rfl):jC3 X (.Compare a [op,op'] [b,c] pos) (tb3 (ch3 r3 r3' ta tb tc)):=⟨have ha:=ha.h;have hb:=hb.h;have hc:=hc.h;qni (qeD ho ho' ha hb hc hm) λ_ _ _ h=>qho (λ_ _ _=>qoj hr hr') h⟩
def X0 {ta:TE3} {tb:TE3} {pos:Pos} {a:Expr} {b:Expr} {X:Cx} (ha:jE3 X a ta) (hb:jE3 X b tb):jE3 X (.BinOp a .Sub b pos) (o3 (iI (·-·)) ta tb):=⟨have ha:=ha.h;have hb:=hb.h;qaU ql0 qbz ha hb⟩
def JB {ta:TE3} {tb:TE3} {pos:Pos} {a:Expr} {b:Expr} {X:Cx} (ha:jE3 X a ta) (hb:jE3 X b tb):jE3 X (.BinOp a .Mult b pos) (o3 (iC J6 (·*·)) ta tb):=⟨have ha:=ha.h;have hb:=hb.h;qaU qkP XX ha hb⟩
def WW {ta:TE3} {tb:TE3} {pos:Pos} {a:Expr} {b:Expr} {X:Cx} (ha:jE3 X a ta) (hb:jE3 X b tb):jE3 X (.BinOp a .Mod b pos) (o3 (iC (λ_ j=>0<j) (·%·)) ta tb):=⟨have ha:=ha.h;have hb:=hb.h;qaU qj5 XX ha hb⟩
def L0 {ta:TE3} {tb:TE3} {pos:Pos} {a:Expr} {b:Expr} {X:Cx} (ha:jE3 X a ta) (hb:jE3 X b tb):jE3 X (.BinOp a .FloorDiv b pos) (o3 (iC qeQ (·/·)) ta tb):=⟨have ha:=ha.h;have hb:=hb.h;qaU qhg XX ha hb⟩
def qjr {ta:TE3} {tb:TE3} {pos:Pos} {a:Expr} {b:Expr} {X:Cx} (ha:jE3 X a ta) (hb:jE3 X b tb):jE3 X (.BinOp a .Pow b pos) (o3 (iC qco (λi j=>i ^ j.toNat)) ta tb):=⟨have ha:=ha.h;have hb:=hb.h;qaU qlu XX ha hb⟩
def MU {ta:TE3} {tb:TE3} {pos:Pos} {a:Expr} {b:Expr} {X:Cx} (ha:jE3 X a ta) (hb:jE3 X b tb):jE3 X (.BinOp a .BitXor b pos) (o3 (iI Builtin.bitXor) ta tb):=⟨have ha:=ha.h;have hb:=hb.h;qaU qmM qbz ha hb⟩
def qiQ {ta:TE3} {tb:TE3} {pos:Pos} {a:Expr} {b:Expr} {X:Cx} (ha:jE3 X a ta) (hb:jE3 X b tb):jE3 X (.BinOp a .BitAnd b pos) (o3 (iI Builtin.bitAnd) ta tb):=⟨have ha:=ha.h;have hb:=hb.h;qaU qk6 qbz ha hb⟩
def qfb {ta:TE3} {tb:TE3} {pos:Pos} {a:Expr} {b:Expr} {X:Cx} (ha:jE3 X a ta) (hb:jE3 X b tb):jE3 X (.BinOp a .LShift b pos) (o3 (iC qco (λi j=>i*2 ^ j.toNat)) ta tb):=⟨have ha:=ha.h;have hb:=hb.h;qaU qk1 XX ha hb⟩
def qjc {ta:TE3} {tb:TE3} {pos:Pos} {a:Expr} {b:Expr} {X:Cx} (ha:jE3 X a ta) (hb:jE3 X b tb):jE3 X (.BinOp a .RShift b pos) (o3 (iC (λ_ j=>0<=j) (λi j=>i/2 ^ j.toNat)) ta tb):=⟨have ha:=ha.h;have hb:=hb.h;qaU qjD XX ha hb⟩
def MO {ta:TE3} {pos:Pos} {a:Expr} {X:Cx} (ha:jE3 X a ta):jE3 X (.UnaryOp .USub a pos) (u3 qdF ta):=⟨have ha:=ha.h;qp8 qkU qh3 ha⟩
def W4 {tA:TT3} {pos:Pos} {a:Expr} {X:Cx} (ha:jC3 X a tA):jW3 X (.BoolOp .And [a] pos) tA:=⟨have ha:=ha.h;qiH ha⟩
def D0 {tA:TT3} {pos:Pos} {a:Expr} {X:Cx} (ha:jC3 X a tA):jW3 X (.BoolOp .Or [a] pos) tA:=⟨have ha:=ha.h;qj7 ha⟩
def SJ {QG:List Expr} {tA:TT3} {tB:TT3} {pos:Pos} {a:Expr} {X:Cx} (ha:jC3 X a tA) (hb:jW3 X (.BoolOp .And (b::QG) pos) tB):jW3 X (.BoolOp .And (a::b::QG) pos) (qgi tA tB):=⟨have ha:=ha.h;have hb:=hb.h;qpD (qjG ha hb) λ_ _ _ ⟨τ,G,q,rl,h,af⟩=>RX rl h λk G1 h1 H1 hr1 k1 rl1=>by
  cases k with
  |true=>rw [if_pos rfl] at h1 ⊢;exact ⟨τ,G1,q,rl1,h1,af.back k1⟩
  |false=>rw [if_neg y8] at h1 ⊢;exact af _ G1 h1 H1 hr1 k1⟩
def XG {QG:List Expr} {tA:TT3} {tB:TT3} {pos:Pos} {a:Expr} {X:Cx} (ha:jC3 X a tA) (hb:jW3 X (.BoolOp .Or (b::QG) pos) tB):jW3 X (.BoolOp .Or (a::b::QG) pos) (or3 tA tB):=⟨have ha:=ha.h;have hb:=hb.h;qpD (qnJ ha hb) λ_ _ _ ⟨τ,G,q,rl,h,af⟩=>RX rl h λk G1 h1 H1 hr1 k1 rl1=>by
  cases k with
  |true=>rw [if_pos rfl] at h1 ⊢;exact af _ G1 h1 H1 hr1 k1
  |false=>rw [if_neg y8] at h1 ⊢;exact ⟨τ,G1,q,rl1,h1,af.back k1⟩⟩
def VQ {tA:TT3} {pos:Pos} {a:Expr} {X:Cx} (ha:jC3 X a tA):jC3 X (.UnaryOp .Not a pos) (qaS tA):=⟨have ha:=ha.h;qni (qlp ha) λ_ _ _ ⟨τ,G,q,rl,h,af⟩=>RX rl h λk G1 h1 H1 hr1 k1 rl1=>af _ G1 h1 H1 hr1 k1⟩
def j7 {X:Cx} {e:Expr} {t:TE3} (h:jE3 X e t) (he:∀ whole,isTrue e X.env whole=(do let v←whole;standAt e.pos;holding [v] (truthy v)):=by intro _;rfl):jC3 X e (tb3 t):=⟨have h:=h.h;qni (qln h he) λ_ _ _ h=>qho (λ_ _ _ h=>h) h⟩
def X9 {ta:TE3} {pos:Pos} {a:Expr} {X:Cx} {op} (h:jE3 X a ta):jE3 X (.BoolOp op [a] pos) ta:=⟨have h:=h.h;ql2 h⟩
def WU {QG:List Expr} {ta:TE3} {tb:TE3} {pos:Pos} {a:Expr} {X:Cx} (ha:jE3 X a ta) (hb:jE3 X (.BoolOp .And (b::QG) pos) tb):jE3 X (.BoolOp .And (a::b::QG) pos) (RJ ta tb):=⟨have ha:=ha.h;have hb:=hb.h;DC (qkW ha hb) λ_ _ _ ⟨τ,G,q,rl,h,af⟩=>zf rl h λx G1 h1 v H1 rx hr1 k1 rl1=>by
  cases x with
  |bl k=>
   cases rx;refine ⟨k,rfl,?_⟩;cases k with
   |true=>rw [if_pos rfl];exact ⟨τ,G1,q,rl1,(show tb τ G1 q from by simpa using h1),af.back k1⟩
   |false=>rw [if_neg y8];exact af _ G1 (by simpa using h1) _ H1 (.bl false) hr1 k1
  |_=>exact h1.elim⟩
def qgL {ta:TE3} {pos:Pos} {a:Expr} {X:Cx} (ha:jE3 X a ta):jE3 X (.UnaryOp .Not a pos) (qhz ta):=⟨have ha:=ha.h;DC (qme ha) λ_ _ _ ⟨τ,G,q,rl,h,af⟩=>zf rl h λx G1 h1 v H1 rx hr1 k1 rl1=>by
  cases x with
  |bl k=>cases rx;exact ⟨k,rfl,af _ G1 h1 _ H1 (.bl _) hr1 k1⟩
  |_=>exact h1.elim⟩
def qa5 {tA:TT3} {ta:TE3} {tb:TE3} {pos:Pos} {a:Expr} {b:Expr} {X:Cx} {c:Expr} (hc:jC3 X c tA) (ha:jE3 X a ta) (hb:jE3 X b tb):jE3 X (.IfExp c a b pos) (if3 tA ta tb):=⟨have hc:=hc.h;have ha:=ha.h;have hb:=hb.h;DC (qej hc ha hb) λ_ _ _ ⟨τ,G,q,rl,h,af⟩=>RX rl h λk G1 h1 H1 hr1 k1 rl1=>by
  cases k with
  |true=>rw [if_pos rfl] at h1 ⊢;exact ⟨τ,G1,q,rl1,h1,af.back k1⟩
  |false=>rw [if_neg y8] at h1 ⊢;exact ⟨τ,G1,q,rl1,h1,af.back k1⟩⟩
def qd {X:Cx} :jA3 X [] qj:=⟨qpC NN λ_ H _ ⟨τ,G,q,rl,h,af⟩=>af _ G h _ H .nil rl.hp Kp.refl⟩
def qa {te:TE3} {t:TA3} {es:List Expr} {X:Cx} (ha:jE3 X e te) (hr:jA3 X es t) (hs:starEach (e::es) X.env=(false,eval e X.env)::starEach es X.env:=by rfl):jA3 X (e::es) (qc te t):=⟨have ha:=ha.h;have hr:=hr.h;qpC (j8 ha hr hs) λ_ _ _ ⟨τ,G,q,rl,h,af⟩=>zf rl h λx G1 h1 v H1 rx hr1 k1 rl1=>Z3 rl1 h1 λxs G2 h2 vs H2 rs hr2 k2 rl2=>
  af _ G2 h2 _ H2 (.cons (rx.keep hr1 k2) rs) hr2 (k1.trans k2)⟩
def jE {t:TA3} {pos:Pos} {es:List Expr} {X:Cx} {x1} (h:jA3 X es t):jE3 X (.Tuple es x1 pos) (XJ t):=⟨have h:=h.h;DC (qf3 h) λ_ _ _ ⟨τ,G,q,rl,h,af⟩=>Z3 rl h λxs G1 h1 vs H1 rs hr1 k1 rl1=>⟨by rw [← rs.length];exact h1.1,λp hp=>
  af _ G1 h1.2 _ _ (.tup (SqT.of qI) (rs.keep hr1 (Kp.laid hp))) (hr1.laid hp) (k1.trans (Kp.laid hp))⟩⟩
def qF {t:TA3} {pos:Pos} {es:List Expr} {X:Cx} (h:jA3 X es t):jE3 X (.List es pos) (jO t):=⟨have h:=h.h;DC (qj6 h) λ_ _ _ ⟨τ,G,q,rl,h,af⟩=>Z3 rl h λxs G1 h1 vs H1 rs hr1 k1 rl1=>⟨by rw [← rs.length];exact h1.1,λp hp=>
  af _ _ (h1.2 p (hr1.free hp)) _ _ (.ref p) (hr1.newL hp rs) (k1.trans (Kp.newL hp))⟩⟩
def qA {t:TA3} {pos:Pos} {es:List Expr} {X:Cx} {x:Str} {p:Pos} {id:String} {r3:List T->Gp->Q3->Prop} {r:List V->Hp->VK->Prop} (hc:J3 X (.builtin id) r) (hr:qaV X.K r3 r) (hg:Gl X x) (hm:X.mg x=none) (hv:bootBuiltins x=some (.builtin id)) (ha:jA3 X (e::es) t) (hn:x≠"__name__" := by decide) (hdb:(x==("__debug__" : Str))=false:=by decide)
  (he:starEach (e::es) X.env=(false,eval e X.env)::starEach es X.env:=by rfl) (hpl:(backTo pos (starEach es X.env)).any (·.1)=false:=by rfl):jE3 X (.Call (.Name x p) (e::es) [] pos) (cb3 r3 t):=⟨have ha:=ha.h;DC (RN hc hg hm hv ha hn hdb he hpl) λ_ _ _ h=>qkY hr h⟩
def qZ {t:TA3} {pos:Pos} {es:List Expr} {X:Cx} {x:Str} {p:Pos} {ty:String} {r3:List T->Gp->Q3->Prop} {r:List V->Hp->VK->Prop} (hc:J3 X (.type ty) r) (hr:qaV X.K r3 r) (hg:Gl X x) (hm:X.mg x=none) (hv:bootBuiltins x=some (.type ty)) (ha:jA3 X (e::es) t) (hn:x≠"__name__" := by decide) (hdb:(x==("__debug__" : Str))=false:=by decide)
  (he:starEach (e::es) X.env=(false,eval e X.env)::starEach es X.env:=by rfl) (hpl:(backTo pos (starEach es X.env)).any (·.1)=false:=by rfl):jE3 X (.Call (.Name x p) (e::es) [] pos) (cb3 r3 t):=⟨have ha:=ha.h;DC (qa6 hc hg hm hv ha hn hdb he hpl) λ_ _ _ h=>qkY hr h⟩
def jj {ta:TE3} {tb:TE3} {pos:Pos} {a:Expr} {b:Expr} {X:Cx} (ha:jE3 X a ta) (hb:jE3 X b tb) (hs:qdx b:=by intro _ _;rfl):jE3 X (.Subscript a b pos) (o3 ix3 ta tb):=⟨have ha:=ha.h;have hb:=hb.h;DC (qnt qmP ha hb hs) λ_ _ _ h=>qbs qlZ h⟩
def UX {X:Cx} :jP3 X none np3:=⟨qo2 qih λ_ H _ ⟨τ,G,q,rl,h,af⟩=>af none G h H rl.hp Kp.refl⟩
def jo {te:TE3} {e:Expr} {X:Cx} (h:jE3 X e te):jP3 X (some e) (sp3 te):=⟨have h:=h.h;qo2 (qgY h) λ_ _ _ ⟨τ,G,q,rl,h,af⟩=>zf rl h λx G1 h1 v H1 rx hr1 k1 rl1=>by
 cases x<;>try exact h1.elim
 cases rx;exact ⟨_,rfl,af _ G1 h1 H1 hr1 k1⟩⟩
def NR {te:TE3} {pos:Pos} {e:Expr} {X:Cx} {lo hi:Option Expr} {tl th:TO3} {p2:Pos} (he:jE3 X e te) (hl:jP3 X lo tl) (hu:jP3 X hi th):jE3 X (.Subscript e (.Slice lo hi none p2) pos) (qnf te tl th):=⟨have he:=he.h;have hl:=hl.h;have hu:=hu.h;DC (NH (qgh.or qb6) he hl hu) λ_ _ _ ⟨τ,G,q,rl,h,af⟩=>zf rl h λx G1 h1 v H1 rx hr1 k1 rl1=>
  ⟨τ,G1,_,rl1,h1,λl G2 h2 H2 hr2 k2=>⟨τ,G2,_,rl1.next hr2 k2,h2,λu G3 h3 H3 hr3 k3=>by
   have kk:=(k1.trans k2).trans k3;have rx3:=(rx.keep hr1 k2).keep hr2 k3;cases x<;>try exact h3.elim
   case tup xs=>
    cases rx3 with
    |tup hs rs=>
     refine .inl ⟨_,_,rfl,hs,by rw [← rs.length];exact h3.1,λp hp=>?_⟩;exact af _ G3 h3.2 _ _ (.tup (SqT.of qI) ((rs.cut _ _).keep hr3 (Kp.laid hp))) (hr3.laid hp) (kk.trans (Kp.laid hp))
   case ref p=>
    unfold sl3 at h3;simp only at h3;split at h3
    ·rename_i xs e0;cases rx3;obtain ⟨vs,hs,rs⟩:=zz hr3 e0;refine .inr ⟨p,vs,rfl,hs,λa ha=>?_⟩;exact af _ _ (h3 a (hr3.free ha)) _ _ (.ref a) (hr3.newL ha (rs.cut _ _)) (kk.trans (Kp.newL ha))
    ·exact h3.elim⟩⟩⟩
def zh {ta:TE3} {tb:TE3} {pos:Pos} {a:Expr} {b:Expr} {X:Cx} (ha:jE3 X a ta) (hb:jE3 X b tb):jE3 X (.BinOp a .Add b pos) (o3 ZX ta tb):=⟨have ha:=ha.h;have hb:=hb.h;qaU ((qf5.or qcH).or qf1) RT ha hb⟩
def JI {t:TA3} {e:Expr} {X:Cx} {o:Expr} {to:TE3} {apos cpos:Pos} (ho:jE3 X o to) (ha:jA3 X [e] t)
  (hbase:attributeBase o "append" X.env (eval o X.env)=eval o X.env:=by rfl)
  (hfew:((backTo cpos (starEach [e] X.env)).all (λx=>!x.1)&&(backToKw cpos (keywordEach [] X.env)).all (λx=>x.1.isSome)
   && decide (([e]:List Expr).length+([]:List Keyword).length+(if ([]:List Keyword).isEmpty then 0 else 1)<30))=true:=by rfl)
  (hline:(apos.endLine==cpos.line)=true:=by rfl) (hs:starEach [e] X.env=(false,eval e X.env)::starEach [] X.env:=by rfl) (hplain:(backTo cpos (starEach [] X.env)).any (·.1)=false:=by rfl):jE3 X (.Call (.Attribute o "append" apos) [e] [] cpos) (bm3 qaT to t):=⟨have ho:=ho.h;have ha:=ha.h;qpB PySem.F.slot_list_append PySem.F.type_list_append TC qiq ho ha hbase hfew hline hs hplain⟩
def TQ {t:TA3} {e:Expr} {X:Cx} {o:Expr} {to:TE3} {apos cpos:Pos} (ho:jE3 X o to) (ha:jA3 X [e] t)
  (hbase:attributeBase o "extend" X.env (eval o X.env)=eval o X.env:=by rfl)
  (hfew:((backTo cpos (starEach [e] X.env)).all (λx=>!x.1)&&(backToKw cpos (keywordEach [] X.env)).all (λx=>x.1.isSome)
   && decide (([e]:List Expr).length+([]:List Keyword).length+(if ([]:List Keyword).isEmpty then 0 else 1)<30))=true:=by rfl)
  (hline:(apos.endLine==cpos.line)=true:=by rfl) (hs:starEach [e] X.env=(false,eval e X.env)::starEach [] X.env:=by rfl) (hplain:(backTo cpos (starEach [] X.env)).any (·.1)=false:=by rfl):jE3 X (.Call (.Attribute o "extend" apos) [e] [] cpos) (bm3 qhK to t):=⟨have ho:=ho.h;have ha:=ha.h;qpB PySem.F.slot_list_extend PySem.F.type_list_extend qcf qiF ho ha hbase hfew hline hs hplain⟩
def YC {te:TE3} {pos:Pos} {e:Expr} {X:Cx} {tn:Str} {ty:String} {p p2:Pos} (he:jE3 X e te) (hg:Gl X "isinstance") (hm:X.mg "isinstance" = none) (hg2:Gl X tn) (hm2:X.mg tn=none) (hv:bootBuiltins tn=some (.type ty)) (hmem:ty∈Z2:=by decide) (hn:tn≠"__name__" := by decide) (hdb:(tn==("__debug__" : Str))=false:=by decide)
  (hs:starEach [e,.Name tn p2] X.env=(false,eval e X.env)::starEach [.Name tn p2] X.env:=by rfl) (hs2:starEach [.Name tn p2] X.env=(false,eval (.Name tn p2) X.env)::starEach [] X.env:=by rfl) (hpl:(backTo pos (starEach [.Name tn p2] X.env)).any (·.1)=false:=by rfl):jE3 X (.Call (.Name "isinstance" p) [e,.Name tn p2] [] pos) (NO (λt=>ju t ty) te):=⟨have he:=he.h;DC (RN qdV hg hm PyProof.Rows.boot_isinstance (j8 he (j8 (KZ (v:=.ty ty) hg2 hm2 hv rfl hn hdb) NN hs2) hs) (by decide) (by decide) hs hpl)
  λ_ _ _ ⟨τ,G,q,rl,h,af⟩=>zf rl h λx G1 h1 v H1 rx hr1 k1 rl1=>by
   split at h1
   ·rename_i t e1;exact ⟨_,t,ty,rfl,qfU hr1 rx e1,hmem,af _ G1 h1 _ H1 (.bl _) hr1 k1⟩
   ·exact h1.elim⟩
def qcw {te:TE3} {pos:Pos} {e:Expr} {X:Cx} {tn tn':Str} {ty ty':String} {p p2 p3 p4:Pos} {x1} (he:jE3 X e te) (hg:Gl X "isinstance") (hm:X.mg "isinstance" = none) (hg2:Gl X tn) (hm2:X.mg tn=none) (hv:bootBuiltins tn=some (.type ty)) (hg3:Gl X tn') (hm3:X.mg tn'=none) (hv3:bootBuiltins tn'=some (.type ty'))
  (hmem:ty∈Z2:=by decide) (hn:tn≠"__name__" := by decide) (hdb:(tn==("__debug__" : Str))=false:=by decide) (hmem3:ty'∈Z2:=by decide) (hn3:tn'≠"__name__" := by decide) (hdb3:(tn'==("__debug__" : Str))=false:=by decide)
  (hs:starEach [e,.Tuple [.Name tn p2,.Name tn' p3] x1 p4] X.env=(false,eval e X.env)::starEach [.Tuple [.Name tn p2,.Name tn' p3] x1 p4] X.env:=by rfl) (hs2:starEach [.Tuple [.Name tn p2,.Name tn' p3] x1 p4] X.env=(false,eval (.Tuple [.Name tn p2,.Name tn' p3] x1 p4) X.env)::starEach [] X.env:=by rfl)
  (hs3:starEach [.Name tn p2,.Name tn' p3] X.env=(false,eval (.Name tn p2) X.env)::starEach [.Name tn' p3] X.env:=by rfl) (hs4:starEach [.Name tn' p3] X.env=(false,eval (.Name tn' p3) X.env)::starEach [] X.env:=by rfl)
  (hpl:(backTo pos (starEach [.Tuple [.Name tn p2,.Name tn' p3] x1 p4] X.env)).any (·.1)=false:=by rfl):jE3 X (.Call (.Name "isinstance" p) [e,.Tuple [.Name tn p2,.Name tn' p3] x1 p4] [] pos) (NO (λt=>ju t ty||ju t ty') te):=⟨have he:=he.h;DC (RN qdg hg hm PyProof.Rows.boot_isinstance (j8 he (j8 (qf3 (j8 (KZ (v:=.ty ty) hg2 hm2 hv rfl hn hdb) (j8 (KZ (v:=.ty ty') hg3 hm3 hv3 rfl hn3 hdb3) NN hs4) hs3)) NN hs2) hs) (by decide) (by decide) hs hpl)
  λ_ _ _ ⟨τ,G,q,rl,h,af⟩=>zf rl h λx G1 h1 v H1 rx hr1 k1 rl1=>by
   refine ⟨by show 2<=sizeLine;decide,λpp hp=>?_⟩;split at h1
   ·rename_i t e1;have hr2:=hr1.laid (ho:=.tup [.ty ty,.ty ty']) hp;have kk:Kp G1 H1 G1 (upd H1 pp (.tup [.ty ty,.ty ty'])):=Kp.laid hp;exact ⟨_,t,ty,ty',pp,rfl,qI,qfU hr2 (rx.keep hr1 kk) e1,hmem,hmem3,af _ G1 h1 _ _ (.bl _) hr2 (k1.trans kk)⟩
   ·exact h1.elim⟩
def zr {X:Cx} :jB3 X [] zE:=⟨qjh qiw λ_ σ H ⟨τ,G,d,rl,h,af⟩=>af.nx τ G h σ H rl Kp.refl⟩
def qg {QG:List Stmt} {st:Stmt} {t1:TS3} {t2:TS3} {X:Cx} (h1:jS3 X st t1) (h2:jB3 X QG t2):jB3 X (st::QG) (qK t1 t2):=⟨have h1:=h1.h;have h2:=h2.h;qjh (qd8 h1 h2) λD σ H ⟨τ,G,d,rl,h,af⟩=>
 ⟨τ,G,{ d with nx:=t2 d },rl,h,⟨λτ' G' h' σ' H' rl' k'=>⟨τ',G',d,rl',h',af.back k'⟩,af.rt,af.bk,af.ct⟩⟩⟩
def qk {st:Stmt} {t1:TS3} {X:Cx} (h1:jS3 X st t1):jB3 X [st] t1:=⟨have h1:=h1.h;qgZ h1⟩
def YH {te:TE3} {pos:Pos} {e:Expr} {X:Cx} (he:jE3 X e te) (hs:swapsWith e none pos.line X.env=pure false:=by rfl):jS3 X (.Expr e pos) (VO te):=⟨have he:=he.h;qf4 (qiu he hs) λ_ σ H ⟨τ,G,d,rl,h,af⟩=>
 zf rl h λx G1 h1 v H1 rx hr1 k1 rl1=>af.nx τ G1 h1 σ H1 rl1 k1⟩
def qu {te:TE3} {pos:Pos} {e:Expr} {X:Cx} (he:jE3 X e te):jS3 X (.Return (some e) pos) (zB te):=⟨have he:=he.h;qf4 (qjL he) λ_ σ H ⟨τ,G,d,rl,h,af⟩=>⟨τ,G,d.rt,rl,h,af.rt⟩⟩
def jb {tA:TT3} {t1:TS3} {t2:TS3} {pos:Pos} {X:Cx} {c:Expr} {ba bb:List Stmt} (hc:jC3 X c tA) (ha:jB3 X ba t1) (hb:jB3 X bb t2):jS3 X (.If c ba bb pos) (Z5 tA t1 t2):=⟨have hc:=hc.h;have ha:=ha.h;have hb:=hb.h;qf4 (qnS hc ha hb) λ_ σ H ⟨τ,G,d,rl,h,af⟩=>
 RX rl h λk G1 h1 H1 hr1 k1 rl1=>by
  cases k with
  |true=>rw [if_pos rfl] at h1 ⊢;exact ⟨τ,G1,d,rl1,h1,af.back k1⟩
  |false=>rw [if_neg y8] at h1 ⊢;exact ⟨τ,G1,d,rl1,h1,af.back k1⟩⟩
def qr {pos:Pos} {X:Cx} {i:Nat} {x:Str} (hN:X.N.Nodup) (hi:X.N[i]?=some x:=by rfl) (hx:Loc X.env.scope x:=by first|exact Or.inl rfl|exact Or.inr rfl) (hf:X.fn x=true\/X.env.scope.names.lookup x=some .local:=by first|exact .inl rfl|exact .inr rfl):jG3 X (.Name x pos) (gn3 i):=⟨qnm (qhZ hN hi hx hf) λv σ H Q ⟨x,τ,G,q,rx,rl,h,af⟩=>af _ G h _ H (rl.set i rx) Kp.refl⟩
def JG {X:Cx} :jGs3 X [] J4:=⟨ql3 qg2 λv σ H Q ⟨x,τ,G,q,rx,rl,h,af⟩=>by
 cases rx with
 |nil=>exact ⟨rfl,af _ G h _ H rl Kp.refl⟩
 |cons _ _=>exact h.elim⟩
def qS {es:List Expr} {X:Cx} {tg:TG3} {tgs:MD} (h1:jG3 X e tg) (h2:jGs3 X es tgs) (hs:(assignEach (e::es) X.env).map (·.2)=assign e X.env::(assignEach es X.env).map (·.2):=by rfl):jGs3 X (e::es) (qU tg tgs):=⟨have h1:=h1.h;have h2:=h2.h;ql3 (qd0 h1 h2 hs) λv σ H Q ⟨x,τ,G,q,rx,rl,h,af⟩=>by
 cases rx with
 |nil=>exact h.elim
 |cons r rs=>exact ⟨_,_,rfl,_,τ,G,_,r,rl,h,λτ' G' h' σ' H' rl' k'=>⟨_,τ',G',q,rs.keep rl.hp k',rl',h',af.back k'⟩⟩⟩
def JE {pos:Pos} {es:List Expr} {X:Cx} {k:Nat} {tgs:MD} {n:Nat} (hc:X.calm=true) (h:jGs3 X es tgs) (hn:(assignEach es X.env).length=n:=by rfl) (hst:(assignEach es X.env).findIdx? (·.1)=none:=by rfl):jG3 X (.Tuple es k pos) (J5 n tgs):=⟨have h:=h.h;qnm (qka hc h hn hst) λv σ H Q ⟨x,τ,G,q,rx,rl,h,af⟩=>by
  cases x<;>try exact h.elim
  case tup xs=>
   cases rx with
   |tup hs rs=>exact ⟨_,_,rfl,hs,by rw [← rs.length];exact h.1,_,τ,G,q,rs,rl,h.2,af⟩⟩
def qbx {pos : Pos} {X : Cx} {o i : Expr} {to ti : TE3} (ho : jE3 X o to) (hi : jE3 X i ti) (ha : ∀ v,assign (.Subscript o i pos) X.env v = (do
      let ov←holding [v] (eval o X.env)
      let iv←holding [v,ov] (eval i X.env)
      standAt pos
      holding [v,ov,iv] (setItem ov iv v)
      release [v,ov,iv] []):=by intro _;rfl):jG3 X (.Subscript o i pos) (ET to ti):=⟨have ho:=ho.h;have hi:=hi.h;qnm (qmg ho hi qep ha) λv σ H Q ⟨x,τ,G,q,rx,rl,h,af⟩=>zf rl h λy G1 h1 u H1 ry hr1 k1 rl1=>zf rl1 h1 λz G2 h2 w H2 rz hr2 k2 rl2=>by
    have rx2:=(rx.keep rl.hp k1).keep hr1 k2;have ry2:=ry.keep hr1 k2;unfold qgQ at h2;split at h2
    · rename_i p k;split at h2
      · rename_i xs e;split at h2
        · rename_i j ej;cases ry2;cases rz;obtain ⟨vs,g1,r1⟩:=hr2.lst e;have kk:Kp G2 H2 (gu G2 p (.lst (xs.set j x))) (upd H2 p (.lst (vs.set j v))):=Kp.wr e;exact ⟨p,vs,k,j,rfl,rfl,g1,by rw [← r1.length];exact ej,af τ _ h2 σ _ (rl2.next (hr2.wr e (r1.set rx2 j)) kk) ((k1.trans k2).trans kk)⟩
        · exact h2.elim
      · exact h2.elim
    · exact h2.elim⟩
def EF {te:TE3} {pos:Pos} {X:Cx} {tg e:Expr} {g:TG3} (he:jE3 X e te) (hg:jG3 X tg g) (hs:swapsWithSole [tg] e pos.line X.env=pure false:=by rfl) (hw:swappedStores [tg] e X.env=pure none:=by rfl)
  (h1:(assignEach [tg] X.env).map (·.2)=[assign tg X.env]:=by rfl):jS3 X (.Assign [tg] e pos) (za te g):=⟨have he:=he.h;have hg:=hg.h;qf4 (qkJ he hg hs hw h1) λ_ σ H ⟨τ,G,d,rl,h,af⟩=>
 zf rl h λx G1 h1 v H1 rx hr1 k1 rl1=>⟨x,τ,G1,d.nx,rx,rl1,h1,af.nx.back k1⟩⟩
def qp {te:TE3} {pos:Pos} {X:Cx} (i:Nat) {x:Str} {e:Expr} {pos':Pos} (hN:X.N.Nodup) (he:jE3 X e te) (hi:X.N[i]?=some x:=by rfl) (hx:Loc X.env.scope x:=by first|exact Or.inl rfl|exact Or.inr rfl) (hs:swapsWith e (some (.Name x pos')) pos.line X.env=pure false:=by rfl) (hf:X.fn x=true\/X.env.scope.names.lookup x=some .local:=by first|exact .inl rfl|exact .inr rfl):jS3 X (.Assign [.Name x pos'] e pos) (za te (gn3 i)):=⟨have he:=he.h;qf4 (qkE hN hi hx he hs hf) λ_ σ H ⟨τ,G,d,rl,h,af⟩=>
 zf rl h λx G1 h1 v H1 rx hr1 k1 rl1=>af.nx _ G1 h1 _ H1 (rl1.set i rx) k1⟩
def L8 {pos:Pos} {X:Cx} {i j:Nat} {x y:Str} {a b:Expr} {tt:TA3} {px py pt:Pos} {kt k2 pt2} (hc:X.calm=true) (hN:X.N.Nodup) (hi:X.N[i]?=some x) (hj:X.N[j]?=some y) (hij:i≠j)
  (hx:X.env.scope.names.lookup x=some .local) (hy:X.env.scope.names.lookup y=some .local) (ha:jA3 X [a,b] tt)
  (hw:swappedStores [.Tuple [.Name x px,.Name y py] kt pt] (.Tuple [a,b] k2 pt2) X.env=pure (some [x,y]):=by rfl)
  (hs:swapsWithSole [.Tuple [.Name x px,.Name y py] kt pt] (.Tuple [a,b] k2 pt2) pos.line X.env=pure false:=by rfl):jS3 X (.Assign [.Tuple [.Name x px,.Name y py] kt pt] (.Tuple [a,b] k2 pt2) pos) (qfL i j tt):=⟨have ha:=ha.h;qf4 (qlb hc hN hi hj hij hx hy ha hw hs) λ_ σ H ⟨τ,G,d,rl,h,af⟩=>
 Z3 rl h λxs G1 h1 vs H1 rs hr1 k1 rl1=>by
  split at h1
  ·obtain ⟨v,u,rfl,r,r'⟩:=qnT rs;exact ⟨v,u,rfl,af.nx _ G1 h1 _ H1 ((rl1.set i r).set j r') k1⟩
  ·exact h1.elim⟩
def J9 {te:TE3} {X:Cx} {tg:Expr} {l:Expr} (hl:jE3 X l te):jI3 X tg l (U7 te):=⟨have hl:=hl.h;qnq (qjE hl) λσ H R ⟨τ,G,r,rl,h,af⟩=>zf rl h λx G1 h1 v H1 rx hr1 k1 rl1=>by
 cases x<;>try exact h1.elim
 case tup xs=>
  cases rx with
  |tup hs rs=>exact ⟨_,rfl,.inr ⟨⟨_,hs⟩,af _ _ G1 h1 _ H1 hr1 k1 (qlR hr1 hs rs)⟩⟩
 case ref p=>
  simp only at h1;split at h1
  ·rename_i xs e0;cases rx;obtain ⟨vs,hs,rs⟩:=zz hr1 e0;exact ⟨_,rfl,.inl ⟨⟨_,hs⟩,af _ _ G1 h1 _ H1 hr1 k1 qk4⟩⟩
  ·exact h1.elim⟩
def z8 {t:TA3} {pos:Pos} {a:Expr} {X:Cx} {tg:Expr} {p:Pos} (hg:Gl X "range") (hm:X.mg "range" = none) (ha:jA3 X [a] t) (hs:starEach [a] X.env=[(false,eval a X.env)]:=by rfl) (h1:∀ τ G q,t τ G q->t τ G λxs G=>q xs G/\xs.length=1):jI3 X tg (.Call (.Name "range" p) [a] [] pos) (Y0 t):=⟨have ha:=ha.h;qnq (qdp hg hm ha hs) λσ H R ⟨τ,G,r,rl,h,af⟩=>Z3 rl (h1 _ _ _ h) λxs G1 h1 vs H1 rs hr1 k1 rl1=>by
  obtain ⟨h1,hl⟩:=h1;simp only at h1;split at h1
  ·obtain ⟨v,rfl,r1⟩:=T7 rs;cases r1;exact ⟨_,rfl,h1.1.1,h1.1.2,af _ _ G1 h1.2 _ H1 hr1 k1 qj3⟩
  ·simp at hl
  ·exact h1.elim⟩
def z9 {pos:Pos} {X:Cx} {tg:Expr} {iter:Expr} {body:List Stmt} {wi:TI3} {g:TG3} {tb:TS3} (hp:PassesOwn (model X.prog X.w) X.A X.env X.xe) (hc:X.calm=true) (hi:jI3 X tg iter wi) (hg:jG3 X tg g) (hb:jB3 X body tb)
  (hs:∀ x,foldedSetIterable iter X.env x=pure x:=by intro _;rfl):jS3 X (.For tg iter body [] pos) (EX wi g tb):=⟨have hi:=hi.h;have hg:=hg.h;have hb:=hb.h;qf4 (qjF hp hc hi hg hb hs) λD σ H ⟨τ,G,d,rl,h,af⟩=>by
  refine ⟨τ,G,_,rl,h,λitems stay G1 h1 J H1 hr1 k1 ok=>?_⟩;refine ⟨λi m σ' H'=>m=items.length-i/\i<=items.length/\∃ τ' G',Rel X.K τ' G' σ' H'/\Kp G1 H1 G' H'/\CJ stay g tb d (items.drop i) τ' G',⟨_,rfl,Nat.zero_le _,τ,G1,rl.next hr1 k1,Kp.refl,by simpa using h1⟩,?_⟩;rintro i m σ' H' ⟨rfl,hi,τ',G',rl',k',h'⟩;by_cases hlt:i<items.length
  ·rw [List.drop_eq_getElem_cons hlt] at h';obtain ⟨hst,h'⟩:=h';obtain ⟨go,yld,_⟩:=ok G' H' rl'.hp k' hst;have hx:items[i]?=some items[i]:=v4 hlt;refine .inr ⟨go i _ hx,λσ2 H2=>∃ τ2 G2,Rel X.K τ2 G2 σ2 H2/\Kp G1 H1 G2 H2/\CJ stay g tb d (items.drop (i+1)) τ2 G2,λσ2 H2 h2=>⟨_,by omega,rfl,hlt,h2⟩,λv H2 y=>?_⟩;obtain ⟨rv,hr2,k2⟩:=yld i _ v H2 hx y;have k3:Kp G1 H1 G' H2:=k'.trans k2;refine ⟨_,τ',G',_,rv,rl'.next hr2 k2,h',λτ3 G3 h3 σ3 H3 rl3 k4=>?_⟩;have k5:Kp G H G3 H3:=(k1.trans k3).trans k4;refine ⟨τ3,G3,_,rl3,h3,⟨λτ4 G4 h4 σ4 H4 rl4 k6=>⟨τ4,G4,rl4,(k3.trans k4).trans k6,h4⟩,af.rt.back k5,af.nx.back k5,λτ4 G4 h4 σ4 H4 rl4 k6=>⟨τ4,G4,rl4,(k3.trans k4).trans k6,h4⟩⟩⟩
  ·have e:i=items.length:=by omega
   subst e;rw [List.drop_length] at h';obtain ⟨_,_,stop⟩:=ok G' H' rl'.hp k' h'.1;exact .inl ⟨stop,af.nx τ' G' h'.2 σ' H' rl' (k1.trans k')⟩⟩
def qi {t:TA3} {pos:Pos} {es:List Expr} {X:Cx} {k:Nat} {x:Str} {p:Pos} {sp:Sp3} (F:Fn3 X.prog X.w X.K X.mg X.base k x sp) (hr:Room k X.A) (hg:Gl X x) (ha:jA3 X (e::es) t) (hdb:(x==("__debug__" : Str))=false:=by decide)
  (he:starEach (e::es) X.env=(false,eval e X.env)::starEach es X.env:=by rfl) (hpl:(backTo pos (starEach es X.env)).any (·.1)=false:=by rfl):jE3 X (.Call (.Name x p) (e::es) [] pos) (cb3 sp t):=⟨by
 have ha:=ha.h;obtain ⟨f,fd,ps,F,b,kp,m⟩:=F;refine DC (qh2 F hr hg m kp b .nil qmE ha hdb he hpl) λσ H Q ⟨τ,G,q,rl,h,af⟩=>Z3 rl h λxs G1 h1 vs H1 rs hr1 k1 rl1=>?_;rw [List.append_nil];exact ⟨xs,G1,q,hr1,rs,h1,af.back k1⟩⟩
def qiV {X:Cx} {elt tg iter:Expr} {ifs:List Expr} {scope:Scope} {pos:Pos} (N':List Str) (m:List (Option Nat)) {wi:TI3} {g:TG3} {tif:TT3} {te:TE3} (hc:X.calm=true) (hi:jI3 X tg iter wi)
  (hg:∀ s H fp,jG3 (qx X N' scope s H fp) tg g) (hf:∀ s H fp,jF3 (qx X N' scope s H fp) ifs tif) (he:∀ s H fp,jE3 (qx X N' scope s H fp) elt te)
  (hsc:qdK X.env.scope scope=true) (hcap:U9 X.N N' scope m=true) (hs:∀ x,foldedSetIterable iter X.env x=pure x:=by intro _;rfl):jE3 X (.ListComp elt [⟨tg,iter,ifs,0⟩] scope pos) (lc3 wi g tif te m):=⟨have hi:=hi.h;have hg:=(λs H fp=>(hg s H fp).h);have hf:=(λs H fp=>(hf s H fp).h);have he:=(λs H fp=>(he s H fp).h);DC (qox (g:=lG X.K g) (tif:=lT X.K tif) (te:=lE X.K te) hc hi hg hf he hsc hcap hs) λσ H Q hh=>qkm hh⟩
def R0 {X:Cx}:jF3 X [] tt3:=⟨λpins s σ H Q I ⟨τ,G,q,rl,h,af⟩=>qld pins s σ H Q I (af true G h H rl.hp Kp.refl)⟩
def qmN {X:Cx} {c:Expr} {t:TT3} (h:jC3 X c t):jF3 X [c] t:=⟨have h:=h.h;qkH h⟩
def UN {t:TA3} {pos:Pos} {es:List Expr} {a:Expr} {X:Cx} {p pt:Pos} {k1:Nat} (hg:Gl X "enumerate") (hm:X.mg "enumerate" = none) (ha:jA3 X [a] t) (hs:starEach [a] X.env=[(false,eval a X.env)]:=by rfl):jI3 X (.Tuple es k1 pt) (.Call (.Name "enumerate" p) [a] [] pos) (EJ t):=⟨have ha:=ha.h;qnq (qhA hg hm ha hs) λσ H R ⟨τ,G,r,rl,h,af⟩=>Z3 rl h λxs G1 h1 vs H1 rs hr1 k1 rl1=>by
  split at h1
  ·rename_i x;split at h1
   ·rename_i us e1;obtain ⟨v,rfl,r1⟩:=T7 rs;obtain ⟨b1,c1,rfl,f1⟩:=qjT hr1 r1 e1;obtain ⟨p,sp,_⟩:=f1 G1 H1 hr1 Kp.refl e1;exact ⟨b1,c1,p,rfl,sp,af _ _ G1 h1 _ H1 hr1 k1 (qlx f1)⟩
   ·exact h1.elim
  ·exact h1.elim⟩
def qdQ {X:Cx} {py spos:Pos} {elt tg iter:Expr} {ifs:List Expr} {scope:Scope} {pos:Pos} {y:Str} (i:Nat) (N':List Str) (m:List (Option Nat)) {wi:TI3} {g:TG3} {tif:TT3} {te:TE3} (hc:X.calm=true) (hN:X.N.Nodup) (hi:jI3 X tg iter wi)
  (hg:∀ s H fp,jG3 (qx X N' scope s H fp) tg g) (hf:∀ s H fp,jF3 (qx X N' scope s H fp) ifs tif) (he:∀ s H fp,jE3 (qx X N' scope s H fp) elt te)
  (hsc:qdK X.env.scope scope=true) (hcap:U9 X.N N' scope m=true) (hl:X.env.scope.names.lookup y=some .local) (hsw:swapsWith (.ListComp elt [⟨tg,iter,ifs,0⟩] scope pos) (some (.Name y py)) spos.line X.env=pure true) (hiy:X.N[i]?=some y:=by rfl) (hs:∀ x,foldedSetIterable iter X.env x=pure x:=by intro _;rfl):jS3 X (.Assign [.Name y py] (.ListComp elt [⟨tg,iter,ifs,0⟩] scope pos) spos) (za (lc3 wi g tif te m) (gn3 i)):=⟨have hi:=hi.h;have hg:=(λs H fp=>(hg s H fp).h);have hf:=(λs H fp=>(hf s H fp).h);have he:=(λs H fp=>(he s H fp).h);qf4 (qdO (g:=lG X.K g) (tif:=lT X.K tif) (te:=lE X.K te) hc hN hi hg hf he hsc hcap hs hiy hl hsw) λ_ σ H ⟨τ,G,d,rl,h,af⟩=>
  qkm ⟨τ,G,_,rl,h,λx G1 h1 v H1 rx hr1 k1=>af.nx _ G1 h1 _ H1 ((rl.next hr1 k1).set i rx) k1⟩⟩
def jpt {X:Cx} {e:Expr} {t:TT3} (h:jW3 X e t):jC3 X e t:=⟨PW.pt h.h⟩
def qhI {P:Program} {w:World} {K:Frg} {mg:Str->Option Value} {base:Heap} {x qual:Str} {st:Stmt} {f:Addr} {fd:FuncData} {N ps:List Str} {k:Nat} {sp:Sp3} {t3:TS3} (F:Fun K x qual st f fd) (S:FnScope N ps (qh st)) (bd:WK K fd ps []) (hm:mg x=some (.ref f))
  (body:∀ (cdv:Value) (A:Around) (outer:List Env) (s:Shared) (H:Hp) (E:XK),Room k (A.deeper (envOfC qual (qh st) s.heap.objs.size f cdv)) ->
   jB3 (qaR CX0 P w K mg base N qual (qh st) f cdv A outer s H E).nox (zo st) t3)
  (read:∀ ts G q,sp ts G q->ts.length=ps.length/\t3 { nx:=λ_ G'=>q .non G',rt:=q } (qE N ts) G):Fn3 P w K mg base (k+1) x sp:=
 qmF F S bd hm (λcdv A outer s H E hr=>(body cdv A outer s H E hr).h) read
def qeX {P:Program} {w:World} {K:Frg} {mg:Str->Option Value} {base:Heap} {x qual:Str} {st:Stmt} {f:Addr} {fd:FuncData} {N ps:List Str} {k:Nat} {sp:Sp3} {t3:TS3} (F:Fun K x qual st f fd) (S:FnScope N ps (qh st))
  (body:∀ (cdv:Value) (A:Around) (outer:List Env) (s:Shared) (H:Hp) (E:XK),Room k (A.deeper (envOfC qual (qh st) s.heap.objs.size f cdv)) ->
   jB3 (qaR CX0 P w K mg base N qual (qh st) f cdv A outer s H E).nox (zo st) t3)
  (read:∀ ts G q,sp ts G q->ts.length=ps.length/\t3 { nx:=λ_ G'=>q .non G',rt:=q } (qE N ts) G):FnOk P w K mg base CX0 (k+1) f fd ps (lSp K sp):=
 qin F S (λcdv A outer s H E hr=>(body cdv A outer s H E hr).h) read
open PySem.SeqAt
def Ex (G G':Gp):Prop:=∀ b o,G b=some o->G' b=some o
def Ex.refl {G:Gp}:Ex G G:=λ_ _ e=>e
def Ex.trans {G G1 G2:Gp} (a:Ex G G1) (b:Ex G1 G2):Ex G G2:=λx o e=>b x o (a x o e)
def jk {G:Gp} {p:Addr} {o:O} (hp:G p=none):Ex G (gu G p o):=λb ob e=>by
 rw [jc (by rintro rfl;rw [hp] at e;cases e)];exact e
mutual
inductive Dp (G:Gp):T->PyData->Prop
 |non:Dp G .non .none
 |bl (b:Bool):Dp G (.bl b) (.bool b)
 |int (i:Int):Dp G (.int i) (.int i)
 |str (x:Str):Dp G (.str x) (.str x)
 |tup {xs:List T} {ds:List PyData}:Dps G xs ds->Dp G (.tup xs) (.tuple ds)
 |lst {p:Addr} {xs:List T} {ds:List PyData}:getL G p=some xs->Dps G xs ds->Dp G (.ref p) (.list ds)
inductive Dps (G:Gp):List T->List PyData->Prop
 |nil:Dps G [] []
 |cons {x:T} {d:PyData} {xs:List T} {ds:List PyData}:Dp G x d->Dps G xs ds->Dps G (x::xs) (d::ds)
end
theorem Ex.getL {G G':Gp} (e:Ex G G') {p:Addr} {xs:List T} (h:getL G p=some xs):getL G' p=some xs:=by
 unfold L3.getL at h ⊢;split at h
 ·rename_i ys g;cases h;rw [e _ _ g]
 ·rename_i ys g;cases h;rw [e _ _ g]
 ·cases h
mutual
inductive DV (K:Frg) (H:Hp):V->PyData->Prop
 |non:DV K H .non .none
 |bl (b:Bool):DV K H (.bl b) (.bool b)
 |int (i:Int):DV K H (.int i) (.int i)
 |str (x:Str):DV K H (.str x) (.str x)
 |tup {a:Addr} {vs:List V} {ds:List PyData}:SqT K H a vs->DVs K H vs ds->DV K H (.ref a) (.tuple ds)
 |lst {a:Addr} {vs:List V} {ds:List PyData}:SqL K H a vs->DVs K H vs ds->DV K H (.ref a) (.list ds)
inductive DVs (K:Frg) (H:Hp):List V->List PyData->Prop
 |nil:DVs K H [] []
 |cons {x:V} {d:PyData} {xs:List V} {ds:List PyData}:DV K H x d->DVs K H xs ds->DVs K H (x::xs) (d::ds)
end
mutual
theorem Dp.dv {K:Frg} {G:Gp} {H:Hp} (hr:HR K G H):∀ {x:T} {d:PyData} {v:V},Dp G x d->Rp K H x v->DV K H v d
 |_,_,_,.non,.non=>.non
 |_,_,_,.bl b,.bl _=>.bl b
 |_,_,_,.int i,.int _=>.int i
 |_,_,_,.str x,.str _=>.str x
 |_,_,_,.tup h,.tup hs rs=>.tup hs (Dps.dv hr h rs)
 |_,_,_,.lst g h,r=>by
  cases r;obtain ⟨_,hs,rs⟩:=zz hr g;exact .lst hs (Dps.dv hr h rs)
theorem Dps.dv {K:Frg} {G:Gp} {H:Hp} (hr:HR K G H):∀ {x:List T} {d:List PyData} {v:List V},Dps G x d->Rps K H x v->DVs K H v d
 |_,_,_,.nil,.nil=>.nil
 |_,_,_,.cons a b,.cons c d=>.cons (Dp.dv hr a c) (Dps.dv hr b d)
end
mutual
def jP:PyData->PyData->Option Bool
 |.none,.none=>some true
 |.bool a,.bool b=>some (a==b)
 |.int a,.int b=>some (a==b)
 |.str a,.str b=>some (a==b)
 |.list xs,.list ys=>ZW xs ys
 |.tuple xs,.tuple ys=>ZW xs ys
 |.int _,.none=>some false
 |.none,.int _=>some false
 |_,_=>none
def ZW:List PyData->List PyData->Option Bool
 |[],[]=>some true
 |x::xs,y::ys=>match jP x y,ZW xs ys with|some a,some b=>some (a&&b)|_,_=>none
 |_,_=>some false
end
mutual
def dpt:PyData->Nat
 |.list xs=>qc2 xs+1
 |.tuple xs=>qc2 xs+1
 |.dict _=>1000
 |_=>0
def qc2:List PyData->Nat
 |[]=>0
 |x::xs=>max (dpt x) (qc2 xs)
end
section
variable {X:Cx} {pins:List (Addr×Obj)} {σ:L2.St} {H:Hp} {s:Shared}
mutual
theorem DV.inj (I:Inv X pins σ H s):∀ {v:V} {d e:PyData},DV X.K H v d->DV X.K H v e->d=e
 |_,_,_,.non,.non=>rfl
 |_,_,_,.bl _,.bl _=>rfl
 |_,_,_,.int _,.int _=>rfl
 |_,_,_,.str _,.str _=>rfl
 |_,_,_,.tup h hs,.tup k ks=>by
  have:=I.tuple_inj h k;subst this;rw [DVs.inj I hs ks]
 |_,_,_,.lst h hs,.lst k ks=>by
  have:=I.list_inj h k;subst this;rw [DVs.inj I hs ks]
 |_,_,_,.tup h hs,.lst k ks=>by
  obtain ⟨i1,_,p1,_⟩:=I.tuple h;obtain ⟨i2,_,p2,_⟩:=I.list k;exact absurd rfl (ne_of_list_tuple p2.isList (show s.heap.IsTuple _ i1.toArray from p1))
 |_,_,_,.lst k ks,.tup h hs=>by
  obtain ⟨i1,_,p1,_⟩:=I.tuple h;obtain ⟨i2,_,p2,_⟩:=I.list k;exact absurd rfl (ne_of_list_tuple p2.isList (show s.heap.IsTuple _ i1.toArray from p1))
theorem DVs.inj (I:Inv X pins σ H s):∀ {v:List V} {d e:List PyData},DVs X.K H v d->DVs X.K H v e->d=e
 |_,_,_,.nil,.nil=>rfl
 |_,_,_,.cons a b,.cons c d=>by rw [DV.inj I a c,DVs.inj I b d]
end
mutual
theorem TH:∀ {d:PyData} {b:Bool},jP d d=some b->b=true
 |.none,_,h=>by simp [jP] at h;exact h
 |.bool _,_,h=>by simp [jP] at h;exact h
 |.int _,_,h=>by simp [jP] at h;exact h
 |.str _,_,h=>by simp [jP] at h;exact h
 |.list xs,_,h=>by simp only [jP] at h;exact UV h
 |.tuple xs,_,h=>by simp only [jP] at h;exact UV h
 |.dict _,_,h=>by simp [jP] at h
theorem UV:∀ {d:List PyData} {b:Bool},ZW d d=some b->b=true
 |[],_,h=>by simp [ZW] at h;exact h
 |x::xs,b,h=>by
  simp only [ZW] at h;split at h
  ·rename_i a c e1 e2;rw [TH e1,UV e2] at h;simpa using h.symm
  ·cases h
end
theorem R4:∀ {xs ys:List PyData} {b:Bool},ZW xs ys=some b->xs.length=ys.length->∃ e:Nat->Bool,(∀ (j:Nat) x y,xs[j]?=some x->ys[j]?=some y->jP x y=some (e j))/\b=(List.range xs.length).all e
 |[],[],b,h,_=>by simp [ZW] at h;exact ⟨λ_=>true,by simp,by simp [h]⟩
 |x::xs,y::ys,b,h,hl=>by
  simp only [ZW] at h;split at h
  ·rename_i a c e1 e2;obtain ⟨e,h1,h2⟩:=R4 e2 (by simpa using hl);refine ⟨λj=>match j with|0=>a|j+1=>e j,λj u v hu hv=>?_,?_⟩
   ·cases j with
    |zero=>simp at hu hv;subst hu;subst hv;exact e1
    |succ j=>exact h1 j u v (by simpa using hu) (by simpa using hv)
   ·rw [length_cons,List.range_succ_eq_map,List.all_cons,List.all_map];cases h;rw [h2];rfl
  ·cases h
 |[],_::_,_,_,hl=>by simp at hl
 |_::_,[],_,_,hl=>by simp at hl
theorem S5:∀ {xs ys:List PyData} {b:Bool},ZW xs ys=some b->xs.length≠ys.length->b=false/\∃ e:Nat->Bool,∀ (j:Nat) x y,xs[j]?=some x->ys[j]?=some y->jP x y=some (e j)
 |[],[],_,_,hl=>by simp at hl
 |[],_::_,b,h,_=>by simp [ZW] at h;exact ⟨h,λ_=>true,by simp⟩
 |_::_,[],b,h,_=>by simp [ZW] at h;exact ⟨h,λ_=>true,by simp⟩
 |x::xs,y::ys,b,h,hl=>by
  simp only [ZW] at h;split at h
  ·rename_i a c e1 e2;obtain ⟨h0,e,h1⟩:=S5 e2 (by simpa using hl);subst h0;refine ⟨by simpa using h.symm,λj=>match j with|0=>a|j+1=>e j,λj u v hu hv=>?_⟩;cases j with
   |zero=>simp at hu hv;subst hu;subst hv;exact e1
   |succ j=>exact h1 j u v (by simpa using hu) (by simpa using hv)
  ·cases h
theorem M8:∀ {xs:List PyData} {x:PyData},x∈xs->dpt x<=qc2 xs
 |[],_,h=>by simp at h
 |y::ys,x,h=>by
  simp only [qc2];rcases mem_cons.mp h with e|e
  ·subst e;omega
  ·have:=M8 e;omega
theorem DVs.get {K:Frg} {H:Hp}:∀ {xs:List V} {ds:List PyData} {i:Nat} {x:V},DVs K H xs ds->xs[i]?=some x->∃ d,ds[i]?=some d/\DV K H x d
 |_,_,_,_,.nil,e=>by simp at e
 |_,_,0,_,.cons r _,e=>by simp at e;subst e;exact ⟨_,rfl,r⟩
 |_,_,i+1,x,.cons _ t,e=>by
  obtain ⟨u,h1,h2⟩:=DVs.get (i:=i) (x:=x) t (by simpa using e);exact ⟨u,by simpa using h1,h2⟩
theorem DVs.length {K:Frg} {H:Hp}:∀ {xs:List V} {ds:List PyData},DVs K H xs ds->xs.length=ds.length
 |_,_,.nil=>rfl
 |_,_,.cons _ b=>by simp [DVs.length b]
def qcT {vs:List V} {us:List Value} (r:zb vs us) {j:Nat} (h:j<us.toArray.size):∃ v,vs[j]?=some v/\zO v us.toArray[j]:=by
 have hj:j<vs.length:=by rw [r.length];simpa using h
 obtain ⟨u,hu,ru⟩:=r.get (v4 hj);refine ⟨vs[j],v4 hj,?_⟩;have hj2:j<us.length:=by simpa using h
 rw [v4 hj2] at hu;have:us[j]=u:=Option.some.inj hu;simpa [this] using ru
def qb0 {v u:V} {d e:PyData} {b:Bool} {x y:Value} {A:Around} (hv:DV X.K H v d) (hu:DV X.K H u e) (h:jP d e=some b) (h0:dpt d=0) (rx:zO v x) (ry:zO u y):RcAt A s x y b/\EqAt A s x y b:=by
 cases hv with
 |non=>
  cases hu with
  |non=>simp [jP] at h;subst h;cases (show x=Value.none from rx);cases (show y=Value.none from ry);exact ⟨RcAt.none_none,EqAt.same _⟩
  |int c=>simp [jP] at h;subst h;cases (show x=Value.none from rx);obtain ⟨t',rfl⟩:=(show ∃ t,y=Value.int _ t from ry);exact ⟨RcAt.none_int _ _,EqAt.none_int _ _⟩
  |bl _=>simp [jP] at h
  |str _=>simp [jP] at h
  |tup _ _=>simp [jP] at h
  |lst _ _=>simp [jP] at h
 |bl a=>cases hu<;>simp [jP] at h;subst h;cases (show x=Value.bool _ from rx);cases (show y=Value.bool _ from ry);exact ⟨RcAt.bool_bool _ _,EqAt.bool_bool _ _⟩
 |int a=>
  cases hu with
  |int c=>simp [jP] at h;subst h;obtain ⟨t,rfl⟩:=(show ∃ t,x=Value.int _ t from rx);obtain ⟨t',rfl⟩:=(show ∃ t,y=Value.int _ t from ry);exact ⟨RcAt.int_int _ _ _ _,EqAt.int_int _ _ _ _⟩
  |non=>simp [jP] at h;subst h;obtain ⟨t,rfl⟩:=(show ∃ t,x=Value.int _ t from rx);cases (show y=Value.none from ry);exact ⟨RcAt.int_none _ _,EqAt.int_none _ _⟩
  |bl _=>simp [jP] at h
  |str _=>simp [jP] at h
  |tup _ _=>simp [jP] at h
  |lst _ _=>simp [jP] at h
 |str a=>cases hu<;>simp [jP] at h;subst h;obtain ⟨t,rfl⟩:=(show ∃ t,x=Value.str _ t from rx);obtain ⟨t',rfl⟩:=(show ∃ t,y=Value.str _ t from ry);exact ⟨RcAt.str_str _ _ _ _,EqAt.str_str _ _ _ _⟩
 |tup=>simp [dpt] at h0
 |lst=>simp [dpt] at h0
def RO {n:Nat} {vs1 vs2:List V} {ds1 ds2:List PyData} {i1 i2:List Value} {b:Bool} {A:Around} (ih:∀ {v u:V} {d e:PyData} {b:Bool} {x y:Value},DV X.K H v d->DV X.K H u e->jP d e=some b->dpt d<=n->zO v x->zO u y->EqAt A s x y b)
  (hs:DVs X.K H vs1 ds1) (ks:DVs X.K H vs2 ds2) (r1:zb vs1 i1) (r2:zb vs2 i2) (h:ZW ds1 ds2=some b) (hd:qc2 ds1<=n) :
  ∃ e:Nat->Bool,(∀ j (h1:j<i1.toArray.size) (h2:j<i2.toArray.size),EqAt A s i1.toArray[j] i2.toArray[j] (e j))/\(i1.toArray.size=i2.toArray.size/\b=(List.range i1.toArray.size).all e\/i1.toArray.size≠i2.toArray.size/\b=false):=by
 have l1:=hs.length;have l2:=ks.length;have m1:=r1.length;have m2:=r2.length;have e1:i1.toArray.size=ds1.length:=by rw [size_toArray];omega
 have e2:i2.toArray.size=ds2.length:=by rw [size_toArray];omega
 have el:∀ (e:Nat->Bool),(∀ (j:Nat) x y,ds1[j]?=some x->ds2[j]?=some y->jP x y=some (e j))->∀ j (h1:j<i1.toArray.size) (h2:j<i2.toArray.size),EqAt A s i1.toArray[j] i2.toArray[j] (e j):=λe he j h1 h2=>by
  obtain ⟨w1,g1,q1⟩:=qcT r1 h1;obtain ⟨w2,g2,q2⟩:=qcT r2 h2;obtain ⟨d1,f1,dv1⟩:=hs.get g1;obtain ⟨d2,f2,dv2⟩:=ks.get g2;have:=M8 (u4 f1);exact ih dv1 dv2 (he j d1 d2 f1 f2) (by omega) q1 q2
 by_cases hl:ds1.length=ds2.length
 ·obtain ⟨e,he,hb⟩:=R4 h hl;exact ⟨e,el e he,.inl ⟨by omega,by rw [e1];exact hb⟩⟩
 ·obtain ⟨hb,e,he⟩:=S5 h hl;exact ⟨e,el e he,.inr ⟨by omega,hb⟩⟩
def qdf (I:Inv X pins σ H s):∀ (n:Nat) {v u:V} {d e:PyData} {b:Bool} {x y:Value} {A:Around},DV X.K H v d->DV X.K H u e->jP d e=some b->dpt d<=n->A.units+n<cLine->zO v x->zO u y ->
  RcAt A s x y b/\EqAt A s x y b:=by
 intro n;induction n with
 |zero=>intro v u d e b x y A hv hu h hd hn rx ry;exact qb0 hv hu h (by omega) rx ry
 |succ n ih=>
  intro v u d e b x y A hv hu h hd hn rx ry;by_cases h0:dpt d=0
  ·exact qb0 hv hu h h0 rx ry
  have fin:∀ {l l':Addr},x=.ref l->y=.ref l'->v=.ref l->u=.ref l'->RcAt A s x y b->RcAt A s x y b/\EqAt A s x y b:=by
   rintro l l' rfl rfl rfl rfl rc;refine ⟨rc,?_⟩;by_cases hll:l=l'
   ·subst hll;have:=DV.inj I hv hu;subst this;rw [TH h];exact EqAt.same _
   ·exact EqAt.of_refs hll rc
  have ih':∀ {v u:V} {d e:PyData} {b:Bool} {x y:Value},DV X.K H v d->DV X.K H u e->jP d e=some b->dpt d<=n->zO v x->zO u y->EqAt A.in1 s x y b:=λa b c d e f=>(ih a b c d (show A.units+1+n<cLine by omega) e f).2;cases hv with
  |tup hq hs=>
   cases hu with
   |tup kq ks=>
    simp only [jP] at h;simp only [dpt] at hd;obtain ⟨i1,r1,p1,z1⟩:=I.tuple hq;obtain ⟨i2,r2,p2,z2⟩:=I.tuple kq;obtain ⟨e,el,hb⟩:=RO ih' hs ks r1 r2 h (by omega);have rc:=RcAt.tuples (A:=A) (show s.heap.IsTuple _ i1.toArray from p1) (show s.heap.IsTuple _ i2.toArray from p2) (by omega) el;refine fin rx ry rfl rfl ?_;cases (show x=Value.ref _ from rx);cases (show y=Value.ref _ from ry);rcases hb with ⟨e1,hb⟩|⟨e1,hb⟩
    ·rw [← e1] at rc;rw [hb];simpa using rc
    ·rw [beq_eq_false_iff_ne.mpr e1,Bool.and_false] at rc;rw [hb];exact rc
   |_=>simp [jP] at h
  |lst hq hs=>
   cases hu with
   |lst kq ks=>
    simp only [jP] at h;simp only [dpt] at hd;obtain ⟨i1,r1,p1,z1⟩:=I.list hq;obtain ⟨i2,r2,p2,z2⟩:=I.list kq;obtain ⟨e,el,hb⟩:=RO ih' hs ks r1 r2 h (by omega);refine fin rx ry rfl rfl ?_;cases (show x=Value.ref _ from rx);cases (show y=Value.ref _ from ry);rcases hb with ⟨e1,hb⟩|⟨e1,hb⟩
    ·rw [hb];exact RcAt.lists p1.isList p2.isList e1 (by omega) el
    ·rw [hb];exact RcAt.lists_lengths p1.isList p2.isList (by simpa using e1) (by omega)
   |_=>simp [jP] at h
  |_=>exact (h0 rfl).elim
def qiT (I:Inv X pins σ H s) {n:Nat} {v u:V} {d e:PyData} {b:Bool} {x y:Value} {A:Around} (hv:DV X.K H v d) (hu:DV X.K H u e) (h:jP d e=some b) (hd:dpt d<=n+1) (hn:A.units+(n+1)<cLine) (rx:zO v x) (ry:zO u y) (hs:dpt d≠0):RcNeAt A s x y (!b):=by
 have ih':∀ {v u:V} {d e:PyData} {b:Bool} {x y:Value},DV X.K H v d->DV X.K H u e->jP d e=some b->dpt d<=n->zO v x->zO u y->EqAt A.in1 s x y b:=λa b c d e f=>(qdf I n a b c d (show A.units+1+n<cLine by omega) e f).2;cases hv with
 |tup hq hs'=>
  cases hu with
  |tup kq ks=>
   simp only [jP] at h;simp only [dpt] at hd;obtain ⟨i1,r1,p1,z1⟩:=I.tuple hq;obtain ⟨i2,r2,p2,z2⟩:=I.tuple kq;obtain ⟨e,el,hb⟩:=RO ih' hs' ks r1 r2 h (by omega);have rc:=RcNeAt.tuples (A:=A) (show s.heap.IsTuple _ i1.toArray from p1) (show s.heap.IsTuple _ i2.toArray from p2) (by omega) el;cases (show x=Value.ref _ from rx);cases (show y=Value.ref _ from ry);rcases hb with ⟨e1,hb⟩|⟨e1,hb⟩
   ·rw [← e1] at rc;rw [hb];simpa using rc
   ·rw [beq_eq_false_iff_ne.mpr e1] at rc;rw [hb];simpa using rc
  |_=>simp [jP] at h
 |lst hq hs'=>
  cases hu with
  |lst kq ks=>
   simp only [jP] at h;simp only [dpt] at hd;obtain ⟨i1,r1,p1,z1⟩:=I.list hq;obtain ⟨i2,r2,p2,z2⟩:=I.list kq;obtain ⟨e,el,hb⟩:=RO ih' hs' ks r1 r2 h (by omega);cases (show x=Value.ref _ from rx);cases (show y=Value.ref _ from ry);rcases hb with ⟨e1,hb⟩|⟨e1,hb⟩
   ·rw [hb];exact RcNeAt.lists p1.isList p2.isList (A:=A) e1 (by omega) el
   ·rw [hb];exact RcNeAt.lists_lengths p1.isList p2.isList (by simpa using e1) (by omega)
  |_=>simp [jP] at h
 |_=>exact (hs rfl).elim
def qiX (K:Frg) (neg:Bool):R2:=λx y H Q=>∃ d e b,DV K H x d/\DV K H y e/\jP d e=some b/\dpt d<=40/\dpt d≠0/\Q (.bl (if neg then !b else b)) H
def qlE (hu:X.A.units+64<cLine):OpR X (compareOp .Eq) (qiX X.K false):=by
 intro pins s σ H x y v u Q I rx ry h;obtain ⟨d,e,b,hx,hy,hb,hd,_,q⟩:=h;exact (qdf I 40 hx hy hb hd (by omega) rx ry).1 X.prog X.w X.xe _ ⟨.bl b,H,I,rfl,q⟩
def qlk (hu:X.A.units+64<cLine):OpR X (compareOp .NotEq) (qiX X.K true):=by
 intro pins s σ H x y v u Q I rx ry h;obtain ⟨d,e,b,hx,hy,hb,hd,hs,q⟩:=h;exact qiT I (n:=40) hx hy hb (by omega) (by omega) rx ry hs X.prog X.w X.xe _ ⟨.bl (!b),H,I,rfl,q⟩
end
def ZP (neg:Bool):R3:=λx y G q=>match qeU x y with
 |some k=>q (.bl (if neg then !k else k)) G
 |none=>∃ d e b,Dp G x d/\Dp G y e/\jP d e=some b/\dpt d<=40/\dpt d≠0/\q (.bl (if neg then !b else b)) G
def zi {K:Frg}:XD K (ZP false) (λx y H Q=>rEq x y H Q\/qiX K false x y H Q):=λx y v u G H q Q hr rx ry h af=>by
 unfold ZP at h;split at h
 ·rename_i k e;obtain ⟨h1,h2⟩:=M3 rx ry e;refine .inl ⟨h1,?_⟩;rw [h2];exact af _ G h _ H (.bl _) hr Kp.refl
 ·obtain ⟨d,e,b,h1,h2,h3,h4,h5,h6⟩:=h;exact .inr ⟨d,e,b,h1.dv hr rx,h2.dv hr ry,h3,h4,h5,af _ G h6 _ H (.bl _) hr Kp.refl⟩
def YF {K:Frg}:XD K (ZP true) (λx y H Q=>rNe x y H Q\/qiX K true x y H Q):=λx y v u G H q Q hr rx ry h af=>by
 unfold ZP at h;split at h
 ·rename_i k e;obtain ⟨h1,h2⟩:=M3 rx ry e;refine .inl ⟨h1,?_⟩;rw [h2];exact af _ G h _ H (.bl _) hr Kp.refl
 ·obtain ⟨d,e,b,h1,h2,h3,h4,h5,h6⟩:=h;exact .inr ⟨d,e,b,h1.dv hr rx,h2.dv hr ry,h3,h4,h5,af _ G h6 _ H (.bl _) hr Kp.refl⟩
def zT {X:Cx} (hu:X.A.units+64<cLine):OpR X (compareOp .Eq) (λx y H Q=>rEq x y H Q\/qiX X.K false x y H Q):=qnv.or (qlE hu)
def WV {X:Cx} (hu:X.A.units+64<cLine):OpR X (compareOp .NotEq) (λx y H Q=>rNe x y H Q\/qiX X.K true x y H Q):=qnk.or (qlk hu)
end L3
namespace L3
open PySem PySem.Spec PyProof.Rows L2
section
variable {X:Cx} {pins:List (Addr×Obj)} {σ:L2.St} {H:Hp} {s:Shared}
mutual
theorem DV.reads (I:Inv X pins σ H s):∀ {v:V} {d:PyData} {x:Value},DV X.K H v d->zO v x->∃ as,Reads s.heap x d as
 |_,_,x,.non,r=>by cases (show x=Value.none from r);exact ⟨_,.none⟩
 |_,_,x,.bl b,r=>by cases (show x=Value.bool b from r);exact ⟨_,.bool b⟩
 |_,_,x,.int i,r=>by obtain ⟨t,rfl⟩:=(show ∃ t,x=Value.int i t from r);exact ⟨_,.int i t⟩
 |_,_,x,.str y,r=>by obtain ⟨t,rfl⟩:=(show ∃ t,x=Value.str y t from r);exact ⟨_,.str y t⟩
 |_,_,x,.tup (a:=a) h hs,r=>by
  cases (show x=Value.ref a from r);obtain ⟨its,rv,⟨o,h1,h2,n,h3⟩,_⟩:=I.tuple h;obtain ⟨as,ra⟩:=DVs.reads I hs rv;exact ⟨as,.tuple h1 h2 h3 (by simpa using ra)⟩
 |_,_,x,.lst (a:=a) h hs,r=>by
  cases (show x=Value.ref a from r);obtain ⟨its,rv,p,_⟩:=I.list h;obtain ⟨o,h1,h2,n,h3⟩:=p.isList;obtain ⟨as,ra⟩:=DVs.reads I hs rv;exact ⟨a::as,.list h1 h2 h3 (by simpa using ra)⟩
theorem DVs.reads (I:Inv X pins σ H s):∀ {v:List V} {d:List PyData} {x:List Value},DVs X.K H v d->zb v x->∃ as,ReadsAll s.heap x d as
 |_,_,_,.nil,.nil=>⟨_,.nil⟩
 |_,_,_,.cons a b,.cons c d=>by
  obtain ⟨as,r1⟩:=DV.reads I a c;obtain ⟨bs,r2⟩:=DVs.reads I b d;exact ⟨_,.cons r1 r2⟩
end
structure ShOk (d:PyData):Prop where
 sh:d.showable=true
 nd:d.hasDict=false
 dp:d.depth<=40
 lv:d.leavesShort 13=true
 bk:d.bulk<=2 ^ 20
end
section
variable {X:Cx}
theorem LB {K:Frg} {H:Hp}:∀ {ys:List T} {vs:List V} (h:Rps K H ys vs),Rps K H ys.reverse vs.reverse
 |_,_,.nil=>.nil
 |_,_,.cons r t=>by rw [List.reverse_cons,List.reverse_cons];exact (LB t).append (.cons r .nil)
def qh8:V->List V->Hp->VK->Prop:=λx vs H Q=>∃ i,x=.int i/\vs=[]/\Q (.int (Builtin.Int.intBits i)) H
def qbi:MtR X "int.bit_length" qh8:=by
 intro pins s σ H x vs v us Q I rx rv h;obtain ⟨i,rfl,rfl,q⟩:=h;obtain ⟨t,rfl⟩:=rx;have hus:=rv.zero;subst hus;exact call_int_bit_length ⟨.int _,_,I.tok _,⟨_,rfl⟩,q⟩
def bl3 (to:TE3):TE3:=λτ G q=>to τ G λx G1=>match x with|.int i=>q (.int (Builtin.Int.intBits i)) G1|_=>False
def T0 {o:Expr} {to:TE3} {apos cpos:Pos} (ho:jE3 X o to) (hbase:attributeBase o "bit_length" X.env (eval o X.env)=eval o X.env:=by rfl) (hline:(apos.endLine==cpos.line)=true:=by rfl) :
  jE3 X (.Call (.Attribute o "bit_length" apos) [] [] cpos) (bl3 to):=
 ⟨DC (qll PySem.F.plainAttrs_int PySem.F.slot_int_bit_length PySem.F.type_int_bit_length qbi ho.h hbase hline) λ_ _ _ ⟨τ,G,q,rl,h,af⟩=>zf rl h λx G1 h1 v H1 rx hr1 k1 rl1=>by
  cases x<;>try exact h1.elim
  case int i=>
   cases rx;exact ⟨rfl,i,rfl,rfl,af.back k1 _ _ h1 _ _ (.int _) hr1 Kp.refl⟩⟩
end
section
variable {prog:Program} {w:World} {A:Around} {R:Result->Shared->Prop} {s:Shared}
def ZV {elt t1 i1 t2 i2:Expr} {f1 f2:List Expr} {scope:Scope} {pos:Pos} {it acc:Value} {env:Env}
  (h0:codeAny (model prog w) A (.compLoop (.ListComp elt [⟨t1,i1,f1,0⟩,⟨t2,i2,f2,0⟩] scope pos) 1 it acc env) R s)
  (h:wpAny (model prog w) A (pyIter it) (λit' s'=>codeAny (model prog w) A (.compLoop (.ListComp elt [⟨t1,i1,f1,0⟩,⟨t2,i2,f2,0⟩] scope pos) 1 it' acc env) R s')
   (notedBy (model prog w) A env λx s'=>R (.error x) s') s) :
  codeAny (model prog w) A (.compStart (.ListComp elt [⟨t1,i1,f1,0⟩,⟨t2,i2,f2,0⟩] scope pos) 1 it acc env) R s:=by
 refine codeAny_of_tree ?_;show wpAny _ _ ((compStart (.ListComp elt [⟨t1,i1,f1,0⟩,⟨t2,i2,f2,0⟩] scope pos) 1 it acc env).onRaise (λx=>do noteFrame x env;standAt theWindowsPlace)) _ _ s;refine wpAny_notedAt ?_;unfold compStart;show wpAny _ _ (ask >>= _) _ _ s;refine x8 (wpAny_askSetting (wpAny_ite ?_));split
 ·first
   |exact x8 (x9 (x9 (And.intro rfl h0)))
   |exact x9 (And.intro rfl h0)
 ·first
   |exact x8 (wpAny_rule (x8 (wpAny_standAt (x8 (y2 h (λit' s' h'=>x9 (And.intro rfl h')) λ_ _ x=>x)))))
   | (refine x8 (wpAny_rule ?_);show wpAny _ _ (standAt i2.pos >>= _) _ _ s;exact x8 (wpAny_standAt (x8 (y2 h (λit' s' h'=>x9 (And.intro rfl h')) λ_ _ x=>x))))
end
def tIn (wi:TI) (g:TG) (tif:TT) (te:TE) (D:Addr) (N:L2.St->Hp->Prop) (σ:L2.St) (H:Hp):Prop:=wi σ H λJ H1=>
 ∃ W:Nat->Nat->L2.St->Hp->Prop,(∃ n,W 0 n σ H1)/\qey J g tif (tAp te D) N W
def inB (elt t1 i1:Expr) (f1:List Expr) (t2 i2:Expr) (f2:List Expr) (scope:Scope) (pos:Pos) (D:Addr) (env:Env) (kk:Sem Fin):Sem Fin:=do
 let x←eval i2 env
 standAt i2.pos
 let x←foldedSetIterable i2 env x
 let _←runOwn (.compStart (.ListComp elt [⟨t1,i1,f1,0⟩,⟨t2,i2,f2,0⟩] scope pos) 1 (← holding [x] (pyIter x)) (.ref D) env) env
 kk
section
variable {X:Cx}
def qor {elt t1 i1 t2 i2:Expr} {f1 f2:List Expr} {scope:Scope} {pos:Pos} {wi:TI} {g:TG} {tif:TT} {te:TE} {D:Addr} {kk:Sem Fin} (hc:X.calm=true) (hx:∀ v s,¬ X.xe v s) (hi:PI X t2 i2 wi) (hg:PG X t2 g) (hf:PF X f2 tif) (he:PE X elt te)
  (hs:∀ x,foldedSetIterable i2 X.env x=pure x) (hA:∀ it,X.A.under (.compLoop (.ListComp elt [⟨t1,i1,f1,0⟩,⟨t2,i2,f2,0⟩] scope pos) 1 (.ref it) (.ref D) X.env)=X.A):∀ pins s σ H N Q E,Inv X pins σ H s->tIn wi g tif te D N σ H->(∀ s' σ' H',Inv X pins σ' H' s'->N σ' H'->wpAny (model X.prog X.w) X.A kk Q E s')->wpAny (model X.prog X.w) X.A (inB elt t1 i1 f1 t2 i2 f2 scope pos D X.env kk) Q E s:=λpins s σ H N Q E I h hk=>by
 refine x8 (y2 (hi pins s σ H _ I h) (λv s1 h1=>?_) λ_ _ z=>(hx _ _ z).elim);refine x8 (wpAny_standAt (x8 (wpAny_of_eq (hs v) ?_)));refine x8 (wpAny_holding (y2 h1 (λitv s2 h2=>?_) λ_ _ z=>(hx _ _ z).elim));obtain ⟨it,fp,tn,J,H2,rfl,I2,T,st2,f2',W,⟨n0,w0⟩,turn⟩:=h2;have loop:=K8 (ce:=.ListComp elt [⟨t1,i1,f1,0⟩,⟨t2,i2,f2,0⟩] scope pos) (kx:=1) (ip:=i2.pos) (Post:=λr s'=>match r with
   |.ok f=>wpAny (model X.prog X.w) X.A kk Q E s'
   |.error e=>cameBackBy (model X.prog X.w) X.A X.env E e s') hc hx rfl (hA it) rfl T hg hf (qiD hx he) (λ_ hn b hb=>⟨hn b hb,(f2' b hb).2⟩) turn (λs σ H I q=>hk _ _ _ I q) I2 st2 (λb hb=>(f2' b hb).1) w0
 exact x8 (wpAny_runOwn (ZV loop (T.self X.A 0 _ _ _ st2 loop)))
def qmw {elt tg iter t2 i2:Expr} {ifs f2:List Expr} {scope:Scope} {pos:Pos} {N':List Str} {m:List (Option Nat)} {wi:TI} {g:TG} {tif:TT} {wi2:TI} {g2:TG} {tif2:TT} {te:TE} (hc:X.calm=true) (hi:PI X tg iter wi)
  (hg:∀ s H fp,PG (qx X N' scope s H fp) tg g) (hf:∀ s H fp,PF (qx X N' scope s H fp) ifs tif) (hi2:∀ s H fp,PI (qx X N' scope s H fp) t2 i2 wi2) (hg2:∀ s H fp,PG (qx X N' scope s H fp) t2 g2) (hf2:∀ s H fp,PF (qx X N' scope s H fp) f2 tif2) (he:∀ s H fp,PE (qx X N' scope s H fp) elt te)
  (hsc:qdK X.env.scope scope=true) (hcap:U9 X.N N' scope m=true) (hs:∀ x,foldedSetIterable iter X.env x=pure x:=by intro _;rfl) (hs2:∀ s H fp x,foldedSetIterable i2 (qx X N' scope s H fp).env x=pure x:=by intro _ _ _ _;rfl) :
  PE X (.ListComp elt [⟨tg,iter,ifs,0⟩,⟨t2,i2,f2,0⟩] scope pos) (tLG wi g tif (tIn wi2 g2 tif2 te) m):=by
 intro pins s σ H Q I h;rw [eval_ListComp];exact KW (use:=none) (bd:=inB elt tg iter ifs t2 i2 f2 scope pos) hc hi (λ_ _ _=>rfl) hg hf (λs H fp D kk=>qor rfl (λ_ _ z=>z) (hi2 s H fp) (hg2 s H fp) (hf2 s H fp) (he s H fp) (hs2 s H fp) λ_=>rfl) hsc hcap hs I h qfN
end
def qi2 (D:Addr) (stay:Gp->Prop) (g:TG3) (tif:TT3) (te:TE3) (N:St3->Gp->Prop):List T->St3->Gp->Prop
 |[],τ,G=>stay G/\N τ G
 |x::r,τ,G=>stay G/\g x τ G λτ2 G2=>tif τ2 G2 λk G3=>
  if k=true then te τ2 G3 λy G4=>(match G4 D with|some (.lst ys)=>ys.length<sizeLine/\qi2 D stay g tif te N r τ2 (gu G4 D (.lst (ys++[y])))|_=>False) else qi2 D stay g tif te N r τ2 G3
def qbG (D:Addr) (stay:Gp->Prop) (g:TG3) (tif:TT3) (wi2:TI3) (g2:TG3) (tif2:TT3) (te:TE3) (q:Q3):List T->St3->Gp->Prop
 |[],_,G=>stay G/\q (.ref D) G
 |x::r,τ,G=>stay G/\g x τ G λτ2 G2=>tif τ2 G2 λk G3=>
  if k=true then wi2 τ2 G3 λitems2 stay2 G4=>qi2 D stay2 g2 tif2 te (λτ' G'=>qbG D stay g tif wi2 g2 tif2 te q r τ' G') items2 τ2 G4 else qbG D stay g tif wi2 g2 tif2 te q r τ2 G3
def qk8 (wi:TI3) (g:TG3) (tif:TT3) (wi2:TI3) (g2:TG3) (tif2:TT3) (te:TE3) (m:List (Option Nat)):TE3:=λτ G q=>wi τ G λitems stay G1=>∀ D,G1 D=none->qbG D stay g tif wi2 g2 tif2 te q items (cap m τ) (gu G1 D (.lst []))
section
variable {K:Frg}
def qh0 {wi2:TI3} {g2:TG3} {tif2:TT3} {te:TE3} {D:Addr} {N3:St3->Gp->Prop} {N:L2.St->Hp->Prop} {τ:St3} {G:Gp} {σ:L2.St} {H:Hp} {Gb:Gp} {Hb:Hp} (rl:Rel K τ G σ H) (kb:Kp Gb Hb G H) (h:wi2 τ G λitems stay G1=>qi2 D stay g2 tif2 te N3 items τ G1)
  (hN:∀ τ' G' σ' H',Rel K τ' G' σ' H'->Kp Gb Hb G' H'->N3 τ' G'->N σ' H'):tIn (lI K wi2) (lG K g2) (lT K tif2) (lE K te) D N σ H:=by
 refine ⟨τ,G,_,rl,h,λitems stay G1 h1 J H1 hr1 k1 ok=>?_⟩;refine ⟨λi n σ' H'=>n=items.length-i/\i<=items.length/\∃ τ' G',Rel K τ' G' σ' H'/\Kp G1 H1 G' H'/\qi2 D stay g2 tif2 te N3 (items.drop i) τ' G',⟨_,rfl,Nat.zero_le _,τ,G1,rl.next hr1 k1,Kp.refl,by simpa using h1⟩,?_⟩;rintro i n σ' H' ⟨rfl,hi,τ',G',rl',k',h'⟩;by_cases hlt:i<items.length
 ·rw [List.drop_eq_getElem_cons hlt] at h';obtain ⟨hst,h'⟩:=h';obtain ⟨go,yld,_⟩:=ok G' H' rl'.hp k' hst;have hx:items[i]?=some items[i]:=v4 hlt;refine .inr ⟨go i _ hx,λv H2 y=>?_⟩;obtain ⟨rv,hr2,k2⟩:=yld i _ v H2 hx y;refine ⟨_,τ',G',_,rv,rl'.next hr2 k2,h',λτ3 G3 h3 σ3 H3 rl3 k3=>⟨τ3,G3,_,rl3,h3,λk G4 h4 H4 hr4 k4=>?_⟩⟩;have kk:=(k2.trans k3).trans k4;cases k with
  |false=>
   rw [if_neg y8] at h4;refine qom ?_;exact ⟨_,by omega,rfl,hlt,τ3,G4,rl3.next hr4 k4,k'.trans kk,h4⟩
  |true=>
   rw [if_pos rfl] at h4;refine qnW ?_;refine ⟨τ3,G4,_,rl3.next hr4 k4,h4,λz G5 h5 w H5 rw5 hr5 k5=>?_⟩;split at h5
   ·rename_i ys e1;obtain ⟨vs,g1,r1⟩:=hr5.lst e1;exact ⟨vs,g1,by rw [← r1.length];exact h5.1,_,by omega,rfl,hlt,τ3,_,((rl3.next hr4 k4).next hr5 k5).next (hr5.wr e1 (r1.append (.cons rw5 .nil))) (Kp.wr e1),((k'.trans kk).trans k5).trans (Kp.wr e1),h5.2⟩
   ·exact h5.elim
 ·have e:i=items.length:=by omega
  subst e;rw [List.drop_length] at h';obtain ⟨_,_,stop⟩:=ok G' H' rl'.hp k' h'.1;exact .inl ⟨stop,hN _ _ _ _ rl' ((kb.trans k1).trans k') h'.2⟩
end
def qmG {K:Frg} {m:List (Option Nat)} {wi:TI3} {g:TG3} {tif:TT3} {wi2:TI3} {g2:TG3} {tif2:TT3} {te:TE3} {σ:L2.St} {H:Hp} {Q:VK} (hh:lE K (qk8 wi g tif wi2 g2 tif2 te m) σ H Q):tLG (lI K wi) (lG K g) (lT K tif) (tIn (lI K wi2) (lG K g2) (lT K tif2) (lE K te)) m σ H Q:=by
  obtain ⟨τ,G,q,rl,h,af⟩:=hh;refine ⟨τ,G,_,rl,h,λitems stay G1 h1 J H1 hr1 k1 ok D hD=>?_⟩;have gD:G1 D=none:=hr1.free hD;have h1:=h1 D gD;have hr1':HR K (gu G1 D (.lst [])) (upd H1 D (.lst [])):=HR.newL hr1 hD .nil;have k1':Kp G1 H1 (gu G1 D (.lst [])) (upd H1 D (.lst [])):=Kp.newL hD;refine ⟨λi n σ' H'=>n=items.length-i/\i<=items.length/\∃ τ' G',Rel K τ' G' σ' H'/\Kp G1 H1 G' H'/\qbG D stay g tif wi2 g2 tif2 te q (items.drop i) τ' G',
   ⟨_,rfl,Nat.zero_le _,cap m τ,_,((rl.next hr1 k1).cap m).next hr1' k1',k1',by simpa using h1⟩,?_⟩
  rintro i n σ' H' ⟨rfl,hi,τ',G',rl',k',h'⟩;by_cases hlt:i<items.length
  ·rw [List.drop_eq_getElem_cons hlt] at h';obtain ⟨hst,h'⟩:=h';obtain ⟨go,yld,_⟩:=ok G' H' rl'.hp k' hst;have hx:items[i]?=some items[i]:=v4 hlt;refine .inr ⟨go i _ hx,λv H2 y=>?_⟩;obtain ⟨rv,hr2,k2⟩:=yld i _ v H2 hx y;refine ⟨_,τ',G',_,rv,rl'.next hr2 k2,h',λτ3 G3 h3 σ3 H3 rl3 k3=>⟨τ3,G3,_,rl3,h3,λk G4 h4 H4 hr4 k4=>?_⟩⟩;have kk:=(k2.trans k3).trans k4;cases k with
   |false=>
    rw [if_neg y8] at h4;refine qom ?_;exact ⟨_,by omega,rfl,hlt,τ3,G4,rl3.next hr4 k4,k'.trans kk,h4⟩
   |true=>
    rw [if_pos rfl] at h4;refine qnW ?_;exact qh0 (rl3.next hr4 k4) (k'.trans kk) h4 λτ5 G5 σ5 H5 rl5 k5 h5=>⟨_,by omega,rfl,hlt,τ5,G5,rl5,k5,h5⟩
  ·have e:i=items.length:=by omega
   subst e;rw [List.drop_length] at h';obtain ⟨_,_,stop⟩:=ok G' H' rl'.hp k' h'.1;exact .inl ⟨stop,af _ _ h'.2 _ H' (.ref D) rl'.hp (k1.trans k')⟩
section
variable {X:Cx}
def qoP {elt tg iter t2 i2:Expr} {ifs f2:List Expr} {scope:Scope} {pos:Pos} (N':List Str) (m:List (Option Nat)) {wi:TI3} {g:TG3} {tif:TT3} {wi2:TI3} {g2:TG3} {tif2:TT3} {te:TE3} (hc:X.calm=true) (hi:I3 X tg iter wi)
  (hg:∀ s H fp,G3 (qx X N' scope s H fp) tg g) (hf:∀ s H fp,F3 (qx X N' scope s H fp) ifs tif) (hi2:∀ s H fp,I3 (qx X N' scope s H fp) t2 i2 wi2) (hg2:∀ s H fp,G3 (qx X N' scope s H fp) t2 g2) (hf2:∀ s H fp,F3 (qx X N' scope s H fp) f2 tif2) (he:∀ s H fp,E3 (qx X N' scope s H fp) elt te)
  (hsc:qdK X.env.scope scope=true) (hcap:U9 X.N N' scope m=true) (hs:∀ x,foldedSetIterable iter X.env x=pure x:=by intro _;rfl) (hs2:∀ s H fp x,foldedSetIterable i2 (qx X N' scope s H fp).env x=pure x:=by intro _ _ _ _;rfl) :
  E3 X (.ListComp elt [⟨tg,iter,ifs,0⟩,⟨t2,i2,f2,0⟩] scope pos) (qk8 wi g tif wi2 g2 tif2 te m):=
 DC (qmw (g:=lG X.K g) (tif:=lT X.K tif) (wi2:=lI X.K wi2) (g2:=lG X.K g2) (tif2:=lT X.K tif2) (te:=lE X.K te) hc hi hg hf hi2 hg2 hf2 he hsc hcap hs hs2) λσ H Q hh=>qmG hh
def qkl {elt tg iter t2 i2:Expr} {ifs f2:List Expr} {scope:Scope} {pos:Pos} (N':List Str) (m:List (Option Nat)) {wi:TI3} {g:TG3} {tif:TT3} {wi2:TI3} {g2:TG3} {tif2:TT3} {te:TE3} (hc:X.calm=true) (hi:jI3 X tg iter wi)
  (hg:∀ s H fp,jG3 (qx X N' scope s H fp) tg g) (hf:∀ s H fp,jF3 (qx X N' scope s H fp) ifs tif) (hi2:∀ s H fp,jI3 (qx X N' scope s H fp) t2 i2 wi2) (hg2:∀ s H fp,jG3 (qx X N' scope s H fp) t2 g2) (hf2:∀ s H fp,jF3 (qx X N' scope s H fp) f2 tif2) (he:∀ s H fp,jE3 (qx X N' scope s H fp) elt te)
  (hsc:qdK X.env.scope scope=true) (hcap:U9 X.N N' scope m=true) (hs:∀ x,foldedSetIterable iter X.env x=pure x:=by intro _;rfl) (hs2:∀ s H fp x,foldedSetIterable i2 (qx X N' scope s H fp).env x=pure x:=by intro _ _ _ _;rfl) :
  jE3 X (.ListComp elt [⟨tg,iter,ifs,0⟩,⟨t2,i2,f2,0⟩] scope pos) (qk8 wi g tif wi2 g2 tif2 te m):=
 ⟨qoP N' m hc hi.h (λs H fp=>(hg s H fp).h) (λs H fp=>(hf s H fp).h) (λs H fp=>(hi2 s H fp).h) (λs H fp=>(hg2 s H fp).h) (λs H fp=>(hf2 s H fp).h) (λs H fp=>(he s H fp).h) hsc hcap hs hs2⟩
end
section
variable {X:Cx}
theorem US:∀ {its:List Value} {ns:List Int},zb (ns.map V.int) its->IntsAre its ns
 |_,[],h=>by cases h;exact .nil
 |_,n::ns,h=>by
  cases h with
  |cons r t=>
   obtain ⟨k,rfl⟩:=r;exact .cons n k (US t)
theorem qcG:∀ {its:List Value} {ns:List Int},IntsAre its ns->zb (ns.map V.int) its
 |_,_,.nil=>.nil
 |_,_,.cons n t h=>.cons ⟨t,rfl⟩ (qcG h)
theorem NQ {K:Frg} {H:Hp}:∀ (ns:List Int),Rps K H (ns.map T.int) (ns.map V.int)
 |[]=>.nil
 |n::ns=>.cons (.int n) (NQ ns)
end
section
variable {X:Cx} {tg a b c:Expr} {pos:Pos}
end
section
variable {X:Cx}
end
section
variable {X:Cx} {a b:Expr} {ta tb:TE3} {pos:Pos}
def qhf:OpR X (compareOp .IsNot) (λx y H Q=>∃ i j,x=.bl i/\y=.bl j/\Q (.bl (i != j)) H):=by
 intro pins s σ H x y v u Q I rx ry h;obtain ⟨i,j,rfl,rfl,q⟩:=h;cases rx;cases ry;exact isnot_bool (qQ I q rfl)
def qm2 (neg:Bool):R3:=λx y G q=>match x,y with|.bl i,.bl j=>q (.bl (if neg then i != j else i==j)) G|_,_=>False
def qdS {K:Frg}:XD K (qm2 true) (λx y H Q=>∃ i j,x=.bl i/\y=.bl j/\Q (.bl (i != j)) H):=λx y v u G H q Q hr rx ry h af=>by
 cases x<;>try exact h.elim
 cases y<;>try exact h.elim
 cases rx;cases ry;exact ⟨_,_,rfl,rfl,af _ G h _ H (.bl _) hr Kp.refl⟩
def qi0:R3:=λx y G q=>match x,y with
 |.ref a,.int k=>(match G a with|some (.lst xs)=>(-(2 ^ 63)<=k/\k<2 ^ 63)/\xs.length*k.toNat<=sizeLine/\∀ p,G p=none->q (.ref p) (gu G p (.lst (List.replicate k.toNat xs).flatten))|_=>False)
 |_,_=>False
theorem qa3 {K:Frg} {H:Hp} {xs:List T} {vs:List V} (r:Rps K H xs vs):∀ k,Rps K H (List.replicate k xs).flatten (List.replicate k vs).flatten
 |0=>.nil
 |k+1=>by
  rw [List.replicate_succ,List.flatten_cons,List.replicate_succ,List.flatten_cons];exact r.append (qa3 r k)
def qhd {K:Frg}:XD K qi0 qo5:=λx y v u G H q Q hr rx ry h af=>by
 cases x<;>try exact h.elim
 case ref a=>
  cases y<;>try exact h.elim
  case int k=>
   unfold qi0 at h;simp only at h;split at h
   ·rename_i xs e1;cases rx;cases ry;obtain ⟨vs,g1,r1⟩:=hr.lst e1;exact ⟨a,k,vs,rfl,rfl,g1,h.1.1,h.1.2,by rw [← r1.length];exact h.2.1,λp hp=>af _ _ (h.2.2 p (hr.free hp)) _ _ (.ref p) (hr.newL hp (qa3 r1 _)) (Kp.newL hp)⟩
   ·exact h.elim
def qmq (ha:jE3 X a ta) (hb:jE3 X b tb):jE3 X (.BinOp a .Mult b pos) (o3 qi0 ta tb):=⟨qaU qku qhd ha.h hb.h⟩
structure ShW (d:PyData):Prop where
 sh:d.showable=true
 nd:d.hasDict=false
 dp:d.depth<=40
 fit:d.shown.length<=sizeLine
def ShOk.w {d:PyData} (h:ShOk d):ShW d:=⟨h.sh,h.nd,h.dp,PyData.shown_fits_bulk (by decide) (by decide) h.lv h.bk⟩
def qaZ (hg:X.A.guards=some []) (hu:X.A.units+64<cLine):J3 X (.type "str") (λxs H Q=>∃ a d,xs=[.ref a]/\DV X.K H (.ref a) d/\ShW d/\Q (.str d.shown) H):=by
 intro pins s σ H xs us Q I r h;obtain ⟨a,d,rfl,dv,ok,q⟩:=h;obtain ⟨u,rfl,rp⟩:=XO r;cases (show u=Value.ref a from rp);obtain ⟨as,rd⟩:=dv.reads I (show zO (.ref a) (.ref a) from rfl);refine str_of_reads rd ok.sh (PyData.noDict_hsm ok.nd) hg (by have:=ok.dp;omega) (λ_ _ e=>e) (λh' u tk hk=>?_) ok.fit;exact ⟨.str _,H,I.kept (h':=h') (t':=tk) hk,⟨_,rfl⟩,q⟩
def shV (st:Bool):V->Hp->(Str->Prop)->Prop:=λv H q=>match v with
 |.non=>q (Str.ofString "None")
 |.bl b=>q (if b=true then Str.ofString "True" else Str.ofString "False")
 |.int i=>i.natAbs.log2<1920/\q (Str.ofString (toString i))
 |.str x=>if st then q x else (reprText x).length<=sizeLine/\q (reprText x)
 |.ref a=>∃ d,DV X.K H (.ref a) d/\ShW d/\q d.shown
 |_=>False
def YE (hg:X.A.guards=some []) (hu:X.A.units+64<cLine):J3 X (.type "str") (λxs H Q=>∃ v,xs=[v]/\shV (X:=X) true v H λx=>Q (.str x) H):=by
 intro pins s σ H xs us Q I r h;obtain ⟨v,rfl,h⟩:=h;obtain ⟨u,rfl,rp⟩:=XO r;cases v with
 |non=>cases (show u=Value.none from rp);exact P.str_of_none ⟨.str _,H,I.tok _,⟨_,rfl⟩,h⟩
 |bl b=>cases (show u=Value.bool b from rp);exact P.str_of_bool ⟨.str _,H,I.tok _,⟨_,rfl⟩,h⟩
 |int i=>obtain ⟨t,rfl⟩:=(show ∃ t,u=Value.int i t from rp);exact P.str_of_int h.1 ⟨.str _,H,I.tok _,⟨_,rfl⟩,h.2⟩
 |str x=>obtain ⟨t,rfl⟩:=(show ∃ t,u=Value.str x t from rp);exact P.str_of_str ⟨.str _,H,I,⟨_,rfl⟩,h⟩
 |ref a=>
  obtain ⟨d,dv,ok,q⟩:=h;exact qaZ hg hu _ _ _ _ _ _ _ I r ⟨a,d,rfl,dv,ok,q⟩
 |_=>exact h.elim
def shT (st:Bool):T->Gp->(Str->Prop)->Prop:=λx G q=>match x with
 |.non=>q (Str.ofString "None")
 |.bl b=>q (if b=true then Str.ofString "True" else Str.ofString "False")
 |.int i=>i.natAbs.log2<1920/\q (Str.ofString (toString i))
 |.str x=>if st then q x else (reprText x).length<=sizeLine/\q (reprText x)
 |.tup _=>∃ d,Dp G x d/\ShW d/\q d.shown
 |.ref _=>∃ d,Dp G x d/\ShW d/\q d.shown
def TJ (st:Bool):List T->Gp->Q3->Prop:=λxs G q=>match xs with
 |[x]=>shT st x G λy=>q (.str y) G
 |_=>False
def CP {st:Bool}:qaV X.K (TJ st) (λxs H Q=>∃ v,xs=[v]/\shV (X:=X) st v H λx=>Q (.str x) H):=λxs vs G H q Q hr rs h af=>by
 unfold TJ at h;split at h
 ·rename_i x;obtain ⟨v,rfl,r⟩:=T7 rs;refine ⟨v,rfl,?_⟩;cases r with
  |non=>exact af _ G h _ H (.str _) hr Kp.refl
  |bl b=>exact af _ G h _ H (.str _) hr Kp.refl
  |int i=>exact ⟨h.1,af _ G h.2 _ H (.str _) hr Kp.refl⟩
  |str x=>
   cases st with
   |true=>exact af _ G h _ H (.str _) hr Kp.refl
   |false=>exact ⟨h.1,af _ G h.2 _ H (.str _) hr Kp.refl⟩
  |tup hs r2=>
   obtain ⟨d,h1,h2,h3⟩:=h;exact ⟨d,h1.dv hr (.tup hs r2),h2,af _ G h3 _ H (.str _) hr Kp.refl⟩
  |ref a=>
   obtain ⟨d,h1,h2,h3⟩:=h;exact ⟨d,h1.dv hr (.ref a),h2,af _ G h3 _ H (.str _) hr Kp.refl⟩
 ·exact h.elim
def qd6:OpR X (binaryOp .Add) (λx y H Q=>∃ a b ys,x=.ref a/\y=.ref b/\SqT X.K H a []/\SqT X.K H b ys/\Q (.ref b) H):=by
 intro pins s σ H x y v u Q I rx ry h;obtain ⟨a,b,ys,rfl,rfl,ha,hb,q⟩:=h;cases rx;cases ry;obtain ⟨its,r1,p1,_⟩:=I.tuple ha;obtain ⟨its2,r2,p2,_⟩:=I.tuple hb;cases r1;obtain ⟨⟨cls,dd,data,sl⟩,ho,hc,n,hd⟩:=id p1;obtain ⟨⟨cls2,dd2,data2,sl2⟩,ho2,hc2,n2,hd2⟩:=id p2;simp only at hc hd hc2 hd2;subst hc hd hc2 hd2;exact concat_meets ⟨_,ho,rfl⟩ ⟨_,ho2,rfl⟩ noFill_tuple_add seq_tuple_add PySem.F.slot_tuple_add PySem.F.entry_tuple_add (PySem.F.args_tuple_add_2 _ _)
   (tuple_addW0 a b #[] its2.toArray n n2 dd dd2 sl sl2 rfl) ⟨ho,ho2,⟨.ref b,H,I,rfl,q⟩⟩
def ZZ:R3:=λx y G q=>match x,y with
 |.tup xs,.tup ys=>xs.length+ys.length<=sizeLine/\q (.tup (xs++ys)) G
 |.ref a,.ref b=>(match G a,G b with|some (.lst xs),some (.lst ys)=>xs.length+ys.length<=sizeLine/\∀ p,G p=none->q (.ref p) (gu G p (.lst (xs++ys)))|_,_=>False)
 |.int i,.int j=>q (.int (i+j)) G
 |_,_=>False
def qec:XD X.K ZZ (λx y H Q=>((rI0 (λi j=>.int (i+j)) x y H Q\/qhE X.K x y H Q)\/qoF x y H Q)\/∃ a b ys,x=.ref a/\y=.ref b/\SqT X.K H a []/\SqT X.K H b ys/\Q (.ref b) H):=λx y v u G H q Q hr rx ry h af=>by
 cases x with
 |tup xs=>
  cases y with
  |tup ys=>
   cases xs with
   |nil=>
    cases rx with
    |tup hs rs=>
     cases rs;cases ry with
     |tup hs' rs'=>exact .inr ⟨_,_,_,rfl,rfl,hs,hs',af _ G h.2 _ H (.tup hs' rs') hr Kp.refl⟩
   |cons x xs=>exact .inl (RT _ _ v u G H q Q hr rx ry ⟨by simp,h⟩ af)
  |_=>exact h.elim
 |ref a=>
  cases y with
  |ref b=>exact .inl (RT (.ref a) (.ref b) v u G H q Q hr rx ry h af)
  |_=>exact h.elim
 |int i=>
  cases y with
  |int j=>exact .inl (RT (.int i) (.int j) v u G H q Q hr rx ry h af)
  |_=>exact h.elim
 |_=>exact h.elim
def zq (ha:jE3 X a ta) (hb:jE3 X b tb):jE3 X (.BinOp a .Add b pos) (o3 ZZ ta tb):=⟨qaU (((qf5.or qcH).or qf1).or qd6) qec ha.h hb.h⟩
def UI {prog:Program} {w:World} {A:Around} {E:Value->Shared->Prop} {s:Shared} {t sl:Addr} {items:Array Value} {vl vu:Value} {lo hi:Option Int} {Q:Value->Shared->Prop} (ht:IsTup s.heap t items) (hs:s.heap.IsSliceOf sl vl vu .none) (pl:IsPart vl lo) (pu:IsPart vu hi)
  (hw:HT.sIx items.size 0 lo=0/\HT.sIx items.size items.size hi=items.size) (h:Q (.ref t) s):wpAny (model prog w) A (getItem (.ref t) (.ref sl)) Q E s:=by
 obtain ⟨os,hos,hcs,hds⟩:=id hs;have hTs:s.TypeIs (.ref sl) "slice" := ⟨os,hos,hcs⟩
 unfold getItem
 try with_reducible refine wpAny_holding ?_
 first|refine x8 (x9 ?_)|skip
 refine x8 (wpAny_sequenceKey ht.typeIs (by decide) ?_);refine x8 (wpAny_callSpecial?_slot (name:=Str.ofString "__getitem__") ht.typeIs PyProof.Rows.slot_tuple_getitem
  (wpAny_call_entry PyProof.Rows.slot_tuple_getitem ht.typeIs entry_tuple_getitem ?_ (args_tuple_getitem _ _)))
 show wpAny _ _ (Builtin.Tuple.tupleItemsOf (.ref t) >>= _) _ _ s;refine x8 (tupleItemsOf_ ht ?_);refine x8 (wpAny_typeOf hTs ?_);rw [if_pos (by decide)];refine x8 (HT.ZS hs pl pu ?_);have hyes:(((HT.sIx items.size 0 lo:Nat):Int)==0&&(1:Int)==1&&(HT.sIx items.size items.size hi-HT.sIx items.size 0 lo)==items.size)=true:=by
  rw [hw.1,hw.2];simp
 show wpAny _ _ (if (((HT.sIx items.size 0 lo:Nat):Int)==0&&(1:Int)==1&&(HT.sIx items.size items.size hi-HT.sIx items.size 0 lo)==items.size)=true then _ else _) _ _ s;rw [if_pos hyes];unfold Builtin.Tuple.tupleIsExact;refine x8 (x8 (wpAny_typeOf ht.typeIs (x9 ?_)));rw [if_pos (by decide)];refine x8 (wpAny_rule ?_);exact x9 ⟨_,rfl,x9 h⟩
def qp3 (K:Frg):V->Option Int->Option Int->Hp->VK->Prop:=λx lo hi H Q=>∃ a xs,x=.ref a/\SqT K H a xs/\(HT.sIx xs.length 0 lo=0/\HT.sIx xs.length xs.length hi=xs.length)/\Q (.ref a) H
def qdU:SlR X (qp3 X.K):=by
 intro pins s σ H x v vl vu lo hi sl Q I rx hs pl pu h;obtain ⟨a,xs,rfl,hx,hw,q⟩:=h;cases rx;obtain ⟨its,r,ht,hz⟩:=I.tuple hx;have hlen:its.toArray.size=xs.length:=by rw [size_toArray];exact r.length.symm
 refine ⟨"tuple",_,PyProof.Rows.slot_tuple_getitem.lookup,ht.typeIs,?_⟩;exact UI ht hs pl pu (by rw [hlen];exact hw) ⟨.ref a,H,I,rfl,q⟩
def qnL:T->Option Int->Option Int->Gp->Q3->Prop:=λx lo hi G q=>match x with
 |.tup xs=>q (.tup (VL xs lo hi)) G
 |.ref p=>(match getL G p with|some xs=>∀ a,G a=none->q (.ref a) (gu G a (.lst (VL xs lo hi)))|none=>False)
 |_=>False
def SI (te:TE3) (tl th:TO3):TE3:=λτ G q=>te τ G λx G1=>tl τ G1 λl G2=>th τ G2 λu G3=>qnL x l u G3 q
def QP {e:Expr} {te:TE3} {lo hi:Option Expr} {tl th:TO3} {p2:Pos} (he:jE3 X e te) (hl:jP3 X lo tl) (hu:jP3 X hi th):jE3 X (.Subscript e (.Slice lo hi none p2) pos) (SI te tl th):=
 ⟨DC (NH ((qgh.or qb6).or qdU) he.h hl.h hu.h) λ_ _ _ ⟨τ,G,q,rl,h,af⟩=>zf rl h λx G1 h1 v H1 rx hr1 k1 rl1=>
  ⟨τ,G1,_,rl1,h1,λl G2 h2 H2 hr2 k2=>⟨τ,G2,_,rl1.next hr2 k2,h2,λu G3 h3 H3 hr3 k3=>by
   have kk:=(k1.trans k2).trans k3;have rx3:=(rx.keep hr1 k2).keep hr2 k3;cases x<;>try exact h3.elim
   case tup xs=>
    cases rx3 with
    |tup hs rs=>
     by_cases hw:HT.sIx xs.length 0 l=0/\HT.sIx xs.length xs.length u=xs.length
     ·refine .inr ⟨_,_,rfl,hs,by rw [← rs.length];exact hw,?_⟩;have e:VL xs l u=xs:=by unfold VL;rw [hw.1,hw.2];simp
      have h4:q (.tup (VL xs l u)) G3:=h3;rw [e] at h4;exact af _ G3 h4 _ _ (.tup hs rs) hr3 kk
     ·refine .inl (.inl ⟨_,_,rfl,hs,by rw [← rs.length];exact hw,λp hp=>?_⟩);exact af _ G3 h3 _ _ (.tup (SqT.of qI) ((rs.cut _ _).keep hr3 (Kp.laid hp))) (hr3.laid hp) (kk.trans (Kp.laid hp))
   case ref p=>
    unfold qnL at h3;simp only at h3;split at h3
    ·rename_i xs e0;cases rx3;obtain ⟨vs,hs,rs⟩:=zz hr3 e0;refine .inl (.inr ⟨p,vs,rfl,hs,λa ha=>?_⟩);exact af _ _ (h3 a (hr3.free ha)) _ _ (.ref a) (hr3.newL ha (rs.cut _ _)) (kk.trans (Kp.newL ha))
    ·exact h3.elim⟩⟩⟩
end
section
variable {X:Cx} {K:Frg} {w:World} {mg:Str->Option Value}
def SC (hc:X.calm=true):J3 X (.builtin "max") (λxs H Q=>∃ (p:Addr) (ns:List Int),xs=[.ref p]/\SqL X.K H p (ns.map V.int)/\ns≠[]/\∀ m∈ns,(∀ a∈ns,a<=m)->Q (.int m) H):=by
 intro pins s σ H xs us Q I r h;obtain ⟨p,ns,rfl,hq,hne,q⟩:=h;obtain ⟨u,rfl,rp⟩:=XO r;cases (show u=Value.ref p from rp);obtain ⟨its,rv,pl,hz⟩:=I.list hq;have hlen:its.length=ns.length:=by have:=rv.length;simp at this;omega
 have hpos:0<ns.length:=List.length_pos_iff.mpr hne;have hp:p<s.heap.objs.size:=by obtain ⟨o,n,e,_⟩:=pl;exact y6 e
 have vals:∀ (i:Nat) (v:Value),its.toArray[i]?=some v->∃ t,v=Value.int (ns.getD i 0) t:=λi v hv=>by
  have hv':its[i]?=some v:=by simpa using hv
  obtain ⟨hi,_⟩:=za2 hv';have hi':i<ns.length:=by omega
  obtain ⟨u,hu,ru⟩:=rv.get (i:=i) (show (ns.map V.int)[i]?=some (V.int (ns[i])) by simp [hi']);rw [hv'] at hu;cases hu;obtain ⟨t,rfl⟩:=ru;exact ⟨t,by show Value.int ns[i] t=Value.int (ns.getD i 0) t;rw [getD_eq_getElem?_getD,v4 hi'];rfl⟩
 refine call_max_walk (wpAny_pyIter_list pl.isList ⟨s.heap.objs.size,_,_,_,_,_,_,rfl,Walks.list (A:=X.A.in1) (show X.A.in1.handled=none from I.ok.hd hc) s.heap.objs.size p (u6 hp) its.toArray,⟨⟨_,y4 _ rfl,rfl,rfl⟩,?_⟩,λb hb=>?_,by rw [size_toArray];omega,CmpOf.ints_gt (λi=>ns.getD i 0) vals,λv h' tk hP hk=>?_⟩)
 ·obtain ⟨o,n,e,c,_,d⟩:=pl;exact ⟨o,y3 _ e,c,n,d⟩
 ·have lt1:∀ n c:Nat,c<n->c<n+1:=λn c h=>by omega
  rw [show (({ s with heap:=s.heap.push _ }:Shared).heap.objs.size)=s.heap.objs.size+1 from Heap.size_push ..];simp only [mem_cons,not_mem_nil,or_false] at hb;rcases hb with rfl|rfl
  ·exact Nat.lt_succ_self _
  ·exact lt1 _ _ hp
 ·obtain ⟨b1,b2⟩:=argBest_gt (λi=>ns.getD i 0) (its.toArray.size-1);obtain ⟨t,rfl⟩:=vals _ _ hP;rw [size_toArray] at b1 b2 ⊢;have gd:∀ j,j<ns.length->ns.getD j 0∈ns:=λj hj=>by rw [getD_eq_getElem?_getD,v4 hj];exact List.getElem_mem hj
  refine ⟨.int _,H,I.kept (h':=h') (t':=tk) λb o e=>hk b o (by simp;exact u6 (y6 e)) (y3 _ e),⟨_,rfl⟩,q _ (gd _ (by omega)) λa ha=>?_⟩;obtain ⟨j,hj,rfl⟩:=List.mem_iff_getElem.mp ha;have:=b2 j (by omega);have e:ns.getD j 0=ns[j]:=by rw [getD_eq_getElem?_getD,v4 hj];rfl
  rw [e] at this;exact this
def T9:List T->Gp->Q3->Prop:=λxs G q=>match xs with
 |[.ref p]=>(match getL G p with|some ys=>(match RD ys with|some ns=>ns≠[]/\∀ m∈ns,(∀ a∈ns,a<=m)->q (.int m) G|none=>False)|none=>False)
 |_=>False
def NC {K:Frg}:qaV K T9 (λxs H Q=>∃ (p:Addr) (ns:List Int),xs=[.ref p]/\SqL K H p (ns.map V.int)/\ns≠[]/\∀ m∈ns,(∀ a∈ns,a<=m)->Q (.int m) H):=λxs vs G H q Q hr rs h af=>by
 unfold T9 at h;split at h
 ·rename_i p;obtain ⟨v,rfl,r⟩:=T7 rs;cases r;split at h
  ·rename_i ys e0;split at h
   ·rename_i ns e1;obtain ⟨us,hs,r2⟩:=zz hr e0;have:=DJ e1;subst this;have:=DS r2;subst this;exact ⟨p,ns,rfl,hs,h.1,λm hm ha=>af _ _ (h.2 m hm ha) _ _ (.int _) hr Kp.refl⟩
   ·exact h.elim
  ·exact h.elim
 ·exact h.elim
end
section
variable {X:Cx}
end
open PySem.SeqAt
section
variable {X:Cx} {pins:List (Addr×Obj)} {σ:L2.St} {H:Hp} {s:Shared}
end
end L3
namespace HT
open PySem PySem.Spec PyProof.Rows L2
section
open PySem.SeqAt
open PySem.MeetsSeq PySem.MeetsSeq2 PySem.MeetsSeq3
end
section
variable {prog:Program} {w:World} {A:Around} {E:Value->Shared->Prop} {s:Shared}
end
end HT
namespace L3
open PySem PySem.Spec PyProof.Rows L2
section
variable {X:Cx}
end
end L3
namespace Pu
open PySem L2 L3
def cif {α:Type} (P:Prop) (a b:α):α:=@ite α P (Classical.propDecidable P) a b
def qL {α:Type} {P:Prop} {a b:α} (h:P):cif P a b=a:=@if_pos P (Classical.propDecidable P) h α a b
def qhN {α:Type} {P:Prop} {a b:α} (h:¬ P):cif P a b=b:=@if_neg P (Classical.propDecidable P) h α a b
structure Tru (b:Bool):Prop where
 h:b=true
mutual
inductive Dq (G:Gp):T->PyData->Prop
 |non:Dq G .non .none
 |bl (b:Bool):Dq G (.bl b) (.bool b)
 |int (i:Int):Dq G (.int i) (.int i)
 |str (x:Str):Dq G (.str x) (.str x)
 |tup {xs:List T} {ds:List PyData}:Dqs G xs ds->Dq G (.tup xs) (.tuple ds)
 |lst {p:Addr} {xs:List T} {ds:List PyData}:G p=some (.lst xs)->Dqs G xs ds->Dq G (.ref p) (.list ds)
 |clo {p:Addr} {i:Nat} {xs:List T} {ds:List PyData}:G p=some (.clo i xs)->Dqs G xs ds->Dq G (.ref p) (.dict [(.int (i:Int),.tuple ds)])
inductive Dqs (G:Gp):List T->List PyData->Prop
 |nil:Dqs G [] []
 |cons {x:T} {d:PyData} {xs:List T} {ds:List PyData}:Dq G x d->Dqs G xs ds->Dqs G (x::xs) (d::ds)
end
mutual
theorem Dq.up {G G':Gp} (e:Ex G G'):∀ {x:T} {d:PyData},Dq G x d->Dq G' x d
 |_,_,.non=>.non
 |_,_,.bl b=>.bl b
 |_,_,.int i=>.int i
 |_,_,.str x=>.str x
 |_,_,.tup h=>.tup (Dqs.up e h)
 |_,_,.lst h1 h2=>.lst (e _ _ h1) (Dqs.up e h2)
 |_,_,.clo h1 h2=>.clo (e _ _ h1) (Dqs.up e h2)
theorem Dqs.up {G G':Gp} (e:Ex G G'):∀ {x:List T} {d:List PyData},Dqs G x d->Dqs G' x d
 |_,_,.nil=>.nil
 |_,_,.cons a b=>.cons (Dq.up e a) (Dqs.up e b)
end
def ze {G:Gp} {p:Addr} {xs:List T} (h:G p=some (.lst xs)):getL G p=some xs:=by unfold getL;rw [h]
mutual
def noC:PyData->Bool
 |.list xs=>DF xs
 |.tuple xs=>DF xs
 |.dict _=>false
 |_=>true
def DF:List PyData->Bool
 |[]=>true
 |x::xs=>noC x&&DF xs
end
theorem DE:∀ {ds:List PyData},DF ds=true↔∀ d∈ds,noC d=true
 |[]=>by simp [DF]
 |d::ds=>by simp [DF,DE (ds:=ds)]
mutual
theorem qhl:∀ {d:PyData},dpt d<=40->noC d=true
 |.none,_=>rfl
 |.bool _,_=>rfl
 |.int _,_=>rfl
 |.str _,_=>rfl
 |.list xs,h=>by unfold noC;exact qbb (by unfold dpt at h;omega)
 |.tuple xs,h=>by unfold noC;exact qbb (by unfold dpt at h;omega)
 |.dict _,h=>by unfold dpt at h;omega
theorem qbb:∀ {ds:List PyData},qc2 ds<=40->DF ds=true
 |[],_=>rfl
 |x::xs,h=>by
  unfold qc2 at h;unfold DF;rw [qhl (by omega),qbb (by omega)];rfl
end
mutual
theorem qid:∀ {d:PyData},d.hasDict=false->noC d=true
 |.none,_=>rfl
 |.bool _,_=>rfl
 |.int _,_=>rfl
 |.str _,_=>rfl
 |.list xs,h=>by unfold noC;exact qcd (by simpa [PyData.hasDict] using h)
 |.tuple xs,h=>by unfold noC;exact qcd (by simpa [PyData.hasDict] using h)
 |.dict _,h=>by simp [PyData.hasDict] at h
theorem qcd:∀ {ds:List PyData},PyData.hasDictAll ds=false->DF ds=true
 |[],_=>rfl
 |x::xs,h=>by
  simp only [PyData.hasDictAll,Bool.or_eq_false_iff] at h;unfold DF;rw [qid h.1,qcd h.2];rfl
end
mutual
theorem Dq.dp {G:Gp}:∀ {x:T} {d:PyData},Dq G x d->noC d=true->Dp G x d
 |_,_,.non,_=>.non
 |_,_,.bl b,_=>.bl b
 |_,_,.int i,_=>.int i
 |_,_,.str x,_=>.str x
 |_,_,.tup h,n=>.tup (Dqs.dp h (by unfold noC at n;exact n))
 |_,_,.lst h1 h2,n=>.lst (ze h1) (Dqs.dp h2 (by unfold noC at n;exact n))
 |_,_,.clo _ _,n=>by unfold noC at n;cases n
theorem Dqs.dp {G:Gp}:∀ {x:List T} {d:List PyData},Dqs G x d->DF d=true->Dps G x d
 |_,_,.nil,_=>.nil
 |_,_,.cons a b,n=>by
  unfold DF at n;have:=Bool.and_eq_true_iff.mp n;exact .cons (Dq.dp a this.1) (Dqs.dp b this.2)
end
theorem Dqs.length {G:Gp}:∀ {xs:List T} {ds:List PyData},Dqs G xs ds->xs.length=ds.length
 |_,_,.nil=>rfl
 |_,_,.cons _ b=>by simp [Dqs.length b]
theorem Dqs.get {G:Gp}:∀ {xs:List T} {ds:List PyData} {i:Nat} {d:PyData},Dqs G xs ds->ds[i]?=some d->∃ x,xs[i]?=some x/\Dq G x d
 |_,_,_,_,.nil,e=>by simp at e
 |_,_,0,_,.cons r _,e=>by simp at e;subst e;exact ⟨_,rfl,r⟩
 |_,_,i+1,d,.cons _ t,e=>by
  obtain ⟨u,h1,h2⟩:=Dqs.get (i:=i) (d:=d) t (by simpa using e);exact ⟨u,by simpa using h1,h2⟩
theorem Dqs.append {G:Gp}:∀ {xs:List T} {ds:List PyData} {ys:List T} {es:List PyData},Dqs G xs ds->Dqs G ys es->Dqs G (xs++ys) (ds++es)
 |_,_,_,_,.nil,h=>h
 |_,_,_,_,.cons a b,h=>.cons a (Dqs.append b h)
theorem Dqs.drop {G:Gp}:∀ {xs:List T} {ds:List PyData} (n:Nat),Dqs G xs ds->Dqs G (xs.drop n) (ds.drop n)
 |_,_,0,h=>h
 |_,_,_+1,.nil=>.nil
 |_,_,n+1,.cons _ b=>Dqs.drop n b
theorem Dqs.take {G:Gp}:∀ {xs:List T} {ds:List PyData} (n:Nat),Dqs G xs ds->Dqs G (xs.take n) (ds.take n)
 |_,_,0,h=>by simp;exact .nil
 |_,_,_+1,.nil=>.nil
 |_,_,n+1,.cons a b=>.cons a (Dqs.take n b)
theorem Dqs.set {G:Gp}:∀ {xs:List T} {ds:List PyData} (n:Nat) {x:T} {d:PyData},Dqs G xs ds->Dq G x d->Dqs G (xs.set n x) (ds.set n d)
 |_,_,_,_,_,.nil,_=>.nil
 |_,_,0,_,_,.cons _ b,h=>.cons h b
 |_,_,n+1,_,_,.cons a b,h=>.cons a (Dqs.set n b h)
theorem Dqs.rev {G:Gp}:∀ {xs:List T} {ds:List PyData},Dqs G xs ds->Dqs G xs.reverse ds.reverse
 |_,_,.nil=>.nil
 |_,_,.cons a b=>by simp only [List.reverse_cons];exact (Dqs.rev b).append (.cons a .nil)
theorem Dqs.ints {G:Gp}:∀ {ns:List Int} {xs:List T},Dqs G xs (ns.map PyData.int)->xs=ns.map T.int
 |[],_,.nil=>rfl
 |n::ns,_,.cons a b=>by cases a;rw [Dqs.ints b];rfl
theorem Dqs.ofInts {G:Gp}:∀ (ns:List Int),Dqs G (ns.map T.int) (ns.map PyData.int)
 |[]=>.nil
 |n::r=>.cons (.int n) (Dqs.ofInts r)
def rs (D:Addr->Prop) (G:Gp):Gp:=λb=>cif (D b) none (G b)
def qo {D:Addr->Prop} {G:Gp} {b:Addr} {o:O} (h:rs D G b=some o):¬ D b/\G b=some o:=by
 unfold rs cif at h;split at h
 ·cases h
 ·rename_i n;exact ⟨n,h⟩
def zY {D:Addr->Prop} {G:Gp} {b:Addr} (n:¬ D b):rs D G b=G b:=by unfold rs;exact qhN n
def VI {D:Addr->Prop} {G:Gp}:Ex (rs D G) G:=λb o h=>(qo h).2
def zC {D:Addr->Prop} {G G':Gp} (e:Ex G G'):Ex (rs D G) (rs D G'):=λb o h=>by
 obtain ⟨n,h⟩:=qo h;rw [zY n];exact e _ _ h
def zt {D D':Addr->Prop} {G:Gp} (h:∀ b,D' b->D b):Ex (rs D G) (rs D' G):=λb o e=>by
 obtain ⟨n,e⟩:=qo e;rw [zY λz=>n (h b z)];exact e
def Dom (D:Addr->Prop) (G:Gp):Prop:=∀ b,D b->G b≠none
def Dom.up {D:Addr->Prop} {G G':Gp} (h:Dom D G) (e:Ex G G'):Dom D G':=λb d z=>by
 cases g:G b with
 |none=>exact h b d g
 |some o=>rw [e _ _ g] at z;cases z
def qmr {D:Addr->Prop} {G:Gp} {p:Addr} {o:O} (hd:Dom D G) (hp:G p=none):rs D (gu G p o) p=some o:=by
 rw [zY λz=>hd p z hp,qG]
inductive Sl where
 |un|sh (d:PyData)|ow (ds:List PyData)|dc (kvs:List (Int×PyData))|on (dss:List (List PyData))|rg (d:PyData)
abbrev Rho:=List Sl
def Sl.d:Sl->Option PyData
 |.un=>none|.sh d=>some d|.ow ds=>some (.list ds)|.dc _=>none|.on dss=>some (.list (dss.map PyData.list))|.rg d=>some d
def vw (ρ:Rho) (i:Nat):Option PyData:=(ρ[i]?).bind Sl.d
def XF (fv:List Nat) (D:Addr->Prop) (G:Gp) (τ:St3) (ρ:Rho):Prop:=∀ i∈fv,∀ d,vw ρ i=some d->∃ t,τ[i]?=some (some t)/\Dq (rs D G) t d
theorem XF.up {fv:List Nat} {D:Addr->Prop} {G G':Gp} {τ:St3} {ρ:Rho} (h:XF fv D G τ ρ) (e:Ex G G'):XF fv D G' τ ρ:=λi hi d hd=>
 let ⟨t,a,b⟩:=h i hi d hd;⟨t,a,b.up (zC e)⟩
def XF.l {fv gv:List Nat} {D:Addr->Prop} {G:Gp} {τ:St3} {ρ:Rho} (h:XF (fv++gv) D G τ ρ):XF fv D G τ ρ:=λi hi=>h i (by simp [hi])
def XF.r {fv gv:List Nat} {D:Addr->Prop} {G:Gp} {τ:St3} {ρ:Rho} (h:XF (fv++gv) D G τ ρ):XF gv D G τ ρ:=λi hi=>h i (by simp [hi])
def RW:PyData->Bool
 |.none=>true|.bool _=>true|.int _=>true|.str _=>true|_=>false
def Nw (D:Addr->Prop) (G G':Gp) (x:T) (d:PyData):Prop:=RW d=true\/∃ p xs ds,x=.ref p/\d=.list ds/\G p=none/\G' p=some (.lst xs)/\Dqs (rs (λb=>D b\/b=p) G') xs ds
def Nw.back {D:Addr->Prop} {G0 G G':Gp} {x:T} {d:PyData} (h:Nw D G G' x d) (e:Ex G0 G):Nw D G0 G' x d:=by
 rcases h with h|⟨p,xs,ds,a,b,c,r⟩
 ·exact .inl h
 refine .inr ⟨p,xs,ds,a,b,?_,r⟩;cases z:G0 p with
 |none=>rfl
 |some o=>rw [e _ _ z] at c;cases c
structure PuE (t:TE3) where
 f:Rho->Option PyData
 fv:List Nat
 nw:Bool
 ok:∀ {D τ ρ G} {q:Q3} {d},XF fv D G τ ρ->Dom D G->f ρ=some d->(∀ x G',Ex G G'->Dq (rs D G') x d->(nw=true->Nw D G G' x d)->q x G')->t τ G q
structure PuC (t:TT3) where
 f:Rho->Option Bool
 fv:List Nat
 ok:∀ {D τ ρ G} {q:Bool->Gp->Prop} {k},XF fv D G τ ρ->Dom D G->f ρ=some k->(∀ G',Ex G G'->q k G')->t τ G q
structure PuA (t:TA3) where
 f:Rho->Option (List PyData)
 fv:List Nat
 n:Nat
 ln:∀ {ρ d},f ρ=some d->d.length=n
 ok:∀ {D τ ρ G} {q:List T->Gp->Prop} {d},XF fv D G τ ρ->Dom D G->f ρ=some d->(∀ x G',Ex G G'->Dqs (rs D G') x d->q x G')->t τ G q
structure PuO (t:TO3) where
 f:Rho->Option (Option Int)
 fv:List Nat
 ok:∀ {D τ ρ G} {q:Option Int->Gp->Prop} {k},XF fv D G τ ρ->Dom D G->f ρ=some k->(∀ G',Ex G G'->q k G')->t τ G q
structure PuI (t:TI3) where
 f:Rho->Option (List PyData)
 fv:List Nat
 /-- numbers alone -/
 nm:Bool
 ok:∀ {D τ ρ G} {r:List T->(Gp->Prop)->Gp->Prop} {ds},XF fv D G τ ρ->Dom D G->f ρ=some ds ->
  (∀ items stay G',Ex G G'->Dqs (rs D G') items ds->(∀ G'',(nm=true\/Ex (rs D G') G'')->stay G'')->(nm=true->∃ ns:List Int,ds=ns.map PyData.int)->r items stay G')->t τ G r
structure OpD (r:R3) where
 f:PyData->PyData->Option PyData
 nw:Bool
 ok:∀ {D G x y d e v} {q:Q3},Dq (rs D G) x d->Dq (rs D G) y e->Dom D G->f d e=some v->(∀ z G',Ex G G'->Dq (rs D G') z v->(nw=true->Nw D G G' z v)->q z G')->r x y G q
structure FnD (r:List T->Gp->Q3->Prop) where
 f:List PyData->Option PyData
 nw:Bool
 ok:∀ {D G xs ds v} {q:Q3},Dqs (rs D G) xs ds->Dom D G->f ds=some v->(∀ z G',Ex G G'->Dq (rs D G') z v->(nw=true->Nw D G G' z v)->q z G')->r xs G q
def bV (i:Nat):PuE (v3 i):=⟨λρ=>vw ρ i,[i],false,λhv hd hf k=>by
 obtain ⟨t,e,h⟩:=hv i (by simp) _ hf;unfold v3;rw [e];exact k t _ Ex.refl h (λz=>by cases z)⟩
def qP (i:Int):PuE (c3 (.int i)):=⟨λ_=>some (.int i),[],false,λhv hd hf k=>by cases hf;exact k _ _ Ex.refl (.int i) (λz=>by cases z)⟩
def bBl (i:Bool):PuE (c3 (.bl i)):=⟨λ_=>some (.bool i),[],false,λhv hd hf k=>by cases hf;exact k _ _ Ex.refl (.bl i) (λz=>by cases z)⟩
def qdy (i:Str):PuE (c3 (.str i)):=⟨λ_=>some (.str i),[],false,λhv hd hf k=>by cases hf;exact k _ _ Ex.refl (.str i) (λz=>by cases z)⟩
def qaH:PuE (c3 .non):=⟨λ_=>some .none,[],false,λhv hd hf k=>by cases hf;exact k _ _ Ex.refl .non (λz=>by cases z)⟩
def bO {r:R3} {ta tb:TE3} (R:OpD r) (a:PuE ta) (b:PuE tb):PuE (o3 r ta tb):=
 ⟨λρ=>(a.f ρ).bind λx=>(b.f ρ).bind λy=>R.f x y,a.fv++b.fv,R.nw,λhv hd hf k=>by
  obtain ⟨x,e1,hf⟩:=obb hf;obtain ⟨y,e2,hf⟩:=obb hf;exact a.ok hv.l hd e1 λx' G1 E1 D1 _=>b.ok (hv.r.up E1) (hd.up E1) e2 λy' G2 E2 D2 _=>R.ok (D1.up (zC E2)) D2 ((hd.up E1).up E2) hf λz G3 E3 D3 N3=>k z G3 ((E1.trans E2).trans E3) D3 λh=>(N3 h).back (E1.trans E2)⟩
def qm:PuA qj:=⟨λ_=>some [],[],0,(λh=>by cases h;rfl),λhv hd hf k=>by cases hf;exact k _ _ Ex.refl .nil⟩
def qe {ta:TE3} {tr:TA3} (a:PuE ta) (r:PuA tr):PuA (qc ta tr):=
 ⟨λρ=>(a.f ρ).bind λx=>(r.f ρ).bind λxs=>some (x::xs),a.fv++r.fv,r.n+1,(λhf=>by
  obtain ⟨x,e1,hf⟩:=obb hf;obtain ⟨xs,e2,hf⟩:=obb hf;cases hf;simp [r.ln e2]),λhv hd hf k=>by
  obtain ⟨x,e1,hf⟩:=obb hf;obtain ⟨xs,e2,hf⟩:=obb hf;cases hf;exact a.ok hv.l hd e1 λx' G1 E1 D1 _=>r.ok (hv.r.up E1) (hd.up E1) e2 λy' G2 E2 D2=>k _ G2 (E1.trans E2) (.cons (D1.up (zC E2)) D2)⟩
def few {n:Nat} (h:Tru (Nat.ble n 1000)):n<=sizeLine:=u5 (Nat.le_of_ble_eq_true h.h) (by rw [y9];omega)
def KA {t:TA3} (a:PuA t) (hn:Tru (Nat.ble a.n 1000)):PuE (XJ t):=⟨λρ=>(a.f ρ).map .tuple,a.fv,false,λhv hd hf k=>by
 obtain ⟨xs,e1,rfl⟩:=za1 hf;exact a.ok hv hd e1 λx G1 E1 D1=>⟨by rw [D1.length,a.ln e1];exact few hn,k _ _ E1 (.tup D1) (λz=>by cases z)⟩⟩
def D6 {D:Addr->Prop} {G:Gp} {p:Addr} {xs:List T} {ds:List PyData} (hp:G p=none) (h:Dqs (rs D G) xs ds):Nw D G (gu G p (.lst xs)) (.ref p) (.list ds):=
 .inr ⟨p,xs,ds,rfl,rfl,hp,qG,h.up λb o e=>by
  obtain ⟨n,e⟩:=qo e;have:b≠p:=by rintro rfl;rw [hp] at e;cases e
  rw [zY (by rintro (z|z);exact n z;exact this z),jc this];exact e⟩
def ZR {D:Addr->Prop} {G:Gp} {p:Addr} {xs:List T} {ds:List PyData} (hd:Dom D G) (hp:G p=none) (h:Dqs (rs D G) xs ds):Dq (rs D (gu G p (.lst xs))) (.ref p) (.list ds):=
 .lst (qmr hd hp) (h.up (zC (jk hp)))
def ZY {t:TA3} (a:PuA t) (hn:Tru (Nat.ble a.n 1000)):PuE (jO t):=⟨λρ=>(a.f ρ).map .list,a.fv,true,λhv hd hf k=>by
 obtain ⟨xs,e1,rfl⟩:=za1 hf;exact a.ok hv hd e1 λx G1 E1 D1=>⟨by rw [D1.length,a.ln e1];exact few hn,λp hp=>k _ _ (E1.trans (jk hp)) (ZR (hd.up E1) hp D1) λ_=>(D6 hp D1).back E1⟩⟩
def qw {r:List T->Gp->Q3->Prop} {t:TA3} (R:FnD r) (a:PuA t):PuE (cb3 r t):=
 ⟨λρ=>(a.f ρ).bind R.f,a.fv,R.nw,λhv hd hf k=>by
  obtain ⟨x,e1,hf⟩:=obb hf;exact a.ok hv hd e1 λx' G1 E1 D1=>R.ok D1 (hd.up E1) hf λz G3 E3 D3 N3=>k z G3 (E1.trans E3) D3 λh=>(N3 h).back E1⟩
def asB:PyData->Option Bool
 |.bool b=>some b
 |_=>none
def asI:PyData->Option Int
 |.int b=>some b
 |_=>none
def TM {d:PyData} {b:Bool} (h:asB d=some b):d=.bool b:=by cases d<;>simp [asB] at h;subst h;rfl
def T5 {d:PyData} {b:Int} (h:asI d=some b):d=.int b:=by cases d<;>simp [asI] at h;subst h;rfl
def bTb {t:TE3} (a:PuE t):PuC (tb3 t):=⟨λρ=>(a.f ρ).bind asB,a.fv,λhv hd hf k=>by
 obtain ⟨x,e1,hf⟩:=obb hf;have:=TM hf;subst this;exact a.ok hv hd e1 λx' G1 E1 D1 _=>by cases D1;exact k G1 E1⟩
def qi1 {t u:TT3} (a:PuC t) (b:PuC u):PuC (qgi t u):=⟨λρ=>(a.f ρ).bind λk=>if k then b.f ρ else some false,a.fv++b.fv,λhv hd hf k=>by
 obtain ⟨x,e1,hf⟩:=obb hf;refine a.ok hv.l hd e1 λG1 E1=>?_;cases x with
 |true=>exact b.ok (hv.r.up E1) (hd.up E1) hf λG2 E2=>k G2 (E1.trans E2)
 |false=>cases hf;exact k G1 E1⟩
def bOr {t u:TT3} (a:PuC t) (b:PuC u):PuC (or3 t u):=⟨λρ=>(a.f ρ).bind λk=>if k then some true else b.f ρ,a.fv++b.fv,λhv hd hf k=>by
 obtain ⟨x,e1,hf⟩:=obb hf;refine a.ok hv.l hd e1 λG1 E1=>?_;cases x with
 |false=>exact b.ok (hv.r.up E1) (hd.up E1) hf λG2 E2=>k G2 (E1.trans E2)
 |true=>cases hf;exact k G1 E1⟩
def qdM {t:TT3} (a:PuC t):PuC (qaS t):=⟨λρ=>(a.f ρ).map (! ·),a.fv,λhv hd hf k=>by
 obtain ⟨x,e1,hf⟩:=za1 hf;subst hf;exact a.ok hv hd e1 λG1 E1=>k G1 E1⟩
def bTt:PuC tt3:=⟨λ_=>some true,[],λhv hd hf k=>by cases hf;exact k _ Ex.refl⟩
def KG {ta tb:TE3} (a:PuE ta) (b:PuE tb):PuE (RJ ta tb):=⟨λρ=>((a.f ρ).bind asB).bind λk=>if k then b.f ρ else some (.bool false),a.fv++b.fv,false,λhv hd hf k=>by
 obtain ⟨x,e1,hf⟩:=obb hf;obtain ⟨y,e1,e2⟩:=obb e1;have:=TM e2;subst this;refine a.ok hv.l hd e1 λx' G1 E1 D1 _=>?_;cases D1;cases x with
 |true=>exact b.ok (hv.r.up E1) (hd.up E1) hf λz G2 E2 D2 _=>k z G2 (E1.trans E2) D2 (λz=>by cases z)
 |false=>cases hf;exact k _ G1 E1 (.bl false) (λz=>by cases z)⟩
def qiR {ta:TE3} (a:PuE ta):PuE (qhz ta):=⟨λρ=>((a.f ρ).bind asB).map λk=>.bool (!k),a.fv,false,λhv hd hf k=>by
 obtain ⟨x,e1,hf⟩:=za1 hf;obtain ⟨y,e1,e2⟩:=obb e1;have:=TM e2;subst this;subst hf;refine a.ok hv hd e1 λx' G1 E1 D1 _=>?_;cases D1;exact k _ G1 E1 (.bl _) (λz=>by cases z)⟩
def bIf {t:TT3} {ta tb:TE3} (c:PuC t) (a:PuE ta) (b:PuE tb):PuE (if3 t ta tb):=⟨λρ=>(c.f ρ).bind λk=>if k then a.f ρ else b.f ρ,c.fv++(a.fv++b.fv),false,λhv hd hf k=>by
 obtain ⟨x,e1,hf⟩:=obb hf;refine c.ok hv.l hd e1 λG1 E1=>?_;cases x with
 |true=>exact a.ok (hv.r.l.up E1) (hd.up E1) hf λz G2 E2 D2 _=>k z G2 (E1.trans E2) D2 (λz=>by cases z)
 |false=>exact b.ok (hv.r.r.up E1) (hd.up E1) hf λz G2 E2 D2 _=>k z G2 (E1.trans E2) D2 (λz=>by cases z)⟩
def qnE {ta:TE3} (a:PuE ta):PuE (u3 qdF ta):=⟨λρ=>((a.f ρ).bind asI).map λi=>.int (-i),a.fv,false,λhv hd hf k=>by
 obtain ⟨x,e1,hf⟩:=za1 hf;obtain ⟨y,e1,e2⟩:=obb e1;have:=T5 e2;subst this;subst hf;refine a.ok hv hd e1 λx' G1 E1 D1 _=>?_;cases D1;exact k _ G1 E1 (.int _) (λz=>by cases z)⟩
def bCh {r r':R3} {ta tb tc:TE3} (R:OpD r) (R':OpD r') (a:PuE ta) (b:PuE tb) (c:PuE tc):PuE (ch3 r r' ta tb tc):=
 ⟨λρ=>(a.f ρ).bind λx=>(b.f ρ).bind λy=>((R.f x y).bind asB).bind λk=>if k then (c.f ρ).bind λz=>R'.f y z else some (.bool false),a.fv++(b.fv++c.fv),false,λ{D τ ρ G q d} hv hd hf k=>by
  obtain ⟨x,e1,hf⟩:=obb hf;obtain ⟨y,e2,hf⟩:=obb hf;obtain ⟨j,e3,hf⟩:=obb hf;obtain ⟨v,e3,e4⟩:=obb e3;have:=TM e4;subst this;refine a.ok hv.l hd e1 λx' G1 E1 D1 _=>b.ok (hv.r.l.up E1) (hd.up E1) e2 λy' G2 E2 D2 _=>R.ok (D1.up (zC E2)) D2 ((hd.up E1).up E2) e3 λz G3 E3 D3 _=>?_;cases D3;have E:=(E1.trans E2).trans E3;cases j with
  |true=>
   obtain ⟨w,e5,hf⟩:=obb hf;exact c.ok (hv.r.r.up E) (hd.up E) e5 λw' G4 E4 D4 _=>R'.ok ((D2.up (zC E3)).up (zC E4)) D4 ((hd.up E).up E4) hf λu G5 E5 D5 _=>k u G5 ((E.trans E4).trans E5) D5 (λz=>by cases z)
  |false=>cases hf;exact k _ G3 E (.bl false) (λz=>by cases z)⟩
def qn1 {ta:TE3} (a:PuE ta):PuE (bl3 ta):=⟨λρ=>((a.f ρ).bind asI).map λi=>.int (Builtin.Int.intBits i),a.fv,false,λhv hd hf k=>by
 obtain ⟨x,e1,hf⟩:=za1 hf;obtain ⟨y,e1,e2⟩:=obb e1;have:=T5 e2;subst this;subst hf;refine a.ok hv hd e1 λx' G1 E1 D1 _=>?_;cases D1;exact k _ G1 E1 (.int _) (λz=>by cases z)⟩
def tyD:PyData->Option String
 |.none=>some "NoneType" |.bool _=>some "bool" |.int _=>some "int" |.str _=>some "str" |.tuple _=>some "tuple" |.list _=>some "list" |.dict _=>none
def qax {ta:TE3} (g:String->Bool) (a:PuE ta):PuE (NO g ta):=⟨λρ=>(a.f ρ).bind λd=>(tyD d).map λt=>.bool (g t),a.fv,false,λhv hd hf k=>by
 obtain ⟨x,e1,hf⟩:=obb hf;obtain ⟨y,e2,hf⟩:=za1 hf;subst hf;refine a.ok hv hd e1 λx' G1 E1 D1 _=>?_;have:tyT G1 x'=some y:=by
  cases D1 with
  |lst h _=>have g:=ze (qo h).2;simp [tyT,g];simpa [tyD] using e2
  |_=>simpa [tyT,tyD] using e2
 simp only [this];exact k _ G1 E1 (.bl _) (λz=>by cases z)⟩
def bNp:PuO np3:=⟨λ_=>some none,[],λhv hd hf k=>by cases hf;exact k _ Ex.refl⟩
def bSp {t:TE3} (a:PuE t):PuO (sp3 t):=⟨λρ=>((a.f ρ).bind asI).map some,a.fv,λhv hd hf k=>by
 obtain ⟨x,e1,hf⟩:=za1 hf;obtain ⟨y,e1,e2⟩:=obb e1;have:=T5 e2;subst this;subst hf;refine a.ok hv hd e1 λx' G1 E1 D1 _=>?_;cases D1;exact k G1 E1⟩
def Dqs.cut {G:Gp} {xs:List T} {ds:List PyData} (h:Dqs G xs ds) (lo hi:Option Int):Dqs G (VL xs lo hi) (VL ds lo hi):=by
 unfold VL;rw [h.length];exact (h.drop _).take _
def slD (d:PyData) (lo hi:Option Int):Option PyData:=match d with
 |.tuple xs=>cif (HT.sIx xs.length 0 lo=0/\HT.sIx xs.length xs.length hi=xs.length) none (some (.tuple (VL xs lo hi)))
 |.list xs=>some (.list (VL xs lo hi))
 |_=>none
def bSl {te:TE3} {tl th:TO3} (a:PuE te) (l:PuO tl) (h:PuO th):PuE (qnf te tl th):=⟨λρ=>(a.f ρ).bind λd=>(l.f ρ).bind λlo=>(h.f ρ).bind λhi=>slD d lo hi,a.fv++(l.fv++h.fv),false,λhv hd hf k=>by
 obtain ⟨d,e1,hf⟩:=obb hf;obtain ⟨lo,e2,hf⟩:=obb hf;obtain ⟨hi,e3,hf⟩:=obb hf;refine a.ok hv.l hd e1 λx' G1 E1 D1 _=>l.ok (hv.r.l.up E1) (hd.up E1) e2 λG2 E2=>h.ok (hv.r.r.up (E1.trans E2)) (hd.up (E1.trans E2)) e3 λG3 E3=>?_;have E:=(E1.trans E2).trans E3;have D3:=(D1.up (zC E2)).up (zC E3);unfold slD at hf;cases D3 with
 |tup hs=>
  simp only [cif] at hf;split at hf
  ·cases hf
  ·rename_i n;cases hf;exact ⟨by rw [hs.length];exact n,k _ _ E (.tup (hs.cut _ _)) (λz=>by cases z)⟩
 |lst g hs=>
  simp only at hf;cases hf;simp only [sl3,ze (qo g).2];intro p hp;exact k _ _ (E.trans (jk hp)) (ZR (hd.up E) hp (hs.cut _ _)) (λz=>by cases z)
 |_=>simp at hf⟩
def YV:List PyData->Option (List Int)
 |[]=>some []
 |.int i::r=>(YV r).map (i::·)
 |_=>none
def WJ (ns:List Int):YV (ns.map PyData.int)=some ns:=by
 induction ns with
 |nil=>rfl
 |cons n r ih=>simp [YV,ih]
theorem DH:∀ {xs:List PyData} {ns:List Int},YV xs=some ns->xs=ns.map PyData.int
 |[],_,h=>by simp [YV] at h;subst h;rfl
 |.int i::r,ns,h=>by
  simp only [YV] at h;obtain ⟨ms,e,rfl⟩:=za1 h;rw [DH e];rfl
 |.none::r,ns,h=>by simp [YV] at h
 |.bool _::r,ns,h=>by simp [YV] at h
 |.str _::r,ns,h=>by simp [YV] at h
 |.list _::r,ns,h=>by simp [YV] at h
 |.tuple _::r,ns,h=>by simp [YV] at h
 |.dict _::r,ns,h=>by simp [YV] at h
def opI (g:Int->Int->Int):OpD (iI g):=⟨λd e=>match d,e with|.int i,.int j=>some (.int (g i j))|_,_=>none,false,λ{D G x y d e v q} hx hy hd hf k=>by
 cases hx<;>try (simp at hf;done)
 cases hy<;>try (simp at hf;done)
 cases hf;exact k _ _ Ex.refl (.int _) (λz=>by cases z)⟩
def cI (C:Int->Int->Prop) (g:Int->Int->Int) (d e:PyData):Option PyData:=match d,e with|.int i,.int j=>cif (C i j) (some (.int (g i j))) none|_,_=>none
def opC (C:Int->Int->Prop) (g:Int->Int->Int):OpD (iC C g):=⟨cI C g,false,λ{D G x y d e v q} hx hy hd hf k=>by
 unfold cI at hf;cases hx<;>try (simp at hf;done)
 cases hy<;>try (simp at hf;done)
 simp only [cif] at hf;split at hf
 ·rename_i c;cases hf;exact ⟨c,k _ _ Ex.refl (.int _) (λz=>by cases z)⟩
 ·cases hf⟩
def opB (g:Int->Int->Bool):OpD (iB g):=⟨λd e=>match d,e with|.int i,.int j=>some (.bool (g i j))|_,_=>none,false,λ{D G x y d e v q} hx hy hd hf k=>by
 cases hx<;>try (simp at hf;done)
 cases hy<;>try (simp at hf;done)
 cases hf;exact k _ _ Ex.refl (.bl _) (λz=>by cases z)⟩
def qbV:PyData->PyData->Option Bool
 |.none,.none=>some true|.none,.int _=>some false|.int _,.none=>some false|.none,.bool _=>some false|.bool _,.none=>some false|.none,.str _=>some false|.str _,.none=>some false
 |.int i,.int j=>some (decide (i=j))|.bool i,.bool j=>some (decide (i=j))|.str i,.str j=>some (decide (i=j))
 |.int _,.str _=>some false|.str _,.int _=>some false|.bool _,.str _=>some false|.str _,.bool _=>some false
 |_,_=>none
def qbq {G:Gp} {x y:T} {d e:PyData} (hx:Dq G x d) (hy:Dq G y e):qeU x y=qbV d e:=by
 cases hx<;>cases hy<;>rfl
def eqD (neg:Bool) (d e:PyData):Option PyData:=match qbV d e with
 |some k=>some (.bool (if neg then !k else k))
 |none=>cif ((dpt d<=40/\dpt e<=40)/\dpt d≠0) ((jP d e).map λb=>.bool (if neg then !b else b)) none
def UC (neg:Bool):OpD (ZP neg):=⟨eqD neg,false,λ{D G x y d e v q} hx hy hd hf k=>by
 unfold ZP;rw [qbq hx hy];unfold eqD at hf;cases h:qbV d e with
 |some b=>rw [h] at hf;cases hf;exact k _ _ Ex.refl (.bl _) (λz=>by cases z)
 |none=>
  rw [h] at hf;simp only [cif] at hf ⊢;split at hf
  ·rename_i c;obtain ⟨b,e1,rfl⟩:=za1 hf;exact ⟨d,e,b,(hx.up VI).dp (qhl c.1.1),(hy.up VI).dp (qhl c.1.2),e1,c.1.1,c.2,k _ _ Ex.refl (.bl _) (λz=>by cases z)⟩
  ·cases hf⟩
def qdH (neg:Bool) (d e:PyData):Option PyData:=match e with|.none=>some (.bool (match d with|.none=>!neg|_=>neg))|_=>none
def LV (neg:Bool):OpD (qas neg):=⟨qdH neg,false,λ{D G x y d e v q} hx hy hd hf k=>by
 unfold qdH at hf;cases hy<;>try (simp at hf;done)
 cases hf;unfold qas;cases hx<;>exact k _ _ Ex.refl (.bl _) (λz=>by cases z)⟩
def qmT (neg:Bool) (d e:PyData):Option PyData:=match d,e with|.bool i,.bool j=>some (.bool (if neg then i != j else i==j))|_,_=>none
def qlq (neg:Bool):OpD (qm2 neg):=⟨qmT neg,false,λ{D G x y d e v q} hx hy hd hf k=>by
 unfold qmT at hf;cases hx<;>try (simp at hf;done)
 cases hy<;>try (simp at hf;done)
 cases hf;exact k _ _ Ex.refl (.bl _) (λz=>by cases z)⟩
def ixD (d e:PyData):Option PyData:=match d,e with
 |.tuple xs,.int i=>atI xs i
 |.list xs,.int i=>atI xs i
 |_,_=>none
theorem Dqs.atI {G:Gp} {xs:List T} {ds:List PyData} {i:Int} {d:PyData} (h:Dqs G xs ds) (e:L2.atI ds i=some d):∃ x,L2.atI xs i=some x/\Dq G x d:=by
 unfold L2.atI at e ⊢;rw [h.length];obtain ⟨j,e1,e2⟩:=obb e;obtain ⟨x,hx,r⟩:=h.get e2;exact ⟨x,by rw [e1];exact hx,r⟩
def CU:OpD ix3:=⟨ixD,false,λ{D G x y d e v q} hx hy hd hf k=>by
 unfold ixD at hf;cases hx with
 |tup hs=>
  cases hy<;>try (simp at hf;done)
  obtain ⟨x,e1,r⟩:=hs.atI hf;simp only [ix3,e1];exact k _ _ Ex.refl r (λz=>by cases z)
 |lst g hs=>
  cases hy<;>try (simp at hf;done)
  obtain ⟨x,e1,r⟩:=hs.atI hf;simp only [ix3,ze (qo g).2,e1];exact k _ _ Ex.refl r (λz=>by cases z)
 |_=>simp at hf⟩
def qmV (d e:PyData):Option PyData:=match d,e with
 |.tuple xs,.tuple ys=>cif (xs≠[]/\xs.length+ys.length<=sizeLine) (some (.tuple (xs++ys))) none
 |.list xs,.list ys=>cif (xs.length+ys.length<=sizeLine) (some (.list (xs++ys))) none
 |.int i,.int j=>some (.int (i+j))
 |_,_=>none
def RU:OpD ZX:=⟨qmV,false,λ{D G x y d e v q} hx hy hd hf k=>by
  unfold qmV at hf;cases hx with
  | int i => cases hy <;> try (simp at hf;done)
             cases hf;exact k _ _ Ex.refl (.int _) (λz=>by cases z)
  |tup hs=>
    cases hy<;>try (simp at hf;done)
    rename_i hs2;simp only [cif] at hf;split at hf
    · rename_i c;cases hf;refine ⟨?_,by rw [hs.length,hs2.length];exact c.2,k _ _ Ex.refl (.tup (hs.append hs2)) (λz=>by cases z)⟩;rintro rfl;cases hs;exact c.1 rfl
    · cases hf
  |lst g hs=>
    cases hy<;>try (simp at hf;done)
    rename_i g2 hs2;simp only [cif] at hf;split at hf
    · rename_i c;cases hf;simp only [ZX,(qo g).2,(qo g2).2];exact ⟨by rw [hs.length,hs2.length];exact c,λp hp=>k _ _ (jk hp) (ZR hd hp (hs.append hs2)) (λz=>by cases z)⟩
    · cases hf
  |_=>simp at hf⟩
def qaW (d e:PyData):Option PyData:=match d,e with
 |.list xs,.list ys=>cif (xs.length+ys.length<=sizeLine) (some (.list (xs++ys))) none
 |_,_=>none
def VU:OpD ZX:=⟨qaW,true,λ{D G x y d e v q} hx hy hd hf k=>by
 unfold qaW at hf;cases hx with
 |lst g hs=>
  cases hy<;>try (simp at hf;done)
  rename_i g2 hs2;simp only [cif] at hf;split at hf
  ·rename_i c;cases hf;simp only [ZX,(qo g).2,(qo g2).2];exact ⟨by rw [hs.length,hs2.length];exact c,λp hp=>k _ _ (jk hp) (ZR hd hp (hs.append hs2)) λ_=>D6 hp (hs.append hs2)⟩
  ·cases hf
 |_=>simp at hf⟩
def LR:PyData->Bool
 |.none=>true|.bool _=>true|.int _=>true|.str _=>true|_=>false
def qiY:PyData->PyData->Bool
 |.none,.none=>true
 |.bool a,.bool b=>a==b
 |.bool a,.int b=>(if a then 1 else 0)==b
 |.int a,.bool b=>a==(if b then 1 else 0)
 |.int a,.int b=>a==b
 |.str a,.str b=>a==b
 |_,_=>false
def WY {G:Gp} {x:T} {d:PyData} (h:Dq G x d):WI x=LR d:=by cases h<;>rfl
theorem UE {G:Gp}:∀ {x:List T} {d:List PyData},Dqs G x d->x.all WI=d.all LR
 |_,_,.nil=>rfl
 |_,_,.cons a b=>by rw [List.all_cons,List.all_cons,WY a,UE b]
def qeM {G:Gp} {x y:T} {d e:PyData} (h:Dq G x d) (h':Dq G y e):eqF x y=qiY d e:=by cases h<;>cases h'<;>rfl
theorem W6 {G:Gp} {x:T} {d:PyData} (h:Dq G x d):∀ {ys:List T} {es:List PyData},Dqs G ys es->(ys.any λy=>eqF y x)=es.any λy=>qiY y d
 |_,_,.nil=>rfl
 |_,_,.cons a b=>by rw [List.any_cons,List.any_cons,qeM a h,W6 h b]
def inD (neg:Bool) (d e:PyData):Option PyData:=match e with
 |.tuple ys=>cif (LR d=true/\ys.all LR=true) (some (.bool (if neg then !(ys.any λy=>qiY y d) else (ys.any λy=>qiY y d)))) none
 |.list ys=>cif (LR d=true/\ys.all LR=true) (some (.bool (if neg then !(ys.any λy=>qiY y d) else (ys.any λy=>qiY y d)))) none
 |_=>none
def qng (neg:Bool):OpD (in3 neg):=⟨inD neg,false,λ{D G x y d e v q} hx hy hd hf k=>by
 unfold inD at hf;cases hy with
 |tup hs=>
  simp only [cif] at hf;split at hf
  ·rename_i c;cases hf;refine ⟨by rw [WY hx];exact c.1,by rw [UE hs];exact c.2,?_⟩;rw [W6 hx hs];exact k _ _ Ex.refl (.bl _) (λz=>by cases z)
  ·cases hf
 |lst g hs=>
  simp only [cif] at hf;split at hf
  ·rename_i c;cases hf;refine ⟨by rw [WY hx];exact c.1,?_⟩;simp only [ze (qo g).2];refine ⟨by rw [UE hs];exact c.2,?_⟩;rw [W6 hx hs];exact k _ _ Ex.refl (.bl _) (λz=>by cases z)
  ·cases hf
 |_=>simp at hf⟩
def qmt:List PyData->Option PyData
 |[.tuple xs]=>some (.int xs.length)
 |[.list xs]=>some (.int xs.length)
 |_=>none
def T6:FnD UD:=⟨qmt,false,λ{D G xs ds v q} hx hd hf k=>by
 unfold qmt at hf;split at hf
 ·cases hx with
  |cons a b=>cases b;cases a;rename_i hs;cases hf;simp only [UD];rw [hs.length];exact k _ _ Ex.refl (.int _) (λz=>by cases z)
 ·cases hx with
  |cons a b=>cases b;cases a;rename_i g hs;cases hf;simp only [UD,ze (qo g).2];rw [hs.length];exact k _ _ Ex.refl (.int _) (λz=>by cases z)
 ·cases hf⟩
def qne:List PyData->Option PyData
 |[.int i,.int j]=>some (.int (if j<i then j else i))
 |_=>none
def qmX:FnD qfV:=⟨qne,false,λ{D G xs ds v q} hx hd hf k=>by
 unfold qne at hf;split at hf
 ·cases hx with
  |cons a b=>cases b with
   |cons b c=>cases c;cases a;cases b;cases hf;exact k _ _ Ex.refl (.int _) (λz=>by cases z)
 ·cases hf⟩
def qmW:List PyData->Option PyData
 |[.int i,.int j]=>some (.int (if j > i then j else i))
 |_=>none
def qpG:FnD qmv:=⟨qmW,false,λ{D G xs ds v q} hx hd hf k=>by
 unfold qmW at hf;split at hf
 ·cases hx with
  |cons a b=>cases b with
   |cons b c=>cases c;cases a;cases b;cases hf;exact k _ _ Ex.refl (.int _) (λz=>by cases z)
 ·cases hf⟩
def qm3:List PyData->Option PyData
 |[.int i]=>some (.int i)
 |[.bool k]=>some (.int (if k then 1 else 0))
 |_=>none
def qi3:FnD qc1:=⟨qm3,false,λ{D G xs ds v q} hx hd hf k=>by
 unfold qm3 at hf;split at hf
 ·cases hx with
  |cons a b=>cases b;cases a;cases hf;exact k _ _ Ex.refl (.int _) (λz=>by cases z)
 ·cases hx with
  |cons a b=>cases b;cases a;cases hf;exact k _ _ Ex.refl (.int _) (λz=>by cases z)
 ·cases hf⟩
def qmS:List PyData->Option PyData
 |[.tuple xs]=>some (.tuple xs)
 |[.list xs]=>some (.tuple xs)
 |_=>none
def qi5:FnD EI:=⟨qmS,false,λ{D G xs ds v q} hx hd hf k=>by
 unfold qmS at hf;split at hf
 ·cases hx with
  |cons a b=>cases b;cases a;rename_i hs;cases hf;exact k _ _ Ex.refl (.tup hs) (λz=>by cases z)
 ·cases hx with
  |cons a b=>cases b;cases a;rename_i g hs;cases hf;simp only [EI,ze (qo g).2];exact k _ _ Ex.refl (.tup hs) (λz=>by cases z)
 ·cases hf⟩
def qjP:List PyData->Option PyData
 |[.tuple xs]=>some (.list xs)
 |[.list xs]=>some (.list xs)
 |_=>none
def qnc:FnD qal:=⟨qjP,true,λ{D G xs ds v q} hx hd hf k=>by
 unfold qjP at hf;split at hf
 ·cases hx with
  |cons a b=>cases b;cases a;rename_i hs;cases hf;exact λp hp=>k _ _ (jk hp) (ZR hd hp hs) λ_=>D6 hp hs
 ·cases hx with
  |cons a b=>cases b;cases a;rename_i g hs;cases hf;simp only [qal,ze (qo g).2];exact λp hp=>k _ _ (jk hp) (ZR hd hp hs) λ_=>D6 hp hs
 ·cases hf⟩
def mn:List Int->Int
 |[]=>0|[a]=>a|a::b::r=>min a (mn (b::r))
def mx:List Int->Int
 |[]=>0|[a]=>a|a::b::r=>max a (mx (b::r))
theorem N7:∀ {ns:List Int} {m:Int},m∈ns->m<=mx ns
 |[a],m,h=>by simp at h;subst h;exact Int.le_refl _
 |a::b::r,m,h=>by
  unfold mx;rcases mem_cons.mp h with rfl|h
  ·omega
  ·have:=N7 h;omega
theorem EO:∀ {ns:List Int},ns≠[]->mx ns∈ns
 |[a],_=>by simp [mx]
 |a::b::r,_=>by
  unfold mx;have:=EO (ns:=b::r) (by simp);rcases Int.le_total a (mx (b::r)) with h|h
  ·rw [Int.max_eq_right h];exact v7 _ this
  ·rw [Int.max_eq_left h];simp
def mxD:List PyData->Option PyData
 |[.list xs]=>(YV xs).bind λns=>cif (ns≠[]) (some (.int (mx ns))) none
 |_=>none
def qeK:FnD T9:=⟨mxD,false,λ{D G xs ds v q} hx hd hf k=>by
 unfold mxD at hf;split at hf
 ·obtain ⟨ns,e,hf⟩:=obb hf;unfold cif at hf;split at hf
  ·rename_i c;cases hf;cases hx with
   |cons a b=>
    cases b;cases a;rename_i g hs;have:=DH e;subst this;have:=hs.ints;subst this;simp only [T9,ze (qo g).2,WL];refine ⟨c,λm hm hl=>?_⟩;have:m=mx ns:=Int.le_antisymm (N7 hm) (hl _ (EO c));subst this;exact k _ _ Ex.refl (.int _) (λz=>by cases z)
  ·cases hf
 ·cases hf⟩
theorem MW:∀ {a b:List Int},a.Perm b->a.Pairwise (·<=·)->b.Pairwise (·<=·)->a=b
 |[],b,h,_,_=>h.nil_eq
 |x::a,[],h,_,_=>by simp at h
 |x::a,y::b,h,h1,h2=>by
  rw [List.pairwise_cons] at h1 h2;have hx:x∈y::b:=h.subset (by simp);have hy:y∈x::a:=h.symm.subset (by simp);have l1:y<=x:=by
   rcases mem_cons.mp hx with rfl|z
   ·exact Int.le_refl _
   ·exact h2.1 _ z
  have l2:x<=y:=by
   rcases mem_cons.mp hy with rfl|z
   ·exact Int.le_refl _
   ·exact h1.1 _ z
  have:x=y:=Int.le_antisymm l2 l1;subst this;rw [MW h.cons_inv h1.2 h2.2]
def srt (ns:List Int):List Int:=ns.mergeSort
def RI (ns:List Int):(srt ns).Perm ns:=List.mergeSort_perm ns _
def qms (ns:List Int):(srt ns).Pairwise (·<=·):=by
 have:=List.pairwise_mergeSort (le:=λ(a b:Int)=>decide (a<=b)) (λa b c h1 h2=>by simp at *;omega) (λa b=>by simp;omega) ns;exact this.imp (by simp)
def PSp (F:List PyData->Option PyData) (fr:Bool):Sp3:=λts G q=>∃ (D:Addr->Prop) (ds:List PyData) (d:PyData),Dqs (rs D G) ts ds/\Dom D G/\F ds=some d/\∀ x G',Ex G G'->Dq (rs D G') x d->(fr=true->Nw D G G' x d)->q x G'
def zg (F:List PyData->Option PyData) (fr:Bool):FnD (PSp F fr):=⟨F,fr,λ{D G xs ds v q} hx hd hf k=>⟨D,ds,v,hx,hd,hf,k⟩⟩
def SG:PyData->Option (List PyData)
 |.tuple xs=>some xs
 |.list xs=>some xs
 |_=>none
def qaP {t:TE3} (a:PuE t):PuI (U7 t):=⟨λρ=>(a.f ρ).bind SG,a.fv,false,λ{D τ ρ G r ds} hv hd hf k=>by
 obtain ⟨d,e1,hf⟩:=obb hf;refine a.ok hv hd e1 λx G1 E1 D1 _=>?_;unfold SG at hf;cases D1 with
 |tup hs=>cases hf;exact k _ _ _ E1 hs (λ_ _=>trivial) (λz=>by cases z)
 |lst g hs=>
  cases hf;simp only [ze (qo g).2];refine k _ _ _ E1 hs (λG2 h=>?_) (λz=>by cases z);rcases h with h|h
  ·cases h
  ·exact ze (h _ _ g)
 |_=>simp at hf⟩
def XE (lo:Int) (n:Nat):List Int:=(List.range n).map λ(i:Nat)=>lo+(i:Int)
def L7 (lo:Int) (n:Nat):qbu lo n=(XE lo n).map T.int:=by simp [qbu,XE,map_map,Function.comp_def]
def qf6:List PyData->Option (List PyData)
 |[.int j]=>cif (-(2 ^ 62)<=j/\j<2 ^ 62) (some ((XE 0 j.toNat).map PyData.int)) none
 |[.int i,.int j]=>cif (-(2 ^ 62)<=i/\i<2 ^ 62/\-(2 ^ 62)<=j/\j<2 ^ 62) (some ((XE i (j-i).toNat).map PyData.int)) none
 |_=>none
def qhG {t:TA3} (a:PuA t):PuI (Y0 t):=⟨λρ=>(a.f ρ).bind qf6,a.fv,true,λ{D τ ρ G r ds} hv hd hf k=>by
 obtain ⟨d,e1,hf⟩:=obb hf;refine a.ok hv hd e1 λx G1 E1 D1=>?_;unfold qf6 at hf;split at hf
 ·unfold cif at hf;split at hf
  ·rename_i c;cases hf;cases D1 with
   |cons a b=>cases b;cases a;simp only;rw [L7];exact ⟨c,k _ _ _ E1 (Dqs.ofInts _) (λ_ _=>trivial) λ_=>⟨_,rfl⟩⟩
  ·cases hf
 ·unfold cif at hf;split at hf
  ·rename_i c;cases hf;cases D1 with
   |cons a b=>cases b with
    |cons b c'=>cases c';cases a;cases b;simp only;rw [L7];exact ⟨c,k _ _ _ E1 (Dqs.ofInts _) (λ_ _=>trivial) λ_=>⟨_,rfl⟩⟩
  ·cases hf
 ·cases hf⟩
def qoI (us vs:List PyData):List PyData:=(us.zip vs).map λp=>.tuple [p.1,p.2]
theorem Dqs.zip {G:Gp}:∀ {xs:List T} {ds:List PyData} {ys:List T} {es:List PyData},Dqs G xs ds->Dqs G ys es->Dqs G (qn8 xs ys) (qoI ds es)
 |_,_,_,_,.nil,_=>by simp [qn8,qoI];exact .nil
 |_,_,_,_,.cons _ _,.nil=>by simp [qn8,qoI];exact .nil
 |_,_,_,_,.cons a b,.cons c d=>.cons (.tup (.cons a (.cons c .nil))) (Dqs.zip b d)
def qd3 {G:Gp} {x:T} {d:PyData} {ds:List PyData} (h:Dq G x d) (e:SG d=some ds):∃ us,CT G x=some us/\Dqs G us ds:=by
 unfold SG at e;cases h with
 |tup hs=>cases e;exact ⟨_,rfl,hs⟩
 |lst g hs=>cases e;exact ⟨_,ze g,hs⟩
 |_=>simp at e
def qf9 {G G':Gp} {x:T} {us:List T} (e:Ex G G') (h:CT G x=some us):CT G' x=some us:=by
 cases x with
 |tup xs=>exact h
 |ref p=>exact e.getL h
 |_=>cases h
def enD (k:Nat):List PyData->List PyData
 |[]=>[]
 |x::r=>.tuple [.int (k:Int),x]::enD (k+1) r
theorem Dqs.enum {G:Gp}:∀ {xs:List T} {ds:List PyData} (k:Nat),Dqs G xs ds->Dqs G (jv k xs) (enD k ds)
 |_,_,_,.nil=>.nil
 |_,_,k,.cons a b=>.cons (.tup (.cons (.int _) (.cons a .nil))) (Dqs.enum (k+1) b)
def T3 {t:TA3} (a:PuA t):PuI (EJ t):=⟨λρ=>(a.f ρ).bind λds=>match ds with|[d]=>(SG d).map λus=>enD 0 us|_=>none,a.fv,false,λ{D τ ρ G r ds} hv hd hf k=>by
 obtain ⟨d,e1,hf⟩:=obb hf;refine a.ok hv hd e1 λx G1 E1 D1=>?_;split at hf
 ·obtain ⟨us,e2,rfl⟩:=za1 hf;cases D1 with
  |cons a b=>
   cases b;obtain ⟨us',h1,h2⟩:=qd3 a e2;simp only [qf9 VI h1];refine k _ _ _ E1 (h2.enum 0) (λG2 h=>?_) (λz=>by cases z);rcases h with h|h
   ·cases h
   ·exact qf9 h h1
 ·cases hf⟩
inductive Bd (H:Gp):List (Nat×T)->List (Nat×PyData)->Prop
 |nil:Bd H [] []
 |cons {i:Nat} {x:T} {d:PyData} {ts:List (Nat×T)} {bs:List (Nat×PyData)}:Dq H x d->Bd H ts bs->Bd H ((i,x)::ts) ((i,d)::bs)
theorem Bd.append {H:Gp}:∀ {ts:List (Nat×T)} {bs:List (Nat×PyData)} {us:List (Nat×T)} {cs:List (Nat×PyData)},Bd H ts bs->Bd H us cs->Bd H (ts++us) (bs++cs)
 |_,_,_,_,.nil,h=>h
 |_,_,_,_,.cons a b,h=>.cons a (Bd.append b h)
theorem Bd.up {H H':Gp} (e:Ex H H'):∀ {ts:List (Nat×T)} {bs:List (Nat×PyData)},Bd H ts bs->Bd H' ts bs
 |_,_,.nil=>.nil
 |_,_,.cons a b=>.cons (a.up e) (Bd.up e b)
def sets:St3->List (Nat×T)->St3
 |τ,[]=>τ
 |τ,p::r=>sets (τ.set p.1 (some p.2)) r
def jJ:Rho->List (Nat×PyData)->Rho
 |ρ,[]=>ρ
 |ρ,p::r=>jJ (ρ.set p.1 (.sh p.2)) r
theorem NG:∀ (τ:St3) (a b:List (Nat×T)),sets τ (a++b)=sets (sets τ a) b
 |τ,[],b=>rfl
 |τ,p::a,b=>by simp only [cons_append,sets];exact NG _ a b
structure PuG (g:TG3) where
 f:PyData->Option (List (Nat×PyData))
 tg:List Nat
 at':∀ {d bs},f d=some bs->∀ p∈bs,p.1∈tg
 ok:∀ {H x d bs},Dq H x d->f d=some bs->∃ ts,Bd H ts bs/\∀ τ G (q:St3->Gp->Prop),q (sets τ ts) G->g x τ G q
structure PuGs (g:MD) where
 f:List PyData->Option (List (Nat×PyData))
 tg:List Nat
 at':∀ {d bs},f d=some bs->∀ p∈bs,p.1∈tg
 ok:∀ {H x d bs},Dqs H x d->f d=some bs->∃ ts,Bd H ts bs/\∀ τ G (q:St3->Gp->Prop),q (sets τ ts) G->g x τ G q
def gN (i:Nat):PuG (gn3 i):=⟨λd=>some [(i,d)],[i],λh p hp=>by cases h;simp at hp;subst hp;simp,λhx h=>by cases h;exact ⟨_,.cons hx .nil,λτ G q hq=>hq⟩⟩
def NF:PuGs J4:=⟨λds=>match ds with|[]=>some []|_=>none,[],(λh p hp=>by split at h;cases h;cases hp;cases h),λhx h=>by
 split at h
 ·cases h;cases hx;exact ⟨[],.nil,λτ G q hq=>hq⟩
 ·cases h⟩
def je {t:TG3} {u:MD} (a:PuG t) (b:PuGs u):PuGs (qU t u):=⟨λds=>match ds with|d::r=>(a.f d).bind λx=>(b.f r).map λy=>x++y|[]=>none,a.tg++b.tg,(λh p hp=>by
 split at h
 ·obtain ⟨x,e1,h⟩:=obb h;obtain ⟨y,e2,rfl⟩:=za1 h;rcases List.mem_append.mp hp with z|z
  ·exact List.mem_append.mpr (.inl (a.at' e1 p z))
  ·exact List.mem_append.mpr (.inr (b.at' e2 p z))
 ·cases h),λhx h=>by
 split at h
 ·obtain ⟨x,e1,h⟩:=obb h;obtain ⟨y,e2,rfl⟩:=za1 h;cases hx with
  |cons hx hr=>
   obtain ⟨ts,b1,k1⟩:=a.ok hx e1;obtain ⟨us,b2,k2⟩:=b.ok hr e2;refine ⟨ts++us,b1.append b2,λτ G q hq=>k1 τ G _ (k2 _ G q ?_)⟩;rw [← NG];exact hq
 ·cases h⟩
def M1 {u:MD} (n:Nat) (b:PuGs u):PuG (J5 n u):=⟨λd=>match d with|.tuple ds=>if ds.length=n then b.f ds else none|_=>none,b.tg,(λh p hp=>by
 split at h
 ·split at h
  ·exact b.at' h p hp
  ·cases h
 ·cases h),λhx h=>by
 split at h
 ·split at h
  ·rename_i c;cases hx with
   |tup hs=>
    obtain ⟨ts,b1,k1⟩:=b.ok hs h;exact ⟨ts,b1,λτ G q hq=>⟨by rw [hs.length];exact c,k1 τ G q hq⟩⟩
  ·cases h
 ·cases h⟩
structure VA (D:Addr->Prop) (G:Gp) (τ:St3) (ρ:Rho):Prop where
 len:ρ.length=τ.length
 vw:∀ i d,vw ρ i=some d->∃ t,τ[i]?=some (some t)/\Dq (rs D G) t d
def VA.view {D:Addr->Prop} {G:Gp} {τ:St3} {ρ:Rho} (h:VA D G τ ρ) (fv:List Nat):XF fv D G τ ρ:=λi _ d e=>h.vw i d e
def VA.upx {D:Addr->Prop} {G G':Gp} {τ:St3} {ρ:Rho} (h:VA D G τ ρ) (e:Ex (rs D G) (rs D G')):VA D G' τ ρ:=⟨h.len,λi d hd=>let ⟨t,a,b⟩:=h.vw i d hd;⟨t,a,b.up e⟩⟩
def VA.up {D:Addr->Prop} {G G':Gp} {τ:St3} {ρ:Rho} (h:VA D G τ ρ) (e:Ex G G'):VA D G' τ ρ:=h.upx (zC e)
def qgw {ρ:Rho} {i j:Nat} {s:Sl}:vw (ρ.set i s) j=if i=j then (if i<ρ.length then s.d else none) else vw ρ j:=by
 unfold vw;rw [getElem?_set];split
 ·subst j;split
  ·rfl
  ·rfl
 ·rfl
theorem VA.set {D:Addr->Prop} {G:Gp} {τ:St3} {ρ:Rho} (h:VA D G τ ρ) {i:Nat} {x:T} {d:PyData} (hx:Dq (rs D G) x d):VA D G (τ.set i (some x)) (ρ.set i (.sh d)):=by
 refine ⟨by simp [h.len],λj e he=>?_⟩;rw [qgw] at he;split at he
 ·subst j;split at he
  ·rename_i l;cases he;refine ⟨x,?_,hx⟩;rw [getElem?_set,if_pos rfl,if_pos (by rw [← h.len];exact l)]
  ·cases he
 ·rename_i n;obtain ⟨t,a,b⟩:=h.vw j e he;exact ⟨t,by rw [getElem?_set,if_neg n];exact a,b⟩
theorem VA.sets {D:Addr->Prop} {G:Gp}:∀ {ts:List (Nat×T)} {bs:List (Nat×PyData)} {τ:St3} {ρ:Rho},VA D G τ ρ->Bd (rs D G) ts bs->VA D G (Pu.sets τ ts) (jJ ρ bs)
 |_,_,_,_,h,.nil=>h
 |_,_,_,_,h,.cons a b=>by unfold Pu.sets jJ;exact VA.sets (h.set a) b
theorem VA.keep {D:Addr->Prop} {G:Gp} {ρ:Rho}:∀ {ts:List (Nat×T)} {τ:St3},VA D G τ ρ->(∀ p∈ts,Pu.vw ρ p.1=none)->VA D G (Pu.sets τ ts) ρ
 |[],_,h,_=>h
 |p::r,τ,h,hn=>VA.keep (ts:=r) ⟨by rw [List.length_set];exact h.len,λj d hd=>by
   have:p.1≠j:=by rintro rfl;rw [hn p (by simp)] at hd;cases hd
   obtain ⟨t,a,b⟩:=h.vw j d hd;exact ⟨t,by rw [getElem?_set,if_neg this];exact a,b⟩⟩ λq hq=>hn q (by simp [hq])
def T8 (m:List (Option Nat)) (ρ:Rho):Rho:=m.map λo=>match o with|some j=>(match vw ρ j with|some d=>.sh d|none=>.un)|none=>.un
theorem VA.cap {m:List (Option Nat)} {D:Addr->Prop} {G:Gp} {τ:St3} {ρ:Rho} (h:XF (m.filterMap id) D G τ ρ):VA D G (L3.cap m τ) (T8 m ρ):=by
 refine ⟨by simp [T8,L3.cap],λi d hd=>?_⟩;unfold Pu.vw T8 at hd;rw [getElem?_map] at hd;cases e:m[i]? with
 |none=>rw [e] at hd;cases hd
 |some o=>
  rw [e] at hd;cases o with
  |none=>cases hd
  |some j=>
   simp only [Option.map_some,Option.bind_some] at hd;cases e2:Pu.vw ρ j with
   |none=>rw [e2] at hd;cases hd
   |some d'=>
    rw [e2] at hd;have hd':d'=d:=by simpa [Sl.d] using hd
    subst hd';obtain ⟨t,a,b⟩:=h j (List.mem_filterMap.mpr ⟨some j,u4 e,rfl⟩) d' e2;refine ⟨t,?_,b⟩;unfold L3.cap;rw [getElem?_map,e];simp [a]
def K4 {m:List (Option Nat)} {ρ:Rho} {i:Nat} (h:m[i]?=some none):vw (T8 m ρ) i=none:=by
 unfold vw T8;rw [getElem?_map,h];rfl
def lcP (h:PyData->Option (Option PyData)):List PyData->Option (List PyData)
 |[]=>some []
 |d::r=>(h d).bind λo=>(lcP h r).bind λys=>some (match o with|some y=>y::ys|none=>ys)
def lcH (gf:PyData->Option (List (Nat×PyData))) (cf:Rho->Option Bool) (ef:Rho->Option PyData) (ρ:Rho) (d:PyData):Option (Option PyData):=
 (gf d).bind λbs=>(cf (jJ ρ bs)).bind λk=>if k then (ef (jJ ρ bs)).map some else some none
def RQ {h:PyData->Option (Option PyData)} {α:Type} {g:α->PyData} {k:α->PyData} {xs:List α} (hh:∀ a∈xs,h (g a)=some (some (k a))):lcP h (xs.map g)=some (xs.map k):=by
 induction xs with
 |nil=>rfl
 |cons a r ih=>simp only [map_cons,lcP,hh a (by simp),Option.bind_some,ih λb hb=>hh b (by simp [hb])]
def NW {h:PyData->Option (Option PyData)} {α:Type} {g:α->PyData} {k:α->PyData} {c:α->Bool} {xs:List α} (hh:∀ a∈xs,h (g a)=some (if c a then some (k a) else none)):lcP h (xs.map g)=some ((xs.filter c).map k):=by
 induction xs with
 |nil=>rfl
 |cons a r ih=>
  simp only [map_cons,lcP,hh a (by simp),Option.bind_some,ih λb hb=>hh b (by simp [hb])];cases e:c a with
  |true=>simp [e]
  |false=>simp [e]
theorem qet {H:Gp}:∀ {ts:List (Nat×T)} {bs:List (Nat×PyData)},Bd H ts bs->∀ p∈ts,∃ q∈bs,q.1=p.1
 |_,_,.nil,p,hp=>by cases hp
 |_,_,.cons a b,p,hp=>by
  rcases mem_cons.mp hp with rfl|hp
  ·exact ⟨_,u8,rfl⟩
  ·obtain ⟨q,hq,e⟩:=qet b p hp;exact ⟨q,by simp [hq],e⟩
theorem qij {stay:Gp->Prop} {g:TG3} {tif:TT3} {te:TE3} {q:Q3} (pg:PuG g) (pc:PuC tif) (pe:PuE te) {D:Addr->Prop} {ρ0:Rho} {G0:Gp} (hs:∀ G,Ex G0 G->stay G) (hm:∀ i∈pg.tg,vw ρ0 i=none) (fin:List PyData) (hfin:fin.length<=sizeLine)
  (k:∀ G ys,Ex G0 G->Dqs (rs D G) ys fin->∀ p,G p=none->q (.ref p) (gu G p (.lst ys))) :
  ∀ (ds:List PyData) (items ys:List T) (es fs:List PyData) (τ:St3) (G:Gp),Dqs (rs D G0) items ds->VA D G τ ρ0->Ex G0 G->Dom D G->Dqs (rs D G) ys es->lcP (lcH pg.f pc.f pe.f ρ0) ds=some fs->es++fs=fin->qhk stay g tif te q items ys τ G
 |_,_,ys,es,fs,τ,G,.nil,va,E,hd,hy,hf,hl=>by
  cases hf;rw [List.append_nil] at hl;subst hl;exact ⟨hs G E,k G ys E hy⟩
 |d::ds,x::items,ys,es,fs,τ,G,.cons hx hr,va,E,hd,hy,hf,hl=>by
  unfold lcP at hf;obtain ⟨o,e1,hf⟩:=obb hf;obtain ⟨QG,e2,hf⟩:=obb hf;unfold lcH at e1;obtain ⟨bs,e3,e1⟩:=obb e1;obtain ⟨c,e4,e1⟩:=obb e1;obtain ⟨ts,bd,kg⟩:=pg.ok (hx.up (zC E)) e3;refine ⟨hs G E,kg τ G _ ?_⟩;have va1:=va.sets bd;have va2:=va.keep (ts:=ts) λp hp=>by
   obtain ⟨q,hq,e⟩:=qet bd p hp;rw [← e];exact hm _ (pg.at' e3 q hq)
  refine pc.ok (va1.view _) hd e4 λG1 E1=>?_;cases c with
  |true=>
   rw [if_pos rfl];rw [if_pos rfl] at e1;obtain ⟨y,e5,rfl⟩:=za1 e1;simp only [Option.some.injEq] at hf;subst hf;refine pe.ok ((va1.up E1).view _) (hd.up E1) e5 λz G2 E2 D2 _=>⟨?_,?_⟩
   ·rw [hy.length];rw [← hl] at hfin;simp at hfin;omega
   ·refine qij pg pc pe hs hm fin hfin k ds items (ys++[z]) (es++[y]) QG _ G2 hr ((va2.up E1).up E2) (E.trans (E1.trans E2)) ((hd.up E1).up E2) (((hy.up (zC E1)).up (zC E2)).append (.cons D2 .nil)) e2 ?_;rw [← hl];simp
  |false=>
   rw [if_neg y8];simp at e1;subst e1;simp only [Option.some.injEq] at hf;subst hf;exact qij pg pc pe hs hm fin hfin k ds items ys es QG _ G1 hr (va2.up E1) (E.trans E1) (hd.up E1) (hy.up (zC E1)) e2 hl
def lcF (pi:Rho->Option (List PyData)) (h:Rho->PyData->Option (Option PyData)) (m:List (Option Nat)) (ρ:Rho):Option PyData:=
 (pi ρ).bind λds=>(lcP (h (T8 m ρ)) ds).bind λfs=>cif (fs.length<=sizeLine) (some (.list fs)) none
def bLc {wi:TI3} {g:TG3} {tif:TT3} {te:TE3} (pi:PuI wi) (pg:PuG g) (pc:PuC tif) (pe:PuE te) (m:List (Option Nat)) (hm:Tru (pg.tg.all λi=>m[i]?==some none)):PuE (lc3 wi g tif te m):=
 ⟨lcF pi.f (lcH pg.f pc.f pe.f) m,pi.fv++m.filterMap id,true,λ{D τ ρ G q d} hv hd hf k=>by
  unfold lcF at hf;obtain ⟨ds,e1,hf⟩:=obb hf;obtain ⟨fs,e2,hf⟩:=obb hf;unfold cif at hf;split at hf
  ·rename_i hl;cases hf;refine pi.ok hv.l hd e1 λitems stay G1 E1 D1 hs _=>?_;have va:=(VA.cap (m:=m) hv.r).up E1;refine qij pg pc pe (D:=D) (ρ0:=T8 m ρ) (G0:=G1) (λG2 E2=>hs G2 (.inr (VI.trans E2))) (λi hi=>K4 ?_) fs hl (λG2 ys E2 D2 p hp=>?_) ds items [] [] fs _ G1 D1 va Ex.refl (hd.up E1) .nil e2 (by simp)
   ·have:=List.all_eq_true.mp hm.h i hi;simpa using this
   ·exact k _ _ ((E1.trans E2).trans (jk hp)) (ZR ((hd.up E1).up E2) hp D2) λ_=>(D6 hp D2).back (E1.trans E2)
  ·cases hf⟩
def E0 (p:Addr) (G G':Gp):Prop:=∀ b o,b≠p->G b=some o->G' b=some o
def E0.refl {p:Addr} {G:Gp}:E0 p G G:=λ_ _ _ e=>e
def E0.trans {p:Addr} {G G1 G2:Gp} (a:E0 p G G1) (b:E0 p G1 G2):E0 p G G2:=λx o n e=>b x o n (a x o n e)
def E0.of {p:Addr} {G G1:Gp} (a:Ex G G1):E0 p G G1:=λx o _ e=>a x o e
def E0.wr {p:Addr} {G:Gp} {o:O}:E0 p G (gu G p o):=λb ob n e=>by rw [jc n];exact e
theorem E0.rs {p:Addr} {D:Addr->Prop} {G G1:Gp} (a:E0 p G G1):Ex (rs (λb=>D b\/b=p) G) (rs (λb=>D b\/b=p) G1):=λb o h=>by
 obtain ⟨n,h⟩:=qo h;rw [zY n];exact a b o (λz=>n (.inr z)) h
def qmQ {D:Addr->Prop} {G:Gp} {p:Addr} {o:O} (h:Dom D G):Dom D (gu G p o):=λb d z=>by
 by_cases e:b=p
 ·subst e;rw [qG] at z;cases z
 ·rw [jc e] at z;exact h b d z
theorem qhQ {p:Addr} {stay:Gp->Prop} {g:TG3} {tif:TT3} {te:TE3} {N:St3->Gp->Prop} (pg:PuG g) (pc:PuC tif) (pe:PuE te) {D:Addr->Prop} {ρ0:Rho} {G0:Gp} (hs:∀ G,Ex (rs (λb=>D b\/b=p) G0) G->stay G) (hm:∀ i∈pg.tg,vw ρ0 i=none) (fin:List PyData) (hfin:fin.length<=sizeLine)
  (k:∀ τ G ys,VA (λb=>D b\/b=p) G τ ρ0->E0 p G0 G->Dom (λb=>D b\/b=p) G->G p=some (.lst ys)->Dqs (rs (λb=>D b\/b=p) G) ys fin->N τ G) :
  ∀ (ds:List PyData) (items ys:List T) (es fs:List PyData) (τ:St3) (G:Gp),Dqs (rs (λb=>D b\/b=p) G0) items ds->VA (λb=>D b\/b=p) G τ ρ0->E0 p G0 G->Dom (λb=>D b\/b=p) G->G p=some (.lst ys)->Dqs (rs (λb=>D b\/b=p) G) ys es->lcP (lcH pg.f pc.f pe.f ρ0) ds=some fs->es++fs=fin->qi2 p stay g tif te N items τ G
 |_,_,ys,es,fs,τ,G,.nil,va,E,hd,gp,hy,hf,hl=>by
  cases hf;rw [List.append_nil] at hl;subst hl;exact ⟨hs G (E.rs.trans VI),k τ G ys va E hd gp hy⟩
 |d::ds,x::items,ys,es,fs,τ,G,.cons hx hr,va,E,hd,gp,hy,hf,hl=>by
  unfold lcP at hf;obtain ⟨o,e1,hf⟩:=obb hf;obtain ⟨QG,e2,hf⟩:=obb hf;unfold lcH at e1;obtain ⟨bs,e3,e1⟩:=obb e1;obtain ⟨c,e4,e1⟩:=obb e1;obtain ⟨ts,bd,kg⟩:=pg.ok (hx.up E.rs) e3;refine ⟨hs G (E.rs.trans VI),kg τ G _ ?_⟩;have va1:=va.sets bd;have va2:=va.keep (ts:=ts) λp hp=>by
   obtain ⟨q,hq,e⟩:=qet bd p hp;rw [← e];exact hm _ (pg.at' e3 q hq)
  refine pc.ok (va1.view _) hd e4 λG1 E1=>?_;cases c with
  |true=>
   rw [if_pos rfl];rw [if_pos rfl] at e1;obtain ⟨y,e5,rfl⟩:=za1 e1;simp only [Option.some.injEq] at hf;subst hf;refine pe.ok ((va1.up E1).view _) (hd.up E1) e5 λz G2 E2 D2 _=>?_;simp only [E2 _ _ (E1 _ _ gp)];have W:E0 p G2 (gu G2 p (.lst (ys++[z]))):=E0.wr;refine ⟨?_,?_⟩
   ·rw [hy.length];rw [← hl] at hfin;simp at hfin;omega
   ·refine qhQ pg pc pe hs hm fin hfin k ds items (ys++[z]) (es++[y]) QG _ _ hr (((va2.up E1).up E2).upx W.rs) ((E.trans (E0.of (E1.trans E2))).trans W) (qmQ ((hd.up E1).up E2)) qG ((((hy.up (zC E1)).up (zC E2)).append (.cons D2 .nil)).up W.rs) e2 ?_;rw [← hl];simp
  |false=>
   rw [if_neg y8];simp at e1;subst e1;simp only [Option.some.injEq] at hf;subst hf;exact qhQ pg pc pe hs hm fin hfin k ds items ys es QG _ G1 hr (va2.up E1) (E.trans (E0.of E1)) (hd.up E1) (E1 _ _ gp) (hy.up (zC E1)) e2 hl
def qiK (h:PyData->Option (Option (List PyData))):List PyData->Option (List PyData)
 |[]=>some []
 |d::r=>(h d).bind λo=>(qiK h r).bind λys=>some (match o with|some y=>y++ys|none=>ys)
def qjA (gf:PyData->Option (List (Nat×PyData))) (cf:Rho->Option Bool) (it:Rho->Option (List PyData)) (h:Rho->PyData->Option (Option PyData)) (ρ:Rho) (d:PyData):Option (Option (List PyData)):=
 (gf d).bind λbs=>(cf (jJ ρ bs)).bind λk=>if k then ((it (jJ ρ bs)).bind λds=>lcP (h (jJ ρ bs)) ds).map some else some none
theorem KU:∀ {bs:List (Nat×PyData)} {ρ:Rho} {i:Nat},(∀ p∈bs,p.1≠i)->vw (jJ ρ bs) i=vw ρ i
 |[],_,_,_=>rfl
 |p::r,ρ,i,h=>by
  unfold jJ;rw [KU (λq hq=>h q (by simp [hq])),qgw,if_neg (h p (by simp))]
theorem NB:∀ (bs:List (Nat×PyData)) (ρ:Rho),(jJ ρ bs).length=ρ.length
 |[],τ=>rfl
 |p::r,τ=>by unfold jJ;rw [NB r];simp
theorem qcb {p:Addr} {stay:Gp->Prop} {g g2:TG3} {tif tif2:TT3} {wi2:TI3} {te:TE3} {q:Q3} (pg:PuG g) (pc:PuC tif) (pi2:PuI wi2) (pg2:PuG g2) (pc2:PuC tif2) (pe:PuE te) {D:Addr->Prop} {ρ0:Rho} {G0:Gp} (hs:∀ G,Ex (rs (λb=>D b\/b=p) G0) G->stay G) (hm:∀ i∈pg.tg,vw ρ0 i=none) (hm2:∀ i∈pg2.tg,vw ρ0 i=none) (hdj:∀ i∈pg2.tg,i∉pg.tg) (fin:List PyData) (hfin:fin.length<=sizeLine)
  (k:∀ G ys,E0 p G0 G->G p=some (.lst ys)->Dqs (rs (λb=>D b\/b=p) G) ys fin->q (.ref p) G) :
  ∀ (ds:List PyData) (items ys:List T) (es fs:List PyData) (τ:St3) (G:Gp),Dqs (rs (λb=>D b\/b=p) G0) items ds->VA (λb=>D b\/b=p) G τ ρ0->E0 p G0 G->Dom (λb=>D b\/b=p) G->G p=some (.lst ys)->Dqs (rs (λb=>D b\/b=p) G) ys es->qiK (qjA pg.f pc.f pi2.f (lcH pg2.f pc2.f pe.f) ρ0) ds=some fs->es++fs=fin->qbG p stay g tif wi2 g2 tif2 te q items τ G
 |_,_,ys,es,fs,τ,G,.nil,va,E,hd,gp,hy,hf,hl=>by
  cases hf;rw [List.append_nil] at hl;subst hl;exact ⟨hs G (E.rs.trans VI),k G ys E gp hy⟩
 |d::ds,x::items,ys,es,fs,τ,G,.cons hx hr,va,E,hd,gp,hy,hf,hl=>by
  unfold qiK at hf;obtain ⟨o,e1,hf⟩:=obb hf;obtain ⟨QG,e2,hf⟩:=obb hf;unfold qjA at e1;obtain ⟨bs,e3,e1⟩:=obb e1;obtain ⟨c,e4,e1⟩:=obb e1;obtain ⟨ts,bd,kg⟩:=pg.ok (hx.up E.rs) e3;refine ⟨hs G (E.rs.trans VI),kg τ G _ ?_⟩;have va1:=va.sets bd;have va2:=va.keep (ts:=ts) λp hp=>by
   obtain ⟨q,hq,e⟩:=qet bd p hp;rw [← e];exact hm _ (pg.at' e3 q hq)
  refine pc.ok (va1.view _) hd e4 λG1 E1=>?_;cases c with
  |true=>
   rw [if_pos rfl];rw [if_pos rfl] at e1;obtain ⟨y,e5,rfl⟩:=za1 e1;obtain ⟨ds2,e6,e5⟩:=obb e5;simp only [Option.some.injEq] at hf;subst hf;refine pi2.ok ((va1.up E1).view _) (hd.up E1) e6 λitems2 stay2 G2 E2 D2 hs2 _=>?_;have l2:(es++y).length<=sizeLine:=by
    rw [← hl] at hfin;simp at hfin ⊢;omega
   refine qhQ pg2 pc2 pe (ρ0:=jJ ρ0 bs) (G0:=G2) (λG3 E3=>hs2 G3 (.inr E3)) (λi hi=>?_) (es++y) l2 (λτ3 G3 zs va3 E3 hd3 gp3 hz=>?_) ds2 items2 ys es y _ G2 D2 ((va1.up E1).up E2) E0.refl ((hd.up E1).up E2) (E2 _ _ (E1 _ _ gp)) ((hy.up (zC E1)).up (zC E2)) e5 rfl
   ·rw [KU λq hq e=>hdj i hi (by rw [← e];exact pg.at' e3 q hq)];exact hm2 i hi
   ·have E4:E0 p G G3:=(E0.of (E1.trans E2)).trans E3;have va4:VA (λb=>D b\/b=p) G3 τ3 ρ0:=⟨by rw [← va3.len,NB],λi d' hd'=>va3.vw i d' (by
     rw [KU λq hq e=>?_];exact hd';rw [← e,hm _ (pg.at' e3 q hq)] at hd';cases hd')⟩
    exact qcb pg pc pi2 pg2 pc2 pe hs hm hm2 hdj fin hfin k ds items zs (es++y) QG τ3 G3 hr va4 (E.trans E4) hd3 gp3 hz e2 (by rw [← hl];simp)
  |false=>
   rw [if_neg y8];simp at e1;subst e1;simp only [Option.some.injEq] at hf;subst hf;exact qcb pg pc pi2 pg2 pc2 pe hs hm hm2 hdj fin hfin k ds items ys es QG _ G1 hr (va2.up E1) (E.trans (E0.of E1)) (hd.up E1) (E1 _ _ gp) (hy.up (zC E1)) e2 hl
def qj4 (pi:Rho->Option (List PyData)) (h:Rho->PyData->Option (Option (List PyData))) (m:List (Option Nat)) (ρ:Rho):Option PyData:=
 (pi ρ).bind λds=>(qiK (h (T8 m ρ)) ds).bind λfs=>cif (fs.length<=sizeLine) (some (.list fs)) none
def qeu {h:PyData->Option (Option (List PyData))} {α:Type} {g:α->PyData} {k:α->List PyData} {xs:List α} (hh:∀ a∈xs,h (g a)=some (some (k a))):qiK h (xs.map g)=some (xs.flatMap k):=by
 induction xs with
 |nil=>rfl
 |cons a r ih=>simp only [map_cons,qiK,hh a (by simp),Option.bind_some,ih λb hb=>hh b (by simp [hb]),List.flatMap_cons]
def qoo {wi wi2:TI3} {g g2:TG3} {tif tif2:TT3} {te:TE3} (pi:PuI wi) (pg:PuG g) (pc:PuC tif) (pi2:PuI wi2) (pg2:PuG g2) (pc2:PuC tif2) (pe:PuE te) (m:List (Option Nat)) (hm:Tru (pg.tg.all λi=>m[i]?==some none)) (hm2:Tru (pg2.tg.all λi=>m[i]?==some none)) (hdj:Tru (pg2.tg.all λi=>!pg.tg.contains i)):PuE (qk8 wi g tif wi2 g2 tif2 te m):=
 ⟨qj4 pi.f (qjA pg.f pc.f pi2.f (lcH pg2.f pc2.f pe.f)) m,pi.fv++m.filterMap id,true,λ{D τ ρ G q d} hv hd hf k=>by
  unfold qj4 at hf;obtain ⟨ds,e1,hf⟩:=obb hf;obtain ⟨fs,e2,hf⟩:=obb hf;unfold cif at hf;split at hf
  ·rename_i hl;cases hf;refine pi.ok hv.l hd e1 λitems stay G1 E1 D1 hs _ p hp=>?_;have va:=(VA.cap (m:=m) hv.r).up E1;have np:∀ {b o},G1 b=some o->b≠p:=λe=>by rintro rfl;rw [hp] at e;cases e
   have X1:Ex (rs D G1) (rs (λb=>D b\/b=p) (gu G1 p (.lst []))):=λb o e=>by
    obtain ⟨n,e⟩:=qo e;rw [zY (by rintro (z|z);exact n z;exact np e z),jc (np e)];exact e
   refine qcb pg pc pi2 pg2 pc2 pe (D:=D) (ρ0:=T8 m ρ) (G0:=gu G1 p (.lst [])) (p:=p) (λG2 E2=>hs G2 (.inr (X1.trans E2))) (λi hi=>K4 ?_) (λi hi=>K4 ?_) (λi hi hj=>?_) fs hl (λG2 ys E2 gp D2=>?_) ds items [] [] fs _ _ (D1.up X1) ⟨va.len,λi d hd=>let ⟨t,a,b⟩:=va.vw i d hd;⟨t,a,b.up X1⟩⟩ E0.refl ?_ qG .nil e2 (by simp)
   ·simpa using List.all_eq_true.mp hm.h i hi
   ·simpa using List.all_eq_true.mp hm2.h i hi
   ·have:=List.all_eq_true.mp hdj.h i hi;simp at this;exact this hj
   ·have EE:Ex G1 G2:=λb o e=>E2 b o (np e) (by rw [jc (np e)];exact e);have hdp:¬ D p:=λz=>(hd.up E1) p z hp;refine k _ _ (E1.trans EE) (.lst (by rw [zY hdp];exact gp) (D2.up (zt λb z=>.inl z))) λ_=>Nw.back (.inr ⟨p,ys,fs,rfl,rfl,hp,gp,D2⟩) E1
   ·intro b hb z;by_cases e:b=p
    ·subst e;rw [qG] at z;cases z
    ·rw [jc e] at z;rcases hb with hb|hb
     ·exact (hd.up E1) b hb z
     ·exact e hb
  ·cases hf⟩
def AD (D:Addr->Prop) (A:Nat->Addr->Prop) (b:Addr):Prop:=D b\/∃ i,A i b
def Ons (R G:Gp) (B:Addr->Prop) (qs:List Addr) (dss:List (List PyData)):Prop:=qs.length=dss.length/\∀ (j:Nat) (q:Addr) (ds:List PyData),qs[j]?=some q->dss[j]?=some ds->B q/\∃ ys,G q=some (.lst ys)/\Dqs R ys ds
def SlR (R G:Gp) (B:Addr->Prop) (t:Option (Option T)):Sl->Prop
 |.un=>True
 |.sh d=>∃ x,t=some (some x)/\Dq R x d
 |.ow ds=>∃ p xs,B p/\t=some (some (.ref p))/\G p=some (.lst xs)/\Dqs R xs ds
 |.dc kvs=>∃ p ks,B p/\t=some (some (.ref p))/\G p=some (.dct ks)/\ks.map (λq=>q.1)=kvs.map (λq=>q.1)/\Dqs R (ks.map λq=>q.2) (kvs.map λq=>q.2)
 |.on dss=>∃ p qs,B p/\t=some (some (.ref p))/\G p=some (.lst (qs.map T.ref))/\(p::qs).Nodup/\Ons R G B qs dss
 |.rg d=>∃ x,t=some (some x)/\Dq (rs (λb=>¬ B b) G) x d
section
variable {R R' G G':Gp} {B B':Addr->Prop} {t:Option (Option T)} {s:Sl}
def Ons.mono {qs:List Addr} {dss:List (List PyData)} (h:Ons R G B qs dss) (hr:Ex R R') (hg:∀ q∈qs,∀ o,B q->G q=some o->G' q=some o) (hb:∀ p,B p->B' p):Ons R' G' B' qs dss:=
 ⟨h.1,λj q ds a b=>let ⟨c,ys,d,e⟩:=h.2 j q ds a b;⟨hb _ c,ys,hg _ (u4 a) _ c d,e.up hr⟩⟩
theorem SlR.mono (h:SlR R G B t s) (hr:Ex R R') (hg:s≠.un->∀ p o,B p->G p=some o->G' p=some o) (hb:∀ p,B p->B' p):SlR R' G' B' t s:=by
 by_cases n:s=.un
 ·subst n;trivial
 replace hg:=hg n
 cases s with
 |un=>trivial
 |sh d=>obtain ⟨x,a,b⟩:=h;exact ⟨x,a,b.up hr⟩
 |ow ds=>obtain ⟨p,xs,a,b,c,d⟩:=h;exact ⟨p,xs,hb _ a,b,hg _ _ a c,d.up hr⟩
 |dc ds=>obtain ⟨p,xs,a,b,c,d,e⟩:=h;exact ⟨p,xs,hb _ a,b,hg _ _ a c,d,e.up hr⟩
 |on ds=>obtain ⟨p,xs,a,b,c,d,e⟩:=h;exact ⟨p,xs,hb _ a,b,hg _ _ a c,d,e.mono hr (λq _=>hg q) hb⟩
 |rg d=>obtain ⟨x,a,b⟩:=h;exact ⟨x,a,b.up λq o e=>by
   obtain ⟨n,e⟩:=qo e;rw [zY λz=>n λy=>z (hb q y)];exact hg q o (Classical.not_not.mp n) e⟩
theorem Ons.dqs:∀ {qs:List Addr} {dss:List (List PyData)},Ons R G B qs dss->Ex R R'->(∀ p o,B p->G p=some o->R' p=some o)->Dqs R' (qs.map T.ref) (dss.map PyData.list)
 |[],[],_,_,_=>.nil
 |q::qs,ds::dss,h,hr,hg=>by
  obtain ⟨a,ys,b,c⟩:=h.2 0 q ds rfl rfl;exact .cons (.lst (hg _ _ a b) (c.up hr)) (Ons.dqs ⟨by simpa using h.1,λj q ds x y=>h.2 (j+1) q ds x y⟩ hr hg)
 |[],_::_,h,_,_=>by cases h.1
 |_::_,[],h,_,_=>by cases h.1
def SlR.vis (h:SlR R G B t s) {d:PyData} (hs:s.d=some d) (hr:Ex R R') (hg:∀ p o,B p->G p=some o->R' p=some o):∃ x,t=some (some x)/\Dq R' x d:=by
 cases s with
 |un=>cases hs
 |sh d=>cases hs;obtain ⟨x,a,b⟩:=h;exact ⟨x,a,b.up hr⟩
 |ow ds=>cases hs;obtain ⟨p,xs,a,b,c,d⟩:=h;exact ⟨_,b,.lst (hg _ _ a c) (d.up hr)⟩
 |dc ds=>cases hs
 |on ds=>cases hs;obtain ⟨p,xs,a,b,c,d,e⟩:=h;exact ⟨_,b,.lst (hg _ _ a c) (e.dqs hr hg)⟩
 |rg d=>cases hs;obtain ⟨x,a,b⟩:=h;exact ⟨x,a,b.up λq o e=>by
   obtain ⟨n,e⟩:=qo e;exact hg q o (Classical.not_not.mp n) e⟩
end
structure RS (D:Addr->Prop) (G0:Gp) (A:Nat->Addr->Prop) (τ:St3) (ρ:Rho) (G:Gp):Prop where
 ex:Ex G0 G
 dm:Dom D G0
 fr:∀ i p,A i p->G0 p=none
 da:∀ i p,A i p->G p≠none
 inj:∀ i j p,A i p->A j p->i=j
 len:ρ.length=τ.length
 sl:∀ (i:Nat) (s:Sl),ρ[i]?=some s->SlR (rs (AD D A) G) G (A i) τ[i]? s
section
variable {D:Addr->Prop} {G0 G G':Gp} {A A':Nat->Addr->Prop} {τ:St3} {ρ:Rho}
theorem RS.sh (h:RS D G0 A τ ρ G) (i:Nat) (d:PyData) (e:ρ[i]?=some (Sl.sh d)):∃ t,τ[i]?=some (some t)/\Dq (rs (AD D A) G) t d:=h.sl i _ e
theorem RS.ow (h:RS D G0 A τ ρ G) (i:Nat) (ds:List PyData) (e:ρ[i]?=some (Sl.ow ds)):∃ p xs,A i p/\τ[i]?=some (some (.ref p))/\G p=some (.lst xs)/\Dqs (rs (AD D A) G) xs ds:=h.sl i _ e
def RS.nd (h:RS D G0 A τ ρ G) {i:Nat} {p:Addr} (e:A i p):¬ D p:=λz=>h.dm p z (h.fr i p e)
def RS.dom (h:RS D G0 A τ ρ G):Dom (AD D A) G:=λb hb=>by
 rcases hb with hb|⟨i,hi⟩
 ·exact (h.dm.up h.ex) b hb
 ·exact h.da i b hi
def RS.domD (h:RS D G0 A τ ρ G):Dom D G:=h.dm.up h.ex
def RS.keep (h:RS D G0 A τ ρ G) {W:Addr->Prop} (hg:∀ b o,¬ W b->G b=some o->G' b=some o) (hW:∀ b,W b->∃ j,A j b/\ρ[j]?=some Sl.un/\G' b≠none):RS D G0 A τ ρ G':=by
 have out:∀ b,W b->AD D A b:=λb z=>let ⟨j,a,_⟩:=hW b z;.inr ⟨j,a⟩
 have X:Ex (rs (AD D A) G) (rs (AD D A) G'):=λb o e=>by
  obtain ⟨n,e⟩:=qo e;rw [zY n];exact hg b o (λz=>n (out b z)) e
 refine ⟨λb o e=>hg b o (λz=>?_) (h.ex b o e),h.dm,h.fr,λi p a z=>?_,h.inj,h.len,λi s e=>(h.sl i s e).mono X (λnu p o a g=>hg p o (λz=>?_) g) λ_ z=>z⟩
 ·obtain ⟨j,a,_⟩:=hW b z;rw [h.fr j b a] at e;cases e
 ·by_cases c:W p
  ·obtain ⟨j,_,_,n⟩:=hW p c;exact n z
  ·cases g:G p with
   |none=>exact h.da i p a g
   |some o=>rw [hg p o c g] at z;cases z
 ·obtain ⟨j,b,u,_⟩:=hW p z;have:=h.inj i j p a b;subst this;rw [u] at e;cases e;exact nu rfl
def RS.up (h:RS D G0 A τ ρ G) (e:Ex G G'):RS D G0 A τ ρ G':=h.keep (W:=λ_=>False) (λb o _ z=>e b o z) λ_ z=>z.elim
def RS.viewAll (h:RS D G0 A τ ρ G) (fv:List Nat):XF fv D G τ ρ:=λi _ d hd=>by
 unfold vw at hd;obtain ⟨s,e,hd⟩:=obb hd;exact (h.sl i s e).vis hd (zt λb z=>.inl z) λp o a g=>by rw [zY (h.nd a)];exact g
def RS.view (h:RS D G0 A τ ρ G) {fv:List Nat} (hn:∀ i∈fv,∀ p,¬ A i p):XF fv (AD D A) G τ ρ:=λi hi d hd=>by
 unfold vw at hd;obtain ⟨s,e,hd⟩:=obb hd;exact (h.sl i s e).vis hd (λ_ _ z=>z) λp o a=>(hn i hi p a).elim
def Sl.dem:Sl->Sl
 |.ow ds=>.sh (.list ds)
 |.dc _=>.un
 |.on dss=>.sh (.list (dss.map PyData.list))
 |.rg d=>.sh d
 |s=>s
def dm:List Bool->Rho->Rho
 |b::m,s::r=>(match b with|true=>s.dem|false=>s)::dm m r
 |_,r=>r
def mkb (m:List Bool) (i:Nat):Bool:=(m[i]?).getD false
theorem qdN:∀ (m:List Bool) (ρ:Rho) (i:Nat),(dm m ρ)[i]?=(ρ[i]?).map λs=>if mkb m i=true then s.dem else s
 |[],ρ,i=>by simp [dm,mkb]
 |b::m,[],i=>by simp [dm]
 |b::m,s::r,0=>by cases b<;>simp [dm,mkb]
 |b::m,s::r,i+1=>by
  have:=qdN m r i;simp only [dm,getElem?_cons_succ,mkb] at this ⊢;exact this
def qoJ (s:Sl):s.dem.d=s.d:=by cases s<;>rfl
def qoe (m:List Bool) (ρ:Rho) (i:Nat):vw (dm m ρ) i=vw ρ i:=by
 unfold vw;rw [qdN];cases ρ[i]? with
 |none=>rfl
 |some s=>
  simp only [Option.map_some,Option.bind_some];split
  ·exact qoJ s
  ·rfl
theorem qfi:∀ (m:List Bool) (ρ:Rho),(dm m ρ).length=ρ.length
 |[],ρ=>rfl
 |b::m,[]=>rfl
 |b::m,s::r=>by simp [dm,qfi m r]
def Ad (m:List Bool) (A:Nat->Addr->Prop):Nat->Addr->Prop:=λi p=>A i p/\mkb m i=false
def qkj (s:Sl):s.dem=.un\/∃ d,s.dem=.sh d/\s.d=some d:=by cases s<;>simp [Sl.dem,Sl.d]
def RS.dem (h:RS D G0 A τ ρ G) (m:List Bool):RS D G0 (Ad m A) τ (Pu.dm m ρ) G:=by
 have less:Ex (rs (AD D A) G) (rs (AD D (Ad m A)) G):=zt λb z=>by
  rcases z with z|⟨i,z⟩
  ·exact .inl z
  ·exact .inr ⟨i,z.1⟩
 refine ⟨h.ex,h.dm,λi p e=>h.fr i p e.1,λi p e=>h.da i p e.1,λi j p a b=>h.inj i j p a.1 b.1,by rw [qfi];exact h.len,λi s e=>?_⟩;rw [qdN] at e;obtain ⟨s',e1,rfl⟩:=za1 e;have q:=h.sl i s' e1;split
 ·rename_i hm;rcases qkj s' with z|⟨d,z,hd⟩<;>rw [z]
  ·trivial
  ·refine q.vis hd less λp o a g=>?_;rw [zY]
   ·exact g
   ·rintro (z|⟨j,z⟩)
    ·exact h.nd a z
    ·have:=h.inj i j p a z.1;subst this;rw [z.2] at hm;cases hm
 ·rename_i hm;exact q.mono less (λ_ _ _ _ z=>z) λp z=>⟨z,by simpa using hm⟩
def RS.viewD (h:RS D G0 A τ ρ G) {m:List Bool} {fv:List Nat} (hm:Tru (fv.all (mkb m))):XF fv (AD D (Ad m A)) G τ ρ:=by
 have:=(h.dem m).view (fv:=fv) λi hi p z=>by have q:=List.all_eq_true.mp hm.h i hi;rw [z.2] at q;cases q
 intro i hi d hd;exact this i hi d (by rw [qoe];exact hd)
def Rg (A:Nat->Addr->Prop) (i:Nat) (B:Addr->Prop):Nat->Addr->Prop:=λj p=>(j=i/\B p)\/(j≠i/\A j p)
def RS.upd (h:RS D G0 A τ ρ G) (i:Nat) {x:T} {s:Sl} {B W:Addr->Prop} (hg:∀ b o,¬ W b->G b=some o->G' b=some o) (hW:∀ b,W b->∃ j,A j b/\(j=i\/(ρ[j]?=some Sl.un/\G' b≠none))) (hB:∀ b,B b->(A i b\/G b=none)/\G' b≠none)
  (hs:Ex (rs (AD D A) G) (rs (AD D (Rg A i B)) G')->SlR (rs (AD D (Rg A i B)) G') G' B (some (some x)) s):RS D G0 (Rg A i B) (τ.set i (some x)) (ρ.set i s) G':=by
 have X:Ex (rs (AD D A) G) (rs (AD D (Rg A i B)) G'):=λb o e=>by
  obtain ⟨n,e⟩:=qo e;rw [zY]
  ·exact hg b o (λz=>let ⟨j,a,_⟩:=hW b z;n (.inr ⟨j,a⟩)) e
  ·rintro (z|⟨j,⟨rfl,z⟩|⟨_,z⟩⟩)
   ·exact n (.inl z)
   ·rcases (hB b z).1 with z|z
    ·exact n (.inr ⟨j,z⟩)
    ·rw [z] at e;cases e
   ·exact n (.inr ⟨j,z⟩)
 have ng:∀ p,G p=none->G0 p=none:=λp g=>by
  cases z:G0 p with
  |none=>rfl
  |some o=>rw [h.ex _ _ z] at g;cases g
 refine ⟨λb o e=>hg b o (λz=>?_) (h.ex b o e),h.dm,λj p e=>?_,λj p e=>?_,λj k p a b=>?_,by simp [h.len],λj s' e=>?_⟩
 ·obtain ⟨j,a,_⟩:=hW b z;rw [h.fr j b a] at e;cases e
 ·rcases e with ⟨rfl,z⟩|⟨_,z⟩
  ·rcases (hB p z).1 with z|z
   ·exact h.fr j p z
   ·exact ng p z
  ·exact h.fr j p z
 ·rcases e with ⟨rfl,z⟩|⟨n,z⟩
  ·exact (hB p z).2
  ·intro g;by_cases c:W p
   ·obtain ⟨k,a,b|⟨_,b⟩⟩:=hW p c
    ·exact n ((h.inj j k p z a).trans b)
    ·exact b g
   ·cases g':G p with
    |none=>exact h.da j p z g'
    |some o=>rw [hg p o c g'] at g;cases g
 ·rcases a with ⟨rfl,a⟩|⟨n,a⟩<;>rcases b with ⟨rfl,b⟩|⟨n',b⟩
  ·rfl
  ·rcases (hB p a).1 with z|z
   ·exact h.inj _ _ p z b
   ·exact absurd z (h.da k p b)
  ·rcases (hB p b).1 with z|z
   ·exact h.inj _ _ p a z
   ·exact absurd z (h.da j p a)
  ·exact h.inj j k p a b
 ·rw [getElem?_set] at e ⊢;split at e
  ·rename_i hj;subst hj;split at e
   ·rename_i hl;cases e;rw [if_pos rfl,if_pos (by rw [← h.len];exact hl)];exact (hs X).mono (λ_ _ z=>z) (λ_ _ _ _ z=>z) λp z=>.inl ⟨rfl,z⟩
   ·cases e
  ·rename_i hj;rw [if_neg hj];refine (h.sl j s' e).mono X (λnu p o a g=>hg p o (λz=>?_) g) λp z=>.inr ⟨λy=>hj y.symm,z⟩;obtain ⟨k,b,y|⟨y,_⟩⟩:=hW p z
   ·exact hj ((h.inj j k p a b).trans y).symm
   ·have:=h.inj j k p a b;subst this;rw [e] at y;cases y;exact nu rfl
def qkV {m:List Bool} {i:Nat} {p:Addr} (h:Ad m A i p):A i p/\mkb m i=false:=h
abbrev Er (A:Nat->Addr->Prop) (i:Nat):Nat->Addr->Prop:=Rg A i λ_=>False
def qe1 {i j:Nat} {p:Addr} (h:Er A i j p):A j p/\j≠i:=by
 rcases h with ⟨_,z⟩|⟨n,z⟩
 ·exact z.elim
 ·exact ⟨z,n⟩
def RS.put (h:RS D G0 A τ ρ G) (i:Nat) {x:T} {d:PyData} (hx:Dq (rs (AD D A) G) x d):RS D G0 (Er A i) (τ.set i (some x)) (ρ.set i (.sh d)) G:=
 h.upd i (W:=λ_=>False) (λ_ _ _ z=>z) (λ_ z=>z.elim) (λ_ z=>z.elim) λX=>⟨x,rfl,hx.up X⟩
theorem RS.puts:∀ {ts:List (Nat×T)} {bs:List (Nat×PyData)} {A:Nat->Addr->Prop} {τ:St3} {ρ:Rho},RS D G0 A τ ρ G->Bd (rs (AD D A) G) ts bs->∃ A',RS D G0 A' (sets τ ts) (jJ ρ bs) G
 |_,_,A,_,_,h,.nil=>⟨A,h⟩
 |_,_,A,_,_,h,.cons (i:=i) a b=>by
  unfold sets jJ;exact RS.puts (h.put i a) (b.up (zt λb z=>by
   rcases z with z|⟨j,z⟩
   ·exact .inl z
   ·exact .inr ⟨j,(qe1 z).1⟩))
def RS.putN (h:RS D G0 A τ ρ G) (i:Nat) {x:T} {d:PyData} {ds:List PyData} (hd:d=.list ds) (E:Ex G G') (hx:Nw (AD D A) G G' x d):RS D G0 (Rg A i λb=>x=.ref b) (τ.set i (some x)) (ρ.set i (.ow ds)) G':=by
 rcases hx with hx|⟨p,xs,ds',rfl,e',gp,gp',hs⟩
 ·rw [hd] at hx;cases hx
 rw [hd] at e';cases e';refine h.upd i (W:=λ_=>False) (λb o _ z=>E b o z) (λ_ z=>z.elim) (λb z=>by cases z;exact ⟨.inr gp,by rw [gp'];simp⟩) λ_=>⟨p,xs,rfl,rfl,gp',hs.up (zt λb z=>?_)⟩
 rcases z with z|⟨j,⟨_,z⟩|⟨_,z⟩⟩
 ·exact .inl (.inl z)
 ·cases z;exact .inr rfl
 ·exact .inl (.inr ⟨j,z⟩)
def qev {i:Nat} {t:Option T} (h:τ[i]?=some t):τ.set i t=τ:=by
 apply List.ext_getElem?;intro j;rw [getElem?_set];split
 ·rename_i e;subst e;split
  ·exact h.symm
  ·rename_i n;rw [List.getElem?_eq_none (by omega)] at h;cases h
 ·rfl
def qhr {i:Nat}:Rg A i (A i)=A:=funext λj=>funext λp=>propext ⟨λz=>by
 rcases z with ⟨rfl,z⟩|⟨_,z⟩<;>exact z,λz=>by
 by_cases c:j=i
 ·subst c;exact .inl ⟨rfl,z⟩
 ·exact .inr ⟨c,z⟩⟩
def RS.wr (h:RS D G0 A τ ρ G) {i:Nat} {p:Addr} {xs:List T} {ds:List PyData} (hi:A i p) (ht:τ[i]?=some (some (.ref p))) (hs:Dqs (rs (AD D A) G) xs ds):RS D G0 A τ (ρ.set i (.ow ds)) (gu G p (.lst xs)):=by
 have:=h.upd i (G':=gu G p (.lst xs)) (x:=.ref p) (s:=.ow ds) (B:=A i) (W:=λb=>b=p) (λb o n z=>by rw [jc n];exact z) (λb z=>⟨i,by rw [z];exact hi,.inl rfl⟩) (λb z=>⟨.inl z,by
  by_cases c:b=p
  ·rw [c,qG];simp
  ·rw [jc c];exact h.da i b z⟩) λX=>⟨p,xs,hi,rfl,qG,hs.up X⟩
 rw [qev ht,qhr] at this;exact this
def RS.base {Gb:Gp} (h:RS D Gb A τ ρ G) (e:Ex G0 Gb) (hd:Dom D G0):RS D G0 A τ ρ G:=
 ⟨e.trans h.ex,hd,(λi p a=>by
  cases z:G0 p with
  |none=>rfl
  |some o=>have:=h.fr i p a;rw [e _ _ z] at this;cases this),h.da,h.inj,h.len,h.sl⟩
end
inductive Ot where
 |nx (ρ:Rho)|bk (ρ:Rho)|ct (ρ:Rho)|rt (d:PyData) (fr:Bool)
def Post (D:Addr->Prop) (G0:Gp) (e:Ends3):Ot->Prop
 |.nx ρ=>∀ A τ G,RS D G0 A τ ρ G->e.nx τ G
 |.bk ρ=>∀ A τ G,RS D G0 A τ ρ G->e.bk τ G
 |.ct ρ=>∀ A τ G,RS D G0 A τ ρ G->e.ct τ G
 |.rt d fr=>∀ x G,Ex G0 G->Dq (rs D G) x d->(fr=true->Nw D G0 G x d)->e.rt x G
theorem Post.base {D:Addr->Prop} {G0 Gb:Gp} {e:Ends3} {o:Ot} (h:Post D G0 e o) (x:Ex G0 Gb) (hd:Dom D G0):Post D Gb e o:=by
 cases o with
 |nx ρ=>exact λA τ G r=>h A τ G (r.base x hd)
 |bk ρ=>exact λA τ G r=>h A τ G (r.base x hd)
 |ct ρ=>exact λA τ G r=>h A τ G (r.base x hd)
 |rt d fr=>exact λy G a b c=>h y G (x.trans a) b λz=>(c z).back x
structure PuS (t:TS3) where
 f:Nat->Rho->Option Ot
 ok:∀ {D G0 A τ ρ G n o} {e:Ends3},RS D G0 A τ ρ G->f n ρ=some o->Post D G0 e o->t e τ G
def VB:PuS zE:=⟨λ_ ρ=>some (.nx ρ),λh hf k=>by cases hf;exact k _ _ _ h⟩
def qm8 (a b:Nat->Rho->Option Ot) (n:Nat) (ρ:Rho):Option Ot:=(a n ρ).bind λo=>match o with|.nx ρ'=>b n ρ'|o=>some o
def QK {t u:TS3} (a:PuS t) (b:PuS u):PuS (qK t u):=⟨qm8 a.f b.f,λ{D G0 A τ ρ G n o e} h hf k=>by
 unfold qm8 at hf;obtain ⟨o1,e1,hf⟩:=obb hf;refine a.ok h e1 ?_;cases o1 with
 |nx ρ'=>exact λA' τ' G' h'=>b.ok h' hf k
 |bk ρ'=>cases hf;exact k
 |ct ρ'=>cases hf;exact k
 |rt d fr=>cases hf;exact k⟩
def sIf {c:TT3} {t u:TS3} (pc:PuC c) (a:PuS t) (b:PuS u):PuS (Z5 c t u):=⟨λn ρ=>(pc.f ρ).bind λk=>if k then a.f n ρ else b.f n ρ,λh hf k=>by
 obtain ⟨o1,e1,hf⟩:=obb hf;refine pc.ok (h.viewAll _) h.domD e1 λG1 E1=>?_;cases o1 with
 |true=>exact a.ok (h.up E1) hf k
 |false=>exact b.ok (h.up E1) hf k⟩
def EC {t:TE3} (a:PuE t):PuS (zB t):=⟨λ_ ρ=>(a.f ρ).map λd=>.rt d a.nw,λh hf k=>by
 obtain ⟨d,e1,rfl⟩:=za1 hf;exact a.ok (h.viewAll _) h.domD e1 λx G1 E1 D1 N1=>k x G1 (h.ex.trans E1) D1 λz=>(N1 z).back h.ex⟩
def qc7 (ρ:Rho) (i:Nat):Option Ot:=match ρ[i]? with|some (.ow ds)=>some (.rt (.list ds) true)|some (.sh d)=>some (.rt d false)|_=>none
def CG (i:Nat):PuS (zB (v3 i)):=⟨λ_ ρ=>qc7 ρ i,λh hf k=>by
 unfold qc7 at hf;split at hf
 ·rename_i ds e;cases hf;obtain ⟨p,xs,b,c,g,f⟩:=h.ow i _ e;simp only [zB,v3,c];refine k _ _ h.ex (.lst (by rw [zY (h.nd b)];exact g) (f.up (zt λb z=>.inl z))) λ_=>.inr ⟨p,xs,ds,rfl,rfl,h.fr i p b,g,f.up (zt λq z=>?_)⟩;rcases z with z|z
  ·exact .inl z
  ·subst z;exact .inr ⟨i,b⟩
 ·rename_i d e;cases hf;obtain ⟨t,b,c⟩:=h.sh i _ e;simp only [zB,v3,b];exact k _ _ h.ex (c.up (zt λb z=>.inl z)) (λz=>by cases z)
 ·cases hf⟩
def WZ {H H':Gp} {x:T} {d:PyData} (h:Dq H x d) (s:RW d=true):Dq H' x d:=by
 cases h<;>first|(constructor;done)|(simp [RW] at s;done)
def qqj:PyData->Sl
 |.list ds=>.ow ds
 |d=>.sh d
def XW (m:List Bool) (nw:Bool) (i:Nat) (d:PyData) (ρ:Rho):Rho:=if RW d then ρ.set i (.sh d) else (dm m ρ).set i (if nw then qqj d else .sh d)
def EW {t:TE3} (a:PuE t) (i:Nat) (m:List Bool) (hm:Tru (a.fv.all (mkb m))):PuS (za t (gn3 i)):=⟨λ_ ρ=>(a.f ρ).map λd=>.nx (XW m a.nw i d ρ),λ{D G0 A τ ρ G n o e} h hf k=>by
 obtain ⟨d,e1,rfl⟩:=za1 hf;refine a.ok (h.viewD hm) (h.dem m).dom e1 λx G1 E1 D1 N1=>?_;unfold XW at k;show e.nx (τ.set i (some x)) G1;split at k
 ·rename_i hs;exact k _ _ _ ((h.up E1).put i (WZ D1 hs))
 ·split at k
  ·rename_i hn;have N:=N1 hn;rcases id N with h2|⟨p,xs,ds,h1,h2,_⟩
   ·exact absurd h2 (by assumption)
   subst h2;exact k _ _ _ ((h.dem m).putN i rfl E1 N)
  ·exact k _ _ _ (((h.dem m).up E1).put i D1)⟩
def qhb {t:TE3} {g:TG3} (a:PuE t) (pg:PuG g) (m:List Bool) (hm:Tru (a.fv.all (mkb m))):PuS (za t g):=⟨λ_ ρ=>(a.f ρ).bind λd=>(pg.f d).map λbs=>.nx (jJ (dm m ρ) bs),λ{D G0 A τ ρ G n o e} h hf k=>by
 obtain ⟨d,e1,hf⟩:=obb hf;obtain ⟨bs,e2,rfl⟩:=za1 hf;refine a.ok (h.viewD hm) (h.dem m).dom e1 λx G1 E1 D1 N1=>?_;obtain ⟨ts,bd,kg⟩:=pg.ok D1 e2;refine kg _ _ _ ?_;obtain ⟨A',h'⟩:=((h.dem m).up E1).puts bd;exact k _ _ _ h'⟩
def qiS (i j:Nat) (m:List Bool) (ds:List PyData) (ρ:Rho):Option Ot:=match ds with
 |[d,e]=>if RW d&&RW e then some (.nx ((ρ.set i (.sh d)).set j (.sh e))) else some (.nx (((dm m ρ).set i (.sh d)).set j (.sh e)))
 |_=>none
def qlr {D:Addr->Prop} {A:Nat->Addr->Prop} {G:Gp} {i:Nat}:Ex (rs (AD D A) G) (rs (AD D (Er A i)) G):=zt λb z=>by
 rcases z with z|⟨j,z⟩
 ·exact .inl z
 ·exact .inr ⟨j,(qe1 z).1⟩
def slot (ρ:Rho) (i:Nat):Option (List PyData):=match ρ[i]? with|some (.ow ds)=>some ds|_=>none
def YT {ρ:Rho} {i:Nat} {ds:List PyData} (h:slot ρ i=some ds):ρ[i]?=some (.ow ds):=by
 unfold slot at h;split at h
 ·rename_i e;cases h;exact e
 ·cases h
def dmS (m:List Bool) (d:PyData) (ρ:Rho):Rho:=if RW d then ρ else dm m ρ
def RS.evalS {D:Addr->Prop} {G0 G:Gp} {A:Nat->Addr->Prop} {τ:St3} {ρ:Rho} (h:RS D G0 A τ ρ G) {t:TE3} (a:PuE t) (m:List Bool) (hm:Tru (a.fv.all (mkb m))) {d:PyData} (hf:a.f ρ=some d):∃ A1,RS D G0 A1 τ (dmS m d ρ) G/\∀ q:Q3,(∀ x G',Ex G G'->Dq (rs (AD D A1) G') x d->q x G')->t τ G q:=by
 unfold dmS;by_cases hs:RW d=true
 ·rw [if_pos hs];exact ⟨A,h,λq k=>a.ok (h.viewAll _) h.domD hf λx G1 E1 D1 _=>k x G1 E1 (WZ D1 hs)⟩
 ·rw [if_neg hs];exact ⟨Ad m A,h.dem m,λq k=>a.ok (h.viewD hm) (h.dem m).dom hf λx G1 E1 D1 _=>k x G1 E1 D1⟩
def qjW (i:Nat) (d:PyData) (ρ:Rho):Option Ot:=(slot ρ i).bind λds=>cif (ds.length<sizeLine) (some (.nx (ρ.set i (.ow (ds++[d]))))) none
def qok {t:TE3} (a:PuE t) (i:Nat) (m:List Bool) (hm:Tru (a.fv.all (mkb m))):PuS (VO (bm3 qaT (v3 i) (qc t qj))):=⟨λ_ ρ=>(a.f ρ).bind λd=>qjW i d (dmS m d ρ),λ{D G0 A τ ρ G n o e} h hf k=>by
 obtain ⟨d,e1,hf⟩:=obb hf;obtain ⟨A1,h1,ev⟩:=h.evalS a m hm e1;unfold qjW at hf;obtain ⟨ds,e2,hf⟩:=obb hf;unfold cif at hf;split at hf
 ·rename_i hl;cases hf;obtain ⟨p,xs,b,c,g,f⟩:=h1.ow i _ (YT e2);simp only [VO,bm3,v3,c,ze g];refine ⟨rfl,ev _ λx G1 E1 D1=>?_⟩;simp only [qj,qaT,E1 _ _ g];exact ⟨by rw [f.length];exact hl,k _ _ _ ((h1.up E1).wr b c ((f.up (zC E1)).append (.cons D1 .nil)))⟩
 ·cases hf⟩
def qg3 (i:Nat) (d:PyData) (ρ:Rho):Option Ot:=match d with|.list es=>(slot ρ i).bind λds=>cif (ds.length+es.length<=sizeLine) (some (.nx (ρ.set i (.ow (ds++es))))) none|_=>none
def qon {t:TE3} (a:PuE t) (i:Nat) (m:List Bool) (hm:Tru (a.fv.all (mkb m))):PuS (VO (bm3 qhK (v3 i) (qc t qj))):=⟨λ_ ρ=>(a.f ρ).bind λd=>qg3 i d (dmS m d ρ),λ{D G0 A τ ρ G n o e} h hf k=>by
 obtain ⟨d,e1,hf⟩:=obb hf;obtain ⟨A1,h1,ev⟩:=h.evalS a m hm e1;unfold qg3 at hf;split at hf
 ·obtain ⟨ds,e2,hf⟩:=obb hf;unfold cif at hf;split at hf
  ·rename_i hl;cases hf;obtain ⟨p,xs,b,c,g,f⟩:=h1.ow i _ (YT e2);simp only [VO,bm3,v3,c,ze g];refine ⟨rfl,ev _ λx G1 E1 D1=>?_⟩;cases D1 with
   |lst g2 hs2=>
    simp only [qj,qhK,E1 _ _ g,(qo g2).2];exact ⟨by rw [f.length,hs2.length];exact hl,k _ _ _ ((h1.up E1).wr b c ((f.up (zC E1)).append hs2))⟩
  ·cases hf
 ·cases hf⟩
def qlo (i:Nat) (k d:PyData) (ρ:Rho):Option Ot:=(asI k).bind λk=>(slot ρ i).bind λds=>(ixN ds.length k).bind λj=>some (.nx (ρ.set i (.ow (ds.set j d))))
def XS (gf:PyData->Option (List (Nat×PyData))) (bf:Rho->Option Ot):List PyData->Rho->Option Ot
 |[],ρ=>some (.nx ρ)
 |d::r,ρ=>(gf d).bind λbs=>(bf (jJ ρ bs)).bind λo=>match o with
  |.nx ρ'=>XS gf bf r ρ'
  |.ct ρ'=>XS gf bf r ρ'
  |.bk ρ'=>some (.nx ρ')
  |.rt d b=>some (.rt d b)
theorem MB {stay:Gp->Prop} {g:TG3} {tb:TS3} {e:Ends3} (pg:PuG g) (pb:PuS tb) {D:Addr->Prop} {G0:Gp} {n:Nat} {o:Ot} {items0:List T} (hs:∀ A τ ρ G,RS D G0 A τ ρ G->stay G) (k:Post D G0 e o) :
  ∀ (ds:List PyData) (items:List T),(∀ A τ ρ G,RS D G0 A τ ρ G->Dqs (rs (AD D A) G) items ds)->∀ A τ ρ G,RS D G0 A τ ρ G->XS pg.f (pb.f n) ds ρ=some o->CJ stay g tb e items τ G
 |[],items,hi,A,τ,ρ,G,h,hf=>by
  cases hf;have:=hi _ _ _ _ h;cases this;exact ⟨hs _ _ _ _ h,k _ _ _ h⟩
 |d::ds,items,hi,A,τ,ρ,G,h,hf=>by
  have hh:=hi _ _ _ _ h;cases hh with
  |cons hx hr=>
   rename_i x items;unfold XS at hf;obtain ⟨bs,e1,hf⟩:=obb hf;obtain ⟨o1,e2,hf⟩:=obb hf;obtain ⟨ts,bd,kg⟩:=pg.ok hx e1;refine ⟨hs _ _ _ _ h,kg _ _ _ ?_⟩;obtain ⟨A',h'⟩:=h.puts bd;refine pb.ok h' e2 ?_;have hi':∀ A τ ρ G,RS D G0 A τ ρ G->Dqs (rs (AD D A) G) items ds:=λA τ ρ G h=>by
    have:=hi _ _ _ _ h;cases this with
    |cons a b=>exact b
   cases o1 with
   |nx ρ'=>exact λA2 τ2 G2 h2=>MB (items0:=items0) pg pb hs k ds items hi' _ _ _ _ h2 hf
   |ct ρ'=>exact λA2 τ2 G2 h2=>MB (items0:=items0) pg pb hs k ds items hi' _ _ _ _ h2 hf
   |bk ρ'=>cases hf;exact k
   |rt d fr=>cases hf;exact k
def qi8 (pi:Rho->Option (List PyData)) (nm:Bool) (m:List Bool) (gf:PyData->Option (List (Nat×PyData))) (bf:Nat->Rho->Option Ot) (n:Nat) (ρ:Rho):Option Ot:=(pi ρ).bind λds=>XS gf (bf n) ds (if nm then ρ else dm m ρ)
def MV {wi:TI3} {g:TG3} {tb:TS3} (pi:PuI wi) (pg:PuG g) (pb:PuS tb) (m:List Bool) (hm:Tru (pi.fv.all (mkb m))):PuS (EX wi g tb):=⟨qi8 pi.f pi.nm m pg.f pb.f,λ{D G0 A τ ρ G n o e} h hf k=>by
 unfold qi8 at hf;obtain ⟨ds,e1,hf⟩:=obb hf;refine pi.ok (h.viewD hm) (h.dem m).dom e1 λitems stay G1 E1 D1 hs hnm=>?_;cases hb:pi.nm with
 |true=>
  rw [hb,if_pos rfl] at hf;obtain ⟨ns,rfl⟩:=hnm hb;have:=D1.ints;subst this;exact MB (items0:=[]) pg pb (λ_ _ _ _ _=>hs _ (.inl hb)) k _ _ (λA τ ρ G _=>Dqs.ofInts _) _ _ _ _ (h.up E1) hf
 |false=>
  rw [hb,if_neg y8] at hf;have h1:=(h.dem m).up E1;have b1:Ex G0 (rs (λb=>∃ i,Ad m A i b) G1):=λb o e=>by
   rw [zY]
   ·exact h1.ex _ _ e
   ·rintro ⟨i,z⟩;rw [h1.fr i _ z] at e;cases e
  have h2:RS D (rs (λb=>∃ i,Ad m A i b) G1) (Ad m A) τ (dm m ρ) G1:=⟨VI,h.dm.up b1,λi p z=>by unfold rs;exact qL ⟨i,z⟩,h1.da,h1.inj,h1.len,h1.sl⟩
  have X:∀ A2 τ2 ρ2 G2,RS D (rs (λb=>∃ i,Ad m A i b) G1) A2 τ2 ρ2 G2->Ex (rs (AD D (Ad m A)) G1) (rs (AD D A2) G2):=λA2 τ2 ρ2 G2 r b o e=>by
   obtain ⟨n1,e⟩:=qo e;have eb:rs (λb=>∃ i,Ad m A i b) G1 b=some o:=by rw [zY (λz=>n1 (.inr z))];exact e
   rw [zY]
   ·exact r.ex _ _ eb
   ·rintro (z|⟨i,z⟩)
    ·exact n1 (.inl z)
    ·rw [r.fr i _ z] at eb;cases eb
  exact MB (items0:=[]) pg pb (λA2 τ2 ρ2 G2 r=>hs _ (.inr ((X _ _ _ _ r).trans VI))) (k.base b1 h.dm) _ _ (λA2 τ2 ρ2 G2 r=>D1.up (X _ _ _ _ r)) _ _ _ _ h2 hf⟩
def ZU (fr:Bool):Option Ot->Option PyData
 |some (.rt d b)=>if fr=true/\b=false then (match d with|.none=>some .none|_=>none) else some d
 |some (.nx _)=>if fr then none else some .none
 |_=>none
def st (ds:List PyData) (N:Nat):Rho:=ds.map Sl.sh++List.replicate (N-ds.length) .un
def qnr {D:Addr->Prop} {G:Gp} {ts:List T} {ds:List PyData} (N:List Str) (hs:Dqs (rs D G) ts ds) (hd:Dom D G):RS D G (λ_ _=>False) (qE N ts) (st ds N.length) G:=by
 refine ⟨Ex.refl,hd,(λi p e=>e.elim),(λi p e=>e.elim),(λi j p e=>e.elim),(by simp [st,qE,hs.length]),λi s e=>?_⟩;unfold st at e;unfold qE;by_cases hi:i<ds.length
 ·rw [List.getElem?_append_left (by simpa using hi),getElem?_map] at e;obtain ⟨d2,e3,rfl⟩:=za1 e;obtain ⟨x,e5,hx⟩:=hs.get e3;refine ⟨x,?_,hx.up (zt λb z=>?_)⟩
  ·rw [List.getElem?_append_left (by simp [hs.length];exact hi),getElem?_map,e5];rfl
  ·rcases z with z|⟨i,z⟩
   ·exact z
   ·exact z.elim
 ·rw [List.getElem?_append_right (by simpa using hi),List.getElem?_replicate] at e;split at e<;>cases e
  trivial
def run (f:Nat->Rho->Option Ot) (k N n:Nat) (fr:Bool) (ds:List PyData):Option PyData:=if ds.length=k then ZU fr (f n (st ds N)) else none
def qV {t:TS3} (b:PuS t) (N:List Str) (k n:Nat) (fr:Bool):∀ ts G q,PSp (run b.f k N.length n fr) fr ts G q->ts.length=k/\t { nx:=λ_ G'=>q .non G',rt:=q } (qE N ts) G:=by
 rintro ts G q ⟨D,ds,d,hs,hd,hf,h⟩;unfold run at hf;split at hf
 ·rename_i hk;refine ⟨by rw [hs.length];exact hk,?_⟩;have r:=qnr N hs hd;unfold ZU at hf;split at hf
  ·rename_i d' b' e;split at hf
   ·split at hf
    ·cases hf;exact b.ok r e λx G' a c z=>h x G' a c λ_=>.inl rfl
    ·cases hf
   ·rename_i hb;cases hf;exact b.ok r e λx G' a c z=>h x G' a c λw=>z (by
     cases b' with
     |true=>rfl
     |false=>exact absurd ⟨w,rfl⟩ hb)
  ·rename_i ρ' e;split at hf
   ·cases hf
   ·rename_i hb;cases hf;exact b.ok r e λA τ G' r'=>h .non G' r'.ex .non λw=>absurd w hb
  ·cases hf
 ·cases hf
def qem {fr:Bool}:∀ ts G q,PSp (λ_=>none) fr ts G q->False:=λts G q ⟨_,_,_,_,_,h,_⟩=>by cases h
def Fn3.pz {P:Program} {w:World} {K:Frg} {mg:Str->Option Value} {base:Heap} {k:Nat} {x:Str} {sp:Sp3} (F:Fn3 P w K mg base k x sp) (fr:Bool):Fn3 P w K mg base k x (PSp (λ_=>none) fr):=F.imp λts G q h=>(qem ts G q h).elim
def qo8 {i:Nat}:(bV i).f=λρ=>vw ρ i:=id rfl
def qfp {i:Int}:(qP i).f=λ_=>some (.int i):=id rfl
def qlH {i:Bool}:(bBl i).f=λ_=>some (.bool i):=id rfl
def qfA {i:Str}:(qdy i).f=λ_=>some (.str i):=id rfl
def qfO:qaH.f=λ_=>some .none:=id rfl
def qpH {r:R3} {ta tb:TE3} {R:OpD r} {a:PuE ta} {b:PuE tb}:(bO R a b).f=λρ=>(a.f ρ).bind λx=>(b.f ρ).bind λy=>R.f x y:=id rfl
def qgx:qm.f=λ_=>some []:=id rfl
def qdw {ta:TE3} {tr:TA3} {a:PuE ta} {r:PuA tr}:(qe a r).f=λρ=>(a.f ρ).bind λx=>(r.f ρ).bind λxs=>some (x::xs):=id rfl
def qeZ {t:TA3} {a:PuA t} {hn:Tru (Nat.ble a.n 1000)}:(KA a hn).f=λρ=>(a.f ρ).map .tuple:=id rfl
def qfe {t:TA3} {a:PuA t} {hn:Tru (Nat.ble a.n 1000)}:(ZY a hn).f=λρ=>(a.f ρ).map .list:=id rfl
def qc4 {r:List T->Gp->Q3->Prop} {t:TA3} {R:FnD r} {a:PuA t}:(qw R a).f=λρ=>(a.f ρ).bind R.f:=id rfl
def qlQ {t:TE3} {a:PuE t}:(bTb a).f=λρ=>(a.f ρ).bind asB:=id rfl
def qgD {t u:TT3} {a:PuC t} {b:PuC u}:(qi1 a b).f=λρ=>(a.f ρ).bind λk=>if k then b.f ρ else some false:=id rfl
def qmH {t u:TT3} {a:PuC t} {b:PuC u}:(bOr a b).f=λρ=>(a.f ρ).bind λk=>if k then some true else b.f ρ:=id rfl
def qfd {t:TT3} {a:PuC t}:(qdM a).f=λρ=>(a.f ρ).map (! ·):=id rfl
def qmO:bTt.f=λ_=>some true:=id rfl
def qdv {ta tb:TE3} {a:PuE ta} {b:PuE tb}:(KG a b).f=λρ=>((a.f ρ).bind asB).bind λk=>if k then b.f ρ else some (.bool false):=id rfl
def qb4 {ta:TE3} {a:PuE ta}:(qiR a).f=λρ=>((a.f ρ).bind asB).map λk=>.bool (!k):=id rfl
def qjz {t:TT3} {ta tb:TE3} {c:PuC t} {a:PuE ta} {b:PuE tb}:(bIf c a b).f=λρ=>(c.f ρ).bind λk=>if k then a.f ρ else b.f ρ:=id rfl
def qe2 {ta:TE3} {a:PuE ta}:(qnE a).f=λρ=>((a.f ρ).bind asI).map λi=>.int (-i):=id rfl
def qmz {r r':R3} {ta tb tc:TE3} {R:OpD r} {R':OpD r'} {a:PuE ta} {b:PuE tb} {c:PuE tc}:(bCh R R' a b c).f=λρ=>(a.f ρ).bind λx=>(b.f ρ).bind λy=>((R.f x y).bind asB).bind λk=>if k then (c.f ρ).bind λz=>R'.f y z else some (.bool false):=id rfl
def qfv {ta:TE3} {a:PuE ta}:(qn1 a).f=λρ=>((a.f ρ).bind asI).map λi=>.int (Builtin.Int.intBits i):=id rfl
def qfZ {ta:TE3} {g:String->Bool} {a:PuE ta}:(qax g a).f=λρ=>(a.f ρ).bind λd=>(tyD d).map λt=>.bool (g t):=id rfl
def qkL:bNp.f=λ_=>some none:=id rfl
def qkx {t:TE3} {a:PuE t}:(bSp a).f=λρ=>((a.f ρ).bind asI).map some:=id rfl
def qkq {te:TE3} {tl th:TO3} {a:PuE te} {l:PuO tl} {h:PuO th}:(bSl a l h).f=λρ=>(a.f ρ).bind λd=>(l.f ρ).bind λlo=>(h.f ρ).bind λhi=>slD d lo hi:=id rfl
def qmA {wi:TI3} {g:TG3} {tif:TT3} {te:TE3} {pi:PuI wi} {pg:PuG g} {pc:PuC tif} {pe:PuE te} {m:List (Option Nat)} {hm:Tru (pg.tg.all λi=>m[i]?==some none)}:(bLc pi pg pc pe m hm).f=lcF pi.f (lcH pg.f pc.f pe.f) m:=id rfl
def qe3 {wi wi2:TI3} {g g2:TG3} {tif tif2:TT3} {te:TE3} {pi:PuI wi} {pg:PuG g} {pc:PuC tif} {pi2:PuI wi2} {pg2:PuG g2} {pc2:PuC tif2} {pe:PuE te} {m:List (Option Nat)} {hm:Tru (pg.tg.all λi=>m[i]?==some none)} {hm2:Tru (pg2.tg.all λi=>m[i]?==some none)} {hdj:Tru (pg2.tg.all λi=>!pg.tg.contains i)}:(qoo pi pg pc pi2 pg2 pc2 pe m hm hm2 hdj).f=qj4 pi.f (qjA pg.f pc.f pi2.f (lcH pg2.f pc2.f pe.f)) m:=id rfl
def qgP:T6.f=qmt:=id rfl
def qgq:qmX.f=qne:=id rfl
def qgb:qpG.f=qmW:=id rfl
def qgM:qi3.f=qm3:=id rfl
def qf0:qi5.f=qmS:=id rfl
def qfC:qnc.f=qjP:=id rfl
def qbm:qeK.f=mxD:=id rfl
def qbL {F:List PyData->Option PyData} {fr:Bool}:(zg F fr).f=F:=id rfl
def qjo {g:Int->Int->Int} {i j:Int}:(opI g).f (.int i) (.int j)=some (.int (g i j)):=id rfl
def qjI {g:Int->Int->Bool} {i j:Int}:(opB g).f (.int i) (.int j)=some (.bool (g i j)):=id rfl
def qly {C:Int->Int->Prop} {g:Int->Int->Int}:(opC C g).f=cI C g:=id rfl
def qgF {n:Bool}:(UC n).f=eqD n:=id rfl
def qbr {n:Bool}:(LV n).f=qdH n:=id rfl
def qbP {n:Bool}:(qlq n).f=qmT n:=id rfl
def qgU {n:Bool}:(qng n).f=inD n:=id rfl
def qfB:CU.f=ixD:=id rfl
def qa4:RU.f=qmV:=id rfl
def L6:VU.f=qaW:=id rfl
def qfG {t:TE3} {a:PuE t}:(qaP a).f=λρ=>(a.f ρ).bind SG:=id rfl
def qgz {t:TA3} {a:PuA t}:(qhG a).f=λρ=>(a.f ρ).bind qf6:=id rfl
def qdq {t:TA3} {a:PuA t}:(T3 a).f=λρ=>(a.f ρ).bind λds=>match ds with|[d]=>(SG d).map λus=>enD 0 us|_=>none:=id rfl
def qa8 {t:TE3} {a:PuE t}:(qaP a).nm=false:=id rfl
def MS {t:TA3} {a:PuA t}:(T3 a).nm=false:=id rfl
def qbR {t:TA3} {a:PuA t}:(qhG a).nm=true:=id rfl
def qo6 {i:Nat}:(gN i).f=λd=>some [(i,d)]:=id rfl
def qgn:NF.f []=some []:=id rfl
def qdb {t:TG3} {u:MD} {a:PuG t} {b:PuGs u} {d:PyData} {r:List PyData}:(je a b).f (d::r)=(a.f d).bind λx=>(b.f r).map λy=>x++y:=id rfl
def qfm {u:MD} {n:Nat} {b:PuGs u} {ds:List PyData}:(M1 n b).f (.tuple ds)=if ds.length=n then b.f ds else none:=id rfl
def qdr:VB.f=λ_ ρ=>some (.nx ρ):=id rfl
def qe0 {t u:TS3} {a:PuS t} {b:PuS u}:(QK a b).f=qm8 a.f b.f:=id rfl
def qjR {c:TT3} {t u:TS3} {pc:PuC c} {a:PuS t} {b:PuS u}:(sIf pc a b).f=λn ρ=>(pc.f ρ).bind λk=>if k then a.f n ρ else b.f n ρ:=id rfl
def qf2 {t:TE3} {a:PuE t}:(EC a).f=λ_ ρ=>(a.f ρ).map λd=>.rt d a.nw:=id rfl
def qdB {i:Nat}:(CG i).f=λ_ ρ=>qc7 ρ i:=id rfl
def qgt {t:TE3} {a:PuE t} {i:Nat} {m:List Bool} {hm:Tru (a.fv.all (mkb m))}:(EW a i m hm).f=λ_ ρ=>(a.f ρ).map λd=>.nx (XW m a.nw i d ρ):=id rfl
def qb5 {t:TE3} {g:TG3} {a:PuE t} {pg:PuG g} {m:List Bool} {hm:Tru (a.fv.all (mkb m))}:(qhb a pg m hm).f=λ_ ρ=>(a.f ρ).bind λd=>(pg.f d).map λbs=>.nx (jJ (dm m ρ) bs):=id rfl
def qgT {t:TE3} {a:PuE t} {i:Nat} {m:List Bool} {hm:Tru (a.fv.all (mkb m))}:(qok a i m hm).f=λ_ ρ=>(a.f ρ).bind λd=>qjW i d (dmS m d ρ):=id rfl
def qe4 {t:TE3} {a:PuE t} {i:Nat} {m:List Bool} {hm:Tru (a.fv.all (mkb m))}:(qon a i m hm).f=λ_ ρ=>(a.f ρ).bind λd=>qg3 i d (dmS m d ρ):=id rfl
def qfX {wi:TI3} {g:TG3} {tb:TS3} {pi:PuI wi} {pg:PuG g} {pb:PuS tb} {m:List Bool} {hm:Tru (pi.fv.all (mkb m))}:(MV pi pg pb m hm).f=qi8 pi.f pi.nm m pg.f pb.f:=id rfl
def qcW {i:Int}:(qP i).nw=false:=id rfl
def qfj {i:Bool}:(bBl i).nw=false:=id rfl
def qaX:qaH.nw=false:=id rfl
def qjy {r:R3} {ta tb:TE3} {R:OpD r} {a:PuE ta} {b:PuE tb}:(bO R a b).nw=R.nw:=id rfl
def qb2 {t:TA3} {a:PuA t} {hn:Tru (Nat.ble a.n 1000)}:(KA a hn).nw=false:=id rfl
def qdh {t:TA3} {a:PuA t} {hn:Tru (Nat.ble a.n 1000)}:(ZY a hn).nw=true:=id rfl
def L4 {r:List T->Gp->Q3->Prop} {t:TA3} {R:FnD r} {a:PuA t}:(qw R a).nw=R.nw:=id rfl
def MF {F:List PyData->Option PyData} {fr:Bool}:(zg F fr).nw=fr:=id rfl
def M0 {ta tb:TE3} {a:PuE ta} {b:PuE tb}:(KG a b).nw=false:=id rfl
def qgu {t:TT3} {ta tb:TE3} {c:PuC t} {a:PuE ta} {b:PuE tb}:(bIf c a b).nw=false:=id rfl
def qgH {wi:TI3} {g:TG3} {tif:TT3} {te:TE3} {pi:PuI wi} {pg:PuG g} {pc:PuC tif} {pe:PuE te} {m:List (Option Nat)} {hm:Tru (pg.tg.all λi=>m[i]?==some none)}:(bLc pi pg pc pe m hm).nw=true:=id rfl
def qbI {wi wi2:TI3} {g g2:TG3} {tif tif2:TT3} {te:TE3} {pi:PuI wi} {pg:PuG g} {pc:PuC tif} {pi2:PuI wi2} {pg2:PuG g2} {pc2:PuC tif2} {pe:PuE te} {m:List (Option Nat)} {hm:Tru (pg.tg.all λi=>m[i]?==some none)} {hm2:Tru (pg2.tg.all λi=>m[i]?==some none)} {hdj:Tru (pg2.tg.all λi=>!pg.tg.contains i)}:(qoo pi pg pc pi2 pg2 pc2 pe m hm hm2 hdj).nw=true:=id rfl
def qb7:qmX.nw=false:=id rfl
def qca:qi5.nw=false:=id rfl
def NK:qeK.nw=false:=id rfl
def qdt:qnc.nw=true:=id rfl
def qbM:CU.nw=false:=id rfl
def MG:RU.nw=false:=id rfl
def SK:VU.nw=true:=id rfl
def qfh {g:Int->Int->Int}:(opI g).nw=false:=id rfl
def qgv {C:Int->Int->Prop} {g:Int->Int->Int}:(opC C g).nw=false:=id rfl
def qpr {s:Sl} {r:Rho}:vw (s::r) 0=s.d:=id rfl
def qpc {s:Sl} {r:Rho} {i:Nat}:vw (s::r) (i+1)=vw r i:=id rfl
def qkh {d:PyData}:(Sl.sh d).d=some d:=id rfl
def qjM {ds:List PyData}:(Sl.ow ds).d=some (.list ds):=id rfl
def K3 {r:Rho} {ds:List PyData}:slot (.ow ds::r) 0=some ds:=id rfl
def qb9 {s:Sl} {r:Rho} {i:Nat}:slot (s::r) (i+1)=slot r i:=id rfl
def qc6 {r:Rho} {ds:List PyData}:qc7 (.ow ds::r) 0=some (.rt (.list ds) true):=id rfl
def qdo {r:Rho} {d:PyData}:qc7 (.sh d::r) 0=some (.rt d false):=id rfl
def qgX {s:Sl} {r:Rho} {i:Nat}:qc7 (s::r) (i+1)=qc7 r i:=id rfl
def qeI {xs:List PyData} {i:Int}:ixD (.tuple xs) (.int i)=L2.atI xs i:=id rfl
def qiA {xs:List PyData} {i:Int}:ixD (.list xs) (.int i)=L2.atI xs i:=id rfl
def at0 {α:Type} {a:α} {r:List α}:L2.atI (a::r) 0=some a:=by simp [L2.atI,ixN]
def at1 {α:Type} {a b:α} {r:List α}:L2.atI (a::b::r) 1=some b:=by
 have h:ixN (a::b::r).length 1=some 1:=by unfold ixN;rw [if_pos (by omega),if_pos (by simp;omega)];rfl
 unfold L2.atI;rw [h];rfl
def atN {α:Type} {xs:List α} {k:Nat} (h:k<xs.length):L2.atI xs (k:Int)=xs[k]?:=by
 have e:ixN xs.length (k:Int)=some k:=by unfold ixN;rw [if_pos (by omega),if_pos (by omega)];rfl
 unfold L2.atI;rw [e];rfl
def eqS {n:Bool} {a b:Str}:eqD n (.str a) (.str b)=some (.bool (if n then !decide (a=b) else decide (a=b))):=id rfl
def eqI {n:Bool} {a b:Int}:eqD n (.int a) (.int b)=some (.bool (if n then !decide (a=b) else decide (a=b))):=id rfl
def qch {C:Int->Int->Prop} {g:Int->Int->Int} {i j:Int} (h:C i j):cI C g (.int i) (.int j)=some (.int (g i j)):=by simp only [cI];exact qL h
def WO {i j:Int} (h:-1000000<j/\j<1000000):cI J6 (·*·) (.int i) (.int j)=some (.int (i*j)):=qch (.inr ⟨by omega,by omega⟩)
def qgN {i j:Int} (h:0<j):cI (λ_ j=>0<j) (·%·) (.int i) (.int j)=some (.int (i%j)):=qch h
def qfQ {i j:Int} (h:0<j/\j<1073741824):cI qeQ (·/·) (.int i) (.int j)=some (.int (i/j)):=qch h
def qmc {i j:Int} (h:0<=j/\j<=1000000/\i.natAbs<2 ^ 64):cI qco (λi j=>i*2 ^ j.toNat) (.int i) (.int j)=some (.int (i*2 ^ j.toNat)):=qch h
def qkp {i j:Int} (h:0<=j):cI (λ_ j=>0<=j) (λi j=>i/2 ^ j.toNat) (.int i) (.int j)=some (.int (i/2 ^ j.toNat)):=qch h
def qpn {i j:Int}:qmV (.int i) (.int j)=some (.int (i+j)):=id rfl
def qlY {xs ys:List PyData} (h:xs.length+ys.length<=16777216):qaW (.list xs) (.list ys)=some (.list (xs++ys)):=by simp only [qaW];exact qL h
def qcB {j:Int} (h:-1000000000<=j/\j<1000000000):qf6 [.int j]=some ((XE 0 j.toNat).map PyData.int):=by simp only [qf6];exact qL ⟨by omega,by omega⟩
def MT {pi:Rho->Option (List PyData)} {h:Rho->PyData->Option (Option PyData)} {m:List (Option Nat)} {ρ:Rho} {ds fs:List PyData} (h1:pi ρ=some ds) (h2:lcP (h (T8 m ρ)) ds=some fs) (h3:fs.length<=16777216):lcF pi h m ρ=some (.list fs):=by unfold lcF;rw [h1];simp only [Option.bind_some,h2];exact qL h3
def qhx {pi:Rho->Option (List PyData)} {h:Rho->PyData->Option (Option (List PyData))} {m:List (Option Nat)} {ρ:Rho} {ds fs:List PyData} (h1:pi ρ=some ds) (h2:qiK (h (T8 m ρ)) ds=some fs) (h3:fs.length<=16777216):qj4 pi h m ρ=some (.list fs):=by unfold qj4;rw [h1];simp only [Option.bind_some,h2];exact qL h3
def KJ {i:Nat} {d:PyData} {ρ:Rho} {ds:List PyData} (h:slot ρ i=some ds) (hl:ds.length<16777216):qjW i d ρ=some (.nx (ρ.set i (.ow (ds++[d])))):=by unfold qjW;rw [h];simp only [Option.bind_some];exact qL hl
def qdX {gf:PyData->Option (List (Nat×PyData))} {bf:Rho->Option Ot} {α:Type} {g:α->PyData} (xs:List α) (I:Nat->Rho->Prop) {ρ:Rho} (h0:I 0 ρ)
  (hs:∀ i x ρ,xs[i]?=some x->I i ρ->∃ bs ρ',gf (g x)=some bs/\(bf (jJ ρ bs)=some (.nx ρ')\/bf (jJ ρ bs)=some (.ct ρ'))/\I (i+1) ρ'):∃ ρ',XS gf bf (xs.map g) ρ=some (.nx ρ')/\I xs.length ρ':=by
 have key:∀ (r:List α) (i:Nat) (ρ:Rho),xs.drop i=r->i<=xs.length->I i ρ->∃ ρ',XS gf bf (r.map g) ρ=some (.nx ρ')/\I xs.length ρ':=by
  intro r;induction r with
  |nil=>
   intro i ρ e hi h;have:i=xs.length:=by
    have:=congrArg List.length e;simp at this;omega
   subst this;exact ⟨ρ,rfl,h⟩
  |cons x r ih=>
   intro i ρ e hi h;have hl:i<xs.length:=by
    have:=congrArg List.length e;simp at this;omega
   have e':=List.drop_eq_getElem_cons hl;rw [e] at e';injection e' with e1 e2;obtain ⟨bs,ρ',h1,h2,h3⟩:=hs i x ρ (by rw [v4 hl,e1]) h;obtain ⟨ρ2,h4,h5⟩:=ih (i+1) ρ' e2.symm hl h3;refine ⟨ρ2,?_,h5⟩;simp only [map_cons,XS,h1,Option.bind_some];rcases h2 with h2|h2<;>(rw [h2];exact h4)
 exact key xs 0 ρ (by simp) (Nat.zero_le _) h0
def qc5 {gf:PyData->Option (List (Nat×PyData))} {bf:Rho->Option Ot} {α:Type} {g:α->PyData} (xs:List α) (n:Nat) (x:α) (hn:xs[n]?=some x) (I:Nat->Rho->Prop) {ρ:Rho} {o:Ot} (h0:I 0 ρ)
  (hs:∀ i x ρ,i<n->xs[i]?=some x->I i ρ->∃ bs ρ',gf (g x)=some bs/\(bf (jJ ρ bs)=some (.nx ρ')\/bf (jJ ρ bs)=some (.ct ρ'))/\I (i+1) ρ')
  (he:∀ ρ,I n ρ->∃ bs,gf (g x)=some bs/\((∃ d b,o=.rt d b/\bf (jJ ρ bs)=some (.rt d b))\/∃ ρ',o=.nx ρ'/\bf (jJ ρ bs)=some (.bk ρ'))):XS gf bf (xs.map g) ρ=some o:=by
 have hl:=(za2 hn).1;have key:∀ (k i:Nat) (ρ:Rho),i+k=n->I i ρ->XS gf bf ((xs.drop i).map g) ρ=some o:=by
  intro k;induction k with
  |zero=>
   intro i ρ e h;have:i=n:=by omega
   subst this;obtain ⟨bs,h1,h2⟩:=he ρ h;rw [List.drop_eq_getElem_cons hl];have ex:xs[i]=x:=by
    rw [v4 hl] at hn;exact Option.some.inj hn
   rw [ex];simp only [map_cons,XS,h1,Option.bind_some];rcases h2 with ⟨d,b,rfl,h2⟩|⟨ρ',rfl,h2⟩<;>(rw [h2];rfl)
  |succ k ih=>
   intro i ρ e h;have hi:i<xs.length:=by omega
   obtain ⟨bs,ρ',h1,h2,h3⟩:=hs i xs[i] ρ (by omega) (v4 hi) h;rw [List.drop_eq_getElem_cons hi];simp only [map_cons,XS,h1,Option.bind_some];rcases h2 with h2|h2<;>(rw [h2];exact ih (i+1) ρ' (by omega) h3)
 exact key n 0 ρ (by omega) h0
def sqk (b:Nat->Rho->Option Ot) (n:Nat) (o:Ot):Option Ot:=match o with|.nx ρ'=>b n ρ'|o=>some o
def qgf {a b:Nat->Rho->Option Ot} {n:Nat} {ρ:Rho}:qm8 a b n ρ=(a n ρ).bind (sqk b n):=id rfl
def qe5 {b:Nat->Rho->Option Ot} {n:Nat} {ρ:Rho}:sqk b n (.nx ρ)=b n ρ:=id rfl
def qfw {b:Nat->Rho->Option Ot} {n:Nat} {d:PyData} {f:Bool}:sqk b n (.rt d f)=some (.rt d f):=id rfl
def qby {d:PyData}:ZU true (some (.rt d true))=some d:=id rfl
def qfD {d:PyData} {b:Bool}:ZU false (some (.rt d b))=some d:=by simp [ZU]
def qjQ {b:Bool}:asB (.bool b)=some b:=id rfl
def qh6 {b:Int}:asI (.int b)=some b:=id rfl
def qgC {xs:List PyData}:qmt [.tuple xs]=some (.int xs.length):=id rfl
def qfT {xs:List PyData}:qmt [.list xs]=some (.int xs.length):=id rfl
def qeY {i j:Int}:qne [.int i,.int j]=some (.int (if j<i then j else i)):=id rfl
def qfn {i j:Int}:qmW [.int i,.int j]=some (.int (if j > i then j else i)):=id rfl
def qgV {i:Bool}:qm3 [.bool i]=some (.int (if i then 1 else 0)):=id rfl
def qfl {xs:List PyData}:qmS [.list xs]=some (.tuple xs):=id rfl
def qjN {xs:List Int} (h:xs≠[]):mxD [.list (xs.map PyData.int)]=some (.int (mx xs)):=by simp only [mxD,WJ,Option.bind_some];exact qL h
def qgd {xs:List PyData}:SG (.tuple xs)=some xs:=id rfl
def qfK {xs:List PyData}:SG (.list xs)=some xs:=id rfl
def qjj {i:Bool}:tyD (.bool i)=some "bool" := id rfl
def qmo {i:List PyData}:tyD (.tuple i)=some "tuple" := id rfl
def qfE {n a b:Bool}:qmT n (.bool a) (.bool b)=some (.bool (if n then a != b else a==b)):=id rfl
def qma {m:List Bool} {nw:Bool} {i:Nat} {v:Int} {ρ:Rho}:XW m nw i (.int v) ρ=ρ.set i (.sh (.int v)):=id rfl
def qjK {m:List Bool} {nw:Bool} {i:Nat} {v:Bool} {ρ:Rho}:XW m nw i (.bool v) ρ=ρ.set i (.sh (.bool v)):=id rfl
def qj8 {m:List Bool} {nw:Bool} {i:Nat} {ρ:Rho}:XW m nw i .none ρ=ρ.set i (.sh .none):=id rfl
def qg5 {m:List Bool} {nw:Bool} {i:Nat} {v:List PyData} {ρ:Rho}:XW m nw i (.tuple v) ρ=(dm m ρ).set i (.sh (.tuple v)):=by cases nw<;>rfl
def qgr {m:List Bool} {i:Nat} {v:List PyData} {ρ:Rho}:XW m true i (.list v) ρ=(dm m ρ).set i (.ow v):=id rfl
def qgI {m:List Bool} {i:Nat} {v:List PyData} {ρ:Rho}:XW m false i (.list v) ρ=(dm m ρ).set i (.sh (.list v)):=id rfl
def qjZ {m:List Bool} {v:Int} {ρ:Rho}:dmS m (.int v) ρ=ρ:=id rfl
def qkO {m:List Bool} {ρ:Rho}:dmS m .none ρ=ρ:=id rfl
def qmn {m:List Bool} {v:List PyData} {ρ:Rho}:dmS m (.tuple v) ρ=dm m ρ:=id rfl
def qlN {m:List Bool} {v:List PyData} {ρ:Rho}:dmS m (.list v) ρ=dm m ρ:=id rfl
def qpz {ρ:Rho}:dm [] ρ=ρ:=id rfl
def qpo {m:List Bool} {s:Sl} {ρ:Rho}:dm (true::m) (s::ρ)=s.dem::dm m ρ:=id rfl
def qpt {m:List Bool} {s:Sl} {ρ:Rho}:dm (false::m) (s::ρ)=s::dm m ρ:=id rfl
def qkF {ds:List PyData}:(Sl.ow ds).dem=.sh (.list ds):=id rfl
def qkd {d:PyData}:(Sl.sh d).dem=.sh d:=id rfl
def qlF {ρ:Rho}:T8 [] ρ=[]:=id rfl
def qlS {m:List (Option Nat)} {ρ:Rho}:T8 (none::m) ρ=.un::T8 m ρ:=id rfl
def cp (o:Option PyData):Sl:=match o with|some d=>.sh d|none=>.un
def qmK {m:List (Option Nat)} {j:Nat} {ρ:Rho}:T8 (some j::m) ρ=cp (vw ρ j)::T8 m ρ:=id rfl
def qpx {d:PyData}:cp (some d)=.sh d:=id rfl
def qe8 {pi:Rho->Option (List PyData)} {m:List Bool} {gf:PyData->Option (List (Nat×PyData))} {bf:Nat->Rho->Option Ot} {n:Nat} {ρ:Rho}:qi8 pi true m gf bf n ρ=(pi ρ).bind λds=>XS gf (bf n) ds ρ:=id rfl
def qgK {pi:Rho->Option (List PyData)} {m:List Bool} {gf:PyData->Option (List (Nat×PyData))} {bf:Nat->Rho->Option Ot} {n:Nat} {ρ:Rho}:qi8 pi false m gf bf n ρ=(pi ρ).bind λds=>XS gf (bf n) ds (dm m ρ):=id rfl
def qfJ {ρ:Rho}:jJ ρ []=ρ:=id rfl
def qfI {ρ:Rho} {i:Nat} {d:PyData} {r:List (Nat×PyData)}:jJ ρ ((i,d)::r)=jJ (ρ.set i (.sh d)) r:=id rfl
def qbQ {gf:PyData->Option (List (Nat×PyData))} {cf:Rho->Option Bool} {ef:Rho->Option PyData} {ρ:Rho} {d:PyData}:lcH gf cf ef ρ d=(gf d).bind λbs=>(cf (jJ ρ bs)).bind λk=>if k then (ef (jJ ρ bs)).map some else some none:=id rfl
def qkv {gf:PyData->Option (List (Nat×PyData))} {cf:Rho->Option Bool} {it:Rho->Option (List PyData)} {h:Rho->PyData->Option (Option PyData)} {ρ:Rho} {d:PyData}:qjA gf cf it h ρ d=(gf d).bind λbs=>(cf (jJ ρ bs)).bind λk=>if k then ((it (jJ ρ bs)).bind λds=>lcP (h (jJ ρ bs)) ds).map some else some none:=id rfl
def Nx (o:Option Ot) (P:Rho->Prop):Prop:=match o with|some (.nx ρ)=>P ρ|some (.ct ρ)=>P ρ|_=>False
def ql8 {ρ:Rho} {P:Rho->Prop}:Nx (some (.nx ρ)) P=P ρ:=id rfl
def qls {o:Option Ot} {P:Rho->Prop} (h:Nx o P):∃ ρ,(o=some (.nx ρ)\/o=some (.ct ρ))/\P ρ:=by
 unfold Nx at h;split at h
 ·exact ⟨_,.inl rfl,h⟩
 ·exact ⟨_,.inr rfl,h⟩
 ·exact h.elim
section
variable {gf:PyData->Option (List (Nat×PyData))} {bf:Rho->Option Ot} {α:Type} {g:α->PyData} {ρ:Rho} {Q:Option Ot->Prop} {F:Ot->Option Ot}
def qei (xs:List α) (I:Nat->Rho->Prop) (h0:I 0 ρ) (hs:∀ i x ρ,xs[i]?=some x->I i ρ->Nx ((gf (g x)).bind λbs=>bf (jJ ρ bs)) (I (i+1))) (k:∀ ρ',I xs.length ρ'->Q (some (.nx ρ'))):Q (XS gf bf (xs.map g) ρ):=by
 obtain ⟨ρ',e,h⟩:=qdX (gf:=gf) (bf:=bf) (g:=g) xs I h0 λi x ρ hx hi=>by
  obtain ⟨ρ2,e,h⟩:=qls (hs i x ρ hx hi);cases e1:gf (g x) with
  |none=>rw [e1] at e;rcases e with e|e<;>cases e
  |some bs=>rw [e1] at e;exact ⟨bs,ρ2,rfl,e,h⟩
 rw [e];exact k ρ' h
def QB (xs:List α) (I:Nat->Rho->Prop) (h0:I 0 ρ) (hs:∀ i x ρ,xs[i]?=some x->I i ρ->Nx ((gf (g x)).bind λbs=>bf (jJ ρ bs)) (I (i+1))) (k:∀ ρ',I xs.length ρ'->Q (F (.nx ρ'))):Q ((XS gf bf (xs.map g) ρ).bind F):=
 qei (Q:=λo=>Q (o.bind F)) xs I h0 hs k
def SS (xs:List α) (n:Nat) (x:α) (d:PyData) (b:Bool) (hn:xs[n]?=some x) (I:Nat->Rho->Prop) (h0:I 0 ρ) (hs:∀ i x ρ,i<n->xs[i]?=some x->I i ρ->Nx ((gf (g x)).bind λbs=>bf (jJ ρ bs)) (I (i+1))) (he:∀ ρ,I n ρ->((gf (g x)).bind λbs=>bf (jJ ρ bs))=some (.rt d b)) (k:Q (some (.rt d b))):Q (XS gf bf (xs.map g) ρ):=by
 rw [qc5 (gf:=gf) (bf:=bf) (g:=g) xs n x hn I h0 (λi x ρ hi hx hI=>by
  obtain ⟨ρ2,e,h⟩:=qls (hs i x ρ hi hx hI);cases e1:gf (g x) with
  |none=>rw [e1] at e;rcases e with e|e<;>cases e
  |some bs=>rw [e1] at e;exact ⟨bs,ρ2,rfl,e,h⟩) (o:=.rt d b) λρ hI=>by
  have:=he ρ hI;cases e1:gf (g x) with
  |none=>rw [e1] at this;cases this
  |some bs=>rw [e1] at this;exact ⟨bs,rfl,.inl ⟨d,b,rfl,this⟩⟩]
 exact k
def qix (xs:List α) (n:Nat) (x:α) (d:PyData) (b:Bool) (hn:xs[n]?=some x) (I:Nat->Rho->Prop) (h0:I 0 ρ) (hs:∀ i x ρ,i<n->xs[i]?=some x->I i ρ->Nx ((gf (g x)).bind λbs=>bf (jJ ρ bs)) (I (i+1))) (he:∀ ρ,I n ρ->((gf (g x)).bind λbs=>bf (jJ ρ bs))=some (.rt d b)) (k:Q (F (.rt d b))):Q ((XS gf bf (xs.map g) ρ).bind F):=
 SS (Q:=λo=>Q (o.bind F)) xs n x d b hn I h0 hs he k
end
def qja {α:Type} {us:List α} (h:us.length=1):∃ a0,us=[a0]:=List.length_eq_one_iff.mp h
def qoE {α:Type} {us:List α} (h:us.length=2):∃ a0 a1,us=[a0,a1]:=by
 obtain ⟨a0,r,rfl⟩:=List.exists_cons_of_length_pos (show 0<us.length by omega);obtain ⟨a1,rfl⟩:=qja (show r.length=1 by simpa using h);exact ⟨a0,a1,rfl⟩
def qpi {α:Type} {us:List α} (h:us.length=3):∃ a0 a1 a2,us=[a0,a1,a2]:=by
 obtain ⟨a0,r,rfl⟩:=List.exists_cons_of_length_pos (show 0<us.length by omega);obtain ⟨a1,a2,rfl⟩:=qoE (show r.length=2 by simpa using h);exact ⟨a0,a1,a2,rfl⟩
def qpb {α:Type} {us:List α} (h:us.length=4):∃ a0 a1 a2 a3,us=[a0,a1,a2,a3]:=by
 obtain ⟨a0,r,rfl⟩:=List.exists_cons_of_length_pos (show 0<us.length by omega);obtain ⟨a1,a2,a3,rfl⟩:=qpi (show r.length=3 by simpa using h);exact ⟨a0,a1,a2,a3,rfl⟩
def qpd {α:Type} {us:List α} (h:us.length=5):∃ a0 a1 a2 a3 a4,us=[a0,a1,a2,a3,a4]:=by
 obtain ⟨a0,r,rfl⟩:=List.exists_cons_of_length_pos (show 0<us.length by omega);obtain ⟨a1,a2,a3,a4,rfl⟩:=qpb (show r.length=4 by simpa using h);exact ⟨a0,a1,a2,a3,a4,rfl⟩
def qqd {α:Type} {us:List α} (h:us.length=6):∃ a0 a1 a2 a3 a4 a5,us=[a0,a1,a2,a3,a4,a5]:=by
 obtain ⟨a0,r,rfl⟩:=List.exists_cons_of_length_pos (show 0<us.length by omega);obtain ⟨a1,a2,a3,a4,a5,rfl⟩:=qpd (show r.length=5 by simpa using h);exact ⟨a0,a1,a2,a3,a4,a5,rfl⟩
end Pu
namespace L3
open PySem PySem.Spec PyProof.Rows L2
def qg1:Sp3:=λ_ _ _=>False
def JQ {P:Program} {w:World} {K:Frg} {mg:Str->Option Value} {base:Heap} {x qual:Str} {st:Stmt} {f:Addr} {fd:FuncData} {ps:List Str} (F:Fun K x qual st f fd) (bd:WK K fd ps []) (hm:mg x=some (.ref f)):Fn3 P w K mg base 0 x qg1:=
 ⟨f,fd,ps,⟨λvs H Q E ⟨_,_,_,_,_,h,_⟩=>h.elim,λA outer s H args us vs Q E _ _ _ _ ⟨_,_,_,_,_,h,_⟩=>h.elim⟩,bd,F.kp,hm⟩
def ixR (p:Addr) (i:Int) (G:Gp) (q:Q3):ix3 (.ref p) (.int i) G q=(match getL G p with|some xs=>(match L2.atI xs i with|some z=>q z G|none=>False)|none=>False):=rfl
def cm {i j:Int} (h1:-1000000<j) (h2:j<1000000):J6 i j:=.inr ⟨by omega,by omega⟩
def qhO {lo:Int} {n i:Nat} {x:T} (h:(qbu lo n)[i]?=some x):i<n/\x=T.int (lo+(i:Int)):=by
 unfold qbu at h;rw [getElem?_map] at h;cases e:(List.range n)[i]? with
 |none=>rw [e] at h;cases h
 |some k=>
  rw [e] at h;obtain ⟨hi,hk⟩:=za2 e;simp at hi hk;subst hk;exact ⟨hi,by simpa using h.symm⟩
end L3
namespace Bk
open PySem L2 L3
def jf:TS3:=(zB (RJ (NO (λt=>ju t "int") (v3 0)) (qhz (NO (λt=>ju t "bool") (v3 0)))))
def DZ:TS3:=(qK (za (o3 (iC (λ_ j=>0<j) (·%·)) (o3 (iC J6 (·*·)) (o3 ZX (o3 ZX (o3 (iC (λ_ j=>0<j) (·%·)) (v3 0) (c3 (.int 2147483629))) (o3 (iC J6 (·*·)) (o3 (iC J6 (·*·)) (v3 1) (v3 1)) (c3 (.int 7919)))) (c3 (.int 11))) (c3 (.int 48271))) (c3 (.int 2147483647))) (gn3 2)) (zB (o3 (iC (λ_ j=>0<j) (·%·)) (o3 (iC J6 (·*·)) (v3 2) (v3 2)) (c3 (.int 1999999973)))))
def UW:TS3:=(qK (za (if3 (tb3 (o3 (iB λi j=>decide (i<j)) (v3 1) (cb3 UD (qc (v3 0) qj)))) (o3 ix3 (v3 0) (v3 1)) (c3 (.int 0))) (gn3 2)) (qK (za (if3 (tb3 (o3 (iB λi j=>decide (j<=i)) (cb3 qmm (qc (v3 2) qj)) (o3 (iC qco (λi j=>i ^ j.toNat)) (c3 (.int 10)) (c3 (.int 18))))) (cb3 qmm (qc (v3 2) qj)) (c3 (.int 0))) (gn3 3)) (zB (jO (qc (v3 3) (qc (o3 ZX (v3 2) (o3 (iC J6 (·*·)) (c3 (.int 1000003)) (v3 1))) (qc (c3 (.int 0)) qj)))))))
def U0 (zb1:Sp3):TS3:=(qK (za (o3 ZX (o3 ix3 (v3 0) (c3 (.int 2))) (c3 (.int 1))) (ET (v3 0) (c3 (.int 2)))) (qK (Z5 (tb3 (o3 (iB λi j=>decide (j<i)) (o3 ix3 (v3 0) (c3 (.int 0))) (c3 (.int 0)))) (qK (za (o3 (iC (λ_ j=>0<j) (·%·)) (o3 ix3 (v3 0) (c3 (.int 0))) (v3 1)) (gn3 2)) (qK (za (o3 (iC qeQ (·/·)) (o3 ix3 (v3 0) (c3 (.int 0))) (v3 1)) (ET (v3 0) (c3 (.int 0)))) (zB (v3 2)))) zE) (zB (o3 (iC (λ_ j=>0<j) (·%·)) (o3 (iC qeQ (·/·)) (cb3 zb1 (qc (cb3 zb1 (qc (o3 ix3 (v3 0) (c3 (.int 1))) (qc (o3 ix3 (v3 0) (c3 (.int 2))) qj))) (qc (o3 ZX (o3 ix3 (v3 0) (c3 (.int 2))) (c3 (.int 64))) qj))) (c3 (.int 64))) (v3 1)))))
abbrev qnI (q:Q3):Ends3:={ nx:=λ_ G'=>q .non G',rt:=q }
def qj9 {A B:TS3} {d:Ends3} {τ:St3} {G:Gp} (h:∀ nx,nx=B d->A { d with nx:=nx } τ G):qK A B d τ G:=h _ rfl
def Lf (G:Gp) (a:Addr) (n:Int):Prop:=∃ o c m,G a=some (.lst [.int o,.int c,.int m])/\0<=o/\0<=m/\m<=n
def Ext (a:Addr) (G G':Gp):Prop:=∀ b o,b≠a->G b=some o->G' b=some o
def Lf.new {G:Gp} {a p:Addr} {n:Int} {ob:O} (h:Lf G a n) (hp:p≠a):Lf (gu G p ob) a n:=by
 obtain ⟨o,c,m,e,r⟩:=h;exact ⟨o,c,m,by rw [jc (Ne.symm hp)];exact e,r⟩
def Lf.mono {G:Gp} {a:Addr} {n k:Int} (h:Lf G a n) (hk:n<=k):Lf G a k:=by
 obtain ⟨o,c,m,e,h1,h2,h3⟩:=h;exact ⟨o,c,m,e,h1,h2,by omega⟩
def Lf.ex {G G':Gp} {a:Addr} {n:Int} (h:Lf G a n) (e:Ex G G'):Lf G' a n:=by
 obtain ⟨o,c,m,e1,h1⟩:=h;exact ⟨o,c,m,e _ _ e1,h1⟩
def Ext.trans {a:Addr} {G G1 G2:Gp} (x:Ext a G G1) (y:Ext a G1 G2):Ext a G G2:=λb o hb e=>y b o hb (x b o hb e)
def EM {a:Addr} {G G':Gp} (h:Ex G G'):Ext a G G':=λb o _ e=>h b o e
def XV:Sp3:=λts G q=>∃ c k,ts=[.int c,.int k]/\0<=k/\k<4294967296/\∀ m,0<=m->m<1999999973->q (.int m) G
def Q4:Sp3:=λts G q=>∃ (a:Addr) (k:Int) (ns:List Int),ts=[.ref a,.int k]/\G a=some (.frz (ns.map T.int))/\ns.length<=63/\0<=k/\k<=63/\∀ p o c,G p=none->0<=o->q (.ref p) (gu G p (.lst [.int o,.int c,.int 0]))
def qD:Sp3:=λts G q=>∃ a n many,ts=[.ref a,.int many]/\1<=many/\many<1073741824/\Lf G a n/\n<1073741824/\∀ d G',0<=d->d<many->Lf G' a (n+1)->Ext a G G'->q (.int d) G'
def N6:∀ ts G q,XV ts G q->ts.length=2/\DZ (qnI q) (qE ["_law_cell","_law_k","_law_m"] ts) G:=by
 rintro ts G q ⟨c,k,rfl,h1,h2,h⟩;refine ⟨rfl,?_⟩;simp only [DZ,qK,za,o3,v3,qE,map_cons,List.map_nil,length_cons,length_nil,Nat.zero_add,Nat.reduceAdd,Nat.reduceSub,List.replicate_one,cons_append,List.nil_append,v5,getElem?_pos,x5,c3,iC,Int.reduceLT,Nat.reduceLT,x6,ZX,gn3,zB,set_cons_succ,set_cons_zero,u7,true_and];exact ⟨.inl ⟨by omega,by omega⟩,cm (by omega) (by omega),cm (by omega) (by omega),.inl ⟨by omega,by omega⟩,h _ (Int.emod_nonneg _ (by omega)) (Int.emod_lt_of_pos _ (by omega))⟩
def cp:qco 10 18:=⟨by decide,by decide,by decide⟩
def LU:∀ ts G q,Q4 ts G q->ts.length=2/\UW (qnI q) (qE ["_law_script","_law_k","_law_cell","_law_own"] ts) G:=by
 rintro ts G q ⟨a,k,ns,rfl,hG,hl,h1,h2,h⟩;refine ⟨rfl,?_⟩;simp only [UW,qK,za,if3,tb3,o3,v3,qE,map_cons,List.map_nil,length_cons,length_nil,Nat.zero_add,Nat.reduceAdd,Nat.reduceSub,List.reduceReplicate,cons_append,List.nil_append,Nat.reduceLT,getElem?_pos,x6,x5,cb3,qc,v5,qj,UD,getL,hG,iB,length_map,decide_eq_true_eq,gn3,set_cons_succ,set_cons_zero,qmm,c3,iC,Int.reduceToNat,Int.reducePow,zB,jO,u7,ZX,ne_eq,y9,Nat.reduceLeDiff,true_and,gu,ixR,atI,ixN,getElem?_map,Int.lt_irrefl,↓reduceIte,Int.reduceLE,decide_false,Bool.false_eq_true,Int.zero_add];have ck:J6 1000003 k:=cm (by omega) (by omega);by_cases hk:k<ns.length
 ·have hk':k.toNat<ns.length:=by omega
  simp [hk,h1,hk',cp,ck];split
  ·split
   ·exact λp hp=>h p (-ns[k.toNat]) _ hp (by omega)
   ·exact λp hp=>h p 0 _ hp (by omega)
  ·split
   ·exact λp hp=>h p ns[k.toNat] _ hp (by omega)
   ·exact λp hp=>h p 0 _ hp (by omega)
 ·simp [hk,cp,ck];exact λp hp=>h p 0 _ hp (by omega)
def LM:∀ ts G q,qD ts G q->ts.length=2/\U0 XV (qnI q) (qE ["_law_left_here","_law_many","_law_digit"] ts) G:=by
 rintro ts G q ⟨a,n,many,rfl,m1,m2,⟨o,c,m,hG,ho,hm,hn⟩,h3,h⟩;refine ⟨rfl,?_⟩;unfold U0;refine qj9 λnx1 q1=>?_;simp only [za,o3,v3,qE,map_cons,List.map_nil,length_cons,length_nil,Nat.zero_add,Nat.reduceAdd,Nat.reduceSub,List.replicate_one,cons_append,List.nil_append,v5,getElem?_pos,x5,c3,ZX,ne_eq,y9,ET,qgQ,ixN,Int.zero_le_ofNat,↓reduceIte,Int.reduceToNat,tb3,iB,decide_eq_true_eq,Nat.reduceLT,x6,iC,gn3,set_cons_succ,set_cons_zero,Std.le_refl,Int.natCast_pos,Int.toNat_zero,zB,u7,ixR,getL,atI,zE,cb3,qc,qj,Int.toNat_one,List.length_set,hG,Int.cast_ofNat_Int,Int.reduceLT,Option.bind_some,qG];rw [q1];clear q1;refine qj9 λnx2 q2=>?_;simp only [Z5,za,o3,v3,qE,map_cons,List.map_nil,length_cons,length_nil,Nat.zero_add,Nat.reduceAdd,Nat.reduceSub,List.replicate_one,cons_append,List.nil_append,v5,getElem?_pos,x5,c3,ZX,ne_eq,y9,ET,qgQ,ixN,Int.zero_le_ofNat,↓reduceIte,Int.reduceToNat,tb3,iB,decide_eq_true_eq,Nat.reduceLT,x6,iC,gn3,set_cons_succ,set_cons_zero,Std.le_refl,Int.natCast_pos,Int.toNat_zero,zB,u7,ixR,getL,atI,zE,cb3,qc,qj,Int.toNat_one,List.length_set,hG,Int.cast_ofNat_Int,Int.reduceLT,Option.bind_some,qG];split
 ·simp only [qK,za,o3,v3,length_cons,length_nil,Nat.zero_add,Nat.reduceAdd,v5,getElem?_pos,x5,c3,Nat.reduceLT,x6,iC,gn3,set_cons_succ,set_cons_zero,ET,qgQ,ixN,Std.le_refl,↓reduceIte,Int.natCast_pos,Int.toNat_zero,zB,u7,ixR,getL,atI,qG,Int.cast_ofNat_Int,Int.reduceLT,Option.bind_some];refine ⟨by omega,⟨by omega,m2⟩,h _ _ (Int.emod_nonneg _ (by omega)) (Int.emod_lt_of_pos _ (by omega)) ⟨o/many,c,m+1,qG,Int.ediv_nonneg ho (by omega),by omega,by omega⟩ λb ob hb e=>?_⟩;rw [jc hb,jc hb];exact e
 ·rw [q2];clear q2;simp only [za,o3,v3,qE,map_cons,List.map_nil,length_cons,length_nil,Nat.zero_add,Nat.reduceAdd,Nat.reduceSub,List.replicate_one,cons_append,List.nil_append,v5,getElem?_pos,x5,c3,ZX,ne_eq,y9,ET,qgQ,ixN,Int.zero_le_ofNat,↓reduceIte,Int.reduceToNat,tb3,iB,decide_eq_true_eq,Nat.reduceLT,x6,iC,gn3,set_cons_succ,set_cons_zero,Std.le_refl,Int.natCast_pos,Int.toNat_zero,zB,u7,ixR,getL,atI,zE,cb3,qc,qj,Int.toNat_one,List.length_set,hG,Int.cast_ofNat_Int,Int.reduceLT,Option.bind_some,qG];refine ⟨c,m+1,rfl,by omega,by omega,λu u1 u2=>?_⟩;simp only [za,o3,v3,qE,map_cons,List.map_nil,length_cons,length_nil,Nat.zero_add,Nat.reduceAdd,Nat.reduceSub,List.replicate_one,cons_append,List.nil_append,v5,getElem?_pos,x5,c3,ZX,ne_eq,y9,ET,qgQ,ixN,Int.zero_le_ofNat,↓reduceIte,Int.reduceToNat,tb3,iB,decide_eq_true_eq,Nat.reduceLT,x6,iC,gn3,set_cons_succ,set_cons_zero,Std.le_refl,Int.natCast_pos,Int.toNat_zero,zB,u7,ixR,getL,atI,zE,cb3,qc,qj,Int.toNat_one,List.length_set,hG,Int.cast_ofNat_Int,Int.reduceLT,Option.bind_some,qG];refine ⟨u,m+1+64,rfl,by omega,by omega,λv v1 v2=>?_⟩;refine ⟨⟨by omega,by omega⟩,by omega,h _ _ (Int.emod_nonneg _ (by omega)) (Int.emod_lt_of_pos _ (by omega)) ⟨o,c,m+1,qG,ho,by omega,by omega⟩ λb ob hb e=>?_⟩;rw [jc hb];exact e
structure SD (k n:Nat) (d:PyData):Prop where
 sh:d.showable=true
 nd:d.hasDict=false
 dp:d.depth<=k
 lv:d.leavesShort 13=true
 bk:d.bulk<=n
def SD.ok {k n:Nat} {d:PyData} (h:SD k n d) (hk:k<=40) (hn:n<=2 ^ 20):ShOk d:=⟨h.sh,h.nd,u5 h.dp hk,h.lv,u5 h.bk hn⟩
theorem SD.w {k n:Nat} {d:PyData} (h:SD k n d) (hk:k<=40) (hn:n<=2 ^ 20):ShW d:=(h.ok hk hn).w
def qc3 (k n:Nat):SD k n .none:=⟨rfl,rfl,Nat.zero_le _,rfl,Nat.zero_le _⟩
def qcQ (k n:Nat) (b:Bool):SD k n (.bool b):=⟨rfl,rfl,Nat.zero_le _,rfl,Nat.zero_le _⟩
def qbv (k n:Nat) {i:Int} (h:-1000000<=i/\i<=1000000):SD k n (.int i):=by
 refine ⟨?_,rfl,Nat.zero_le _,?_,Nat.zero_le _⟩
 ·simp only [PyData.showable];have:i.natAbs<2 ^ 20:=by omega
  have h2:i.natAbs.log2<20\/i.natAbs=0:=by
   rcases Nat.eq_zero_or_pos i.natAbs with z|z
   ·exact .inr z
   ·exact .inl ((Nat.log2_lt (by omega)).mpr this)
  rcases h2 with h2|h2
  ·simp;omega
  ·simp [h2]
 ·have:=PyProof.Rows.intsShortAll_ints2 [i] (by intro n hn;simp at hn;subst hn;omega);simpa [PyData.intsShortAll,PyData.intsShort,PyData.leavesShort] using this
def L5 (k n:Nat) {x:Str} (h:x.cps.size<=n) (hc:(x.cps.toList.all λc=>decide (c<16 ^ 8))=true):SD k n (.str x):=⟨rfl,rfl,Nat.zero_le _,hc,h⟩
structure SDs (k n:Nat) (ds:List PyData):Prop where
 sh:PyData.showableAll ds=true
 nd:PyData.hasDictAll ds=false
 dp:PyData.depthAll ds<=k
 lv:PyData.leavesShortAll 13 ds=true
 bk:PyData.bulkAll ds<=n
def qcr (k n:Nat):SDs k n []:=⟨rfl,rfl,Nat.zero_le _,rfl,Nat.zero_le _⟩
def NS {k n m s:Nat} {d:PyData} {ds:List PyData} (h:SD k n d) (t:SDs k m ds) (hs:n+1+m<=s):SDs k s (d::ds):=by
 refine ⟨?_,?_,?_,?_,?_⟩
 ·simp [PyData.showableAll,h.sh,t.sh]
 ·simp [PyData.hasDictAll,h.nd,t.nd]
 ·simp only [PyData.depthAll];exact Nat.max_le.mpr ⟨h.dp,t.dp⟩
 ·simp [PyData.leavesShortAll,h.lv,t.lv]
 ·simp only [PyData.bulkAll];have:=h.bk;have:=t.bk;omega
def RP {k n:Nat} {ds:List PyData} (t:SDs k n ds):SD (k+1) n (.tuple ds):=by
 refine ⟨?_,?_,?_,?_,?_⟩
 ·simpa [PyData.showable] using t.sh
 ·simpa [PyData.hasDict] using t.nd
 ·simp only [PyData.depth];have:=t.dp;omega
 ·simpa [PyData.leavesShort] using t.lv
 ·simp only [PyData.bulk];exact t.bk
def K9 {k n:Nat} {ds:List PyData} (t:SDs k n ds):SD (k+1) n (.list ds):=by
 refine ⟨?_,?_,?_,?_,?_⟩
 ·simpa [PyData.showable] using t.sh
 ·simpa [PyData.hasDict] using t.nd
 ·simp only [PyData.depth];have:=t.dp;omega
 ·simpa [PyData.leavesShort] using t.lv
 ·simp only [PyData.bulk];exact t.bk
theorem _root_.L3.Dps.append {G:Gp}:∀ {xs ys:List T} {ds es:List PyData},Dps G xs ds->Dps G ys es->Dps G (xs++ys) (ds++es)
 |_,_,_,_,.nil,b=>b
 |_,_,_,_,.cons a t,b=>.cons a (L3.Dps.append t b)
theorem _root_.L3.Dps.take {G:Gp}:∀ {xs:List T} {ds:List PyData} (i:Nat),Dps G xs ds->Dps G (xs.take i) (ds.take i)
 |_,_,0,_=>.nil
 |_,_,_+1,.nil=>.nil
 |_,_,i+1,.cons a t=>.cons a (L3.Dps.take i t)
theorem _root_.L3.Dps.drop {G:Gp}:∀ {xs:List T} {ds:List PyData} (i:Nat),Dps G xs ds->Dps G (xs.drop i) (ds.drop i)
 |_,_,0,h=>h
 |_,_,_+1,.nil=>.nil
 |_,_,i+1,.cons a t=>L3.Dps.drop i t
end Bk
namespace Pv
open PySem L2 L3 Pu
def KP:TS3:=(qK (za (jO (qc (c3 (.int 0)) qj)) (gn3 1)) (qK (EX (U7 (v3 0)) (gn3 2) (za (o3 ZX (v3 1) (lc3 (U7 (v3 1)) (gn3 0) tt3 (o3 (iI Builtin.bitXor) (v3 0) (v3 1)) [none,some 2])) (gn3 1))) (zB (v3 1))))
def CM:PuS (Pv.KP):=(QK (EW (ZY (qe (qP 0) qm) ⟨rfl⟩) 1 [] ⟨rfl⟩) (QK (MV (qaP (bV 0)) (gN 2) (EW (bO VU (bV 1) (bLc (qaP (bV 1)) (gN 0) bTt (bO (opI Builtin.bitXor) (bV 0) (bV 1)) [none,some 2] ⟨rfl⟩)) 1 [false,true,true] ⟨rfl⟩) [true] ⟨rfl⟩) (CG 1)))
def UF:List PyData->Option PyData:=run (CM).f 1 3 1000000000 true
def qed:∀ ts G q,PSp (UF) true ts G q->ts.length=1/\Pv.KP { nx:=λ_ G'=>q .non G',rt:=q } (qE ["marks","told","mark"] ts) G:=qV (CM) ["marks","told","mark"] 1 1000000000 true
def qdZ {x0:PyData}:UF [x0]=ZU true ((CM).f 1000000000 [.sh x0,.un,.un]):=id rfl
end Pv
namespace Pu
open PySem L2 L3
end Pu
namespace Hd
open PySem L2 L3 PySem.W
def oF (x:Str) (st:Stmt) (pm cd:Value):Obj:=⟨.type "function",none,.func (PySem.W.fnOf x x (QF st) (zo st) (qh st) .none .none .none pm none cd .none),#[]⟩
def oC (vs:List Value):Obj:=⟨.type "code",none,.fields vs.toArray,#[]⟩
def eD (P:Params):Value×Value->DictEntry
 | (.str x t,v)=>⟨PyData.keyHash P x,.str x t,v⟩
 | (u,v)=>⟨0,u,v⟩
def oD (P:Params) (n:Nat) (es:List (Value×Value)):Obj:=⟨.type "dict",none,.dict (es.map (eD P)).toArray n,#[]⟩
abbrev nd (o:Obj) (l r:PySem.W.BT):PySem.W.BT:=.node o l r
abbrev lf (o:Obj):PySem.W.BT:=.node o .nil .nil
def qnV {K:Frg} (x:Str) (st:Stmt) (f:Addr) (pm cd:Value) (l:K.lookup f=some (oF x st pm cd)) (c:PySem.W.codeIn K cd x=true) (k:PySem.W.keepIn K (.ref f)=true) :
  Fun K x x st f (PySem.W.fnOf x x (QF st) (zo st) (qh st) .none .none .none pm none cd .none):=qcF l c k
def qn0 {K:Frg} {h:Heap} {mg:Str->Option Value} (X:K.In h) (G:h.Ns mainGlobals mg) (n:Str) (v:Value) (e:PySem.W.nsIn K mainGlobals n=some (some v)):mg n=some v:=PySem.W.mg_of X G e
end Hd
namespace Hd
open PySem L2 L3 PySem.W PySem.Spec PySem.Calls PyProof.Rows
structure Fb (K:Frg) (mg:Str->Option Value) (x:Str) (st:Stmt) (ps:List Str) (f:Addr) (fd:FuncData):Prop where
 F:Fun K x x st f fd
 b:WK K fd ps []
 m:mg x=some (.ref f)
def sc0 {N ps:List Str} {s:Scope} (h1:s.kind=.function:=by rfl) (h2:s.isCoroutine=false:=by rfl) (h3:s.isGenerator=false:=by rfl) (h4:N.Nodup:=by decide +kernel) (h5:N.take ps.length=ps:=by rfl) (h6:∀ x∈ps,s.names.lookup x=some .local\/s.names.lookup x=some .cell:=by decide +kernel) (h7:∀ y∈s.names,y.2≠.free:=by decide +kernel):FnScope N ps s:=⟨h1,h2,h3,h4,h5,h6,h7⟩
def jfE {P:Program} {w:World} {K:Frg} {mg:Str->Option Value} {base:Heap} {x:Str} {st:Stmt} {f:Addr} {fd:FuncData} {N ps:List Str} {k:Nat} {sp:Sp3} {t3:TS3} (E:Fb K mg x st ps f fd) (S:FnScope N ps (qh st))
  (read:∀ ts G q,sp ts G q->ts.length=ps.length/\t3 { nx:=λ_ G'=>q .non G',rt:=q } (qE N ts) G)
  (body:∀ (cdv:Value) (A:Around) (outer:List Env) (s:Shared) (H:Hp) (E:XK),Room k (A.deeper (envOfC x (qh st) s.heap.objs.size f cdv)) ->
   jB3 (qaR CX0 P w K mg base N x (qh st) f cdv A outer s H E).nox (zo st) t3):Fn3 P w K mg base (k+1) x sp:=qhI E.F S E.b E.m body read
def no {K:Frg} {h:Heap} {mg:Str->Option Value} (X:K.In h) (G:h.Ns mainGlobals mg) (n:Str) (e:PySem.W.nsIn K mainGlobals n=some none:=by kernel_rfl):mg n=none:=PySem.W.mg_none_of X G e
end Hd
namespace L3
open PySem PySem.Spec PyProof.Rows L2
def N9 {pos:Pos} {a b:Int} {c cv:Value} (l:List Value) (h:TriplesOk l) (e:codeAmong pos (l++[rawInt a,rawInt b,c])=some cv):codeAmong pos l=some cv\/cv=c:=by
 fun_induction TriplesOk l with
 |case1=>
  simp only [List.nil_append,codeAmong,rawInt] at e;split at e
  ·cases e;exact .inr rfl
  ·cases e
 |case2 x t y u z QG ih=>
  simp only [cons_append,codeAmong] at e ⊢;split at e
  ·rename_i q;rw [if_pos q];exact .inl e
  ·rename_i q;rw [if_neg q];exact ih h e
 |case3=>exact h.elim
def qeh (mg:Str->Option Value) (h:Heap):Prop:=∃ bm o,mg "__builtins__" = some (.ref bm)/\bm≠builtinsNs/\bm≠mainGlobals/\h.get? bm=some o/\o.cls=.type "module"/\o.dict=some builtinsNs/\o.data=.plain
def qhC {H:Hp} {a b:Addr} {o:HO} {u:HO} (h:upd H a o b=some u):(b=a/\o=u)\/(b≠a/\H b=some u):=by
 by_cases z:b=a
 ·subst z;rw [qI] at h;cases h;exact .inl ⟨rfl,rfl⟩
 ·rw [qv z] at h;exact .inr ⟨z,h⟩
structure LamO (o:Obj) (params:Arguments) (body:Expr) (scope:Scope) (clos:List (Str×Addr)) (qual:Str) (c:Addr):Prop where
 ex:∃ pm ctv,o=PySem.W.kla_obj "<lambda>" qual params body scope clos pm c ctv
structure LamNew (H H':Hp) (P f c:Addr) (fo oc:Obj) (q:Str):Prop where
 f0:H f=none
 f1:H' f=some (.frz fo (.own f))
 c1:H' c=some (.frz oc (.own c))
 cr:CdR oc q
 tab:LW H' P q
 old:∀ b o,K0 o=false->H b=some o->H' b=some o
 oldP:∀ b o,b≠P->H b=some o->H' b=some o
 new:∀ b o,K0 o=false->H' b=some o->H b=some o\/(∃ ob,o=.frz ob (.own b))
section
variable {X:Cx} {pins:List (Addr×Obj)} {σ:L2.St} {H:Hp} {s:Shared}
def qd1 (I:Inv X pins σ H s) {c P:Addr} {q:Str} {params:Arguments} {body:Expr} {scope:Scope} {pos:Pos} {clos:List (Str×Addr)} (hc:X.env.code=.ref c) (C:PySem.W.CodeHd X.base c P) (B:qeh X.mg X.base) (T:LW H P q) (hq:X.env.qual++"<lambda>" = q)
  (hdef:defaultsOf params X.env=([],[])) (hcl:closureFor scope X.env=pure clos) :
  wpAny (model X.prog X.w) X.A (eval (.Lambda params body scope pos) X.env) (λv s'=>∃ f c' fo oc H',v=.ref f/\Inv X pins σ H' s'/\LamNew H H' P f c' fo oc q/\LamO fo params body scope clos q c') X.xe s:=by
 obtain ⟨ps,tP,ht,val⟩:=T;have hP:s.heap.get? P=some (PySem.W.tabObj ps):=I.hok P _ tP;have hgs:s.heap.Ns mainGlobals X.mg:=I.mod.glob.keeps I.bk;have hgP:mainGlobals≠P:=λz=>by
  obtain ⟨o,es,ep,e,d,_⟩:=hgs;rw [z,hP] at e;cases e;cases d
 have hLP:X.env.locals≠P:=λz=>by have:=I.free;rw [z,tP] at this;cases this
 obtain ⟨bm,ob,b1,b2,b3,b4,b5,b6,b7⟩:=B;have b4':=I.bk _ _ b4;have hbP:bm≠P:=λz=>by rw [z,hP] at b4';cases b4';cases b5
 have hb:s.heap.BuiltinsAt X.mg P:=⟨bm,ob,b1,b2,b3,hbP,b4',b5,b6,b7⟩
 refine PySem.W.kla_eval hdef ?_;rw [hq];cases hf:codeAmong pos ps.toList with
 |none=>
  refine PySem.W.kla_makeFunction hcl I.ok.glob hgs hc (C.keeps I.bk) hP ht hf hgP hb λc' ctv h' tk hx hge hlt hrec htb=>?_;obtain ⟨c2,oc,vs,t,e2,hoc,hd,hv⟩:=hrec;cases e2;have nP:∀ {b o},H b=some o->K0 o=false->b≠P:=λe z y=>by subst y;rw [tP] at e;cases e;cases z
  have cP:c'≠P:=Ne.symm (u6 (v9 (y6 hP) hge));have fP:h'.objs.size≠P:=Ne.symm (u6 (Nat.lt_trans (v9 (y6 hP) hge) hlt));have fc:h'.objs.size≠c':=Ne.symm (u6 hlt);have old:∀ b o,b≠P->s.heap.get? b=some o->(h'.push (PySem.W.kla_obj "<lambda>" q params body scope clos ((X.mg "__name__").getD .none) c' ctv)).get? b=some o:=λb o n e=>y3 _ (hx b o n e);have lt:∀ {b o},s.heap.get? b=some o->b≠c'/\b≠h'.objs.size:=λe=>⟨u6 (v9 (y6 e) hge),u6 (Nat.lt_trans (v9 (y6 e) hge) hlt)⟩
  have ltH:∀ {b o},H b=some o->b≠c'/\b≠h'.objs.size:=λe=>⟨u6 (v9 (I.hok.lt e) hge),u6 (Nat.lt_trans (v9 (I.hok.lt e) hge) hlt)⟩
  let fo:=PySem.W.kla_obj "<lambda>" q params body scope clos ((X.mg "__name__").getD .none) c' ctv
  let H':=upd (upd (upd H P (.tbl (ps++#[rawInt pos.line,rawInt pos.col,.ref c']))) c' (.frz oc (.own c'))) h'.objs.size (.frz fo (.own h'.objs.size))
  have same:∀ b,b≠P->b≠c'->b≠h'.objs.size->H' b=H b:=λb n1 n2 n3=>by
   show upd (upd (upd H P _) c' _) _ _ b=_;rw [qv n3,qv n2,qv n1]
  have atP:H' P=some (.tbl (ps++#[rawInt pos.line,rawInt pos.col,.ref c'])):=by
   show upd (upd (upd H P _) c' _) _ _ P=_;rw [qv (Ne.symm fP),qv (Ne.symm cP),qI]
  have atC:H' c'=some (.frz oc (.own c')):=by
   show upd (upd (upd H P _) c' _) _ _ c'=_;rw [qv (Ne.symm fc),qI]
  have atF:H' h'.objs.size=some (.frz fo (.own h'.objs.size)):=qI;have oldH:∀ b o,K0 o=false->H b=some o->H' b=some o:=λb o z e=>(same b (nP e z) (ltH e).1 (ltH e).2).trans e;refine ⟨h'.objs.size,c',fo,oc,H',rfl,?_,⟨?_,atF,atC,⟨vs,t,hd,hv⟩,⟨_,atP,?_,λpos' cv e=>?_⟩,oldH,λb o n e=>(same b n (ltH e).1 (ltH e).2).trans e,λb o z e=>?_⟩,⟨_,_,rfl⟩⟩
  ·refine I.step (g':=s.gens) (d':=s.drawn) (ch:=[]) (λ_ z=>nomatch z) (λb o _ _ _ e n=>old b o (λz=>by rw [z,tP] at n;cases n) e) (λb o _ _ _ e n=>⟨o.slots,old b o (λz=>by rw [z,tP] at n;cases n) e⟩) (λb o _ e n=>?_) (λb o _ e=>?_) (λb xs e=>oldH b _ rfl e) (λb o u e=>oldH b _ rfl e) (λb qs e=>?_) (λm hm=>(hm.extBut hx hLP).push _) (λa u e=>?_) I.bare
   ·rw [same b (λz=>by rw [z,tP] at n;cases n) (lt e).1 (lt e).2];exact n
   ·by_cases z:b=P
    ·subst z;exact ⟨_,y3 _ htb⟩
    ·exact ⟨o,old b o z e⟩
   ·by_cases z:b=P
    ·subst z;rw [tP] at e;cases e;exact ⟨_,atP⟩
    ·exact ⟨#[],by rw [same b z (ltH e).1 (ltH e).2,e];simp⟩
   ·by_cases z1:a=h'.objs.size
    ·subst z1;rw [atF] at e;cases e;exact ⟨y4 _ rfl,_,y4 _ rfl⟩
    ·by_cases z2:a=c'
     ·subst z2;rw [atC] at e;cases e;exact ⟨y3 _ hoc,_,y3 _ hoc⟩
     ·by_cases z3:a=P
      ·subst z3;rw [atP] at e;cases e;exact y3 _ htb
      ·rw [same a z3 z2 z1] at e;refine (I.hok a u e).stay (λb v hb y=>old b v (λz=>?_) y) (λb y=>oldH b _ rfl y) λb xs y=>oldH b _ rfl y;rcases hb with rfl|hb
       ·exact z3 z
       ·rw [z,tP] at hb;cases hb
  ·cases z:H h'.objs.size with
   |none=>rfl
   |some o=>exact absurd rfl (u6 (Nat.lt_trans (v9 (I.hok.lt z) hge) hlt))
  ·rw [Array.toList_append];exact TriplesOk_snoc _ _ _ _ ht
  ·rw [Array.toList_append] at e;rcases N9 ps.toList ht e with e|rfl
   ·obtain ⟨c3,oc3,a1,a2,a3⟩:=val pos' cv e;exact ⟨c3,oc3,a1,oldH _ _ rfl a2,a3⟩
   ·exact ⟨c',oc,rfl,atC,vs,t,hd,hv⟩
  ·by_cases z1:b=h'.objs.size
   ·subst z1;rw [atF] at e;cases e;exact .inr ⟨_,rfl⟩
   ·by_cases z2:b=c'
    ·subst z2;rw [atC] at e;cases e;exact .inr ⟨_,rfl⟩
    ·by_cases z3:b=P
     ·subst z3;rw [atP] at e;cases e;cases z
     ·rw [same b z3 z2 z1] at e;exact .inl e
 |some cv=>
  obtain ⟨c',oc,rfl,hC,hr⟩:=val pos cv hf;refine PySem.W.kla_makeFunctionHit hcl I.ok.glob hgs hc (C.keeps I.bk) hP ht hf hb λctv h' tk hk hsz=>?_;have old:∀ b o,s.heap.get? b=some o->(h'.push { cls:=.type "function",data:=.func (PySem.W.kla_fn "<lambda>" q params body scope clos ((X.mg "__name__").getD .none) (.ref c') ctv) }).get? b=some o:=λb o e=>y3 _ (hk b o e);have hn:H h'.objs.size=none:=I.hok.fresh hsz;have oldH:∀ b o,H b=some o->upd H h'.objs.size (.frz (PySem.W.kla_obj "<lambda>" q params body scope clos ((X.mg "__name__").getD .none) c' ctv) (.own h'.objs.size)) b=some o:=λb o e=>by rw [qv (qB e hn)];exact e
  refine ⟨h'.objs.size,c',PySem.W.kla_obj "<lambda>" q params body scope clos ((X.mg "__name__").getD .none) c' ctv,oc,upd H h'.objs.size (.frz _ (.own h'.objs.size)),rfl,?_,⟨hn,qI,oldH _ _ hC,hr,⟨ps,oldH _ _ tP,ht,λpos' cv e=>?_⟩,λb o _ e=>oldH b o e,λb o _ e=>oldH b o e,λb o z e=>?_⟩,⟨_,_,rfl⟩⟩
  ·exact I.laid (t':=tk) old hsz ⟨y4 _ rfl,_,y4 _ rfl⟩
  ·obtain ⟨c3,oc3,a1,a2,a3⟩:=val pos' cv e;exact ⟨c3,oc3,a1,oldH _ _ a2,a3⟩
  ·rcases qhC e with ⟨rfl,rfl⟩|⟨_,e⟩
   ·exact .inr ⟨_,rfl⟩
   ·exact .inl e
end
section
variable {P:Program} {w:World} {H H2:Hp} {h h':Heap} {S:List Addr} {fs:List Addr}
def rem (S:List Addr) (H:Hp):Hp:=λb=>if b∈S then none else H b
def add (S:List Addr) (H H2:Hp):Hp:=λb=>if b∈S then H b else H2 b
def fzS (S:List Addr) (h:Heap) (H:Hp):Hp:=λb=>if b∈S then (h.get? b).map λo=>.frz o (.own b) else H b
def qkI (u:Un fs [] (rem S H) H2 h h') (fr:∀ b∈S,∃ o,H b=some (.frz o (.own b))) (nf:∀ b∈S,b∉fs) (ok:HOk P w H h) (ok2:HOk P w H2 h'):Un fs [] H (add S H H2) h h'/\HOk P w (add S H H2) h'/\∀ b∈S,H2 b=none:=by
 have r1:∀ {b},b∈S->rem S H b=none:=λz=>if_pos z;have r2:∀ {b},b∉S->rem S H b=H b:=λz=>if_neg z;have a1:∀ {b},b∈S->add S H H2 b=H b:=λz=>if_pos z;have a2:∀ {b},b∉S->add S H H2 b=H2 b:=λz=>if_neg z;have get:∀ {b o},b∈S->H b=some (.frz o (.own b))->h.get? b=some o:=λ_ e=>(ok _ _ e).1;have kept:∀ {b o},b∈S->H b=some (.frz o (.own b))->h'.get? b=some o:=λz e=>u.keep _ _ (get z e) (r1 z) (nf _ z) (by simp);have gone:∀ {b},b∈S->H2 b=none:=λ{b} z=>by
  obtain ⟨o,e⟩:=fr b z;exact u.free b o (get z e) (r1 z) (by simp)
 have nS:∀ {b},H b=none->b∉S:=λ{b} n z=>by obtain ⟨o,e⟩:=fr b z;rw [n] at e;cases e
 have oS:∀ {b o},H b=some o->(∀ x,o≠.frz x (.own b))->b∉S:=λ{b o} e n z=>by obtain ⟨x,e'⟩:=fr b z;rw [e] at e';cases e';exact n x rfl
 have ns:∀ {b o},H2 b=some o->b∉S:=λe z=>by rw [gone z] at e;cases e
 refine ⟨⟨λb o q n hb hx=>u.keep b o q ((r2 (nS n)).trans n) hb hx,λb o q n hb hx=>u.slot b o q ((r2 (nS n)).trans n) hb hx,λb o q n hx=>(a2 (nS n)).trans (u.free b o q ((r2 (nS n)).trans n) hx),u.there,λb xs q=>?_,λb o v q=>?_,λb ps q=>?_⟩,λa o e=>?_,λ_ z=>gone z⟩
 ·have z:=oS q λx y=>nomatch y;exact (a2 z).trans (u.tups b xs ((r2 z).trans q))
 ·by_cases z:b∈S
  ·exact (a1 z).trans q
  ·exact (a2 z).trans (u.frzs b o v ((r2 z).trans q))
 ·have z:=oS q λx y=>nomatch y;obtain ⟨m,e⟩:=u.tbls b ps ((r2 z).trans q);exact ⟨m,(a2 z).trans e⟩
 ·by_cases z:a∈S
  ·rw [a1 z] at e;obtain ⟨x,e'⟩:=fr a z;rw [e] at e';cases e';exact ⟨kept z e,_,kept z e⟩
  ·rw [a2 z] at e;exact (ok2 a o e).stay (λ_ _ _ q=>q) (λb q=>(a2 (ns q)).trans q) λb xs q=>(a2 (ns q)).trans q
def qjt (fr:∀ b∈S,∃ o,H b=some (.frz o (.own b))) (ok:HOk P w H h):HOk P w (rem S H) h:=λa o e=>by
 have z:a∉S:=λz=>by rw [show rem S H a=none from if_pos z] at e;cases e
 have oS:∀ {b o},H b=some o->(∀ x,o≠.frz x (.own b))->b∉S:=λ{b o} e n z=>by obtain ⟨x,e'⟩:=fr b z;rw [e] at e';cases e';exact n x rfl
 rw [show rem S H a=H a from if_neg z] at e;exact (ok a o e).stay (λ_ _ _ q=>q) (λb q=>(if_neg (oS q λx y=>nomatch y)).trans q) λb xs q=>(if_neg (oS q λx y=>nomatch y)).trans q
def qoK (n:∀ b∈S,H b=none) (t:∀ b∈S,∃ o,h.get? b=some o) (ok:HOk P w H h):HOk P w (fzS S h H) h:=λa o e=>by
 by_cases z:a∈S
 ·rw [show fzS S h H a=(h.get? a).map λo=>.frz o (.own a) from if_pos z] at e;obtain ⟨x,q,rfl⟩:=za1 e;exact ⟨q,_,q⟩
 ·rw [show fzS S h H a=H a from if_neg z] at e;have nS:∀ {b o},H b=some o->b∉S:=λq y=>by rw [n _ y] at q;cases q
  exact (ok a o e).stay (λ_ _ _ q=>q) (λb q=>(if_neg (nS q)).trans q) λb xs q=>(if_neg (nS q)).trans q
def qj0 (u:Un fs [] (fzS S h H) H2 h h') (n:∀ b∈S,H b=none) (t:∀ b∈S,∃ o,h.get? b=some o) (ok2:HOk P w H2 h'):Un fs [] H (rem S H2) h h'/\HOk P w (rem S H2) h'/\∀ b∈S,∀ o,h.get? b=some o->h'.get? b=some o/\H2 b=some (.frz o (.own b)):=by
 have f1:∀ {b o},b∈S->h.get? b=some o->fzS S h H b=some (.frz o (.own b)):=λ{b o} z e=>by
  show (if b∈S then _ else _)=_;rw [if_pos z,e];rfl
 have f2:∀ {b},b∉S->fzS S h H b=H b:=λz=>if_neg z;have m1:∀ {b},b∈S->rem S H2 b=none:=λz=>if_pos z;have m2:∀ {b},b∉S->rem S H2 b=H2 b:=λz=>if_neg z;have k:∀ b∈S,∀ o,h.get? b=some o->h'.get? b=some o/\H2 b=some (.frz o (.own b)):=λb z o e=>by
  have y:=u.frzs b o _ (f1 z e);exact ⟨(ok2 b _ y).1,y⟩
 have nS:∀ {b o},H b=some o->b∉S:=λq y=>by rw [n _ y] at q;cases q
 have oS:∀ {b o},H2 b=some o->(∀ x,o≠.frz x (.own b))->b∉S:=λ{b o} e nn z=>by
  obtain ⟨x,q⟩:=t b z;rw [(k b z x q).2] at e;cases e;exact nn x rfl
 refine ⟨⟨λb o q nn hb hx=>?_,λb o q nn hb hx=>?_,λb o q nn hx=>?_,u.there,λb xs q=>?_,λb o v q=>?_,λb ps q=>?_⟩,λa o e=>?_,k⟩
 ·by_cases z:b∈S
  ·exact (k b z o q).1
  ·exact u.keep b o q ((f2 z).trans nn) hb hx
 ·by_cases z:b∈S
  ·exact ⟨o.slots,(k b z o q).1⟩
  ·exact u.slot b o q ((f2 z).trans nn) hb hx
 ·by_cases z:b∈S
  ·exact m1 z
  ·exact (m2 z).trans (u.free b o q ((f2 z).trans nn) hx)
 ·have y:=u.tups b xs ((f2 (nS q)).trans q);exact (m2 (nS q)).trans y
 ·exact (m2 (nS q)).trans (u.frzs b o v ((f2 (nS q)).trans q))
 ·obtain ⟨m,y⟩:=u.tbls b ps ((f2 (nS q)).trans q);exact ⟨m,(m2 (nS q)).trans y⟩
 ·have z:a∉S:=λz=>by rw [m1 z] at e;cases e
  rw [m2 z] at e;exact (ok2 a o e).stay (λ_ _ _ q=>q) (λb q=>(m2 (oS q λx y=>nomatch y)).trans q) λb xs q=>(m2 (oS q λx y=>nomatch y)).trans q
end
def cxL (P:Program) (w:World) (K:Frg) (mg:Str->Option Value) (base:Heap) (N:List Str) (qual:Str) (scope:Scope) (f:Addr) (cd:Value) (clos:List (Str×Addr)) (A:Around) (outer:List Env) (s:Shared) (H:Hp) (E:XK):Cx where
 prog:=P
 w:=w
 K:=K
 mg:=mg
 base:=base
 A:=A.deeper (PySem.W.envX qual scope s.heap.objs.size f cd clos)
 N:=N
 s₀:=s
 H₀:=H
 env:=PySem.W.envX qual scope s.heap.objs.size f cd clos
 outer:=outer
 stack:=PySem.W.envX qual scope s.heap.objs.size f cd clos::outer
 ex:=[]
 calm:=true
 fn:=λ_=>false
 pn:=[]
 xe:=λe s'=>wpAny (model P w) (A.deeper (PySem.W.envX qual scope s.heap.objs.size f cd clos)) (leaving (PySem.W.envX qual scope s.heap.objs.size f cd clos) e) (λ_ s''=>CX0 outer H s E e s'') (λe' s''=>CX0 outer H s E e' s'') s'
structure LamScope (ps fr:List Str) (scope:Scope):Prop where
 kind:scope.kind=.function
 co:scope.isCoroutine=false
 gen:scope.isGenerator=false
 nocell:∀ x∈scope.names,x.2≠.cell
 par:∀ p∈ps,scope.names.lookup p=some .local
 free:∀ x,scope.names.lookup x=some .free->x∈fr
 frf:∀ x∈fr,scope.names.lookup x=some .free
 nd:ps.Nodup
theorem zW {α:Type} {x:Str} {v:α}:∀ {l:List (Str×α)},(l.map λp=>p.1).Nodup->(x,v)∈l->l.lookup x=some v
 |[],_,h=>by cases h
 | (y,u)::l,nd,h=>by
  rcases mem_cons.mp h with e|h
  ·cases e;simp [List.lookup]
  ·have n:x≠y:=λz=>(List.nodup_cons.mp nd).1 (mem_map.mpr ⟨(x,v),h,z⟩);have:(x==y)=false:=by simpa using n
   rw [List.lookup,this];exact zW (List.nodup_cons.mp nd).2 h
def qaJ {x:Str} {u:Value} {ps:List Str} {us:List Value} {i:Nat} (nd:ps.Nodup) (h1:ps[i]?=some x) (h2:us[i]?=some u) (hl:ps.length=us.length):(ps.zip us).reverse.lookup x=some u:=by
 refine zW ?_ (List.mem_reverse.mpr (u4 (List.getElem?_zip_eq_some.mpr ⟨h1,h2⟩)));rw [List.map_reverse,List.map_fst_zip (by omega)];exact List.pairwise_reverse.mpr (nd.imp λh=>Ne.symm h)
def qlB {P:Program} {w:World} {K:Frg} {mg:Str->Option Value} {base:Heap} {k:Nat} {f c:Addr} {qual:Str} {params:Arguments} {body:Expr} {scope:Scope} {clos:List (Str×Addr)} {pm ctv:Value} {ps fr:List Str} {t:TE} (S:LamScope ps fr scope)
  (inj:∀ x y a,clos.lookup x=some a->clos.lookup y=some a->x=y) (has:∀ x∈fr,∃ a,clos.lookup x=some a) (ndc:(clos.map λp=>p.1).Nodup)
  (hbody:∀ (A:Around) (outer:List Env) (s:Shared) (H:Hp) (E:XK),Room k (A.deeper (PySem.W.envX qual scope s.heap.objs.size f (.ref c) clos))->PE (cxL P w K mg base (ps++fr) qual scope f (.ref c) clos A outer s H E) body t) :
  FnOk P w K mg base CX0 (k+1) f (PySem.W.kla_fn "<lambda>" qual params body scope clos pm (.ref c) ctv) ps (λvs H Q _=>vs.length=ps.length/\H f=some (.frz (PySem.W.kla_obj "<lambda>" qual params body scope clos pm c ctv) (.own f))/\(∃ oc,H c=some (.frz oc (.own c))/\CdR oc qual) /\
   ∃ ws,qoR H clos fr ws/\t ((vs++ws).map some) (rem (clos.map λp=>p.2) H) λv H2=>(∀ b∈clos.map (λp=>p.2),H2 b=none)->Q v (add (clos.map λp=>p.2) H H2)):=by
 refine ⟨λvs H Q E h=>h.1,λA outer s H args us vs Q E hr e0 hb r ⟨hl,hf,⟨oc,hc,hcr⟩,ws,caps,hq⟩=>?_⟩;have lim:s.heap.NoLimit:=e0.mod.nolimit.keeps λb o e=>(e0.bs b o e).1;have gf:=(e0.hok f _ hf).1;have gc:s.heap.get? c=some oc:=(e0.hok c _ hc).1;have hrec:s.heap.CodeRec (.ref c) qual:=let ⟨vs',t',d,v⟩:=hcr;⟨c,oc,vs',t',rfl,gc,d,v⟩
 have ul:=r.length;obtain ⟨wl,call,cget⟩:=caps;have mem:∀ {x a},clos.lookup x=some a->a∈clos.map λp=>p.2:=λ{x a} e=>mem_map.mpr ⟨(x,a),PySem.mem_of_lookup e,rfl⟩;have frz:∀ b∈clos.map (λp=>p.2),∃ o,H b=some (.frz o (.own b)):=λb hb=>by
  obtain ⟨⟨x,a⟩,hm,rfl⟩:=mem_map.mp hb;obtain ⟨o,v,e,_⟩:=call x a (zW ndc hm);exact ⟨o,e⟩
 have r0:∀ {b},H b=none->rem (clos.map λp=>p.2) H b=none:=λ{b} e=>by
  unfold rem;split
  ·rfl
  ·exact e
 refine PySem.W.kla_callFunE hr.depth gf rfl S.co S.gen rfl hrec (hb _ _ _ _ ?_);refine wpAny_newFunctionEnv S.nocell (λy hy=>S.par _ (List.of_mem_zip hy).1) (λh1 hns hsb=>⟨lim.fresh _ hsb,?_⟩) S.kind;have hk:∀ b o,s.heap.get? b=some o->h1.get? b=some o:=λb o e=>hsb.extBut b o (u6 (y6 e)) (y3 _ e);have I:Inv (cxL P w K mg base (ps++fr) qual scope f (.ref c) clos A outer s (rem (clos.map λp=>p.2) H) E) [] ((vs++ws).map some) (rem (clos.map λp=>p.2) H) { s with heap:=h1,toks:=s.toks+(ps.zip us).length }:=by
  refine ⟨⟨e0.mod,S.kind,rfl,rfl,v6 _,inj,λx hx=>?_,λx a z=>(nomatch z),λ_=>hr.hd,Around.frames_deeper e0.frames,.inr ⟨rfl,rfl⟩,λb z=>absurd z (by simp [cxL]),λb o e=>⟨(e0.bs b o e).1,r0 (e0.bs b o e).2⟩,e0.bsz,λb o e=>by simp [cxL],λb z=>absurd z (by simp [cxL]),e0.funs,λb z=>r0 (e0.frf b z)⟩,
   rfl,e0.bare,Un.kept hk,⟨_,hns,λi x v h2 h3 h4=>?_⟩,λx a e=>?_,r0 (e0.hok.fresh (v6 _)),λx a e=>if_pos (mem e),λp hp=>absurd (show p∈([]:List (Addr×Obj)) from hp) (by simp),(qjt frz e0.hok).kept hk,?_⟩
  ·have hx:scope.names.lookup x=some .cell\/scope.names.lookup x=some .free:=hx;rcases hx with hx|hx
   ·exact absurd rfl (S.nocell _ (PySem.mem_of_lookup hx))
   ·exact has x (S.free x hx)
  ·have h2:(ps++fr)[i]?=some x:=h2;by_cases c1:i<ps.length
   ·rw [List.getElem?_append_left c1] at h2;rw [getElem?_map,List.getElem?_append_left (by omega)] at h3;obtain ⟨v',e,z⟩:=za1 h3;cases z;obtain ⟨u,hu,rv⟩:=r.get e;exact ⟨u,rv,.inl ⟨S.par x (u4 h2),qaJ S.nd h2 hu (by omega)⟩⟩
   ·rw [List.getElem?_append_right (by omega)] at h2;rw [getElem?_map,List.getElem?_append_right (by omega),hl] at h3;obtain ⟨v',e,z⟩:=za1 h3;cases z;obtain ⟨a,o,u,l,e1,d,rv⟩:=cget _ x v h2 e;exact ⟨u,rv,.inr ⟨.inr (S.frf x (u4 h2)),a,l,o,hk _ _ (e0.hok a _ e1).1,d⟩⟩
  ·obtain ⟨o,v,e1,d⟩:=call x a e;exact ⟨v,o,hk _ _ (e0.hok a _ e1).1,d⟩
  ·show _=(ps++fr).length;rw [length_map,length_append,length_append,hl,wl]
 refine PySem.W.kla_codeExpr (y2 (hbody A outer s _ E (hr.deeper _) [] _ _ _ _ I hq) (λv s' ⟨x,H2,J,rx,q⟩=>?_) λe s' z=>z);obtain ⟨un,ok,go⟩:=qkI (H:=H) J.base frz (λb hb z=>by
  obtain ⟨o,e⟩:=frz b hb;rw [e0.frf b z] at e;cases e) e0.hok J.hok
 exact ⟨x,_,J.os,J.bare,un,ok,rx,q go⟩
def KN (G:Gp):Gp:=λb=>match G b with
 |some (.clo _ _)=>none
 |x=>x
def qf8 (G G2:Gp):Gp:=λb=>match G b with
 |some (.clo i ts)=>some (.clo i ts)
 |_=>G2 b
def qeN {G:Gp} {b:Addr} {o:O} (h:KN G b=some o):G b=some o/\∀ i ts,o≠.clo i ts:=by
 unfold KN at h;split at h
 ·cases h
 ·rename_i n;exact ⟨h,λi ts z=>n i ts (by rw [h,z])⟩
def MC {G:Gp} {b:Addr} (h:G b=none):KN G b=none:=by unfold KN;rw [h]
def qcA {G:Gp} {b:Addr} {i:Nat} {ts:List T} (h:G b=some (.clo i ts)):KN G b=none:=by unfold KN;rw [h]
def qb3 {G G2:Gp} {b:Addr} {i:Nat} {ts:List T} (h:G b=some (.clo i ts)):qf8 G G2 b=some (.clo i ts):=by unfold qf8;rw [h]
def MQ {G G2:Gp} {b:Addr} (h:∀ i ts,G b≠some (.clo i ts)):qf8 G G2 b=G2 b:=by
 unfold qf8;split
 ·rename_i e;exact absurd e (h _ _)
 ·rfl
def FzC (H:Hp) (S:List Addr):Prop:=∀ b∈S,∃ o v,H b=some (.frz o (.own b))/\o.data=.cell v
section
variable {K:Frg} {G G2:Gp} {H H2:Hp} {S:List Addr}
def J7 {b:Addr} {o:HO} (z:FzC H S) (h:H b=some o) (n:∀ x v,x.data=.cell v->o≠.frz x (.own b)):rem S H b=some o:=by
 unfold rem;split
 ·rename_i m;obtain ⟨x,v,e,d⟩:=z b m;rw [h] at e;cases e;exact absurd rfl (n x v d)
 ·exact h
def MY (z:FzC H S) {a:Addr} {vs:List V} (h:SqT K H a vs):SqT K (rem S H) a vs:=by
 rcases h with h|h
 ·rcases h with h|⟨o,h⟩
  ·exact .inl (.inl (J7 z h λx v d y=>nomatch y))
  ·exact .inl (.inr ⟨o,J7 z h λx v d y=>by cases y⟩)
 ·exact .inr h
mutual
theorem Rp.mapS (z:∀ a vs,SqT K H a vs->SqT K H2 a vs):∀ {x:T} {v:V},Rp K H x v->Rp K H2 x v
 |_,_,.non=>.non
 |_,_,.bl b=>.bl b
 |_,_,.int i=>.int i
 |_,_,.str x=>.str x
 |_,_,.ref a=>.ref a
 |_,_,.tup h hs=>.tup (z _ _ h) (Rps.mapS z hs)
theorem Rps.mapS (z:∀ a vs,SqT K H a vs->SqT K H2 a vs):∀ {x:List T} {v:List V},Rps K H x v->Rps K H2 x v
 |_,_,.nil=>.nil
 |_,_,.cons a b=>.cons (Rp.mapS z a) (Rps.mapS z b)
end
theorem HR.rem (hr:HR K G H) (z:FzC H S):HR K (KN G) (rem S H):=⟨λa o e=>by
 obtain ⟨g,n⟩:=qeN e;have q:=hr a o g;have m:=λ{x v}=>Rps.mapS (K:=K) (H:=H) (H2:=L3.rem S H) (λa vs h=>MY z h) (x:=x) (v:=v);cases o with
 |lst xs=>obtain ⟨vs,h1,h2⟩:=q;exact ⟨vs,J7 z h1 λx v d y=>(nomatch y),m h2⟩
 |frz xs=>obtain ⟨vs,⟨o,h1⟩,h2⟩:=q;exact ⟨vs,⟨o,J7 z h1 λx v d y=>by cases y⟩,m h2⟩
 |dct kvs=>obtain ⟨vs,h1,h2⟩:=q;exact ⟨vs,J7 z h1 λx v d y=>(nomatch y),m h2⟩
 |tab ks xs=>obtain ⟨vs,h1,h2⟩:=q;exact ⟨vs,J7 z h1 λx v d y=>(nomatch y),m h2⟩
 |exn C=>exact J7 z q λx v d y=>nomatch y
 |clo i ts=>exact absurd rfl (n i ts),λt ht=>(hr.tabs t ht).keep (λps e=>J7 z e λx v d y=>nomatch y) λc oc e r=>J7 z e λx v d y=>by
  obtain ⟨vs,t,w,_⟩:=r;cases y;rw [w] at d;cases d⟩
def zG (go:∀ b∈S,H2 b=none) {b:Addr} {o:HO} (h:H2 b=some o):add S H H2 b=some o:=by
 unfold add;split
 ·rename_i m;rw [go b m] at h;cases h
 ·exact h
def qcP (go:∀ b∈S,H2 b=none) {a:Addr} {vs:List V} (h:SqT K H2 a vs):SqT K (add S H H2) a vs:=by
 rcases h with h|h
 ·rcases h with h|⟨o,h⟩
  ·exact .inl (.inl (zG go h))
  ·exact .inl (.inr ⟨o,zG go h⟩)
 ·exact .inr h
def qjv (hr:HR K G H) (z:FzC H S) (hr2:HR K G2 H2) (k:Kp (KN G) (rem S H) G2 H2) (go:∀ b∈S,H2 b=none):HR K (qf8 G G2) (add S H H2)/\Kp G H (qf8 G G2) (add S H H2):=by
 have m2:=λ{x v}=>Rps.mapS (K:=K) (H:=H2) (H2:=add S H H2) (λa vs h=>qcP go h) (x:=x) (v:=v);have s1:∀ a vs,SqT K H a vs->SqT K (add S H H2) a vs:=λa vs h=>qcP go (DG (hr.rem z) k (MY z h));have fz:∀ b o,(∀ fd,o.data≠.func fd)->H b=some (.frz o (.own b))->add S H H2 b=some (.frz o (.own b)):=λb o n q=>by
  by_cases m:b∈S
  ·exact (if_pos m).trans q
  ·exact zG go (k b _ ((if_neg m).trans q) (MC (hr.noneC q n)) rfl).1
 refine ⟨⟨λa o e=>?_,λt ht=>(hr2.tabs t ht).keep (λps e=>zG go e) λc oc e r=>zG go e⟩,λa o q g t=>?_⟩
 ·by_cases c:∃ i ts,G a=some (.clo i ts)
  ·obtain ⟨i,ts,c⟩:=c;rw [qb3 c] at e;cases e;obtain ⟨fd,body,clos,cc,ws,l,f,r⟩:=hr a _ c;refine ⟨fd,body,clos,cc,ws,l,f.keep λb o n q=>?_,r.mapS s1⟩;rcases n with rfl|n
   ·have m:b∉S:=λm=>by
     obtain ⟨x,v,e,d⟩:=z b m;obtain ⟨pm,ctv,e2⟩:=f.fo;rw [e] at e2;cases e2;cases d
    exact zG go (k b _ ((if_neg m).trans q) (qcA c) rfl).1
   ·exact fz b o n q
  ·rw [MQ λi ts y=>c ⟨i,ts,y⟩] at e;have q:=hr2 a o e;cases o with
   |lst xs=>obtain ⟨vs,h1,h2⟩:=q;exact ⟨vs,zG go h1,m2 h2⟩
   |frz xs=>obtain ⟨vs,⟨o,h1⟩,h2⟩:=q;exact ⟨vs,⟨o,zG go h1⟩,m2 h2⟩
   |dct kvs=>obtain ⟨vs,h1,h2⟩:=q;exact ⟨vs,zG go h1,m2 h2⟩
   |tab ks xs=>obtain ⟨vs,h1,h2⟩:=q;exact ⟨vs,zG go h1,m2 h2⟩
   |exn C=>exact zG go q
   |clo i ts=>
    obtain ⟨fd,body,clos,cc,ws,l,f,r⟩:=q;exact ⟨fd,body,clos,cc,ws,l,f.keep λb o n q=>zG go q,m2 r⟩
 ·have ng:∀ i ts,G a≠some (.clo i ts):=λi ts y=>by rw [g] at y;cases y
  rw [MQ ng];by_cases m:a∈S
  ·exact ⟨(if_pos m).trans q,hr2.free (go a m)⟩
  ·obtain ⟨h1,h2⟩:=k a o ((if_neg m).trans q) (MC g) t;exact ⟨zG go h1,h2⟩
end
structure Lam3 (P:Program) (w:World) (K:Frg) (mg:Str->Option Value) (base:Heap) (k:Nat) (i:Nat) (S:Sp3):Prop where
 ex:∃ fd body t3,K7 K i=some fd/\fd.body=.expr body/\LamScope (psN fd.scope) (frN fd.scope) fd.scope /\
  (∀ clos pm c ctv us,us.length=(psN fd.scope).length->bindArgs (PySem.W.kla_fn "<lambda>" fd.qualname fd.params body fd.scope clos pm (.ref c) ctv) ⟨us,[]⟩=pure ((psN fd.scope).zip us)) /\
  (∀ A outer s H E f c clos,Room k (A.deeper (PySem.W.envX fd.qualname fd.scope s.heap.objs.size f (.ref c) clos))->E3 (cxL P w K mg base (psN fd.scope++frN fd.scope) fd.qualname fd.scope f (.ref c) clos A outer s H E) body t3) /\
  ∀ ts G q,S ts G q->ts.length=(psN fd.scope).length+(frN fd.scope).length/\t3 (ts.map some) G q
def qiP {X:Cx} {pins:List (Addr×Obj)} {σ:L2.St} {H:Hp} {s:Shared} {k i:Nat} {S:Sp3} {G:Gp} {a:Addr} {ts xs:List T} {vs:List V} {us:List Value} {q:Q3} {Q:VK} (L:Lam3 X.prog X.w X.K X.mg X.base k i S) (hr:Room (k+1) X.A) (I:Inv X pins σ H s) (hr3:HR X.K G H)
  (g:G a=some (.clo i ts)) (rx:Rps X.K H xs vs) (r:zb vs us) (h:S (xs++ts) (KN G) λy G2=>(∀ b i ts,G b=some (.clo i ts)->G2 b=none)->q y (qf8 G G2)) (af:Aft X.K G H q Q):wpAny (model X.prog X.w) X.A (call (.ref a) us) (EP X pins σ Q) X.xe s:=by
 obtain ⟨fd,body,t3,l,bd,sc,bi,hb,rd⟩:=L.ex;obtain ⟨fd',body',clos,c,ws,l',f,rts⟩:=hr3 a _ g;rw [l] at l';cases l';have bd':=f.bd;rw [bd] at bd';cases bd';obtain ⟨pm,ctv,fo⟩:=f.fo;obtain ⟨hl,ht⟩:=rd _ _ _ h;have wl:=f.caps.1;have tl:=rts.length;have xl:=rx.length;rw [length_append] at hl;have z:FzC H (clos.map λp=>p.2):=λb hb=>by
  obtain ⟨⟨x,a⟩,hm,rfl⟩:=mem_map.mp hb;obtain ⟨o,v,e,d⟩:=f.caps.2.1 x a (zW f.ok.nd hm);exact ⟨o,v,e,d⟩
 have F:=qlB (P:=X.prog) (w:=X.w) (K:=X.K) (mg:=X.mg) (base:=X.base) (k:=k) (f:=a) (c:=c) (qual:=fd.qualname) (params:=fd.params) (body:=body) (scope:=fd.scope) (clos:=clos) (pm:=pm) (ctv:=ctv) (t:=lE X.K t3) sc f.ok.inj f.ok.has f.ok.nd λA outer s H E hr=>hb A outer s H E a c clos hr;refine qge (E:=E0) F hr (WK.all λus hu=>bi clos pm c ctv us hu) .nil qmE I r ?_;rw [List.append_nil];refine ⟨by omega,fo,f.co,ws,f.caps,(xs++ts).map some,KN G,_,⟨hr3.rem z,by simp [xl,tl],λj t e=>?_⟩,ht,λy G2 hq v H2 ry hr2 k2 go=>?_⟩
 ·have ra:=(rx.append rts).mapS (H2:=rem (clos.map λp=>p.2) H) λa vs h=>MY z h;rw [getElem?_map] at e;obtain ⟨t',e',y⟩:=za1 e;cases y;obtain ⟨v,e2,rv⟩:=ra.get e';exact ⟨v,by rw [getElem?_map,e2];rfl,rv⟩
 ·obtain ⟨a1,a2⟩:=qjv hr3 z hr2 k2 go;refine af y _ (hq λb i ts e=>?_) v _ (Rp.mapS (λa vs h=>qcP go h) ry) a1 a2;obtain ⟨fd',body',clos',c',ws',_,f',_⟩:=hr3 b _ e;obtain ⟨pm',ctv',fo'⟩:=f'.fo;exact (k2 b _ (J7 z fo' λx v d y=>by cases y;cases d) (qcA e) rfl).2
def spV (Φ:Nat->Option Sp3) (a:Addr):Sp3:=λxs G q=>match G a with
 |some (.clo i ts)=>(match Φ i with|some S=>S (xs++ts) (KN G) (λy G2=>(∀ b i ts,G b=some (.clo i ts)->G2 b=none)->q y (qf8 G G2))|none=>False)
 |_=>False
def cv3 (Φ:Nat->Option Sp3) (tf:TE3) (ta:TA3):TE3:=λτ G q=>tf τ G λx G1=>match x with
 |.ref a=>ta τ G1 λxs G2=>spV Φ a xs G2 q
 |_=>False
def qir {X:Cx} {Φ:Nat->Option Sp3} {k:Nat} {x:Str} {p pos:Pos} {e:Expr} {es:List Expr} {tf:TE3} {ta:TA3} (hΦ:∀ i S,Φ i=some S->∃ k0,k0+1<=k/\Lam3 X.prog X.w X.K X.mg X.base k0 i S) (hr:Room k X.A) (hf:E3 X (.Name x p) tf) (ha:A3 X (e::es) ta)
  (he:starEach (e::es) X.env=(false,eval e X.env)::starEach es X.env:=by rfl) (hpl:(backTo pos (starEach es X.env)).any (·.1)=false:=by rfl):E3 X (.Call (.Name x p) (e::es) [] pos) (cv3 Φ tf ta):=by
 intro pins s σ H Q I ⟨τ,G,q,rl,h,af⟩;refine wpAny_Call_Name_kw (thn (hf pins s σ H (λv H1=>∃ a G1,v=.ref a/\Rel X.K τ G1 σ H1/\Kp G H G1 H1/\ta τ G1 λxs G2=>spV Φ a xs G2 q) I (zf rl h λy G1 h1 v H1 rv hr1 k1 rl1=>?_)) λv s1 ⟨v',H1,I1,rv,a,G1,e1,rl1,k1,h1⟩=>?_)
 ·cases y with
  |ref a=>cases rv;exact ⟨a,G1,rfl,rl1,k1,h1⟩
  |_=>exact h1.elim
 ·subst e1;cases (show v=Value.ref a from rv);have key:=ha pos pins s1 σ H1 (λvs H2=>∃ xs G2,Rps X.K H2 xs vs/\HR X.K G2 H2/\Kp G H G2 H2/\spV Φ a xs G2 q) I1 (Z3 rl1 h1 λxs G2 h2 vs H2 rs hr2 k2 rl2=>⟨xs,G2,rs,hr2,k1.trans k2,h2⟩);rw [he] at key ⊢;refine PySem.W.callWith_of (P:=PySem.W.FnAt a) (by show ((false||(backTo pos (starEach es X.env)).any (·.1))||false)=false;rw [hpl];rfl) PySem.W.keeps_F (Calls.evalArgs_plain (thn key λus s2 ⟨vs,H2,I2,r,xs,G2,rs,hr2,k2,h2⟩=>?_));unfold spV at h2;split at h2
  ·rename_i i ts g;split at h2
   ·rename_i S hS;obtain ⟨k0,hk,L⟩:=hΦ i S hS;refine ⟨?_,qiP L (hr.mono hk) I2 hr2 g rs r h2 (af.back k2)⟩;obtain ⟨fd,body,clos,c,ws,_,f,_⟩:=hr2 a _ g;obtain ⟨pm,ctv,fo⟩:=f.fo;exact ⟨_,_,_,_,(I2.hok a _ fo).1⟩
   ·exact h2.elim
  ·exact h2.elim
def qnH (P:Addr) (q:Str) (params:Arguments) (body:Expr) (scope:Scope) (clos:List (Str×Addr)):TE:=λ_ H Q=>LW H P q/\∀ f c fo oc H',LamNew H H' P f c fo oc q->LamO fo params body scope clos q c->Q (.ref f) H'
section
variable {K:Frg} {G:Gp} {H H':Hp} {P f c:Addr} {fo oc:Obj} {q:Str}
def OR.mono (m:∀ b o,K0 o=false->H b=some o->H' b=some o) {a:Addr} {o:O} (x:OR K H a o):OR K H' a o:=by
 have sq:∀ a vs,SqT K H a vs->SqT K H' a vs:=λa vs h=>by
  rcases h with h|h
  ·rcases h with h|⟨o,h⟩
   ·exact .inl (.inl (m _ _ rfl h))
   ·exact .inl (.inr ⟨o,m _ _ rfl h⟩)
  ·exact .inr h
 cases o with
 |lst xs=>obtain ⟨vs,h1,h2⟩:=x;exact ⟨vs,m _ _ rfl h1,h2.mapS sq⟩
 |frz xs=>obtain ⟨vs,⟨o,h1⟩,h2⟩:=x;exact ⟨vs,⟨o,m _ _ rfl h1⟩,h2.mapS sq⟩
 |dct kvs=>obtain ⟨vs,h1,h2⟩:=x;exact ⟨vs,m _ _ rfl h1,h2.mapS sq⟩
 |tab ks xs=>obtain ⟨vs,h1,h2⟩:=x;exact ⟨vs,m _ _ rfl h1,h2.mapS sq⟩
 |exn C=>exact m _ _ rfl x
 |clo i ts=>
  obtain ⟨fd,body,clos,c,ws,l,f,r⟩:=x;exact ⟨fd,body,clos,c,ws,l,f.keep λb o _ q=>m _ _ rfl q,r.mapS sq⟩
theorem LamNew.hr (N:LamNew H H' P f c fo oc q) (hr:HR K G H) (one:∀ t∈CV K,t.2.1=P->t.2.2=q):HR K G H'/\Kp G H G H':=by
 refine ⟨⟨λa o e=>(hr a o e).mono N.old,λt ht=>?_⟩,λa o h g t=>⟨N.old a o t h,g⟩⟩;by_cases z:t.2.1=P
 ·rw [z,one t ht z];exact N.tab
 ·exact (hr.tabs t ht).keep (λps e=>N.oldP _ _ z e) λc oc e _=>N.old _ _ rfl e
end
def qdE (G G3:Gp):Gp:=λb=>match G3 b with
 |some (.clo _ _)=>G b
 |x=>x
def ExG (G G':Gp):Prop:=∀ b o,G b=some o->G' b=some o
def qk2 {G G3:Gp} {b:Addr} {o:O} (h:qdE G G3 b=some o):(G3 b=some o/\∀ i ts,o≠.clo i ts)\/(∃ i ts,G3 b=some (.clo i ts))/\G b=some o:=by
 unfold qdE at h;split at h
 ·rename_i i ts e;exact .inr ⟨⟨i,ts,e⟩,h⟩
 ·rename_i n;exact .inl ⟨h,λi ts z=>n i ts (by rw [h,z])⟩
theorem W1 {env:Env}:∀ (l:List (Str×NameKind)) (cs:List (Str×Addr)),(l.map λp=>p.1).Nodup->(cs.map λp=>p.1).Nodup->(∀ x∈cs.map (λp=>p.1),x∉l.map λp=>p.1)->((clos env l cs).map λp=>p.1).Nodup
 |[],_,_,h,_=>h
 | (n,k)::r,cs,h1,h2,h3=>by
  have a:=List.nodup_cons.mp h1;unfold clos;split
  ·refine W1 r _ a.2 (List.nodup_cons.mpr ⟨λz=>h3 n z (by simp),h2⟩) λx hx=>?_;rcases mem_cons.mp hx with rfl|hx
   ·exact a.1
   ·exact λz=>h3 x hx (v7 _ z)
  ·exact W1 r _ a.2 h2 λx hx z=>h3 x hx (v7 _ z)
def CL {sc:Scope} {x:Str}:x∈frN sc↔(x,NameKind.free)∈sc.names:=by
 unfold frN;constructor
 ·intro h;obtain ⟨⟨y,k⟩,hm,rfl⟩:=mem_map.mp h;obtain ⟨h1,h2⟩:=List.mem_filter.mp hm;have:k=.free:=by simpa using h2
  subst this;exact h1
 ·intro h;exact mem_map.mpr ⟨(x,.free),List.mem_filter.mpr ⟨h,by simp⟩,rfl⟩
structure LamArg (X:Cx) (q:Str) (i:Nat) (m:List Nat) (params:Arguments) (body:Expr) (scope:Scope):Prop where
 fd:∃ fd,K7 X.K i=some fd/\fd.params=params/\fd.body=.expr body/\fd.scope=scope/\fd.qualname=q
 dfl:defaultsOf params X.env=([],[])
 kind:∀ y∈scope.names,y.2=.free->X.env.kindOf y.1=some .cell
 nd:(scope.names.map λp=>p.1).Nodup
 at':m.map (λj=>X.N[j]?)=(frN scope).map some
def qdD (τ:St3):List Nat->Option (List T)
 |[]=>some []
 |j::r=>match τ[j]? with
  |some (some t)=>(qdD τ r).map λts=>t::ts
  |_=>none
theorem M6 {K:Frg} {τ:St3} {G:Gp} {σ:L2.St} {H:Hp} (rl:Rel K τ G σ H):∀ {m:List Nat} {ts:List T},qdD τ m=some ts->∃ ws,Rps K H ts ws/\ws.length=m.length/\∀ (i j:Nat) (w:V),m[i]?=some j->ws[i]?=some w->σ[j]?=some (some w)
 |[],ts,h=>by cases h;exact ⟨[],.nil,rfl,λi j w e=>by simp at e⟩
 |j::r,ts,h=>by
  unfold qdD at h;split at h
  ·rename_i t e;obtain ⟨ts',h',rfl⟩:=za1 h;obtain ⟨v,e1,rv⟩:=rl.st j t e;obtain ⟨ws,rs,l,a⟩:=M6 rl h';refine ⟨v::ws,.cons rv rs,by simp [l],λi j' w e2 e3=>?_⟩;cases i with
   |zero=>simp at e2 e3;subst e2;subst e3;exact e1
   |succ i=>exact a i j' w (by simpa using e2) (by simpa using e3)
  ·cases h
def cl2 (sp:Sp3) (t1:TE3) (tr:TA3) (i1 i2:Nat) (m1 m2:List Nat):TE3:=λτ G q=>t1 τ G λx1 G1=>tr τ G1 λrs G2=>∃ c1 c2,qdD τ m1=some c1/\qdD τ m2=some c2/\∀ f1 f2,G2 f1=none->G2 f2=none->f1≠f2 ->
 sp (x1::.ref f1::.ref f2::rs) (gu (gu G2 f1 (.clo i1 c1)) f2 (.clo i2 c2)) λy G3=>ExG (gu (gu G2 f1 (.clo i1 c1)) f2 (.clo i2 c2)) G3/\q y (qdE G2 G3)
section
variable {X:Cx} {pins:List (Addr×Obj)} {σ:L2.St} {H:Hp} {s:Shared} {q:Str} {i:Nat} {m:List Nat} {params:Arguments} {body:Expr} {scope:Scope}
theorem LamArg.has (L:LamArg X q i m params body scope) (I:Inv X pins σ H s):∀ y∈scope.names,y.2=.free->∃ c,X.env.cells.lookup y.1=some c:=λy hy e=>I.ok.has y.1 (.inl (L.kind y hy e))
def LamArg.look (L:LamArg X q i m params body scope) (I:Inv X pins σ H s) {x:Str} {c:Addr} (h:(clos X.env scope.names []).lookup x=some c):X.env.cells.lookup x=some c:=ZF _ _ _ _ (L.has I) (λ_ _ z=>by simp at z) h
def LamArg.clo (L:LamArg X q i m params body scope) (I:Inv X pins σ H s):CloOk (clos X.env scope.names []) (frN scope):=⟨λx y a h1 h2=>I.ok.inj x y a (L.look I h1) (L.look I h2),λx hx=>VT _ _ _ (.inl (CL.mp hx)),W1 _ _ L.nd (by simp) (by simp)⟩
def LamArg.caps (L:LamArg X q i m params body scope) (I:Inv X pins σ H s) {S:List Addr} (hS:∀ x c,(clos X.env scope.names []).lookup x=some c->c∈S) {ws:List V} (hl:ws.length=m.length) (hw:∀ (i j:Nat) (w:V),m[i]?=some j->ws[i]?=some w->σ[j]?=some (some w)):qoR (fzS S s.heap H) (clos X.env scope.names []) (frN scope) ws:=by
 have fz:∀ {b o},b∈S->s.heap.get? b=some o->fzS S s.heap H b=some (.frz o (.own b)):=λ{b o} z e=>by
  show (if b∈S then _ else _)=_;rw [if_pos z,e];rfl
 have ml:=congrArg List.length L.at';rw [length_map,length_map] at ml;refine ⟨by omega,λx c e=>?_,λj x v e1 e2=>?_⟩
 ·obtain ⟨v,o,ho,hd⟩:=I.cell x c (L.look I e);exact ⟨o,v,fz (hS x c e) ho,hd⟩
 ·have at1:=congrArg (λl=>l[j]?) L.at';simp only [getElem?_map,e1,Option.map_some] at at1;obtain ⟨n,hn,an⟩:=za1 at1;have k:=L.kind (x,.free) (CL.mp (u4 e1)) rfl;obtain ⟨mm,_,hl2⟩:=I.loc;obtain ⟨u,rv,lk⟩:=hl2 n x v an (hw j n v hn e2) (.inr (.inl k));rcases lk with ⟨lk,_⟩|⟨_,c,hc,o,ho,hd⟩
  ·rw [k] at lk;cases lk
  ·obtain ⟨c',hc'⟩:=(L.clo I).has x (u4 e1);have:=L.look I hc';rw [hc] at this;cases this;exact ⟨c,o,u,hc',fz (hS x c hc') ho,hd,rv⟩
end
def OR.cloM {K:Frg} {H H':Hp} {a:Addr} {i:Nat} {ts:List T} (fz:∀ b o u,H b=some (.frz o u)->H' b=some (.frz o u)) (tu:∀ b xs,H b=some (.tup xs)->H' b=some (.tup xs)) (x:OR K H a (.clo i ts)):OR K H' a (.clo i ts):=by
 obtain ⟨fd,body,clos,c,ws,l,f,r⟩:=x;refine ⟨fd,body,clos,c,ws,l,f.keep λb o _ q=>fz _ _ _ q,r.mapS λa vs h=>?_⟩;rcases h with h|h
 ·rcases h with h|⟨o,h⟩
  ·exact .inl (.inl (tu _ _ h))
  ·exact .inl (.inr ⟨o,fz _ _ _ h⟩)
 ·exact .inr h
def M2 {G:Gp} {b:Addr} {o:O} (h:G b=some o) (n:∀ i ts,o≠.clo i ts):KN G b=some o:=by
 unfold KN;split
 ·rename_i i ts e;rw [h] at e;cases e;exact absurd rfl (n i ts)
 ·exact h
def qcv {K:Frg} {H H':Hp} (m:∀ b o,K0 o=false->H b=some o->H' b=some o):∀ a vs,SqT K H a vs->SqT K H' a vs:=λa vs h=>by
 rcases h with h|h
 ·rcases h with h|⟨o,h⟩
  ·exact .inl (.inl (m _ _ rfl h))
  ·exact .inl (.inr ⟨o,m _ _ rfl h⟩)
 ·exact .inr h
def LamArg.or {X:Cx} {pins:List (Addr×Obj)} {σ:L2.St} {H:Hp} {s:Shared} {q:Str} {i:Nat} {m:List Nat} {params:Arguments} {body:Expr} {scope:Scope} (L:LamArg X q i m params body scope) (I:Inv X pins σ H s) {S:List Addr} (hS:∀ x c,(clos X.env scope.names []).lookup x=some c->c∈S) (hn:∀ b∈S,H b=none)
  {τ:St3} {G:Gp} (rl:Rel X.K τ G σ H) {ts:List T} (hc:qdD τ m=some ts) {f c:Addr} {fo oc:Obj} (hf:H f=some (.frz fo (.own f))) (hcc:H c=some (.frz oc (.own c))) (cr:CdR oc q) (O:LamO fo params body scope (clos X.env scope.names []) q c):OR X.K (fzS S s.heap H) f (.clo i ts):=by
 obtain ⟨fd,l,e1,e2,e3,e4⟩:=L.fd;obtain ⟨ws,rs,wl,hw⟩:=M6 rl hc;have fz:∀ {b o},H b=some o->fzS S s.heap H b=some o:=λ{b o} h=>(if_neg (λz=>by rw [hn b z] at h;cases h)).trans h;obtain ⟨pm,ctv,rfl⟩:=O.ex;have cl:=L.clo I;have cp:=L.caps I hS wl hw;subst e1 e3 e4;exact ⟨fd,body,_,c,ws,l,⟨e2,⟨pm,ctv,fz hf⟩,⟨oc,fz hcc,cr⟩,cl,cp⟩,rs.mapS (qcv λb o _ h=>fz h)⟩
def qoN {X:Cx} {k:Nat} {x:Str} {p pos:Pos} {e1:Expr} {pr1 pr2:Arguments} {b1 b2:Expr} {sA sB:Scope} {o1 o2:Pos} {es:List Expr} {sp:Sp3} {t1:TE3} {tr:TA3} {c P:Addr} {q:Str} {i1 i2:Nat} {m1 m2:List Nat}
  (F:Fn3 X.prog X.w X.K X.mg X.base k x sp) (hr:Room k X.A) (hg:Gl X x) (h1:E3 X e1 t1) (hrs:A3 X es tr) (hc:X.env.code=.ref c) (C:PySem.W.CodeHd X.base c P) (B:qeh X.mg X.base) (hq:X.env.qual++"<lambda>" = q) (tk:(c,P,q)∈CV X.K) (one:∀ t∈CV X.K,t.2.1=P->t.2.2=q)
  (L1:LamArg X q i1 m1 pr1 b1 sA) (L2:LamArg X q i2 m2 pr2 b2 sB) (fnT:∀ x,X.fn x=true) (hdb:(x==("__debug__" : Str))=false:=by decide)
  (he:starEach (e1::.Lambda pr1 b1 sA o1::.Lambda pr2 b2 sB o2::es) X.env=(false,eval e1 X.env)::starEach (.Lambda pr1 b1 sA o1::.Lambda pr2 b2 sB o2::es) X.env:=by rfl)
  (hpl:(backTo pos (starEach (.Lambda pr1 b1 sA o1::.Lambda pr2 b2 sB o2::es) X.env)).any (·.1)=false:=by rfl):E3 X (.Call (.Name x p) (e1::.Lambda pr1 b1 sA o1::.Lambda pr2 b2 sB o2::es) [] pos) (cl2 sp t1 tr i1 i2 m1 m2):=by
 obtain ⟨f,fd,ps,F,b,kp,mm⟩:=F;intro pins s σ H Q I ⟨τ,G,qq,rl,h,af⟩;have pl:∀ {i:Nat} {m:List Nat} {pr:Arguments} {bd:Expr} {sc:Scope} {o:Pos},LamArg X q i m pr bd sc->PE X (.Lambda pr bd sc o) (qnH P q pr bd sc (clos X.env sc.names [])):=λ{i m pr bd sc o} L pins s σ H Q I ⟨T,h⟩=>
  thn (qd1 I hc C B T hq L.dfl (VR (L.has I))) λv s' ⟨f,c',fo,oc,H',e,I',N,O⟩=>⟨.ref f,H',I',e,h f c' fo oc H' N O⟩
 have hA:PA X (e1::.Lambda pr1 b1 sA o1::.Lambda pr2 b2 sB o2::es) (qdR (lE X.K t1) (qdR (qnH P q pr1 b1 sA (clos X.env sA.names [])) (qdR (qnH P q pr2 b2 sB (clos X.env sB.names [])) (lA X.K tr)))):=j8 h1 (j8 (pl L1) (j8 (pl L2) hrs (by rfl)) (by rfl)) he;refine wpAny_Call_Name_kw (qbk I hg mm ?_ hdb);refine PySem.W.callWith_K (h₀:=X.base) I.ok.mod.kin kp (thn (hA pos pins s σ H (λvs H4=>∃ x1 rs G2 f1 f2 c1 c2 fo1 fo2 oc1 oc2 v1 vr,vs=v1::.ref f1::.ref f2::vr/\Rps X.K H4 (x1::rs) (v1::vr)/\Rel X.K τ G2 σ H4/\Kp G H G2 H4/\(H4 f1=some (.frz fo1 (.own f1))/\H4 c1=some (.frz oc1 (.own c1))/\CdR oc1 q/\LamO fo1 pr1 b1 sA (clos X.env sA.names []) q c1/\G2 f1=none) /\
   (H4 f2=some (.frz fo2 (.own f2))/\H4 c2=some (.frz oc2 (.own c2))/\CdR oc2 q/\LamO fo2 pr2 b2 sB (clos X.env sB.names []) q c2/\G2 f2=none)/\f1≠f2/\∃ d1 d2,qdD τ m1=some d1/\qdD τ m2=some d2/\sp (x1::.ref f1::.ref f2::rs) (gu (gu G2 f1 (.clo i1 d1)) f2 (.clo i2 d2)) λy G3=>ExG (gu (gu G2 f1 (.clo i1 d1)) f2 (.clo i2 d2)) G3/\qq y (qdE G2 G3)) I ?_) λus s1 hh=>⟨hh.elim λ_ z=>z.elim λ_ z=>z.1.kIn,?_⟩) he hpl
 ·-- the arguments
  refine zf rl h λx1 G1 h1 v1 H1 rx1 hr1 k1 rl1=>⟨hr1.tabs _ tk,λf1 c1 fo1 oc1 H2 N1 O1=>?_⟩
  obtain ⟨hr2,k2⟩:=N1.hr hr1 one;have rl2:=rl1.next hr2 k2;refine ⟨hr2.tabs _ tk,λf2 c2 fo2 oc2 H3 N2 O2=>?_⟩;obtain ⟨hr3,k3⟩:=N2.hr hr2 one;have rl3:=rl2.next hr3 k3;have g1:G1 f1=none:=hr1.free N1.f0;have g2:G1 f2=none:=hr2.free N2.f0;have nf:f1≠f2:=λz=>by have:=N2.f0;rw [← z,N1.f1] at this;cases this
  have hf1:=N2.old _ _ rfl N1.f1;have hc1:=N2.old _ _ rfl N1.c1;refine Z3 rl3 h1 λrs G2 h2 vr H4 rrs hr4 k4 rl4=>?_;obtain ⟨d1,d2,cp1,cp2,hs⟩:=h2;have gf:∀ {a:Addr} {o:Obj},G1 a=none->H3 a=some (.frz o (.own a))->H4 a=some (.frz o (.own a))/\G2 a=none:=λz e=>k4 _ _ e z rfl;obtain ⟨a1,a2⟩:=gf g1 hf1;obtain ⟨a3,a4⟩:=gf g2 N2.f1;obtain ⟨a5,_⟩:=gf (hr3.noneC hc1 N1.cr.nf) hc1;obtain ⟨a6,_⟩:=gf (hr3.noneC N2.c1 N2.cr.nf) N2.c1;exact ⟨x1,rs,G2,f1,f2,c1,c2,fo1,fo2,oc1,oc2,v1,vr,rfl,.cons (((rx1.keep hr1 k2).keep hr2 k3).keep hr3 k4) rrs,rl4,((k1.trans k2).trans k3).trans k4,⟨a1,a5,N1.cr,O1,a2⟩,⟨a3,a6,N2.cr,O2,a4⟩,nf,d1,d2,cp1,cp2,hs f1 f2 a2 a4 nf⟩
 ·-- the call
  obtain ⟨vs,H4,I1,r,x1,rs,G2,f1,f2,c1,c2,fo1,fo2,oc1,oc2,v1,vr,ev,rrs,rl4,k4,⟨hf1,hc1,cr1,O1,g1⟩,⟨hf2,hc2,cr2,O2,g2⟩,nf,d1,d2,cp1,cp2,hsp⟩:=hh;subst ev;have hr4:=rl4.hp
  let S:List Addr:=(clos X.env sA.names []).map (λp=>p.2)++(clos X.env sB.names []).map λp=>p.2
  have inS:∀ b∈S,∃ x,X.env.cells.lookup x=some b:=λb hb=>by
   rcases List.mem_append.mp hb with hb|hb
   ·obtain ⟨⟨x,a⟩,hm,rfl⟩:=mem_map.mp hb;exact ⟨x,L1.look I1 (zW (L1.clo I1).nd hm)⟩
   ·obtain ⟨⟨x,a⟩,hm,rfl⟩:=mem_map.mp hb;exact ⟨x,L2.look I1 (zW (L2.clo I1).nd hm)⟩
  have S1:∀ x c,(clos X.env sA.names []).lookup x=some c->c∈S:=λx c e=>List.mem_append_left _ (mem_map.mpr ⟨(x,c),PySem.mem_of_lookup e,rfl⟩);have S2:∀ x c,(clos X.env sB.names []).lookup x=some c->c∈S:=λx c e=>v8 _ (mem_map.mpr ⟨(x,c),PySem.mem_of_lookup e,rfl⟩);have hn:∀ b∈S,H4 b=none:=λb hb=>let ⟨x,e⟩:=inS b hb;I1.freeC x b e
  have th:∀ b∈S,∃ o,s1.heap.get? b=some o:=λb hb=>let ⟨x,e⟩:=inS b hb;let ⟨v,o,ho,_⟩:=I1.cell x b e;⟨o,ho⟩
  have ce:∀ b∈S,∃ o v,s1.heap.get? b=some o/\o.data=.cell v:=λb hb=>let ⟨x,e⟩:=inS b hb;let ⟨v,o,ho,d⟩:=I1.cell x b e;⟨o,v,ho,d⟩
  have ge:∀ b∈S,X.s₀.heap.objs.size<=b:=λb hb=>let ⟨x,e⟩:=inS b hb;I1.ok.cab x b (fnT x) e
  have nst:∀ b∈S,b∉frs X.stack:=λb hb z=>by
   obtain ⟨x,e⟩:=inS b hb;rcases mem_cons.mp (I1.stkSub b z) with z|z
   ·exact I1.cne x b e z
   ·obtain ⟨_,o,ho,_⟩:=I1.ok.funs.mem z;exact absurd (v9 (y6 ho) (ge b hb)) (Nat.lt_irrefl _)
  have fz:∀ {b o},H4 b=some o->fzS S s1.heap H4 b=some o:=λ{b o} h=>(if_neg (λz=>by rw [hn b z] at h;cases h)).trans h;have fn0:∀ {b},H4 b=none->b∉S->fzS S s1.heap H4 b=none:=λ{b} h z=>(if_neg z).trans h;have hok':=qoK hn th I1.hok;have hrG:HR X.K (gu (gu G2 f1 (.clo i1 d1)) f2 (.clo i2 d2)) (fzS S s1.heap H4):=⟨λa o e=>by
   by_cases z2:a=f2
   ·subst z2;rw [qG] at e;cases e;exact L2.or I1 S2 hn rl4 cp2 hf2 hc2 cr2 O2
   ·rw [jc z2] at e;by_cases z1:a=f1
    ·subst z1;rw [qG] at e;cases e;exact L1.or I1 S1 hn rl4 cp1 hf1 hc1 cr1 O1
    ·rw [jc z1] at e;exact (hr4 a o e).mono λb o _ h=>fz h,λt ht=>(hr4.tabs t ht).keep (λps e=>fz e) λc oc e _=>fz e⟩
  have e0:=I1.env0;have bsS:∀ b o,X.base.get? b=some o->b∉S:=λb o e z=>absurd (v9 (v9 (y6 e) I1.ok.bsz) (ge b z)) (Nat.lt_irrefl _);have E0':Env0 X.prog X.w X.K X.mg X.base X.A X.stack s1 (fzS S s1.heap H4):=⟨e0.frames,e0.mod,λb o e=>⟨(e0.bs b o e).1,fn0 (e0.bs b o e).2 (bsS b o e)⟩,e0.bsz,e0.funs,λb z=>fn0 (e0.frf b z) λy=>nst b y z,hok',e0.bare⟩
  have rr:Rps X.K (fzS S s1.heap H4) (x1::.ref f1::.ref f2::rs) (v1::.ref f1::.ref f2::vr):=by
   have:=rrs.mapS (H2:=fzS S s1.heap H4) (qcv λb o _ h=>fz h);cases this with
   |cons a b=>exact .cons a (.cons (.ref f1) (.cons (.ref f2) b))
  let Qc:VK:=λv H2=>∃ y G3,(ExG (gu (gu G2 f1 (.clo i1 d1)) f2 (.clo i2 d2)) G3/\qq y (qdE G2 G3))/\Rp X.K H2 y v/\HR X.K G3 H2/\Kp (gu (gu G2 f1 (.clo i1 d1)) f2 (.clo i2 d2)) (fzS S s1.heap H4) G3 H2
  have spec:lSp X.K sp (v1::.ref f1::.ref f2::vr) (fzS S s1.heap H4) Qc (λ_ _ _=>False):=⟨_,_,_,hrG,rr,hsp,λy G3 hq v H2 ry hr3 k3=>⟨y,G3,hq,ry,hr3,k3⟩⟩
  have hl:(us++[]).length=ps.length:=by rw [List.append_nil,← r.length];exact F.len _ _ _ _ spec
  have bb:=b s1 us I1.kIn hl;rw [List.append_nil] at bb;refine wpAny_call (codeAny_mono (F.run X.A X.stack s1 _ ⟨us,[]⟩ us _ Qc (λ_ _ _=>False) hr E0' bb r spec) λres s' hq=>?_);cases res with
  |error e=>exact False.elim hq
  |ok fl=>
   cases fl with
   |ret u=>
    obtain ⟨v,H2,os,bare,un,ok2,rv,y,G3,⟨ex,hqq⟩,ry,hr3,k3⟩:=hq;obtain ⟨un2,ok3,kk⟩:=qj0 un hn th ok2;have z:FzC H2 S:=λb hb=>let ⟨o,v,g,d⟩:=ce b hb;⟨o,v,(kk b hb o g).2,d⟩
    have hrm:=hr3.rem z;have J:Inv X pins σ (rem S H2) s':=I1.call' (ch:=[]) os un2 ok3 bare λb z=>absurd z (by simp);have exo:∀ {b o},G2 b=some o->G3 b=some o:=λ{b o} g=>ex b o (by
     rw [jc (by rintro rfl;rw [g2] at g;cases g),jc (by rintro rfl;rw [g1] at g;cases g)];exact g)
    have exf:∀ {a},a=f1\/a=f2->∃ i ts,G3 a=some (.clo i ts):=λ{a} w=>by
     rcases w with rfl|rfl
     ·exact ⟨i1,d1,ex _ _ (by rw [jc nf];exact qG)⟩
     ·exact ⟨i2,d2,ex _ _ qG⟩
    refine ⟨v,_,J,rv,af y _ hqq v _ (ry.mapS λa vs h=>MY z h) ⟨λa o e=>?_,hrm.tabs⟩ (k4.trans λa o e g t=>?_)⟩
    ·rcases qk2 e with ⟨e1,n⟩|⟨⟨i,ts,e1⟩,e2⟩
     ·exact hrm a o (M2 e1 n)
     ·have:=exo e2;rw [e1] at this;cases this;exact (hr4 a _ e2).cloM un2.frzs un2.tups
    ·have nS:a∉S:=λw=>by rw [hn a w] at e;cases e
     by_cases w:a=f1\/a=f2
     ·obtain ⟨i,ts,y1⟩:=exf w;refine ⟨?_,?_⟩
      ·rcases w with rfl|rfl
       ·rw [hf1] at e;cases e;exact un2.frzs _ _ _ hf1
       ·rw [hf2] at e;cases e;exact un2.frzs _ _ _ hf2
      ·unfold qdE;rw [y1];exact g
     ·have w1:a≠f1:=λz=>w (.inl z);have w2:a≠f2:=λz=>w (.inr z);obtain ⟨h1,h2⟩:=k3 a o (fz e) (by rw [jc w2,jc w1];exact g) t;exact ⟨(if_neg nS).trans h1,by unfold qdE;rw [h2]⟩
   |_=>exact False.elim hq
end L3
namespace Pu
open PySem L2 L3
abbrev PhD:=Nat->Option (List PyData->Option PyData)
def RV (i:Nat) (cs:List PyData):PyData:=.dict [(.int (i:Int),.tuple cs)]
def phS (Φ:PhD):Nat->Option Sp3:=λi=>(Φ i).map λF=>PSp F false
def Fv (Φ:PhD):PyData->List PyData->Option PyData
 |.dict [(.int i,.tuple cs)],ds=>if 0<=i/\DF (ds++cs)=true then (Φ i.toNat).bind λF=>(F (ds++cs)).bind λv=>if noC v=true then some v else none else none
 |_,_=>none
mutual
theorem Dq.noc {G G':Gp} (h:∀ p xs,G p=some (.lst xs)->G' p=some (.lst xs)):∀ {x:T} {d:PyData},Dq G x d->noC d=true->Dq G' x d
 |_,_,.non,_=>.non
 |_,_,.bl b,_=>.bl b
 |_,_,.int i,_=>.int i
 |_,_,.str x,_=>.str x
 |_,_,.tup hs,n=>.tup (Dqs.noc h hs (by unfold noC at n;exact n))
 |_,_,.lst g hs,n=>.lst (h _ _ g) (Dqs.noc h hs (by unfold noC at n;exact n))
 |_,_,.clo _ _,n=>by unfold noC at n;cases n
theorem Dqs.noc {G G':Gp} (h:∀ p xs,G p=some (.lst xs)->G' p=some (.lst xs)):∀ {x:List T} {d:List PyData},Dqs G x d->DF d=true->Dqs G' x d
 |_,_,.nil,_=>.nil
 |_,_,.cons a b,n=>by
  unfold DF at n;have:=Bool.and_eq_true_iff.mp n;exact .cons (Dq.noc h a this.1) (Dqs.noc h b this.2)
end
def bCv {tf:TE3} {ta:TA3} (Φ:PhD) (a:PuE tf) (r:PuA ta):PuE (cv3 (phS Φ) tf ta):=⟨λρ=>(a.f ρ).bind λd=>(r.f ρ).bind λds=>Fv Φ d ds,a.fv++r.fv,false,λ{D τ ρ G q v} hv hd hf k=>by
 obtain ⟨d,e1,hf⟩:=obb hf;obtain ⟨ds,e2,hf⟩:=obb hf;refine a.ok hv.l hd e1 λx G1 E1 D1 _=>?_;unfold Fv at hf;split at hf
 ·rename_i i cs _ _;split at hf
  ·rename_i hc;obtain ⟨F,e3,hf⟩:=obb hf;obtain ⟨w,e4,hf⟩:=obb hf;split at hf
   ·rename_i hw;cases hf;cases D1 with
    |@clo p j ts _ g hs=>
     refine r.ok (hv.r.up E1) (hd.up E1) e2 λxs G2 E2 D2=>?_;have g2:G2 p=some (.clo j ts):=E2 _ _ (qo g).2;have hs2:=hs.up (zC E2);simp only [spV,g2,phS];rw [Int.toNat_natCast] at e3;rw [e3];have hd2:=(hd.up E1).up E2
     let D':Addr->Prop:=λb=>D b/\KN G2 b≠none
     have same:∀ p xs,rs D G2 p=some (.lst xs)->rs D' (KN G2) p=some (.lst xs):=λp xs h=>by
      obtain ⟨n,h⟩:=qo h;rw [zY λz=>n z.1];exact M2 h λ_ _ y=>nomatch y
     refine ⟨D',ds++cs,v,(D2.append hs2).noc same hc.2,λb z=>z.2,e4,λy G3 E3 D3 _ fact=>?_⟩;refine k y _ ((E1.trans E2).trans λb o h=>?_) (D3.noc (λb xs h=>?_) hw) λz=>by cases z
     ·by_cases c:∃ i ts,G2 b=some (.clo i ts)
      ·obtain ⟨i,ts,c⟩:=c;rw [c] at h;cases h;exact qb3 c
      ·rw [MQ λi ts y=>c ⟨i,ts,y⟩];exact E3 _ _ (M2 h λi ts y=>c ⟨i,ts,by rw [h,y]⟩)
     ·obtain ⟨n,h⟩:=qo h;have c:∀ i ts,G2 b≠some (.clo i ts):=λi ts y=>by rw [fact b i ts y] at h;cases h
      have nD:¬ D b:=λz=>n ⟨z,λw=>by
       have:=hd2 b z;cases e:G2 b with
       |none=>exact this e
       |some o=>rw [M2 e λi ts y=>c i ts (by rw [e,y])] at w;cases w⟩
      rw [zY nD,MQ c];exact h
   ·cases hf
  ·cases hf
 ·cases hf⟩
def qh1 {tf:TE3} {ta:TA3} {Φ:PhD} {a:PuE tf} {r:PuA ta}:(bCv Φ a r).f=λρ=>(a.f ρ).bind λd=>(r.f ρ).bind λds=>Fv Φ d ds:=id rfl
def qb8 {tf:TE3} {ta:TA3} {Φ:PhD} {a:PuE tf} {r:PuA ta}:(bCv Φ a r).nw=false:=id rfl
def qeC (ρ:Rho):List Nat->Option (List PyData)
 |[]=>some []
 |j::r=>(vw ρ j).bind λd=>(qeC ρ r).map λds=>d::ds
theorem LC {D:Addr->Prop} {G:Gp} {τ:St3} {ρ:Rho}:∀ {m:List Nat} {ds:List PyData},XF m D G τ ρ->qeC ρ m=some ds->∃ ts,qdD τ m=some ts/\Dqs (rs D G) ts ds
 |[],_,_,h=>by cases h;exact ⟨[],rfl,.nil⟩
 |j::r,ds,hv,h=>by
  unfold qeC at h;obtain ⟨d,e1,h⟩:=obb h;obtain ⟨ds',e2,rfl⟩:=za1 h;obtain ⟨t,a,b⟩:=hv j (by simp) d e1;obtain ⟨ts,c,e⟩:=LC (λi hi=>hv i (by simp [hi])) e2;exact ⟨t::ts,by unfold qdD;rw [a];simp [c],.cons b e⟩
def qoX {t1:TE3} {tr:TA3} (F:List PyData->Option PyData) (fr:Bool) (a:PuE t1) (r:PuA tr) (i1 i2:Nat) (m1 m2:List Nat):PuE (cl2 (PSp F fr) t1 tr i1 i2 m1 m2):=⟨λρ=>(a.f ρ).bind λd=>(r.f ρ).bind λds=>(qeC ρ m1).bind λc1=>(qeC ρ m2).bind λc2=>(F (d::RV i1 c1::RV i2 c2::ds)).bind λv=>if noC v=true then some v else none,a.fv++(r.fv++(m1++m2)),false,λ{D τ ρ G q v} hv hd hf k=>by
 obtain ⟨d,e1,hf⟩:=obb hf;obtain ⟨ds,e2,hf⟩:=obb hf;obtain ⟨c1,e3,hf⟩:=obb hf;obtain ⟨c2,e4,hf⟩:=obb hf;obtain ⟨w,e5,hf⟩:=obb hf;split at hf
 ·rename_i hw;cases hf;refine a.ok hv.l hd e1 λx G1 E1 D1 _=>r.ok (hv.r.l.up E1) (hd.up E1) e2 λxs G2 E2 D2=>?_;have E12:=E1.trans E2;obtain ⟨t1,a1,a2⟩:=LC (hv.r.r.l.up E12) e3;obtain ⟨t2,b1,b2⟩:=LC (hv.r.r.r.up E12) e4;have hd2:=(hd.up E1).up E2;refine ⟨t1,t2,a1,b1,λf1 f2 g1 g2 nf=>?_⟩;have X1:Ex G2 (gu G2 f1 (.clo i1 t1)):=jk g1;have X2:Ex (gu G2 f1 (.clo i1 t1)) (gu (gu G2 f1 (.clo i1 t1)) f2 (.clo i2 t2)):=jk (by rw [jc (Ne.symm nf)];exact g2);have X:=X1.trans X2;have n1:¬ D f1:=λz=>hd2 f1 z g1;have n2:¬ D f2:=λz=>hd2 f2 z g2;have r1:rs D (gu (gu G2 f1 (.clo i1 t1)) f2 (.clo i2 t2)) f1=some (.clo i1 t1):=by rw [zY n1,jc nf,qG]
  have r2:rs D (gu (gu G2 f1 (.clo i1 t1)) f2 (.clo i2 t2)) f2=some (.clo i2 t2):=by rw [zY n2,qG]
  refine ⟨D,_,v,.cons ((D1.up (zC E2)).up (zC X)) (.cons (.clo r1 (a2.up (zC X))) (.cons (.clo r2 (b2.up (zC X))) (D2.up (zC X)))),hd2.up X,e5,λy G3 E3 D3 _=>⟨λb o h=>E3 b o h,?_⟩⟩;have eq:∀ {b o},(∀ i ts,o≠.clo i ts)->G3 b=some o->qdE G2 G3 b=some o:=λ{b o} n h=>by
   unfold qdE;split
   ·rename_i i ts e;rw [h] at e;cases e;exact absurd rfl (n i ts)
   ·exact h
  refine k y _ (E12.trans λb o h=>?_) (D3.noc (λb xs h=>?_) hw) λz=>by cases z
  ·have h3:=E3 _ _ (X _ _ h);by_cases c:∃ i ts,o=.clo i ts
   ·obtain ⟨i,ts,rfl⟩:=c;unfold qdE;rw [h3];exact h
   ·exact eq (λi ts y=>c ⟨i,ts,y⟩) h3
  ·obtain ⟨n,h⟩:=qo h;rw [zY n];exact eq (λi ts y=>nomatch y) h
 ·cases hf⟩
def qga {t1:TE3} {tr:TA3} {F:List PyData->Option PyData} {fr:Bool} {a:PuE t1} {r:PuA tr} {i1 i2:Nat} {m1 m2:List Nat}:(qoX F fr a r i1 i2 m1 m2).f=λρ=>(a.f ρ).bind λd=>(r.f ρ).bind λds=>(qeC ρ m1).bind λc1=>(qeC ρ m2).bind λc2=>(F (d::RV i1 c1::RV i2 c2::ds)).bind λv=>if noC v=true then some v else none:=id rfl
end Pu
namespace L3
open PySem PySem.Spec PyProof.Rows L2
def qg8 (ts:List Addr) (H:Hp):Prop:=∀ b,(b∉ts/\(H b=none\/∃ o xs,H b=some (.frz o (.lst xs))))\/(b∈ts/\H b=some (.tbl #[]))
def LY {K:Frg} {H:Hp} {a:Addr} {ns:List Int} {ts:List Addr} (hK:UG K=true) (hO:qg8 ts H) (hS:SqL K H a (ns.map V.int)):∃ o,H a=some (.frz o (.lst (ns.map V.int))):=by
 rcases hS with (h|h)|⟨o,its,n,h1,h2,_⟩
 ·rcases hO a with ⟨_,z|⟨o,xs,z⟩⟩|⟨_,z⟩<;>(rw [h] at z;cases z)
 ·exact h
 ·exact absurd h2 (CA hK h1)
def qdm {P:Program} {w:World} {K:Frg} {mg mb:Str->Option Value} {CX:CXT} {k:Nat} {fa a:Addr} {fd:FuncData} {x:Str} {sp:Sp} {s₁:Shared} {vs:List Value} {ns:List Int} {ts:List (Addr×Addr)}
  (KX:K.In s₁.heap) (hns:s₁.heap.Ns mainGlobals mg) (hb:s₁.heap.Ns builtinsNs mb) (hbb:∀ x:Str,x≠"__name__" -> mb x=bootBuiltins x) (hlim:s₁.heap.NoLimit) (hg:s₁.gens=#[])
  (bm:∃ bm ob,mg "__builtins__" = some (.ref bm)/\bm≠builtinsNs/\s₁.heap.get? bm=some ob/\ob.cls=.type "module"/\ob.dict=some builtinsNs/\ob.data=.plain)
  (hT:∀ t∈ts,PySem.W.CodeHd s₁.heap t.1 t.2/\s₁.heap.get? t.2=some (PySem.W.tabObj #[])/\K.lookup t.2=none)
  (ha:s₁.heap.get? a=some { cls:=.type "list",data:=.seq vs.toArray }) (hi:IntsAre vs ns) (hl:ns.length<=sizeLine) (hr:Room k callerA)
  (F:∀ base:Heap,K.In base->base.Ns mainGlobals mg->qeh mg base->FnOk P w K mg base CX k fa fd [x] sp) (hbind:∀ (s:Shared) (u:Value),BindsTo s fd ⟨[u],[]⟩ [(x,u)])
  (hsp:∀ H:Hp,qg8 (ts.map (·.2)) H->SqL K H a (ns.map V.int)->sp [.ref a] H (λv _=>v=.bl true) λ_ _ _=>False)
  (hCX:∀ H e s',CX [] H s₁ (λ_ _ _=>False) e s'->False) :
  codeAny (model P w) callerA (.call (.ref fa) ⟨[.ref a],[]⟩) (λr s'=>r=.ok (.ret (.bool true))/\OldK s₁.heap s'.heap/\s'.os=s₁.os/\AllBare s'.gens) s₁:=by
 have rv:=SU hi;have lenV:=hi.length;have tObj:∀ b,b∈ts.map (·.2)->s₁.heap.get? b=some (PySem.W.tabObj #[])/\K.lookup b=none:=λb hb=>by
  obtain ⟨t,ht,rfl⟩:=mem_map.mp hb;exact (hT t ht).2
 have aT:a∉ts.map (·.2):=λz=>by
  have:=(tObj a z).1;rw [ha] at this;have:=congrArg Obj.cls (Option.some.inj this);exact nomatch this
 have core:∀ H:Hp,qg8 (ts.map (·.2)) H->SqL K H a (ns.map V.int)->HOk P w H s₁.heap->(∀ b,H b≠none->b=a\/b∈ts.map (·.2))->(H a≠none->K.lookup a=none) ->
   codeAny (model P w) callerA (.call (.ref fa) ⟨[.ref a],[]⟩) (λr s'=>r=.ok (.ret (.bool true))/\OldK s₁.heap s'.heap/\s'.os=s₁.os/\AllBare s'.gens) s₁:=by
  intro H hO hS hok hA hK;have base_of:∀ {b:Addr} {o:Obj},s₁.heap.get? b=some o->H b=none->(qdL s₁.heap H).get? b=some o:=λe n=>qd7 e n;have noA:∀ {b:Addr} {o:Obj},s₁.heap.get? b=some o->(∀ vs n,o.data≠.seq vs n)->(∀ vs,o.data≠.fields vs)->H b=none:=λ{b o} e d1 d2=>by
   cases q:H b with
   |none=>rfl
   |some u=>
    rcases hA b (by rw [q];simp) with e'|e'
    ·subst e';rw [ha] at e;cases e;exact absurd rfl (d1 _ _)
    ·rw [(tObj b e').1] at e;cases e;exact absurd rfl (d2 _)
  have nsK:∀ {b:Addr} {m:Str->Option Value},s₁.heap.Ns b m->(qdL s₁.heap H).Ns b m:=λ{b m} ⟨o,es,ep,e,d,r⟩=>⟨o,es,ep,base_of e (noA e (λ_ _ z=>by rw [d] at z;cases z) λ_ z=>by rw [d] at z;cases z),d,r⟩
  have hKb:K.In (qdL s₁.heap H):=λb o e=>base_of (KX b o e) (by
   cases q:H b with
   |none=>rfl
   |some u=>
    rcases hA b (by rw [q];simp) with e'|e'
    ·subst e';rw [hK (by rw [q];simp)] at e;cases e
    ·rw [(tObj b e').2] at e;cases e)
  have hM:Mod K mg (qdL s₁.heap H):=⟨hKb,nsK hns,⟨mb,nsK hb,hbb⟩,let ⟨mc,h1,h2⟩:=hlim;⟨mc,nsK h1,h2⟩⟩
  have hB:qeh mg (qdL s₁.heap H):=by
   obtain ⟨bm,ob,b1,b2,b3,b4,b5,b6⟩:=bm;refine ⟨bm,ob,b1,b2,λz=>?_,base_of b3 (noA b3 (λ_ _ z=>by rw [b6] at z;cases z) λ_ z=>by rw [b6] at z;cases z),b4,b5,b6⟩;obtain ⟨o,es,ep,e,d,_⟩:=hns;rw [z,e] at b3;cases b3;rw [d] at b6;cases b6
  have e0:Env0 P w K mg (qdL s₁.heap H) callerA [] s₁ H:=⟨rfl,hM,λb o e=>qhw e,Nat.le_of_eq (qb1 _ _),trivial,λb hb=>absurd (show b∈([]:List Addr) from hb) (by simp),hok,.of_eq hg⟩
  refine codeAny_mono ((F _ hKb (nsK hns) hB).run callerA [] s₁ H ⟨[.ref a],[]⟩ [.ref a] [.ref a] _ _ hr e0 (hbind s₁ (.ref a)) (.cons rfl .nil) (hsp H hO hS)) λr s' h=>?_;cases r with
  |error e=>exact (hCX H e s' h).elim
  |ok fl=>
   cases fl with
   |next=>exact False.elim h
   |brk=>exact False.elim h
   |cont=>exact False.elim h
   |ret u=>
    obtain ⟨v,H',os,bare,un,hok',r',q⟩:=h;have q':v=.bl true:=q;subst q';obtain rfl:u=Value.bool true:=r';refine ⟨rfl,⟨λb o e=>?_,λb o e=>un.there b o e (by simp)⟩,os,bare⟩;rcases hO b with ⟨_,z|⟨ob,xs,z⟩⟩|⟨m,z⟩
    ·exact .inl (un.keep b o e z (by intro z;exact absurd (show b∈([]:List Addr) from z) (by simp)) (by simp))
    ·have z2:=un.frzs b ob _ z;obtain ⟨e1,_⟩:=hok b _ z;obtain ⟨e2,_⟩:=hok' b _ z2;rw [e] at e1;cases e1;exact .inl e2
    ·obtain ⟨more,z2⟩:=un.tbls b _ z;obtain ⟨t,ht,rfl⟩:=mem_map.mp m;obtain ⟨c,h0,_⟩:=hT t ht;rw [h0] at e;cases e;exact .inr (.inl ⟨(c.tab h0).isCodeTable,rfl,#[],more,rfl,hok' _ _ z2⟩)
 cases hk:K.lookup a with
 |some o=>
  have e:=KX a o hk;rw [ha] at e;cases e;refine core (λb=>if b∈ts.map (·.2) then some (.tbl #[]) else none) (λb=>?_) (.inr ⟨_,vs.toArray,_,hk,rfl,rfl,rfl,by rw [size_toArray,lenV];exact hl,by simpa using rv⟩) (λb u z=>?_) (λb z=>.inr ?_) λz=>absurd (if_neg aT) z
  ·by_cases m:b∈ts.map (·.2)
   ·exact .inr ⟨m,if_pos m⟩
   ·exact .inl ⟨m,.inl (if_neg m)⟩
  ·by_cases m:b∈ts.map (·.2)
   ·have z':=(if_pos m).symm.trans z;cases z';exact (tObj b m).1
   ·have z':=(if_neg m).symm.trans z;cases z'
  ·by_cases m:b∈ts.map (·.2)
   ·exact m
   ·exact absurd (if_neg m) z
 |none=>
  refine core (λb=>if b∈ts.map (·.2) then some (.tbl #[]) else if b=a then some (.frz { cls:=.type "list",data:=.seq vs.toArray } (.lst (ns.map V.int))) else none) (λb=>?_) (.inl (.inr ⟨{ cls:=.type "list",data:=.seq vs.toArray },(if_neg aT).trans (if_pos rfl)⟩)) (λb u z=>?_) (λb z=>?_) λ_=>hk
  ·by_cases m:b∈ts.map (·.2)
   ·exact .inr ⟨m,if_pos m⟩
   ·by_cases hb:b=a
    ·exact .inl ⟨m,.inr ⟨_,_,(if_neg m).trans (if_pos hb)⟩⟩
    ·exact .inl ⟨m,.inl ((if_neg m).trans (if_neg hb))⟩
  ·by_cases m:b∈ts.map (·.2)
   ·have z':=(if_pos m).symm.trans z;cases z';exact (tObj b m).1
   ·by_cases hb:b=a
    ·have z':=((if_neg m).trans (if_pos hb)).symm.trans z;cases z';subst hb;exact ⟨ha,by rw [length_map];exact hl,vs,_,rv,ha⟩
    ·have z':=((if_neg m).trans (if_neg hb)).symm.trans z;cases z'
  ·by_cases m:b∈ts.map (·.2)
   ·exact .inr m
   ·by_cases hb:b=a
    ·exact .inl hb
    ·exact absurd ((if_neg m).trans (if_neg hb)) z
def qjJ {l:PySem.W.OpenLaw} {k:Nat} {q:Program} {loose:List Str} {XP:(Str->Option Value)->Heap->Prop} {YP:World->Heap->Prop} {d:DefRec} {K:Params->PySem.W.Frag} {x:Str} {ts:List (Addr×Addr×Str)} (hn:l.most=some 63) (hdf:d.params.defaults=[]) (hr:Room k callerA)
  (hY:∀ (w:World) (h:Heap),YP w h->(K w.params).In h/\∀ t∈ts,h.get? t.2.1=some (PySem.W.tabObj #[])) (hK:∀ w:World,UG (K w.params)=true) (hT:∀ w:World,CV (K w.params)=ts)
  (hC:∀ w:World,∀ t∈ts,PySem.W.codeHdIn (K w.params) t.1 t.2.1=true/\(K w.params).lookup t.2.1=none)
  (F:∀ (w:World) (mg:Str->Option Value) (fa:Addr) (h:Heap),(K w.params).In h->h.Ns mainGlobals mg->mg d.name=some (.ref fa) ->
   ∃ fd:FuncData,(∀ (s:Shared) (u:Value),BindsTo s fd ⟨[u],[]⟩ [(x,u)])/\∀ base:Heap,(K w.params).In base->base.Ns mainGlobals mg->qeh mg base->FnOk l.prog w (K w.params) mg base CX0 k fa fd [x] (lSp (K w.params) R1)) :
  PySem.W.WalkO q loose XP YP l.row.toRowW d [] (λf vs=>PySem.call f vs):=by
 refine Att.LG hn hdf λw s₀ s₁ mg mb fa o pm cd doc a vs ns G Y ho hd hcd hmg hobj hints hlen hg=>?_;obtain ⟨KX,KT⟩:=hY w _ Y;obtain ⟨fd,hb,hF⟩:=F w mg fa _ KX G.T.g hmg;refine qdm (ts:=ts.map λt=>(t.1,t.2.1)) KX G.T.g G.T.b G.T.builtins G.T.nolimit hg G.T.bmain (λt ht=>?_) hobj hints (u5 hlen (by decide)) hr hF hb (λH hO hS=>?_) λH e s' z=>z
 ·obtain ⟨t',ht',rfl⟩:=mem_map.mp ht;exact ⟨PySem.W.codeHd_of_K KX (hC w t' ht').1,KT t' ht',(hC w t' ht').2⟩
 ·refine ⟨[.ref a],only a ns,λt _=>t=.bl true,qiU (LY (hK w) hO hS) (λt ht=>?_),.cons (.ref a) .nil,⟨a,ns,rfl,by simp [only],hlen,λ_=>rfl⟩,λt G' e v H' r _ _=>by subst e;cases r;rfl⟩;rw [hT w] at ht;have m:t.2.1∈(ts.map λt=>(t.1,t.2.1)).map (·.2):=mem_map.mpr ⟨_,mem_map.mpr ⟨t,ht,rfl⟩,rfl⟩;rcases hO t.2.1 with ⟨n,_⟩|⟨_,z⟩
  ·exact absurd m n
  ·exact ⟨#[],z,trivial,λpos cv e=>by cases e⟩
end L3
namespace Hd
open PySem L2 L3 PySem.W
def qaQ (a:Addr) (fds:List FuncData) (ts:List (Addr×Addr×Str)):Frag:=(fds.map λfd=>(a,(⟨.str "" 0,none,.func fd,#[]⟩:Obj)))++ts.map λt=>(t.1,(⟨.str "" 0,none,.fields #[.ref t.2.1,.str t.2.2 0],#[]⟩:Obj))
def QU {K D:Frag} {b:Addr}:(K++D).lookup b=(K.lookup b).or (D.lookup b):=by
 induction K with
 |nil=>rfl
 |cons p r ih=>
  obtain ⟨a,o⟩:=p;rw [cons_append,List.lookup_cons,List.lookup_cons];split
  ·rfl
  ·exact ih
def K2 {K:Frag} {a:Addr} {fds:List FuncData} {ts:List (Addr×Addr×Str)} (h0:(K.lookup a).isSome=true) (h1:(ts.all λt=>(K.lookup t.1).isSome)=true) (b:Addr):(K++qaQ a fds ts).lookup b=K.lookup b:=by
 rw [QU];cases e:K.lookup b with
 |some o=>rfl
 |none=>
  cases e2:(qaQ a fds ts).lookup b with
  |none=>rfl
  |some o=>
   rcases List.mem_append.mp (PySem.W.mem_of_lookupK e2) with m|m
   ·obtain ⟨fd,_,y⟩:=mem_map.mp m;cases y;rw [e] at h0;cases h0
   ·obtain ⟨t,ht,y⟩:=mem_map.mp m;cases y;have:=List.all_eq_true.mp h1 t ht;rw [e] at this;cases this
def qoH {l:OpenLaw} {q:Program} {loose:List Str} {K:Params->Frag} {as:List Addr} {d:DefRec} {N:Nat} {k:Nat} {x:Str} {a₀:Addr} {fds:List FuncData} {ts:List (Addr×Addr×Str)} {tp:List Addr} (ha:∀ P,as=(K P).map (·.1)) (htp:tp=ts.map λt=>t.2.1)
  (ok:l.wellSaid=true)
  (left:LeftO l.prog q loose (λs=>xlAt q [] s&&recOk [] s) (λs=>(as.map s.heap.get?,tp.map s.heap.get?)) (λw=>((K w.params).map λp=>some p.2,tp.map λ_=>some (tabObj #[]))) N)
  (hdef:defOf q l.name=some (d,[])) (hp:l.prog.theDef l.name=some (d.params,d.body,d.scope)) (hk:kwWritten? d.params.kwonlyargs d.params.kw_defaults=some [])
  (hwr:(!l.row.writes||l.row.records.isEmpty)=true) (ok2:(chainsOk q&&opensWell l.prog&&(frees l.row.toRowW&&l.row.within.isEmpty))=true) (hb:l.prog.bare) (hw:l.row.toRowW.promised)
  (hn:l.most=some 63) (hdf:d.params.defaults=[]) (hr:Room k callerA) (hK:∀ w:World,UG (K w.params++qaQ a₀ fds ts)=true) (hT:∀ w:World,CV (K w.params++qaQ a₀ fds ts)=ts)
  (h0:∀ w:World,(((K w.params).lookup a₀).isSome&&ts.all λt=>((K w.params).lookup t.1).isSome)=true)
  (hC:∀ w:World,(ts.all λt=>codeHdIn (K w.params++qaQ a₀ fds ts) t.1 t.2.1&&((K w.params++qaQ a₀ fds ts).lookup t.2.1).isNone)=true)
  (F:∀ (w:World) (mg:Str->Option Value) (fa:Addr) (h:Heap),Frag.In (K w.params++qaQ a₀ fds ts) h->h.Ns mainGlobals mg->mg d.name=some (.ref fa) ->
   ∃ fd:FuncData,(∀ (s:Shared) (u:Value),BindsTo s fd ⟨[u],[]⟩ [(x,u)])/\∀ base:Heap,Frag.In (K w.params++qaQ a₀ fds ts) base->base.Ns mainGlobals mg->qeh mg base->FnOk l.prog w (K w.params++qaQ a₀ fds ts) mg base CX0 k fa fd [x] (lSp (K w.params++qaQ a₀ fds ts) R1)):l.Holds:=by
 refine holds_law ok λsaid=>?_;refine holds_open (q:=q) (loose:=loose) (Xt:=λs=>xlAt q [] s&&recOk [] s) (XP:=XL q []) (Yf:=Hook.obs (kmHook K as ha tp)) (Ya:=Hook.val (kmHook K as ha tp)) (YP:=Hook.says (kmHook K as ha tp)) (N:=N) left
  (Hook.of (kmHook K as ha tp)) (Hook.keeps (kmHook K as ha tp)) (λs e=>xl_of s (Bool.and_eq_true_iff.mp e).1) XL.keeps hdef hp hk (λs e=>recFacts_of (Bool.and_eq_true_iff.mp e).2) hwr said ok2 hb hw
  (L3.qjJ (l:=l) (k:=k) (x:=x) (K:=λP=>K P++qaQ a₀ fds ts) (ts:=ts) hn hdf hr (λw h Y=>⟨λb o e=>?_,λt ht=>?_⟩) hK hT (λw t ht=>?_) F)
 ·have z:=Bool.and_eq_true_iff.mp (h0 w);rw [K2 z.1 z.2] at e;exact km_in_of Y b o e
 ·exact km_tabs_of Y _ (by rw [htp];exact mem_map.mpr ⟨t,ht,rfl⟩)
 ·have z:=Bool.and_eq_true_iff.mp (List.all_eq_true.mp (hC w) t ht);exact ⟨z.1,Option.isNone_iff_eq_none.mp z.2⟩
end Hd
namespace L3
open PySem PySem.Spec PyProof.Rows L2
def WE (P:Program) (w:World) (K:Frg) (mg:Str->Option Value) (base:Heap) (k:Nat) (Φ:Nat->Option Sp3):Prop:=∀ i S,Φ i=some S->∃ k0,k0+1<=k/\Lam3 P w K mg base k0 i S
def WE.mono {P:Program} {w:World} {K:Frg} {mg:Str->Option Value} {base:Heap} {k k':Nat} {Φ:Nat->Option Sp3} (h:WE P w K mg base k Φ) (le:k<=k'):WE P w K mg base k' Φ:=λi S e=>let ⟨k0,a,b⟩:=h i S e;⟨k0,u5 a le,b⟩
def DN {X:Cx} {Φ:Nat->Option Sp3} {k:Nat} {x:Str} {p pos:Pos} {e:Expr} {es:List Expr} {tf:TE3} {ta:TA3} (hΦ:WE X.prog X.w X.K X.mg X.base k Φ) (hr:Room k X.A) (hf:jE3 X (.Name x p) tf) (ha:jA3 X (e::es) ta)
  (he:starEach (e::es) X.env=(false,eval e X.env)::starEach es X.env:=by rfl) (hpl:(backTo pos (starEach es X.env)).any (·.1)=false:=by rfl):jE3 X (.Call (.Name x p) (e::es) [] pos) (cv3 Φ tf ta):=⟨qir hΦ hr hf.h ha.h he hpl⟩
structure TabAt (K:Frg) (mg:Str->Option Value) (base:Heap) (c:Addr) (q:Str):Prop where
 ex:∃ P,PySem.W.CodeHd base c P/\qeh mg base/\(c,P,q)∈CV K/\∀ t∈CV K,t.2.1=P->t.2.2=q
def MR (X:Cx) (m:List Nat) (params:Arguments) (scope:Scope):Bool:=
 (scope.names.all λy=>match y.2 with|.free=>(match X.env.kindOf y.1 with|some .cell=>true|_=>false)|_=>true)&&decide (scope.names.map λp=>p.1).Nodup&&(m.map (λj=>X.N[j]?)==(frN scope).map some)
def LamArg.of {X:Cx} {q:Str} {i:Nat} {m:List Nat} {params:Arguments} {body:Expr} {scope:Scope} {fd:FuncData} (l:K7 X.K i=some fd) (e:(fd.params,fd.body,fd.scope,fd.qualname)=(params,.expr body,scope,q)) (d:defaultsOf params X.env=([],[])) (c:MR X m params scope=true):LamArg X q i m params body scope:=by
 unfold MR at c;obtain ⟨c1,c2⟩:=Bool.and_eq_true_iff.mp c;obtain ⟨c3,c4⟩:=Bool.and_eq_true_iff.mp c1;have e1:=congrArg (λz=>z.1) e;have e2:=congrArg (λz=>z.2.1) e;have e3:=congrArg (λz=>z.2.2.1) e;have e4:=congrArg (λz=>z.2.2.2) e;refine ⟨⟨fd,l,e1,e2,e3,e4⟩,d,λy hy z=>?_,of_decide_eq_true c4,by simpa using c2⟩;have:=List.all_eq_true.mp c3 y hy;rw [z] at this;split at this
 ·split at this
  ·assumption
  ·cases this
 ·rename_i n;exact absurd rfl n
def qfs {X:Cx} {k:Nat} {x:Str} {p pos:Pos} {e1:Expr} {pr1 pr2:Arguments} {b1 b2:Expr} {sA sB:Scope} {o1 o2:Pos} {es:List Expr} {sp:Sp3} {t1:TE3} {tr:TA3} {c:Addr} {q:Str} {i1 i2:Nat} {fd1 fd2:FuncData} (m1 m2:List Nat)
  (F:Fn3 X.prog X.w X.K X.mg X.base k x sp) (hr:Room k X.A) (hg:Gl X x) (T:TabAt X.K X.mg X.base c q) (l1:K7 X.K i1=some fd1) (l2:K7 X.K i2=some fd2) (h1:jE3 X e1 t1) (hrs:jA3 X es tr)
  (hc:X.env.code=.ref c:=by rfl) (hq:X.env.qual++"<lambda>" = q:=by kernel_rfl)
  (f1:(fd1.params,fd1.body,fd1.scope,fd1.qualname)=(pr1,.expr b1,sA,q):=by kernel_rfl) (f2:(fd2.params,fd2.body,fd2.scope,fd2.qualname)=(pr2,.expr b2,sB,q):=by kernel_rfl)
  (d1:defaultsOf pr1 X.env=([],[]):=by rfl) (d2:defaultsOf pr2 X.env=([],[]):=by rfl) (c1:MR X m1 pr1 sA=true:=by kernel_rfl) (c2:MR X m2 pr2 sB=true:=by kernel_rfl) (fnT:∀ x,X.fn x=true:=by exact λ_=>rfl) (hdb:(x==("__debug__" : Str))=false:=by decide)
  (he:starEach (e1::.Lambda pr1 b1 sA o1::.Lambda pr2 b2 sB o2::es) X.env=(false,eval e1 X.env)::starEach (.Lambda pr1 b1 sA o1::.Lambda pr2 b2 sB o2::es) X.env:=by rfl)
  (hpl:(backTo pos (starEach (.Lambda pr1 b1 sA o1::.Lambda pr2 b2 sB o2::es) X.env)).any (·.1)=false:=by rfl):jE3 X (.Call (.Name x p) (e1::.Lambda pr1 b1 sA o1::.Lambda pr2 b2 sB o2::es) [] pos) (cl2 sp t1 tr i1 i2 m1 m2):=by
 obtain ⟨P,C,B,tk,one⟩:=T.ex;exact ⟨qoN F hr hg h1.h hrs.h hc C B hq tk one (LamArg.of l1 f1 d1 c1) (LamArg.of l2 f2 d2 c2) fnT hdb he hpl⟩
def qil (sc:Scope):Bool:=
 (match sc.kind with|.function=>true|_=>false)&&!sc.isCoroutine&&!sc.isGenerator&&(sc.names.all λy=>match y.2 with|.cell=>false|_=>true)&&decide (sc.names.map λp=>p.1).Nodup
def LamScope.of {sc:Scope} (c:qil sc=true):LamScope (psN sc) (frN sc) sc:=by
 unfold qil at c;obtain ⟨c,c5⟩:=Bool.and_eq_true_iff.mp c;obtain ⟨c,c4⟩:=Bool.and_eq_true_iff.mp c;obtain ⟨c,c3⟩:=Bool.and_eq_true_iff.mp c;obtain ⟨c1,c2⟩:=Bool.and_eq_true_iff.mp c;have nd:(sc.names.map λp=>p.1).Nodup:=of_decide_eq_true c5;have mem:∀ {x k},sc.names.lookup x=some k->(x,k)∈sc.names:=λh=>PySem.mem_of_lookup h;refine ⟨(by split at c1<;>first|assumption|exact nomatch c1),by simpa using c2,by simpa using c3,λx hx z=>?_,λp hp=>?_,λx h=>CL.mpr (mem h),λx h=>zW nd (CL.mp h),?_⟩
 ·have:=List.all_eq_true.mp c4 x hx;rw [z] at this;cases this
 ·unfold psN at hp;obtain ⟨⟨y,k⟩,hm,rfl⟩:=mem_map.mp hp;obtain ⟨h1,h2⟩:=List.mem_filter.mp hm;have:k=.local:=by simpa using h2
  subst this;exact zW nd h1
 ·unfold psN;exact List.Sublist.nodup (List.Sublist.map _ List.filter_sublist) nd
def RE {P:Program} {w:World} {K:Frg} {mg:Str->Option Value} {base:Heap} {k i:Nat} {S:Sp3} {fd:FuncData} {body:Expr} {t3:TE3} (l:K7 K i=some fd) (bd:fd.body=.expr body) (sc:qil fd.scope=true)
  (bi:∀ clos pm c ctv us,us.length=(psN fd.scope).length->bindArgs (PySem.W.kla_fn "<lambda>" fd.qualname fd.params body fd.scope clos pm (.ref c) ctv) ⟨us,[]⟩=pure ((psN fd.scope).zip us))
  (hb:∀ (A:Around) (outer:List Env) (s:Shared) (H:Hp) (E:XK) (f c:Addr) (clos:List (Str×Addr)),Room k (A.deeper (PySem.W.envX fd.qualname fd.scope s.heap.objs.size f (.ref c) clos))->jE3 (cxL P w K mg base (psN fd.scope++frN fd.scope) fd.qualname fd.scope f (.ref c) clos A outer s H E) body t3)
  (rd:∀ ts G q,S ts G q->ts.length=(psN fd.scope).length+(frN fd.scope).length/\t3 (ts.map some) G q):Lam3 P w K mg base k i S:=⟨⟨fd,body,t3,l,bd,LamScope.of sc,bi,λA outer s H E f c clos hr=>(hb A outer s H E f c clos hr).h,rd⟩⟩
end L3
namespace Hd
open PySem L2 L3 PySem.W PySem.Spec PySem.Calls PyProof.Rows
def qqs (q:Str):Expr->Option FuncData
 |.Lambda pr body sc _=>some (kla_fn "<lambda>" q pr body sc [] .none .none .none)
 |_=>none
def qpv (q:Str):Expr->List FuncData
 |.Call _ as _ _=>as.filterMap (qqs q)
 |_=>[]
def qpU (q:Str):Stmt->List FuncData
 |.Assign _ e _=>qpv q e
 |.Return (some e) _=>qpv q e
 |_=>[]
def qnN (q:Str) (st:Stmt):List FuncData:=(zo st).flatMap (qpU q)
def TW (q:Str) (st:Stmt) (j:Nat):FuncData:=(qnN q st).getD j default
end Hd
namespace Pu
open PySem L2 L3
def qi7 (f:Rho->Option PyData) (n:Nat) (ds:List PyData):Option PyData:=if ds.length=n then f (ds.map .sh) else none
def RB {t:TE3} (b:PuE t) (n:Nat):∀ ts G q,PSp (qi7 b.f n) false ts G q->ts.length=n/\t (ts.map some) G q:=by
 rintro ts G q ⟨D,ds,d,hs,hd,hf,h⟩;unfold qi7 at hf;split at hf
 ·rename_i hk;refine ⟨by rw [hs.length];exact hk,b.ok (D:=D) (ρ:=ds.map .sh) (λi _ d2 e=>?_) hd hf λx G' e dx _=>h x G' e dx λz=>by cases z⟩;unfold vw at e;rw [getElem?_map] at e;obtain ⟨s,e1,e2⟩:=obb e;obtain ⟨d3,e3,rfl⟩:=za1 e1;cases e2;obtain ⟨x,e5,hx⟩:=hs.get e3;exact ⟨x,by rw [getElem?_map,e5];rfl,hx⟩
 ·cases hf
def zH (P:Program) (w:World) (K:Frg) (mg:Str->Option Value) (base:Heap) (k n:Nat) (L:List (List PyData->Option PyData)):Prop:=∀ i F,L[i]?=some F->Lam3 P w K mg base k (n+i) (PSp F false)
section
variable {P:Program} {w:World} {K:Frg} {mg:Str->Option Value} {base:Heap} {k n:Nat} {L:List (List PyData->Option PyData)} {F:List PyData->Option PyData}
def zH.nil:zH P w K mg base k n []:=λi F e=>by cases e
def zH.cons (l:Lam3 P w K mg base k n (PSp F false)) (h:zH P w K mg base k (n+1) L):zH P w K mg base k n (F::L):=λi F' e=>by
 cases i with
 |zero=>cases e;exact l
 |succ i=>have:=h i F' e;rw [show n+(i+1)=n+1+i by omega];exact this
def zH.ok (h:zH P w K mg base k 0 L):WE P w K mg base (k+1) (phS λi=>L[i]?):=λi S e=>by
 obtain ⟨F,e1,rfl⟩:=za1 e;have:=h i F e1;rw [Nat.zero_add] at this;exact ⟨k,v6 _,this⟩
end
end Pu
namespace Hd
open PySem L2 L3 PySem.W PySem.Spec PySem.Calls PyProof.Rows
def qpu {P:Program} {w:World} {K:Frg} {mg:Str->Option Value} {base:Heap} {x:Str} {st:Stmt} {f:Addr} {fd:FuncData} {N ps:List Str} {k:Nat} {sp:Sp3} {t3:TS3} {c:Addr} (E:Fb K mg x st ps f fd) (hc:fd.code=.ref c) (S:FnScope N ps (qh st))
  (read:∀ ts G q,sp ts G q->ts.length=ps.length/\t3 { nx:=λ_ G'=>q .non G',rt:=q } (qE N ts) G)
  (body:∀ (A:Around) (outer:List Env) (s:Shared) (H:Hp) (E:XK),Room k (A.deeper (envOfC x (qh st) s.heap.objs.size f (.ref c))) ->
   jB3 (qaR CX0 P w K mg base N x (qh st) f (.ref c) A outer s H E).nox (zo st) t3):Fn3 P w K mg base (k+1) x sp:=by
 have F:=E.F;have kp:=F.kp;have bd:=E.b;obtain ⟨oc,od,kV,doc,pm,an,cdv,ct,osl,e,lk,hcd⟩:=F.ex;subst e;obtain rfl:cdv=.ref c:=hc;refine ⟨f,_,ps,qjd lk hcd S (λvs H Q E ⟨ts,G,q,h1,h2,h3,h4⟩=>by rw [← h2.length];exact (read ts G q h3).1) λA outer s H vs Q E hr ⟨ts,G,q,h1,h2,h3,h4⟩=>?_,bd,kp,E.m⟩;refine ⟨_,PSs.nox (body A outer s H E hr).h,?_⟩;exact ⟨qE N ts,G,_,W8 h1 h2,(read ts G q h3).2,⟨λτ' G' h' σ' H' rl' k'=>h4 _ G' h' _ H' .non rl'.hp k',h4,λ_ _ z=>z.elim,λ_ _ z=>z.elim⟩⟩
def qml {K:Frg} {mg:Str->Option Value} {base:Heap} {ts:List (Addr×Addr×Str)} {c P:Addr} {q:Str} (X:K.In base) (B:qeh mg base) (hT:CV K=ts) (hc:codeHdIn K c P=true:=by kernel_rfl) (m:ts.contains (c,P,q)=true:=by kernel_rfl) (one:(ts.all λt=>t.2.1 != P||t.2.2==q)=true:=by kernel_rfl):TabAt K mg base c q:=by
 subst hT;refine ⟨P,codeHd_of_K X hc,B,List.contains_iff_mem.mp m,λt ht z=>?_⟩;have:=List.all_eq_true.mp one t ht;rw [z] at this;simpa using this
end Hd
namespace HT
open PySem PySem.Spec PyProof.Rows
section
variable {prog:Program} {w:World} {A:Around} {E:Value->Shared->Prop} {s:Shared}
def qaC (n:Nat):Builtin.Slice.sliceAdjust none none (-1) (n:Int)=((n:Int)-1,-1):=rfl
def qaI (n:Nat):Builtin.Slice.slicePlaces ((n:Int)-1) (-1) (-1)=n:=by
 unfold Builtin.Slice.slicePlaces;rw [if_neg (by decide)];have e:- (-1:Int)=1:=by decide
 rw [e,Int.ediv_one];split<;>omega
def ES {sl:Addr} {vk:Value} {n:Nat} {Q:Int×Int×Nat->Shared->Prop} (hs:s.heap.IsSliceOf sl .none .none vk) (pk:IsPart vk (some (-1)))
  (h:Q ((n:Int)-1,-1,n) s):wpAny (model prog w) A (Builtin.Slice.sliceApplied (.ref sl) (pure (n:Int))) Q E s:=by
 obtain ⟨os,hos,hcs,hds⟩:=id hs;unfold Builtin.Slice.sliceApplied Builtin.Slice.sliceFields;refine x8 (x8 (wpAny_field hos hds (x:=.none) rfl (x8 (wpAny_field hos hds (x:=.none) rfl (x8 (wpAny_field hos hds (x:=vk) rfl (x9 ?_)))))));refine x8 (U5 pk ?_);show wpAny _ _ (if ((-1:Int)==0)=true then _ else _) _ _ s;rw [if_neg (by decide)];refine x8 (slicePart_none (x8 (slicePart_none (x8 (x9 ?_)))));show wpAny _ _ (match Builtin.Slice.sliceAdjust none none (-1) (n:Int) with|(lo,hi)=>pure (lo,(-1:Int),Builtin.Slice.slicePlaces lo hi (-1))) _ _ s;rw [qaC n];show wpAny _ _ (pure ((n:Int)-1,(-1:Int),Builtin.Slice.slicePlaces ((n:Int)-1) (-1) (-1))) _ _ s;rw [qaI];exact x9 h
theorem NU {α β:Type} {f g:α->Option β}:∀ {l:List α},(∀ x∈l,f x=g x)->l.filterMap f=l.filterMap g
 |[],_=>rfl
 |x::l,h=>by rw [List.filterMap_cons,List.filterMap_cons,h x (by simp),NU λy hy=>h y (by simp [hy])]
def qeL (xs:Array Value):((List.range xs.size).filterMap λ(m:Nat)=>xs[((xs.size:Int)-1+(m:Int)*(-1)).toNat]?).toArray=xs.toList.reverse.toArray:=by
 congr 1;have e:((List.range xs.size).filterMap λ(m:Nat)=>xs[((xs.size:Int)-1+(m:Int)*(-1)).toNat]?)=(List.range xs.size).filterMap λ(m:Nat)=>xs.toList.reverse[m]?:=by
  refine NU λm hm=>?_;have hm:=mem_range.mp hm;have h1:((xs.size:Int)-1+(m:Int)*(-1)).toNat=xs.size-1-m:=by omega
  rw [h1,List.getElem?_reverse (by simpa using hm),Array.getElem?_toList,Array.length_toList]
 rw [e];have l:xs.size=xs.toList.reverse.length:=by simp
 rw [l];generalize xs.toList.reverse=ys;clear e l;induction ys with
 |nil=>rfl
 |cons y ys ih=>
  rw [length_cons,List.range_succ_eq_map,List.filterMap_cons];simp only [getElem?_cons_zero,List.filterMap_map];congr 1
def EA {t sl:Addr} {items:Array Value} {vk:Value} {Q:Value->Shared->Prop} (ht:IsTup s.heap t items) (hs:s.heap.IsSliceOf sl .none .none vk) (pk:IsPart vk (some (-1)))
  (h:Q (.ref s.heap.objs.size) { s with heap:=s.heap.push { cls:=.type "tuple",data:=.seq items.toList.reverse.toArray } })
  (hsz:items.size<=sizeLine):wpAny (model prog w) A (getItem (.ref t) (.ref sl)) Q E s:=by
 have htake:sizeOk (.seq items.toList.reverse.toArray):=by
  show items.toList.reverse.toArray.size<=sizeLine;rw [size_toArray,List.length_reverse,Array.length_toList];exact hsz
 obtain ⟨os,hos,hcs,hds⟩:=id hs;have hTs:s.TypeIs (.ref sl) "slice" := ⟨os,hos,hcs⟩
 unfold getItem
 try with_reducible refine wpAny_holding ?_
 first|refine x8 (x9 ?_)|skip
 refine x8 (wpAny_sequenceKey ht.typeIs (by decide) ?_);refine x8 (wpAny_callSpecial?_slot (name:=Str.ofString "__getitem__") ht.typeIs PyProof.Rows.slot_tuple_getitem
  (wpAny_call_entry PyProof.Rows.slot_tuple_getitem ht.typeIs entry_tuple_getitem ?_ (args_tuple_getitem _ _)))
 show wpAny _ _ (Builtin.Tuple.tupleItemsOf (.ref t) >>= _) _ _ s;refine x8 (tupleItemsOf_ ht ?_);refine x8 (wpAny_typeOf hTs ?_);rw [if_pos (by decide)];refine x8 (ES hs pk ?_);show wpAny _ _ (if ((((items.size:Int)-1)==0&&(-1:Int)==1&&items.size==items.size)=true) then _ else _) _ _ s;rw [if_neg (by intro q;rw [Bool.and_eq_true,Bool.and_eq_true] at q;exact absurd q.1.2 (by decide)),qeL]
 first
  |exact x8 (m:=Builtin.Tuple.tupleExact _) (wpAny_newObj_type (x9 ⟨_,rfl,x9 h⟩) htake)
  |exact x8 (m:=Builtin.Tuple.tupleExact _) (wpAny_newObj_type (x8 (x9 (x9 ⟨_,rfl,x9 h⟩))) htake)
  |exact x8 (x8 (m:=Builtin.Tuple.tupleExact _) (wpAny_newObj_type (x9 (x9 ⟨_,rfl,x9 h⟩)) htake))
  |exact x8 (x8 (m:=Builtin.Tuple.tupleExact _) (wpAny_newObj_type (x9 ⟨_,rfl,x9 h⟩) htake))
end
end HT
namespace L3
open PySem PySem.Spec PyProof.Rows L2
section
variable {X:Cx} {e ek:Expr} {p2 pos:Pos}
def qqi (K:Frg) (te:TE) (tk:TO):TE:=λσ H Q=>te σ H λx H1=>tk σ H1 λk H2=>k=some (-1)/\((∃ a xs,x=.ref a/\SqL K H2 a xs/\∀ p,H2 p=none->Q (.ref p) (upd H2 p (.lst xs.reverse)))\/(∃ a xs,x=.ref a/\SqT K H2 a xs/\∀ p,H2 p=none->Q (.ref p) (upd H2 p (.tup xs.reverse))))
def qlg {te:TE} {tk:TO} (he:PE X e te) (hk:PO X (some ek) tk) {ops:Value->Value->List Value} (hs:∀ v w,subscripted (.Slice none none (some ek) p2) false v w=operate (ops v w) (getItem v w)):PE X (.Subscript e (.Slice none none (some ek) p2) pos) (qqi X.K te tk):=by
 intro pins s σ H Q I h;refine Subscript_ (thn (he pins s σ H _ I h) λv s1 ⟨x,H1,I1,r1,q1⟩=>?_);refine wpAny_Slice ?_;rw [evalPart_none];refine x9 ?_;refine x9 ?_;refine thn (hk pins s1 σ H1 _ I1 q1) λvk s3 ⟨k,H3,I3,pk,q3⟩=>?_;obtain ⟨rfl,q3⟩:=q3;have I4:Inv X pins σ H3 { s3 with heap:=s3.heap.push { cls:=.type "slice",data:=.fields #[.none,.none,vk] } }:=I3.kept (t':=s3.toks) λb ob q=>y3 _ q;rcases q3 with ⟨a,xs,rfl,hx,q⟩|⟨a,xs,rfl,hx,q⟩
 ·cases r1;obtain ⟨its,r,ht,hz⟩:=I4.list hx;have hlen:=r.length;show wpAny (model X.prog X.w) X.A (subscriptTail e (.Slice none none (some ek) p2) (.ref a) (.ref s3.heap.objs.size)) (EP X pins σ Q) X.xe { s3 with heap:=s3.heap.push { cls:=.type "slice",data:=.fields #[.none,.none,vk] } };refine tail_any (ops:=ops (.ref a) (.ref s3.heap.objs.size)) (T:="list") ht.isList.typeIs slot_list_getitem.lookup ?_ (hs _ _);refine wpAny_getItem_list_slice ht.isList (Heap.IsSliceOf.new ..) .none .none pk (by decide) ?_ (by rw [size_toArray]<;>omega);rw [PySem.W.krv_pick];refine ⟨.ref _,_,I4.laid (t':=s3.toks) (o:=.lst xs.reverse) (λb ob q=>y3 _ q) (v6 _) ?_,rfl,q _ (I4.hok.fresh (v6 _))⟩;exact ⟨by rw [List.length_reverse];exact hz,_,0,r.reverse,y4 _ rfl⟩
 ·cases r1;obtain ⟨its,r,ht,hz⟩:=I4.tuple hx;have hlen:its.toArray.size=xs.length:=by rw [size_toArray];exact r.length.symm
  show wpAny (model X.prog X.w) X.A (subscriptTail e (.Slice none none (some ek) p2) (.ref a) (.ref s3.heap.objs.size)) (EP X pins σ Q) X.xe { s3 with heap:=s3.heap.push { cls:=.type "slice",data:=.fields #[.none,.none,vk] } };refine tail_any (ops:=ops (.ref a) (.ref s3.heap.objs.size)) (T:="tuple") ht.typeIs PyProof.Rows.slot_tuple_getitem.lookup ?_ (hs _ _);refine HT.EA ht (Heap.IsSliceOf.new ..) pk ?_ (by rw [hlen];exact hz);refine ⟨.ref _,_,I4.laid (t':=s3.toks) (o:=.tup xs.reverse) (λb ob q=>y3 _ q) (v6 _) ?_,rfl,q _ (I4.hok.fresh (v6 _))⟩;exact ⟨by rw [List.length_reverse];exact hz,_,r.reverse,VS.new _ _⟩
def qm4 (te:TE3) (tk:TO3):TE3:=λτ G q=>te τ G λx G1=>tk τ G1 λk G2=>k=some (-1)/\(match x with|.tup xs=>q (.tup xs.reverse) G2|.ref p=>(match getL G2 p with|some xs=>∀ a,G2 a=none->q (.ref a) (gu G2 a (.lst xs.reverse))|none=>False)|_=>False)
def qft {te:TE3} {tk:TO3} (he:jE3 X e te) (hk:jP3 X (some ek) tk) {ops:Value->Value->List Value} (hs:∀ v w,subscripted (.Slice none none (some ek) p2) false v w=operate (ops v w) (getItem v w)):jE3 X (.Subscript e (.Slice none none (some ek) p2) pos) (qm4 te tk):=
 ⟨DC (qlg he.h hk.h hs) λ_ _ _ ⟨τ,G,q,rl,h,af⟩=>zf rl h λx G1 h1 v H1 rx hr1 k1 rl1=>
  ⟨τ,G1,_,rl1,h1,λk G2 h2 H2 hr2 k2=>by
   obtain ⟨hk,h2⟩:=h2;have rx2:=rx.keep hr1 k2;cases x<;>try exact h2.elim
   case tup xs=>
    cases rx2 with
    |tup hs' rs=>exact ⟨hk,.inr ⟨_,_,rfl,hs',λp hp=>af _ G2 h2 _ _ (.tup (SqT.of qI) ((LB rs).keep hr2 (Kp.laid hp))) (hr2.laid hp) ((k1.trans k2).trans (Kp.laid hp))⟩⟩
   case ref p=>
    simp only at h2;split at h2
    ·rename_i xs e0;cases rx2;obtain ⟨vs,hs',rs⟩:=zz hr2 e0;exact ⟨hk,.inl ⟨p,vs,rfl,hs',λa ha=>af _ _ (h2 a (hr2.free ha)) _ _ (.ref a) (hr2.newL ha (LB rs)) ((k1.trans k2).trans (Kp.newL ha))⟩⟩
    ·exact h2.elim⟩⟩
end
section
variable {X:Cx} {a b:Expr} {ta tb:TE3} {pos:Pos}
end
abbrev Rd (sp:Sp3) (n:Nat) (t:TS3) (N:List Str):Prop:=∀ ts G q,sp ts G q->ts.length=n/\t { nx:=λ_ G'=>q .non G',rt:=q } (qE N ts) G
def jgn {pos:Pos} {X:Cx} {x:Str} (i:Nat) (hN:decide X.N.Nodup=true:=by kernel_rfl) (hi:X.N[i]?=some x:=by rfl) (hx:Loc X.env.scope x:=by first|exact Or.inl rfl|exact Or.inr rfl) (hf:X.fn x=true\/X.env.scope.names.lookup x=some .local:=by first|exact .inl rfl|exact .inr rfl):jG3 X (.Name x pos) (gn3 i):=
 qr (of_decide_eq_true hN) hi hx hf
end L3
namespace L2
open PySem PySem.Spec PyProof.Rows
section
variable {X:Cx} {pos:Pos}
end
end L2
namespace L3
open PySem PySem.Spec PyProof.Rows L2
section
variable {X:Cx} {pos:Pos}
end
end L3
namespace HT
open PySem PyProof.Rows
section
variable {prog:Program} {w:World} {A:Around} {E:Value->Shared->Prop} {s:Shared}
abbrev oS (led:Bool):Obj:={ cls:=.type "set",dict:=none,data:=.set #[] 0 (.fresh 0 0 led) }
end
end HT
namespace L3
open PySem PySem.Spec PyProof.Rows L2
section
variable {X:Cx}
end
end L3
namespace Tb8
open PySem PySem.SetTable
def Up (xs:Array Nat):Prop:=∀ a b,a<b->b<xs.size->xs.getD a 0<xs.getD b 0
def gD {xs:Array Nat} {i d e:Nat} (h:i<xs.size):xs.getD i d=xs.getD i e:=by simp [Array.getD,h]
def Up.le {xs:Array Nat} (u:Up xs) {a b:Nat} (h:a<=b) (hb:b<xs.size):xs.getD a 0<=xs.getD b 0:=by
 rcases Nat.lt_or_ge a b with z|z
 ·exact Nat.le_of_lt (u a b z hb)
 ·rw [show a=b by omega];exact v6 _
structure Bel (xs:Array Nat) (j r:Nat):Prop where
 le:r<=xs.size
 lo:∀ i,i<r->xs.getD i 0<j
 hi:∀ i,r<=i->i<xs.size->j<=xs.getD i 0
theorem CH {xs:Array Nat} {j:Nat} (u:Up xs):∀ (fuel lo hi:Nat),lo<=hi->hi<=xs.size->hi-lo<=fuel->(∀ i,i<lo->xs.getD i 0<j)->(∀ i,hi<=i->i<xs.size->j<=xs.getD i 0)->Bel xs j (below.go xs j fuel lo hi)
 |0,lo,hi,h1,h2,h3,h4,h5=>by
  obtain rfl:lo=hi:=by omega
  exact ⟨h2,h4,h5⟩
 |fuel+1,lo,hi,h1,h2,h3,h4,h5=>by
  unfold below.go;by_cases c:lo<hi
  ·have hm:(lo+hi)/2<xs.size:=by omega
   rw [if_pos c];simp only;rw [gD (e:=0) hm];by_cases c2:xs.getD ((lo+hi)/2) 0<j
   ·rw [if_pos c2];exact CH u fuel _ _ (by omega) h2 (by omega) (λi hi'=>Nat.lt_of_le_of_lt (u.le (show i<=(lo+hi)/2 by omega) hm) c2) h5
   ·rw [if_neg c2];exact CH u fuel _ _ (by omega) (by omega) (by omega) h4 λi hi' hs=>u5 (Nat.le_of_not_lt c2) (u.le hi' hs)
  ·rw [if_neg c];obtain rfl:lo=hi:=by omega
   exact ⟨h2,h4,h5⟩
def CS {xs:Array Nat} {j:Nat} (u:Up xs):Bel xs j (below xs j):=CH u _ _ _ (Nat.zero_le _) (v6 _) (v6 _) (λi h=>absurd h (Nat.not_lt_zero i)) λi h hs=>absurd hs (by omega)
def qhR {xs:Array Nat} {i j:Nat} (h:xs[i]?=some j):i<xs.size/\xs.getD i 0=j:=by
 obtain ⟨h1,h2⟩:=Array.getElem?_eq_some_iff.mp h;exact ⟨h1,by simp [Array.getD,h1,h2]⟩
def C8 {xs:Array Nat} {i:Nat} (h:i<xs.size):xs[i]?=some (xs.getD i 0):=by simp [Array.getD,h]
def qea {xs:Array Nat} {i j:Nat} (u:Up xs) (h:xs[i]?=some j):below xs j=i:=by
 obtain ⟨h1,h2⟩:=qhR h;have B:=CS (j:=j) u;rcases Nat.lt_trichotomy (below xs j) i with z|z|z
 ·have:=B.hi _ (v6 _) (by omega);have:=u _ _ z h1;omega
 ·exact z
 ·have:=B.lo i z;omega
def WD {t:SetTable} {i j:Nat} (u:Up t.place) (h:t.place[i]?=some j):t.slot j=.live i:=by
 unfold SetTable.slot;simp only;rw [qea u h,h];simp
def X3 {t:SetTable} {j:Nat} (d:t.dummies=#[]) (h:∀ i:Nat,t.place[i]?≠some j):t.slot j=.empty:=by
 unfold SetTable.slot;simp only;rw [if_neg (by simpa using h _),if_neg];unfold has;rw [d];simp
def qdd {t:SetTable} (u:Up t.place) (d:t.dummies=#[]) (j:Nat):(t.slot j=.empty/\∀ i:Nat,t.place[i]?≠some j)\/∃ i:Nat,t.slot j=.live i/\t.place[i]?=some j:=by
 by_cases c:∃ i:Nat,t.place[i]?=some j
 ·obtain ⟨i,h⟩:=c;exact .inr ⟨i,WD u h,h⟩
 ·have c':∀ i:Nat,t.place[i]?≠some j:=λi h=>c ⟨i,h⟩;exact .inl ⟨X3 d c',c'⟩
def adv (M:Nat) (p:Probe):Probe:=
 if p.more > 0 then { p with j:=p.j+1,more:=p.more-1 } else
 { p with j:=(leap M p.i p.perturb).1,more:=runEnd M (leap M p.i p.perturb).1-(leap M p.i p.perturb).1,i:=(leap M p.i p.perturb).1,perturb:=(leap M p.i p.perturb).2 }
def qle (t:SetTable) (p:Probe):t.advance p=adv t.mask p:=rfl
def st (M:Nat) (h:Int):Probe:={ j:=bits h%(M+1),more:=runEnd M (bits h%(M+1))-bits h%(M+1),i:=bits h%(M+1),perturb:=bits h,dummy:=none }
def pth (M:Nat) (h:Int):Nat->Probe
 |0=>st M h
 |n+1=>adv M (pth M h n)
theorem RY (M:Nat) (h:Int):∀ n,(pth M h n).dummy=none
 |0=>rfl
 |n+1=>by
  have:=RY M h n;simp only [pth,adv];split<;>exact this
def MX {M i:Nat} (h:i<=M):runEnd M i<=M/\i<=runEnd M i/\runEnd M i<=i+9:=by unfold runEnd;split<;>omega
theorem qgl (M:Nat) (h:Int):∀ n,(pth M h n).j+(pth M h n).more<=M
 |0=>by
  have:=Nat.mod_lt (bits h) (show 0<M+1 by omega);have:=MX (M:=M) (i:=bits h%(M+1)) (by omega);simp only [pth,st];omega
 |n+1=>by
  have ih:=qgl M h n;simp only [pth,adv];split
  ·simp only;omega
  ·have:(leap M (pth M h n).i (pth M h n).perturb).1<M+1:=Nat.mod_lt _ (by omega);have:=MX (M:=M) (i:=(leap M (pth M h n).i (pth M h n).perturb).1) (by omega);simp only;omega
def hd (M i p:Nat):Probe:={ j:=i,more:=runEnd M i-i,i:=i,perturb:=p,dummy:=none }
def lv (M:Nat) (h:Int):Nat->Nat×Nat
 |0=>(bits h%(M+1),bits h)
 |k+1=>leap M (lv M h k).1 (lv M h k).2
theorem qoY {M:Nat} {h:Int} {i p:Nat}:∀ (m n j:Nat),pth M h n={ j:=j,more:=m,i:=i,perturb:=p,dummy:=none }->pth M h (n+m)={ j:=j+m,more:=0,i:=i,perturb:=p,dummy:=none }
 |0,n,j,e=>e
 |m+1,n,j,e=>by
  have e2:pth M h (n+1)={ j:=j+1,more:=m,i:=i,perturb:=p,dummy:=none }:=by
   rw [pth,e,adv];simp
  have:=qoY m (n+1) (j+1) e2;rw [show n+1+m=n+(m+1) by omega,show j+1+m=j+(m+1) by omega] at this;exact this
def qdP (M:Nat) (h:Int):∀ k,(lv M h k).1<=M
 |0=>by have:=Nat.mod_lt (bits h) (show 0<M+1 by omega);simp only [lv];omega
 |k+1=>by
  have:(leap M (lv M h k).1 (lv M h k).2).1<M+1:=Nat.mod_lt _ (by omega);simp only [lv];omega
theorem qkS (M:Nat) (h:Int):∀ k,∃ n,n<=10*k/\pth M h n=hd M (lv M h k).1 (lv M h k).2
 |0=>⟨0,by omega,rfl⟩
 |k+1=>by
  obtain ⟨n,hn,e⟩:=qkS M h k;have r:=MX (qdP M h k);have w:=qoY _ n _ e;refine ⟨n+(runEnd M (lv M h k).1-(lv M h k).1)+1,by omega,?_⟩;rw [pth,w];rfl
theorem qds (M:Nat) (h:Int):∀ k,(lv M h k).2=bits h/32 ^ k
 |0=>by simp [lv]
 |k+1=>by
  show (lv M h k).2/32=_;rw [qds M h k,Nat.div_div_eq_div_mul,Nat.pow_succ]
def qig (h:Int):bits h<2 ^ 64:=by
 unfold bits;have:=Int.emod_lt_of_pos h (show (0:Int)<2 ^ 64 by decide);have:=Int.emod_nonneg h (show (2 ^ 64:Int)≠0 by decide);omega
def stp (M x:Nat):Nat:=(x*5+1)%(M+1)
def its (M:Nat):Nat->Nat->Nat
 |0,x=>x
 |t+1,x=>stp M (its M t x)
theorem qcY (M:Nat) (h:Int):∀ t,(lv M h (13+t)).1=its M t (lv M h 13).1
 |0=>rfl
 |t+1=>by
  have z:(lv M h (13+t)).2/32=0:=by
   rw [qds,Nat.div_div_eq_div_mul,← Nat.pow_succ];refine Nat.div_eq_of_lt (v9 (qig h) ?_);exact u5 (show 2 ^ 64<=32 ^ 14 by decide) (Nat.pow_le_pow_right (by omega) (by omega))
  show ((lv M h (13+t)).1*5+1+(lv M h (13+t)).2/32)%(M+1)=stp M (its M t _);rw [z,qcY M h t];rfl
def N0 (M:Nat):Prop:=∀ x,x<=M->∀ c,c<=M->∃ t,t<=M/\its M t x=c
def qot:N0 7:=by
 have:∀ x:Fin 8,∀ c:Fin 8,∃ t:Fin 8,its 7 t.val x.val=c.val:=by decide +kernel
 intro x hx c hc;obtain ⟨t,ht⟩:=this ⟨x,by omega⟩ ⟨c,by omega⟩;exact ⟨t.val,by omega,ht⟩
def qj2:N0 31:=by
 have:∀ x:Fin 32,∀ c:Fin 32,∃ t:Fin 32,its 31 t.val x.val=c.val:=by decide +kernel
 intro x hx c hc;obtain ⟨t,ht⟩:=this ⟨x,by omega⟩ ⟨c,by omega⟩;exact ⟨t.val,by omega,ht⟩
theorem YN (M:Nat) (x t:Nat):∀ s,its M (s+t) x=its M s (its M t x)
 |0=>by rw [Nat.zero_add];rfl
 |s+1=>by rw [Nat.succ_add];show stp M (its M (s+t) x)=stp M _;rw [YN M x t s]
def qh7:N0 127:=by
 have h:∀ c:Fin 128,∃ t:Fin 128,its 127 t.val 0=c.val:=by decide +kernel
 have z:its 127 128 0=0:=by decide +kernel
 intro x hx c hc;obtain ⟨a,ha⟩:=h ⟨x,by omega⟩;obtain ⟨b,hb⟩:=h ⟨c,by omega⟩;simp only at ha hb;have la:=a.isLt;have lb:=b.isLt;by_cases q:a.val<=b.val
 ·refine ⟨b.val-a.val,by omega,?_⟩;have:=YN 127 0 a.val (b.val-a.val);rw [Nat.sub_add_cancel q,hb,ha] at this;exact this.symm
 ·refine ⟨b.val+128-a.val,by omega,?_⟩;have:=YN 127 0 a.val (b.val+128-a.val);rw [Nat.sub_add_cancel (by omega),YN 127 0 128,z,hb,ha] at this;exact this.symm
def qhL:N0 511:=by
 have h:∀ c:Fin 512,∃ t:Fin 512,its 511 t.val 0=c.val:=by decide +kernel
 have z:its 511 512 0=0:=by decide +kernel
 intro x hx c hc;obtain ⟨a,ha⟩:=h ⟨x,by omega⟩;obtain ⟨b,hb⟩:=h ⟨c,by omega⟩;simp only at ha hb;have la:=a.isLt;have lb:=b.isLt;by_cases q:a.val<=b.val
 ·refine ⟨b.val-a.val,by omega,?_⟩;have:=YN 511 0 a.val (b.val-a.val);rw [Nat.sub_add_cancel q,hb,ha] at this;exact this.symm
 ·refine ⟨b.val+512-a.val,by omega,?_⟩;have:=YN 511 0 a.val (b.val+512-a.val);rw [Nat.sub_add_cancel (by omega),YN 511 0 512,z,hb,ha] at this;exact this.symm
def qmD {M:Nat} (F:N0 M) (h:Int) {c:Nat} (hc:c<=M):∃ n,n<10*turns M/\(pth M h n).j=c:=by
 obtain ⟨t,ht,e⟩:=F _ (qdP M h 13) c hc;obtain ⟨n,hn,e2⟩:=qkS M h (13+t);refine ⟨n,by unfold turns;omega,?_⟩;rw [e2,hd,qcY,e]
def qfY {P:Nat->Prop} {n:Nat} (h:P n):∃ m,m<=n/\P m/\∀ k,k<m->¬ P k:=by
 induction n using Nat.strongRecOn with
 |_ n ih=>
  by_cases c:∃ k,k<n/\P k
  ·obtain ⟨k,hk,pk⟩:=c;obtain ⟨m,hm,r⟩:=ih k hk pk;exact ⟨m,by omega,r⟩
  ·exact ⟨n,v6 _,h,λk hk pk=>c ⟨k,hk,pk⟩⟩
def qhj {xs:Array Nat} {M:Nat} (u:Up xs) (h:xs.size<=M):∃ c,c<=M/\∀ i:Nat,xs[i]?≠some c:=by
 by_cases c:∃ c,c<=M/\∀ i:Nat,xs[i]?≠some c
 ·exact c
 exfalso;have all:∀ c,c<=M->∃ i:Nat,xs[i]?=some c:=λd hd=>by
  by_cases z:∃ i:Nat,xs[i]?=some d
  ·exact z
  ·exact absurd ⟨d,hd,λi e=>z ⟨i,e⟩⟩ c
 have ge:∀ i,i<xs.size->i<=xs.getD i 0:=by
  intro i;induction i with
  |zero=>intro _;exact Nat.zero_le _
  |succ i ih=>
   intro hi;have:=ih (by omega);have:=u i (i+1) (by omega) hi;omega
 obtain ⟨i,hi⟩:=all M (v6 _);obtain ⟨i1,i2⟩:=qhR hi;obtain ⟨m,hm,⟨m1,m2⟩,hl⟩:=qfY (P:=λi=>i<xs.size/\i<xs.getD i 0) (n:=i) ⟨i1,by omega⟩;obtain ⟨k,hk⟩:=all m (by omega);obtain ⟨k1,k2⟩:=qhR hk;rcases Nat.lt_or_ge k m with z|z
 ·have a:=ge k k1;have b:=hl k z;have:¬ k<xs.getD k 0:=λq=>b ⟨k1,q⟩;omega
 ·have:=u.le z k1;omega
def qaq {t:SetTable} {h:Int} (F:N0 t.mask) (u:Up t.place) (d:t.dummies=#[]) (s:t.place.size<=t.mask):∃ e,e<10*turns t.mask/\t.slot (pth t.mask h e).j=.empty/\∀ k,k<e->t.slot (pth t.mask h k).j≠.empty:=by
 obtain ⟨c,hc,hf⟩:=qhj u s;obtain ⟨n,hn,e⟩:=qmD F h hc;obtain ⟨m,hm,pm,hl⟩:=qfY (P:=λn=>t.slot (pth t.mask h n).j=.empty) (n:=n) (by rw [e];exact X3 d hf);exact ⟨m,by omega,pm,hl⟩
theorem qbO {t:SetTable} {hA:Nat->Int} {h:Int}:∀ (m fuel n:Nat),(∀ k,k<m->∃ i,t.slot (pth t.mask h (n+k)).j=.live i/\(hA i==h)=false)->m<=fuel->probe.go t hA h fuel (pth t.mask h n)=probe.go t hA h (fuel-m) (pth t.mask h (n+m))
 |0,fuel,n,_,_=>rfl
 |m+1,0,n,_,hf=>by omega
 |m+1,fuel+1,n,hs,hf=>by
  obtain ⟨i,e1,e2⟩:=hs 0 (by omega);rw [Nat.add_zero] at e1;rw [probe.go,e1];simp only [e2,Bool.false_eq_true,if_false];have:=qbO m fuel (n+1) (λk hk=>by rw [show n+1+k=n+(k+1) by omega];exact hs (k+1) (by omega)) (by omega);rw [qle,← pth,this,show n+1+m=n+(m+1) by omega,show fuel+1-(m+1)=fuel-m by omega]
def qeH {t:SetTable} {hA:Nat->Int} {h:Int} {fuel n:Nat} (e:t.slot (pth t.mask h n).j=.empty) (hf:0<fuel):probe.go t hA h fuel (pth t.mask h n)=some (.empty (pth t.mask h n).j none):=by
 obtain ⟨f,rfl⟩:∃ f,fuel=f+1:=⟨fuel-1,by omega⟩
 rw [probe.go,e,RY]
def ins {α:Type} (l:List α) (p:Nat) (x:α):List α:=l.take p++x::l.drop p
def UO {α:Type} {l:List α} {p:Nat} {x:α} (h:p<=l.length):(ins l p x).length=l.length+1:=by simp [ins];omega
def qbc {α:Type} {l:List α} {p:Nat} {x:α} (h:p<=l.length) (i:Nat):(ins l p x)[i]?=if i<p then l[i]? else if i=p then some x else l[i-1]?:=by
 have e:(l.take p).length=p:=by simp;omega
 unfold ins;split
 ·rename_i c;rw [List.getElem?_append_left (by omega),List.getElem?_take_of_lt c]
 ·rw [List.getElem?_append_right (by omega),e];split
  ·rename_i c;subst c;simp
  ·rename_i c1 c2;obtain ⟨k,rfl⟩:∃ k,i=p+(k+1):=⟨i-p-1,by omega⟩
   rw [show p+(k+1)-p=k+1 by omega,getElem?_cons_succ,List.getElem?_drop,show p+(k+1)-1=p+k by omega]
def JS {α:Type} (xs:Array α) (p:Nat) (x:α) (h:p<=xs.size):(insertAt xs p x).toList=ins xs.toList p x:=by
 unfold insertAt ins;simp;exact List.take_of_length_le (by simp)
structure Ok8 (t:SetTable) (hs:List Int):Prop where
 up:Up t.place
 dm:t.dummies=#[]
 sz:t.place.size=hs.length
 fl:hs.length<=t.mask
 le:∀ (i j:Nat),t.place[i]?=some j->j<=t.mask
 fu:N0 t.mask
 od:t.mask%2=1
 wy:∀ (i j:Nat) (h:Int),t.place[i]?=some j->hs[i]?=some h->∃ m,(pth t.mask h m).j=j/\∀ k,k<m->t.slot (pth t.mask h k).j≠.empty
def Ok8.ne {t:SetTable} {hs:List Int} (o:Ok8 t hs) {j:Nat}:t.slot j≠.empty↔∃ i:Nat,t.place[i]?=some j:=by
 rcases qdd o.up o.dm j with ⟨e,h⟩|⟨i,e,h⟩
 ·exact ⟨λz=>absurd e z,λ⟨i,z⟩=>absurd z (h i)⟩
 ·exact ⟨λ_=>⟨i,h⟩,λ_ z=>by rw [e] at z;cases z⟩
def T2 {α:Type} (xs:Array α) (i:Nat):xs[i]?=xs.toList[i]?:=by simp
theorem Ok8.put {t:SetTable} {hs:List Int} (o:Ok8 t hs) {j:Nat} {h:Int} (he:t.slot j=.empty) (hj:j<=t.mask) (hf:hs.length+1<=t.mask) (w:∃ m,(pth t.mask h m).j=j/\∀ k,k<m->t.slot (pth t.mask h k).j≠.empty) :
  (t.put j).2<=hs.length/\Ok8 (t.put j).1 (ins hs (t.put j).2 h)/\(t.put j).1.mask=t.mask:=by
 have hn:∀ i:Nat,t.place[i]?≠some j:=λi z=>(o.ne.mpr ⟨i,z⟩) he;have B:=CS (j:=j) o.up;obtain ⟨p,hp⟩:∃ p,p=below t.place j:=⟨_,rfl⟩
 have hd:has t.dummies j=false:=by unfold has;rw [o.dm];simp
 have e1:(t.put j).1={ t with place:=insertAt t.place p j }:=by
  unfold SetTable.put;simp only [hd,hp];rfl
 have e2:(t.put j).2=p:=by unfold SetTable.put;rw [hp]
 rw [← hp] at B;have pl:p<=t.place.size:=B.le;have pl':p<=hs.length:=by rw [← o.sz];exact pl
 have gt:∀ i:Nat,(insertAt t.place p j)[i]?=if i<p then t.place[i]? else if i=p then some j else t.place[i-1]?:=λi=>by
  rw [T2,JS _ _ _ pl,qbc (by simpa using pl),T2,T2]
 have hz:(insertAt t.place p j).size=t.place.size+1:=by
  rw [← Array.length_toList,JS _ _ _ pl,UO (by simpa using pl),Array.length_toList]
 rw [e1,e2];have up':Up (insertAt t.place p j):=by
  intro a b hab hb;rw [hz] at hb;have ga:=gt a;have gb:=gt b;have da:(insertAt t.place p j)[a]?=some ((insertAt t.place p j).getD a 0):=C8 (by rw [hz];omega);have db:(insertAt t.place p j)[b]?=some ((insertAt t.place p j).getD b 0):=C8 (by rw [hz];omega);rw [da] at ga;rw [db] at gb;generalize (insertAt t.place p j).getD a 0=x at ga ⊢;generalize (insertAt t.place p j).getD b 0=y at gb ⊢;have gtj:∀ i:Nat,p<=i->i<t.place.size->j<t.place.getD i 0:=λi h1 h2=>by
   have a1:=B.hi i h1 h2;have a2:t.place.getD i 0≠j:=λz=>hn i (by rw [C8 h2,z]);omega
  by_cases c1:a<p
  ·rw [if_pos c1,C8 (by omega)] at ga;cases ga;by_cases c2:b<p
   ·rw [if_pos c2,C8 (by omega)] at gb;cases gb;exact o.up a b hab (by omega)
   ·rw [if_neg c2] at gb;by_cases c3:b=p
    ·rw [if_pos c3] at gb;cases gb;exact B.lo a c1
    ·rw [if_neg c3,C8 (by omega)] at gb;cases gb;exact Nat.lt_trans (B.lo a c1) (gtj _ (by omega) (by omega))
  ·rw [if_neg c1] at ga;have c2:¬ b<p:=by omega
   have c3:¬ b=p:=by omega
   rw [if_neg c2,if_neg c3,C8 (by omega)] at gb;cases gb;by_cases c4:a=p
   ·rw [if_pos c4] at ga;cases ga;exact gtj _ (by omega) (by omega)
   ·rw [if_neg c4,C8 (by omega)] at ga;cases ga;exact o.up _ _ (by omega) (by omega)
 have ne':∀ j',t.slot j'≠.empty->SetTable.slot { t with place:=insertAt t.place p j } j'≠.empty:=λj' z=>by
  obtain ⟨i,hi⟩:=o.ne.mp z;have:∃ i':Nat,(insertAt t.place p j)[i']?=some j':=by
   by_cases c:i<p
   ·exact ⟨i,by rw [gt,if_pos c,hi]⟩
   ·exact ⟨i+1,by rw [gt,if_neg (by omega),if_neg (by omega),Nat.add_sub_cancel,hi]⟩
  obtain ⟨i',hi'⟩:=this;rw [WD (t:={ t with place:=insertAt t.place p j }) up' hi'];exact λz=>by cases z
 refine ⟨pl',⟨up',o.dm,by rw [UO pl'];simp only;rw [hz,o.sz],by rw [UO pl'];exact hf,λi j' hi=>?_,o.fu,o.od,λi j' h' hi hh=>?_⟩,rfl⟩
 ·simp only at hi;rw [gt] at hi;split at hi
  ·exact o.le _ _ hi
  ·split at hi
   ·cases hi;exact hj
   ·exact o.le _ _ hi
 ·simp only at hi;rw [gt] at hi;rw [qbc pl'] at hh;have go:∀ i0:Nat,t.place[i0]?=some j'->hs[i0]?=some h'->∃ m,(pth t.mask h' m).j=j'/\∀ k,k<m->SetTable.slot { t with place:=insertAt t.place p j } (pth t.mask h' k).j≠.empty:=λi0 a b=>by
   obtain ⟨m,m1,m2⟩:=o.wy i0 j' h' a b;exact ⟨m,m1,λk hk=>ne' _ (m2 k hk)⟩
  split at hi
  ·rename_i c;rw [if_pos c] at hh;exact go i hi hh
  ·rename_i c;rw [if_neg c] at hh;split at hi
   ·rename_i c2;rw [if_pos c2] at hh;cases hi;cases hh;obtain ⟨m,m1,m2⟩:=w;exact ⟨m,m1,λk hk=>ne' _ (m2 k hk)⟩
   ·rename_i c2;rw [if_neg c2] at hh;exact go _ hi hh
theorem Ok8.fresh (f m:Nat) (led:Bool):Ok8 (SetTable.fresh f m led) []:=by
 refine ⟨λa b h hb=>?_,rfl,rfl,Nat.zero_le _,λi j h=>?_,qot,(by show 7%2=1;rfl),λi j h a b=>?_⟩
 ·simp [SetTable.fresh] at hb
 ·simp [SetTable.fresh] at h
 ·simp at b
end Tb8
namespace Tb8
open PySem PyProof.Rows
section
variable {prog:Program} {w:World} {A:Around} {E:Value->Shared->Prop} {s:Shared}
abbrev hsh (prog:Program) (w:World) (k:List Int):Int:=tupleKeyHash (intKind prog w) k
def NM {k:Int} {v:Value} (h:(intKind prog w).is k v=true):∃ t,v=.int k t:=by
 cases v<;>first|(cases h;done)|skip
 case int i t=>
  have:i=k:=by simpa [intKind,Value.isInt] using h
  exact ⟨t,by rw [this]⟩
end
end Tb8
namespace Tb8
open PySem PyProof.Rows PySem.SetTable
section
variable {prog:Program} {w:World} {A:Around} {E:Value->Shared->Prop} {s:Shared}
end
end Tb8
namespace Tb8
open PySem PySem.SetTable
def own (ow:Array (Option Nat)) (j:Nat):Option Nat:=ow.getD j (some 0)
def M4 {M:Nat} {h:Int} {c n:Nat} (e:pth M h n=hd M (lv M h c).1 (lv M h c).2) {k:Nat} (hk:(lv M h c).1+k<=runEnd M (lv M h c).1):(pth M h (n+k)).j=(lv M h c).1+k:=by
 have key:∀ k,(lv M h c).1+k<=runEnd M (lv M h c).1->pth M h (n+k)={ j:=(lv M h c).1+k,more:=runEnd M (lv M h c).1-((lv M h c).1+k),i:=(lv M h c).1,perturb:=(lv M h c).2,dummy:=none }:=by
  intro k;induction k with
  |zero=>intro _;exact e
  |succ k ih=>
   intro hk;have:=ih (by omega);rw [← Nat.add_assoc,pth,this,adv];simp only;rw [if_pos (by omega)];congr 1
 rw [key k hk]
def qd4 {M:Nat} {h:Int} {c n:Nat} (e:pth M h n=hd M (lv M h c).1 (lv M h c).2):pth M h (n+(runEnd M (lv M h c).1-(lv M h c).1)+1)=hd M (lv M h (c+1)).1 (lv M h (c+1)).2:=by
 rw [pth,qoY _ n _ e];rfl
def R5 {n:Nat} {P:Nat->Bool} (h:(List.range n).find? P=none):∀ k,k<n->P k=false:=λk hk=>by
 have:=List.find?_eq_none.mp h k (mem_range.mpr hk);simpa using this
def qc0 {P:Nat->Bool}:∀ {n k:Nat},(List.range n).find? P=some k->k<n/\P k=true/\∀ i,i<k->P i=false:=by
 intro n;induction n with
 |zero=>intro k h;simp at h
 |succ n ih=>
  intro k h;rw [List.range_succ,List.find?_append] at h;cases e:(List.range n).find? P with
  |some k'=>
   rw [e] at h;simp at h;subst h;obtain ⟨a,b,c⟩:=ih e;exact ⟨by omega,b,c⟩
  |none=>
   rw [e] at h;simp [List.find?_cons] at h;split at h
   ·rename_i z;cases h;exact ⟨by omega,z,R5 e⟩
   ·cases h
theorem qlv {M:Nat} {h:Int} {ow:Array (Option Nat)}:∀ (fuel c n:Nat),pth M h n=hd M (lv M h c).1 (lv M h c).2->(∀ m,m<n->own ow (pth M h m).j≠none)->(∃ c',c<=c'/\c'<c+fuel/\own ow (lv M h c').1=none) ->
  ∃ m,layClean.free M ow fuel (lv M h c).1 (lv M h c).2=some (pth M h m).j/\own ow (pth M h m).j=none/\∀ m',m'<m->own ow (pth M h m').j≠none
 |0,c,n,_,_,⟨c',h1,h2,_⟩=>by omega
 |fuel+1,c,n,e,hn,⟨c',h1,h2,h3⟩=>by
  have r:=MX (qdP M h c);rw [layClean.free];cases f:(List.range (runEnd M (lv M h c).1+1-(lv M h c).1)).find? (λk=>(ow.getD ((lv M h c).1+k) (some 0)).isNone) with
  |some k=>
   obtain ⟨k1,k2,k3⟩:=qc0 f;refine ⟨n+k,?_,?_,λm' hm'=>?_⟩
   ·simp only;rw [M4 e (by omega)]
   ·rw [M4 e (by omega)];unfold own;exact Option.isNone_iff_eq_none.mp k2
   ·rcases Nat.lt_or_ge m' n with z|z
    ·exact hn m' z
    ·obtain ⟨x,rfl⟩:∃ x,m'=n+x:=⟨m'-n,by omega⟩
     rw [M4 e (by omega)];have:=k3 x (by omega);unfold own;intro q;rw [q] at this;cases this
  |none=>
   have k3:=R5 f;have all:∀ m,m<n+(runEnd M (lv M h c).1-(lv M h c).1)+1->own ow (pth M h m).j≠none:=λm hm=>by
    rcases Nat.lt_or_ge m n with z|z
    ·exact hn m z
    ·obtain ⟨x,rfl⟩:∃ x,m=n+x:=⟨m-n,by omega⟩
     rw [M4 e (by omega)];have:=k3 x (by omega);unfold own;intro q;rw [q] at this;cases this
   have ne:c'≠c:=λz=>by
    subst z;have:=k3 0 (by omega);rw [Nat.add_zero] at this;unfold own at h3;rw [h3] at this;cases this
   exact qlv fuel (c+1) _ (qd4 e) all ⟨c',by omega,by omega,h3⟩
structure Lay (M:Nat) (ow:Array (Option Nat)) (hs:List Int):Prop where
 sz:ow.size=M+1
 lt:∀ (j k:Nat),ow[j]?=some (some k)->k<hs.length
 ex:∀ k,k<hs.length->∃ j:Nat,ow[j]?=some (some k)
 un:∀ (j j' k:Nat),ow[j]?=some (some k)->ow[j']?=some (some k)->j=j'
 wy:∀ (j k:Nat) (h:Int),ow[j]?=some (some k)->hs[k]?=some h->∃ m,(pth M h m).j=j/\∀ x,x<m->own ow (pth M h x).j≠none
def ED {ow:Array (Option Nat)} {j:Nat} (h:j<ow.size):ow[j]?=some (own ow j):=by simp [own,Array.getD,h]
def qcD {M:Nat} {h:Int} {n:Nat}:(pth M h n).j<=M:=by have:=qgl M h n;omega
theorem pig:∀ (b:Nat) (l:List Nat),(∀ x∈l,x<b)->l.Nodup->l.length<=b
 |0,l,h,_=>by
  cases l with
  |nil=>simp
  |cons a r=>exact absurd (h a (by simp)) (Nat.not_lt_zero a)
 |b+1,l,h,nd=>by
  have ih:=pig b (l.erase b) (λx hx=>by
   have q:=(List.Nodup.mem_erase_iff nd).mp hx;have:=h x q.2;have:=q.1;omega) (nd.erase b)
  rw [List.length_erase] at ih;split at ih<;>omega
def Lay.free {M:Nat} {ow:Array (Option Nat)} {hs:List Int} (l:Lay M ow hs) (hl:hs.length<=M):∃ c,c<=M/\own ow c=none:=by
 by_cases z:∃ c,c<=M/\own ow c=none
 ·exact z
 exfalso;have all:∀ c,c<=M->∃ k,ow[c]?=some (some k):=λc hc=>by
  have:=ED (ow:=ow) (j:=c) (by rw [l.sz];omega);cases q:own ow c with
  |none=>exact absurd ⟨c,hc,q⟩ z
  |some k=>exact ⟨k,by rw [this,q]⟩
 have inj:((List.range (M+1)).map λc=>(own ow c).getD 0).Nodup:=by
  rw [List.nodup_iff_pairwise_ne,List.pairwise_map];refine List.Pairwise.imp_of_mem (R:=(·<·)) (λ{a b} ha hb hab e=>?_) (List.pairwise_lt_range);obtain ⟨k1,h1⟩:=all a (by have:=mem_range.mp ha;omega);obtain ⟨k2,h2⟩:=all b (by have:=mem_range.mp hb;omega);have e1:=ED (ow:=ow) (j:=a) (by rw [l.sz];have:=mem_range.mp ha;omega);have e2:=ED (ow:=ow) (j:=b) (by rw [l.sz];have:=mem_range.mp hb;omega);rw [h1] at e1;rw [h2] at e2;rw [← Option.some.inj e1,← Option.some.inj e2] at e;simp only [Option.getD_some] at e;subst e;have:=l.un a b k1 h1 h2;omega
 have sub:∀ x∈((List.range (M+1)).map λc=>(own ow c).getD 0),x∈List.range hs.length:=λx hx=>by
  obtain ⟨c,hc,rfl⟩:=mem_map.mp hx;obtain ⟨k,hk⟩:=all c (by have:=mem_range.mp hc;omega);have e1:=ED (ow:=ow) (j:=c) (by rw [l.sz];have:=mem_range.mp hc;omega);rw [hk] at e1;rw [← Option.some.inj e1];exact mem_range.mpr (l.lt c k hk)
 have:=pig hs.length _ (λx hx=>mem_range.mp (sub x hx)) inj;simp at this;omega
def Lay.next {M:Nat} {ow:Array (Option Nat)} {hs:List Int} (F:N0 M) (l:Lay M ow hs) (hl:hs.length<=M) (h:Int):∃ j,layClean.free M ow (turns M) (bits h%(M+1)) (bits h)=some j/\Lay M (ow.setIfInBounds j (some hs.length)) (hs++[h]):=by
 obtain ⟨c,hc,hf⟩:=l.free hl;obtain ⟨t,ht,e⟩:=F _ (qdP M h 13) c hc;obtain ⟨m,m1,m2,m3⟩:=qlv (M:=M) (h:=h) (ow:=ow) (turns M) 0 0 rfl (λm hm=>absurd hm (Nat.not_lt_zero m)) ⟨13+t,by omega,by unfold turns;omega,by rw [qcY,e];exact hf⟩;refine ⟨_,m1,?_⟩;obtain ⟨j,hj⟩:∃ j,j=(pth M h m).j:=⟨_,rfl⟩
 have jl:j<ow.size:=by rw [l.sz,hj];have:=qcD (M:=M) (h:=h) (n:=m);omega
 rw [← hj] at m2 ⊢;have gt:∀ i:Nat,(ow.setIfInBounds j (some hs.length))[i]?=if j=i then some (some hs.length) else ow[i]?:=λi=>by
  rw [Array.getElem?_setIfInBounds];by_cases c:j=i
  ·rw [if_pos c,if_pos c,if_pos (by omega)]
  ·rw [if_neg c,if_neg c]
 have jn:ow[j]?=some none:=by rw [ED jl,m2]
 have on:∀ i,i<=M->own ow i≠none->own (ow.setIfInBounds j (some hs.length)) i≠none:=λi hi hn q=>by
  have s2:(ow.setIfInBounds j (some hs.length)).size=ow.size:=by simp
  have e1:=ED (ow:=ow.setIfInBounds j (some hs.length)) (j:=i) (by rw [s2,l.sz];omega);rw [gt,q] at e1;split at e1
  ·cases e1
  ·rw [ED (by rw [l.sz];omega)] at e1;exact hn (Option.some.inj e1)
 refine ⟨by simp [l.sz],λi k hk=>?_,λk hk=>?_,λi i' k h1 h2=>?_,λi k h' h1 h2=>?_⟩
 ·rw [gt] at hk;rw [length_append,List.length_singleton];split at hk
  ·cases hk;omega
  ·have:=l.lt i k hk;omega
 ·rw [length_append,List.length_singleton] at hk;rcases Nat.lt_or_ge k hs.length with z|z
  ·obtain ⟨i,hi⟩:=l.ex k z;refine ⟨i,?_⟩;rw [gt,if_neg (λq=>by rw [← q,jn] at hi;cases hi),hi]
  ·obtain rfl:k=hs.length:=by omega
   exact ⟨j,by rw [gt,if_pos rfl]⟩
 ·rw [gt] at h1 h2;split at h1
  ·rename_i q1;split at h2
   ·rename_i q2;omega
   ·cases h1;have:=l.lt i' _ h2;omega
  ·split at h2
   ·cases h2;have:=l.lt i _ h1;omega
   ·exact l.un i i' k h1 h2
 ·rw [gt] at h1;split at h1
  ·rename_i q;cases h1;rw [List.getElem?_append_right (by omega),Nat.sub_self] at h2;cases h2;exact ⟨m,by rw [← hj,q],λx hx=>on _ qcD (m3 x hx)⟩
  ·have kl:=l.lt i k h1;rw [List.getElem?_append_left kl] at h2;obtain ⟨m',w1,w2⟩:=l.wy i k h' h1 h2;exact ⟨m',w1,λx hx=>on _ qcD (w2 x hx)⟩
def Lay.start (M:Nat):Lay M (Array.replicate (M+1) none) []:=by
 have g:∀ j k:Nat,¬ (Array.replicate (M+1) (none:Option Nat))[j]?=some (some k):=λj k h=>by
  rw [Array.getElem?_replicate] at h;split at h<;>cases h
 exact ⟨by simp,λj k h=>absurd h (g j k),λk hk=>absurd hk (by simp),λj j' k h=>absurd h (g j k),λj k h q=>absurd q (g j k)⟩
theorem qcK {M:Nat} (F:N0 M):∀ (hs r:List Int) (ow:Array (Option Nat)),Lay M ow r->r.length+hs.length<=M+1 ->
  ∃ ow',hs.foldl (λacc h=>do
   let (owner,k)←acc
   let j←layClean.free M owner (turns M) (bits h%(M+1)) (bits h)
   pure (owner.setIfInBounds j (some k),k+1)) (some (ow,r.length))=some (ow',(r++hs).length)/\Lay M ow' (r++hs)
 |[],r,ow,l,_=>⟨ow,by simp,by simpa using l⟩
 |h::hs,r,ow,l,hl=>by
  rw [length_cons] at hl;obtain ⟨j,h1,h2⟩:=l.next F (by omega) h;have ih:=qcK F hs (r++[h]) _ h2 (by rw [length_append,List.length_singleton];omega);rw [length_append,List.length_singleton,List.append_assoc] at ih;obtain ⟨ow',e1,e2⟩:=ih;refine ⟨ow',?_,e2⟩;rw [List.foldl_cons];simp only [Option.bind_eq_bind,Option.bind_some,h1,Option.pure_def];exact e1
def qkf {M:Nat} (F:N0 M) {hs:Array Int} (hl:hs.size<=M+1):∃ ow,layClean M hs=some ow/\Lay M ow hs.toList:=by
 obtain ⟨ow,e1,e2⟩:=qcK F hs.toList [] _ (Lay.start M) (by simpa using hl);refine ⟨ow,?_,by simpa using e2⟩;unfold layClean;rw [← Array.foldl_toList];rw [length_nil] at e1;rw [e1];rfl
def liv (M:Nat) (ow:Array (Option Nat)):List (Nat×Nat):=(List.range (M+1)).filterMap λj=>(ow.getD j none).map (j,·)
def YW {M:Nat} {ow:Array (Option Nat)} {hs:List Int} (l:Lay M ow hs) {j k:Nat}:(j,k)∈liv M ow↔ow[j]?=some (some k):=by
 unfold liv;rw [List.mem_filterMap];constructor
 ·rintro ⟨x,hx,e⟩;obtain ⟨k',e1,e2⟩:=za1 e;cases e2;have:=mem_range.mp hx;have:j<ow.size:=by rw [l.sz];exact this
  have z:ow.getD j none=ow[j]:=by simp [Array.getD,this]
  rw [Array.getElem?_eq_getElem this,← z,e1]
 ·intro e;obtain ⟨h1,h2⟩:=Array.getElem?_eq_some_iff.mp e;refine ⟨j,mem_range.mpr (by rw [← l.sz];exact h1),?_⟩;have z:ow.getD j none=ow[j]:=by simp [Array.getD,h1]
  rw [z,h2];rfl
def qfH (M:Nat) (ow:Array (Option Nat)):((liv M ow).map (·.1)).Pairwise (·<·):=by
 unfold liv;rw [List.pairwise_map,List.pairwise_filterMap];refine List.Pairwise.imp (λ{a b} hab x hx y hy=>?_) List.pairwise_lt_range;obtain ⟨_,_,rfl⟩:=za1 hx;obtain ⟨_,_,rfl⟩:=za1 hy;exact hab
def qnn {l:List Nat} (h:l.Pairwise (·<·)):Up l.toArray:=by
 intro a b hab hb;have hb':b<l.length:=by simpa using hb
 have:=List.pairwise_iff_getElem.mp h a b (by omega) hb' hab;simpa [Array.getD,hb',show a<l.length by omega] using this
def MH {M:Nat} {ow:Array (Option Nat)} {hs:List Int} (l:Lay M ow hs):((liv M ow).map (·.2)).Perm (List.range hs.length):=by
 have nd:((liv M ow).map (·.2)).Nodup:=by
  rw [List.nodup_iff_pairwise_ne,List.pairwise_map];have u:=qfH M ow;rw [List.pairwise_map] at u;refine List.Pairwise.imp_of_mem (λ{a b} ha hb hab e=>?_) u;obtain ⟨a1,a2⟩:=a;obtain ⟨b1,b2⟩:=b;simp only at e hab;subst e;have:=l.un a1 b1 a2 ((YW l).mp ha) ((YW l).mp hb);omega
 refine (List.perm_ext_iff_of_nodup nd List.nodup_range).mpr λk=>?_;rw [mem_range,mem_map];constructor
 ·rintro ⟨⟨j,k'⟩,hq,rfl⟩;exact l.lt j _ ((YW l).mp hq)
 ·intro hk;obtain ⟨j,hj⟩:=l.ex k hk;exact ⟨(j,k),(YW l).mpr hj,rfl⟩
def qiv {M f mv:Nat} {led pl:Bool} {ow:Array (Option Nat)} {hs:List Int} (F:N0 M) (od:M%2=1) (l:Lay M ow hs) (hl:hs.length<=M) :
  Ok8 { mask:=M,place:=((liv M ow).map (·.1)).toArray,dummies:=#[],finger:=f,led:=led,moves:=mv,plain:=pl } (((liv M ow).map (·.2)).map λk=>hs.getD k 0):=by
 have pm:=MH l;have ll:(liv M ow).length=hs.length:=by have:=pm.length_eq;simpa using this
 have up:Up ((liv M ow).map (·.1)).toArray:=qnn (qfH M ow);have at_:∀ (i j:Nat),((liv M ow).map (·.1)).toArray[i]?=some j->∃ k,(liv M ow)[i]?=some (j,k):=λi j h=>by
  rw [T2,getElem?_map] at h;obtain ⟨⟨a,b⟩,e1,e2⟩:=za1 h;exact ⟨b,by rw [e1];simp only at e2;rw [e2]⟩
 refine ⟨up,rfl,by simp [ll],by simp [ll];exact hl,λi j h=>?_,F,od,λi j h h1 h2=>?_⟩
 ·obtain ⟨k,hk⟩:=at_ i j h;have:=(YW l).mp (u4 hk);have:=(Array.getElem?_eq_some_iff.mp this).1;rw [l.sz] at this;simp only;omega
 ·obtain ⟨k,hk⟩:=at_ i j h1;have o1:=(YW l).mp (u4 hk);rw [getElem?_map,getElem?_map,hk] at h2;simp only [Option.map_some,Option.some.injEq] at h2;have kl:=l.lt j k o1;obtain ⟨m,m1,m2⟩:=l.wy j k h o1 (by rw [← h2,getD_eq_getElem?_getD,v4 kl];rfl);refine ⟨m,m1,λx hx=>?_⟩;have n1:=m2 x hx;have jl:(pth M h x).j<ow.size:=by rw [l.sz];have:=qcD (M:=M) (h:=h) (n:=x);omega
  cases q:own ow (pth M h x).j with
  |none=>exact absurd q n1
  |some k'=>
   have o2:ow[(pth M h x).j]?=some (some k'):=by rw [ED jl,q]
   obtain ⟨i',hi'⟩:=List.mem_iff_getElem?.mp ((YW l).mpr o2);have:((liv M ow).map (·.1)).toArray[i']?=some (pth M h x).j:=by rw [T2,getElem?_map,hi'];rfl
   rw [WD (t:={ mask:=M,place:=((liv M ow).map (·.1)).toArray,dummies:=#[],finger:=f,led:=led,moves:=mv,plain:=pl }) up this];exact λz=>by cases z
end Tb8
namespace Tb8
open PySem PyProof.Rows PySem.SetTable
section
variable {prog:Program} {w:World} {A:Around} {E:Value->Shared->Prop} {s:Shared}
def RK {α β:Type} {l:List α} {f:α->β} {g:α->Option β}:(∀ x∈l,g x=some (f x))->l.filterMap g=l.map f:=by
 induction l with
 |nil=>intro _;rfl
 |cons x r ih=>
  intro h;rw [List.filterMap_cons,h x (by simp),map_cons,ih λy hy=>h y (by simp [hy])]
def Gd (t:SetTable) (n:Nat):Prop:=(t.mask=7/\n<=4)\/(t.mask=31/\n<=18)\/(t.mask=127/\n<=76)\/(t.mask=511/\n<=306)
end
theorem Ok8.fits {t:SetTable} {hs:List Int} (o:Ok8 t hs):t.fits hs.length=true:=by
 have c:t.fill=t.place.size:=by unfold SetTable.fill;rw [o.dm];rfl
 unfold SetTable.fits;rw [c,o.sz];simp [o.fl]
def qbW {t:SetTable} {hs:List Int} (o:Ok8 t hs) (h:Int) (tm:t.mask<=511):∃ e,t.freeSlot h=some ((pth t.mask h e).j,false)/\t.slot (pth t.mask h e).j=.empty/\∀ k,k<e->t.slot (pth t.mask h k).j≠.empty:=by
 obtain ⟨e,e0,e1,e2⟩:=qaq (t:=t) (h:=h) o.fu o.up o.dm (by have:=o.sz;have:=o.fl;omega);refine ⟨e,?_,e1,e2⟩;unfold SetTable.freeSlot SetTable.probe;have h0:t.probeStart h=pth t.mask h 0:=rfl;have ev:∀ k,k<e->∃ i,t.slot (pth t.mask h (0+k)).j=.live i/\((λ_:Nat=>h+1) i==h)=false:=λk hk=>by
  rw [Nat.zero_add];rcases qdd o.up o.dm (pth t.mask h k).j with ⟨z,_⟩|⟨i,z,_⟩
  ·exact absurd z (e2 k hk)
  ·exact ⟨i,z,by show (h+1==h)=false;rw [beq_eq_false_iff_ne];omega⟩
 have g:=qbO (t:=t) (hA:=λ_=>h+1) (h:=h) e (10*turns t.mask) 0 ev (by omega);rw [h0,g,Nat.zero_add,qeH e1 (by omega)];rfl
def qhD {t:SetTable} {hs:List Int} (o:Ok8 t hs) {es:Array (Int×Value)} (ez:es.size=hs.length) (h:Int) (x:Value) (tm:t.mask<=511) (hf:hs.length+1<=t.mask) :
  ∃ p t1,layNew t es h x=(insertAt es p (h,x),t1,false,false)/\p<=hs.length/\Ok8 t1 (ins hs p h)/\t1.mask=t.mask/\t1.led=t.led/\t1.plain=t.plain:=by
 obtain ⟨e,e1,e2,e3⟩:=qbW o h tm;obtain ⟨pl,ok1,mk1⟩:=o.put (h:=h) e2 qcD hf ⟨e,rfl,λk hk=>e3 k hk⟩;refine ⟨(t.put (pth t.mask h e).j).2,(t.put (pth t.mask h e).j).1,?_,pl,ok1,mk1,rfl,rfl⟩;have il:(ins hs (t.put (pth t.mask h e).j).2 h).length=hs.length+1:=UO pl;have iz:(insertAt es (t.put (pth t.mask h e).j).2 (h,x)).size=hs.length+1:=by
  rw [← Array.length_toList,JS _ _ _ (by rw [ez];exact pl),UO (by simpa [ez] using pl),Array.length_toList,ez]
 have ft:(t.put (pth t.mask h e).j).1.fits (insertAt es (t.put (pth t.mask h e).j).2 (h,x)).size=true:=by
  rw [iz,← il];exact ok1.fits
 unfold layNew;rw [e1];simp only;unfold SetTable.orStandIn;rw [ft];rfl
def NT {α β:Type} {f:α->β} {l:List β} {r:List α} (h:l.Perm (r.map f)):∃ r':List α,l=r'.map f/\r'.Perm r:=by
 generalize e:r.map f=m at h;induction h generalizing r with
 |nil=>cases r with
  |nil=>exact ⟨[],rfl,.nil⟩
  |cons a r=>cases e
 |cons x _ ih=>cases r with
  |nil=>cases e
  |cons a r=>
   obtain ⟨e1,e2⟩:=List.cons.inj e;obtain ⟨r',a1,a2⟩:=ih e2;exact ⟨a::r',by rw [map_cons,e1,a1],a2.cons _⟩
 |swap x y l=>match r,e with
  |a::b::r,e=>
   obtain ⟨e1,e2⟩:=List.cons.inj e;obtain ⟨e3,e4⟩:=List.cons.inj e2;exact ⟨b::a::r,by rw [map_cons,map_cons,e1,e3,e4],.swap ..⟩
 |trans _ _ ih1 ih2=>
  obtain ⟨r1,a1,a2⟩:=ih2 e;obtain ⟨r2,b1,b2⟩:=ih1 a1.symm;exact ⟨r2,b1,b2.trans a2⟩
def qci {t:SetTable} {es:Array (Int×Value)} {n M:Nat} (hM:sizeAbove n-1=M) (F:N0 M) (od:M%2=1) (hl:es.size<=M) :
  ∃ es' t',relayAll t es n=(es',t',false)/\es'.toList.Perm es.toList/\Ok8 t' (es'.toList.map (·.1))/\t'.mask=M/\t'.led=t.led/\t'.plain=t.plain:=by
 obtain ⟨ow,c1,c2⟩:=qkf F (hs:=es.map (·.1)) (by simpa using (by omega:es.size<=M+1));have pm:((liv M ow).map (·.2)).Perm (List.range es.size):=by have:=MH c2;simpa using this
 have ok:=qiv (f:=t.finger) (mv:=t.movedTo M) (led:=t.led) (pl:=t.plain) F od c2 (by simpa using hl);have e1:t.relaid (es.map (·.1)) n=some ({ mask:=M,place:=((liv M ow).map (·.1)).toArray,dummies:=#[],finger:=t.finger,led:=t.led,moves:=t.movedTo M,plain:=t.plain },((liv M ow).map (·.2)).toArray):=by
  unfold SetTable.relaid SetTable.laid;rw [hM,c1];rfl
 obtain ⟨ord,ho⟩:∃ ord,ord=((liv M ow).map (·.2)).toArray:=⟨_,rfl⟩
 have pm':ord.toList.Perm (List.range es.size):=by rw [ho];simpa using pm
 obtain ⟨es',he'⟩:∃ es',es'=ord.filterMap (es[·]?):=⟨_,rfl⟩
 have gl:∀ k∈ord.toList,k<es.size:=λk hk=>mem_range.mp (pm'.mem_iff.mp hk);have hes:es'.toList=ord.toList.map λk=>es.getD k (0,.none):=by
  rw [he',Array.toList_filterMap];exact RK λk hk=>by simp [Array.getD,gl k hk]
 have pe:es'.toList.Perm es.toList:=by
  rw [hes];refine (pm'.map _).trans ?_;have:(List.range es.size).map (λk=>es.getD k (0,.none))=es.toList:=by
   refine List.ext_getElem (by simp) λi h1 h2=>?_;have:i<es.size:=by simpa using h2
   simp [Array.getD,this]
  rw [this]
 have ez:es'.size=es.size:=by rw [← Array.length_toList,pe.length_eq,Array.length_toList]
 have hh:es'.toList.map (·.1)=((liv M ow).map (·.2)).map λk=>(es.map (·.1)).toList.getD k 0:=by
  rw [hes,ho,map_map];refine List.map_congr_left λk hk=>?_;have:=gl k (by rw [ho];exact hk);simp [Array.getD,getD_eq_getElem?_getD,this]
 rw [← hh] at ok;refine ⟨es',_,?_,pe,ok,rfl,rfl,rfl⟩;have ft:=ok.fits;rw [length_map,Array.length_toList] at ft;have cv:coversAll ord es.size=true:=by unfold coversAll;exact List.isPerm_iff.mpr pm'
 unfold relayAll;rw [e1];simp only;rw [← ho,← he',cv,ft];rfl
section
variable {prog:Program} {w:World} {A:Around} {E:Value->Shared->Prop} {s:Shared}
structure IS (prog:Program) (w:World) (h:Heap) (S:Addr) (en:List (Int×Value)) (ld:Bool) (o:Obj) (es:Array (Int×Value)) (ep:Nat) (t:SetTable):Prop where
 ho:h.get? S=some o
 hc:o.ExactSet
 hd:o.data=.set es ep t
 he:es.toList=en.map λq=>((intKind prog w).hash q.1,q.2)
 hI:∀ q∈en,(intKind prog w).is q.1 q.2=true/\q.2.scannable=true
 ok:Ok8 t (en.map λq=>(intKind prog w).hash q.1)
 nd:(en.map (·.1)).Nodup
 ld:t.led=ld
 pl:t.plain=true
section
variable {h:Heap} {S:Addr} {en:List (Int×Value)} {ld:Bool} {o:Obj} {es:Array (Int×Value)} {ep:Nat} {t:SetTable}
def IS.sz (p:IS prog w h S en ld o es ep t):es.size=en.length:=by
 have:=congrArg List.length p.he;simpa using this
theorem IS.fits (p:IS prog w h S en ld o es ep t):t.fits es.size=true:=by
 have:=p.ok.fits;rw [length_map] at this;rw [p.sz];exact this
def IS.el (p:IS prog w h S en ld o es ep t):ElemsOf (intKind prog w) es.toList:=λe he=>by
 rw [p.he] at he;obtain ⟨q,hq,rfl⟩:=mem_map.mp he;exact ⟨⟨q.1,(p.hI q hq).1,rfl⟩,(p.hI q hq).2⟩
def IS.store (p:IS prog w h S en ld o es ep t) {es':Array (Int×Value)} {en':List (Int×Value)} {t':SetTable} (he:es'.toList=en'.map λq=>((intKind prog w).hash q.1,q.2)) (hI:∀ q∈en',(intKind prog w).is q.1 q.2=true/\q.2.scannable=true) (ok:Ok8 t' (en'.map λq=>(intKind prog w).hash q.1)) (nd:(en'.map (·.1)).Nodup) (l:t'.led=ld) (pl:t'.plain=true) :
  ∃ o',IS prog w (h.update S (Obj.putSet es' t')) S en' ld o' es' (ep+1) t':=by
 have hp:Obj.putSet es' t' o={ o with data:=.set es' (ep+1) t' }:=by
  obtain ⟨c,d,da,sl⟩:=o;have hd:da=.set es ep t:=p.hd;subst hd;rfl
 have hg:(h.update S (Obj.putSet es' t')).get? S=some { o with data:=.set es' (ep+1) t' }:=by
  have:=Heap.get?_update_self (Obj.putSet es' t') p.ho (by rw [hp];rfl);rw [hp] at this;exact this
 exact ⟨_,hg,p.hc,rfl,he,hI,ok,nd,l,pl⟩
def IS.keep {h':Heap} (p:IS prog w h S en ld o es ep t) (k:h'.get? S=some o):IS prog w h' S en ld o es ep t:=⟨k,p.hc,p.hd,p.he,p.hI,p.ok,p.nd,p.ld,p.pl⟩
end
def qip {k k':Int} {v:Value} (h:(intKind prog w).is k v=true) (h':(intKind prog w).is k' v=true):k=k':=by
 obtain ⟨t,rfl⟩:=NM h;obtain ⟨t',e⟩:=NM h';cases e;rfl
def qhM {m n:Nat} (g:(m=7/\n<=4)\/(m=31/\n<=18)\/(m=127/\n<=76)\/(m=511/\n<=306)) (hn:n<306):m<=511/\n+1<=m/\((n+1)*5 ≥ m*3->∃ M,sizeAbove (grown (n+1))-1=M/\N0 M/\M%2=1/\n+1<=M/\((M=31/\n+1<=18)\/(M=127/\n+1<=76)\/(M=511/\n+1<=306)))/\(¬ (n+1)*5 ≥ m*3->(m=7/\n+1<=4)\/(m=31/\n+1<=18)\/(m=127/\n+1<=76)\/(m=511/\n+1<=306)):=by
 rcases g with ⟨rfl,h⟩|⟨rfl,h⟩|⟨rfl,h⟩|⟨rfl,h⟩
 ·exact ⟨by decide,by omega,λc=>by
   obtain rfl:n=4:=by omega
   exact ⟨31,rfl,qj2,rfl,by decide,.inl ⟨rfl,by decide⟩⟩,λc=>.inl ⟨rfl,by omega⟩⟩
 ·exact ⟨by decide,by omega,λc=>by
   obtain rfl:n=18:=by omega
   exact ⟨127,rfl,qh7,rfl,by decide,.inr (.inl ⟨rfl,by decide⟩)⟩,λc=>.inr (.inl ⟨rfl,by omega⟩)⟩
 ·exact ⟨by decide,by omega,λc=>by
   obtain rfl:n=76:=by omega
   exact ⟨511,rfl,qhL,rfl,by decide,.inr (.inr ⟨rfl,by decide⟩)⟩,λc=>.inr (.inr (.inl ⟨rfl,by omega⟩))⟩
 ·exact ⟨by decide,by omega,λc=>by omega,λc=>.inr (.inr (.inr ⟨rfl,hn⟩))⟩
def qqp {S:Addr} {en:List (Int×Value)} {ld:Bool} {o:Obj} {es:Array (Int×Value)} {ep:Nat} {t:SetTable} {k:Int} {x:Value} {Q:Bool->Shared->Prop} (p:IS prog w s.heap S en ld o es ep t) (g:Gd t en.length) (hn:en.length<306) (hk:(intKind prog w).is k x=true) (hsc:x.scannable=true)
  (h:∀ b h' en' o' es' ep' t',IS prog w h' S en' ld o' es' ep' t'->Gd t' en'.length->(∀ x,x∈en'.map (·.1)↔x∈en.map (·.1)\/x=k)->en'.length<=en.length+1->Heap.SameBut S s.heap h'->Q b { s with heap:=h' }) :
  wpAny (model prog w) A (setAddHashed S x ((intKind prog w).hash k)) Q E s:=by
 have gn:=qhM g hn;have tm:t.mask<=511:=gn.1;have hb:es.size<scanBound:=by rw [p.sz];unfold scanBound;omega
 unfold setAddHashed setAddHashedIn;refine wpAny_holding (x8 (wpAny_setState_of p.ho p.hd p.fits ?_));dsimp only;rw [byScan_of hsc hb p.el];simp only [↓reduceIte];unfold setAddByScan;refine x8 ?_;refine x8 (wpAny_rule ?_);refine x8 (wpAny_setScan_of hk p.ho p.hd p.fits p.el ?_);cases hr:List.findIdx? (λe=>(intKind prog w).is k e.2) es.toList with
 |some j=>
  dsimp only;obtain ⟨hj,hpj,_⟩:=List.findIdx?_eq_some_iff_getElem.mp hr;have hm:∀ y,y∈es.toList->y∈en.map λq=>((intKind prog w).hash q.1,q.2):=λy hy=>by rw [← p.he];exact hy
  obtain ⟨q,hq,e⟩:=mem_map.mp (hm _ (List.getElem_mem hj));have e2:(es.toList[j]).2=q.2:=by rw [← e]
  rw [e2] at hpj;have:q.1=k:=qip (p.hI q hq).1 hpj;have hin:k∈en.map (·.1):=mem_map.mpr ⟨q,hq,this⟩;refine x9 (x9 ?_);have e:s={ s with heap:=s.heap }:=by cases s;rfl
  rw [e];exact h _ s.heap en o es ep t p g (λx=>⟨.inl,λz=>z.elim id λz=>z▸hin⟩) (by omega) (.refl ..)
 |none=>
  dsimp only;have hin:k∉en.map (·.1):=λz=>by
   obtain ⟨q,hq,rfl⟩:=mem_map.mp z;have:=List.findIdx?_eq_none_iff.mp hr ((intKind prog w).hash q.1,q.2) (by rw [p.he];exact mem_map.mpr ⟨q,hq,rfl⟩);rw [(p.hI q hq).1] at this;cases this
  have hgw:∀ (b:Bool) {s₁:Shared} {Q':Unit->Shared->Prop},Q' () s₁->wpAny (model prog w) A (match b with|true=>rule "set.scan.the-table-gave-way" |false=>pure ()) Q' E s₁:=
   λb s₁ Q' hq=>by cases b<;>first|exact x9 hq|exact wpAny_rule hq
  obtain ⟨pp,t1,eL,pl,ok1,mk1,ld1,pl1⟩:=qhD p.ok (es:=es) (by rw [length_map];exact p.sz) ((intKind prog w).hash k) x tm (by rw [length_map];exact gn.2.1);rw [length_map] at pl;rw [eL];dsimp only;have hes:(insertAt es pp ((intKind prog w).hash k,x)).toList=(ins en pp (k,x)).map λq=>((intKind prog w).hash q.1,q.2):=by
   rw [JS _ _ _ (by rw [p.sz];exact pl),p.he];unfold ins;rw [List.map_append,map_cons,List.map_take,List.map_drop]
  have hhs:(ins en pp (k,x)).map (λq=>(intKind prog w).hash q.1)=ins (en.map λq=>(intKind prog w).hash q.1) pp ((intKind prog w).hash k):=by
   unfold ins;rw [List.map_append,map_cons,List.map_take,List.map_drop]
  have pm:(ins en pp (k,x)).Perm ((k,x)::en):=by
   unfold ins;refine List.perm_middle.trans ?_;rw [List.take_append_drop]
  have il:(ins en pp (k,x)).length=en.length+1:=UO pl;have hI:∀ q∈ins en pp (k,x),(intKind prog w).is q.1 q.2=true/\q.2.scannable=true:=λq hq=>by
   rcases mem_cons.mp (pm.mem_iff.mp hq) with rfl|z
   ·exact ⟨hk,hsc⟩
   ·exact p.hI q z
  have nd:((ins en pp (k,x)).map (·.1)).Nodup:=by
   rw [(pm.map _).nodup_iff,map_cons,List.nodup_cons];exact ⟨hin,p.nd⟩
  have mem:∀ y,y∈(ins en pp (k,x)).map (·.1)↔y∈en.map (·.1)\/y=k:=λy=>by
   rw [(pm.map _).mem_iff,map_cons,mem_cons];exact ⟨λz=>z.elim .inr .inl,λz=>z.elim .inr .inl⟩
  rw [← hhs] at ok1;obtain ⟨o',q⟩:=p.store (t':=t1) hes hI ok1 nd (ld1.trans p.ld) (pl1.trans p.pl);have iz:(insertAt es pp ((intKind prog w).hash k,x)).size=en.length+1:=by rw [← Array.length_toList,hes,length_map,il]
  refine x8 (hgw false ?_);have pt:t1.plain=true:=pl1.trans p.pl;rw [pt];simp only [if_true];refine x8 ?_;rw [hashByValue_scannable 8 hsc];refine x9 ?_;have pk:plainKind x=true:=by obtain ⟨t,rfl⟩:=NM hk;rfl
  rw [pk];simp only [if_true];refine x8 (wpAny_storeSet_of p.ho p.hd ?_ (by rw [iz,y9];omega));have fl:t1.fill=en.length+1:=by
   have z:=ok1.sz;rw [length_map,il] at z;unfold SetTable.fill;rw [ok1.dm,z];rfl
  have tf:t1.tooFull=decide ((en.length+1)*5 ≥ t.mask*3):=by
   unfold SetTable.tooFull;rw [fl,mk1]
  rw [tf];by_cases c:(en.length+1)*5 ≥ t.mask*3
  ·rw [za0 c];simp only [Bool.not_false,Bool.and_self,if_true];obtain ⟨M,hM,F,od,hl,gd⟩:=gn.2.2.1 c;obtain ⟨es2,t2,e2,pe,ok2,mk2,ld2,pl2⟩:=qci (t:=t1) (es:=insertAt es pp ((intKind prog w).hash k,x)) (n:=grown (insertAt es pp ((intKind prog w).hash k,x)).size) (M:=M) (by rw [iz];exact hM) F od (by rw [iz];exact hl);rw [e2];dsimp only;rw [hes] at pe;obtain ⟨en2,he2,pe2⟩:=NT pe;have ez2:es2.size=en.length+1:=by rw [← Array.length_toList,pe.length_eq,length_map,il]
   rw [he2,map_map] at ok2;obtain ⟨o2,q2⟩:=q.store (t':=t2) he2 (λy hy=>hI y (pe2.mem_iff.mp hy)) ok2 ((pe2.map _).nodup_iff.mpr nd) (ld2.trans (ld1.trans p.ld)) (pl2.trans (pl1.trans p.pl));refine x8 (hgw false ?_);refine x8 (wpAny_storeSet_of q.ho q.hd ?_ (by rw [ez2,y9];omega));refine x9 (x9 (h _ _ _ _ _ _ _ q2 ?_ (λy=>by rw [(pe2.map _).mem_iff];exact mem y) (by rw [pe2.length_eq,il];exact v6 _) ((Heap.SameBut.update ..).trans (.update ..))));unfold Gd;rw [mk2,pe2.length_eq,il];rcases gd with gd|gd|gd
   ·exact .inr (.inl gd)
   ·exact .inr (.inr (.inl gd))
   ·exact .inr (.inr (.inr gd))
  ·rw [u9 c];simp only [Bool.not_false,Bool.and_false,Bool.false_eq_true,if_false];refine x9 (x9 (h _ _ _ _ _ _ _ q ?_ mem (by rw [il];exact v6 _) (.update ..)));unfold Gd;rw [mk1,il];exact gn.2.2.2 c
end
def cnt (key:Nat->List Int):Nat->Nat
 |0=>0
 |j+1=>if ∃ i,i<j/\key i=key j then cnt key j else cnt key j+1
section
variable {prog:Program} {w:World} {A:Around} {R:Result->Shared->Prop} {I:Addr} {fp wr:List Addr} {n:Nat} {P:Nat->Value->Prop} {St:Nat->Heap->Prop}
end
section
variable {prog:Program} {w:World} {A:Around} {E:Value->Shared->Prop} {s:Shared}
end
end Tb8
namespace L3
open PySem PySem.Spec PyProof.Rows L2
section
variable {X:Cx}
end
end L3
namespace Tb8
open PySem PyProof.Rows PySem.SetTable
section
variable {prog:Program} {w:World} {A:Around} {E:Value->Shared->Prop} {s:Shared}
end
end Tb8
namespace L3
open PySem PySem.Spec PyProof.Rows L2
section
variable {X:Cx}
end
end L3
namespace Tb8
open PySem PyProof.Rows PySem.SetTable
abbrev XC (w:World):Bool:=!w.params.followText "set-order"
def qnd (prog:Program) (w:World) (h:Heap) (S:Addr) (M:Int->Prop):Prop:=∃ en o es ep t,IS prog w h S en (XC w) o es ep t/\en.length<=306/\∀ x,x∈en.map (·.1)↔M x
section
variable {prog:Program} {w:World} {A:Around} {R:Result->Shared->Prop} {I:Addr} {fp wr:List Addr} {n:Nat} {P:Nat->Value->Prop} {St:Nat->Heap->Prop}
def qn9 (W:Walks prog w A.in1 I fp wr n P St) (val:Nat->Int) (hval:∀ i v,P i v->∃ t,v=.int (val i) t) (S:Addr) (hSf:S∉fp) (hn:n<=306) :
  ∀ (k j:Nat) (s:Shared) (en:List (Int×Value)) (o:Obj) (es:Array (Int×Value)) (ep:Nat) (t:SetTable),n-j=k->j<=n->St j s.heap->IS prog w s.heap S en (XC w) o es ep t->Gd t en.length ->
  (∀ x,x∈en.map (·.1)↔∃ i,i<j/\val i=x)->en.length<=j ->
  (∀ h' tk,qnd prog w h' S (λx=>∃ i,i<n/\val i=x)->(∀ b o,b∉wr->b≠S->s.heap.get? b=some o->h'.get? b=some o)->R (.ok (.ret .none)) { s with heap:=h',toks:=tk }) ->
  codeAny (model prog w) A (.builtin "set.update.loop" ⟨[.ref S,.ref I],[]⟩) R s:=by
 have hSw:S∉wr:=λh=>hSf (W.sub _ h);intro k;induction k with
 |zero=>
  intro j s en o es ep t hk hj hst p g hm hc hR;obtain rfl:j=n:=by omega
  refine codeAny_builtin F.entry_set_update_loop ?_;rw [Around.under_plainId F.plain_set_update_loop _];show wpAny _ A.in1 (pyNext (.ref I) >>= _) _ _ s;refine x8 (W.done s _ _ hst λh' tk kp=>?_);show wpAny _ A.in1 (ret Value.none) _ _ _;exact x9 (hR h' tk ⟨en,o,es,ep,t,p.keep (kp S _ hSw p.ho),by omega,hm⟩ λb o hb _ e=>kp b o hb e)
 |succ k ih=>
  intro j s en o es ep t hk hj hst p g hm hc hR;have lt:j<n:=by omega
  refine codeAny_builtin F.entry_set_update_loop ?_;rw [Around.under_plainId F.plain_set_update_loop _];show wpAny _ A.in1 (pyNext (.ref I) >>= _) _ _ s;refine x8 (W.item j s _ _ lt hst λv h' tk hv hst' kp=>?_);obtain ⟨tt,rfl⟩:=hval j v hv;have p':IS prog w h' S en (XC w) o es ep t:=p.keep (kp S _ hSw p.ho);show wpAny _ A.in1 (holding [Value.int (val j) tt] (setAdd S (.int (val j) tt)) >>= _) _ _ _;refine x8 (wpAny_holding ?_);unfold setAdd;refine wpAny_holding ?_;refine x8 ((intKind prog w).pyHash (k:=val j) (intKind_is _ _ _ _) ?_);refine qqp (s:={ s with heap:=h',toks:=tk+1 }) p' g (by omega) (intKind_is _ _ _ _) rfl λb h'' en' o' es' ep' t' q g' mem l1 sb=>?_;refine x9 ⟨plainId_quiet F.plain_set_update_loop _,ih (j+1) _ en' o' es' ep' t' (by omega) lt (W.frame _ _ _ hst' λb hb o e=>?_) q g' (λx=>?_) (by omega) λh3 tk3 hS3 kp3=>?_⟩
  ·exact (sb.2 b (λz:b=S=>hSf (by rw [← z];exact hb))).trans e
  ·rw [mem,hm];constructor
   ·rintro (⟨i,h1,h2⟩|rfl)
    ·exact ⟨i,by omega,h2⟩
    ·exact ⟨j,by omega,rfl⟩
   ·rintro ⟨i,h1,h2⟩;rcases Nat.lt_or_ge i j with z|z
    ·exact .inl ⟨i,z,h2⟩
    ·obtain rfl:i=j:=by omega
     exact .inr h2.symm
  ·exact hR h3 tk3 hS3 λb o hb hbS e=>kp3 b o hb hbS ((sb.2 b hbS).trans (kp b o hb e))
end
section
variable {prog:Program} {w:World} {A:Around} {E:Value->Shared->Prop} {s:Shared}
def qer (a:Value) {Q₁:Value->Shared->Prop} (h:Q₁ (.ref s.heap.objs.size) { s with heap:=s.heap.push (HT.oS (XC w)) }) :
  codeAny (model prog w) A (.call (.builtin "set.__new__") ⟨[.type "set",a],[]⟩) (wants Q₁ E) s:=by
 refine codeAny_of_tree ?_;show wpAny _ A.in1 (do checkBuiltinCall "set.__new__" ⟨[.type "set",a],[]⟩;again (.builtin "set.__new__" ⟨[.type "set",a],[]⟩)) _ _ s;refine x8 (wpAny_of_eq (F.newCall_set_1 a) (x9 ⟨plainId_quiet F.plain_set_new _,codeAny_builtin F.entry_set_new ?_⟩));rw [Around.under_plainId F.plain_set_new _];unfold Builtin.«set.__new__» Builtin.Frozenset.newClass;have hsub:=sub_set_self;obtain ⟨hp,g,d,tk,os⟩:=s;dsimp only
 wp_walk
 refine wpAny_askSetting (x9 ?_);dsimp only;simp only [newObj];refine x8 (wpAny_alloc (x9 ?_));exact x9 h
theorem qbw:∀ {vs:List Value} {ns:List Int},IntsAre vs ns->∀ {i:Nat} {v:Value},vs[i]?=some v->∃ t,v=.int (ns.getD i 0) t
 |_,_,.nil,i,v,e=>by simp at e
 |_,_,.cons n t h,0,v,e=>by cases e;exact ⟨t,rfl⟩
 |_,_,.cons n t h,i+1,v,e=>qbw h (i:=i) (by simpa using e)
def qn4 {l:Addr} {vs:Array Value} {ns:List Int} {Q:PySem.Fin->Shared->Prop} {E':Value->Shared->Prop} (hh:A.handled=none) (hl:s.heap.IsList l vs) (hi:IntsAre vs.toList ns) (hb:vs.size<=306)
  (h:∀ h' tk,qnd prog w h' s.heap.objs.size (·∈ns)->(∀ b o,b<s.heap.objs.size->s.heap.get? b=some o->h'.get? b=some o)->wpAny (model prog w) A (ret Value.none) Q E' { s with heap:=h',toks:=tk }) :
  wpAny (model prog w) A (Builtin.«set.__init__» ⟨[.ref s.heap.objs.size,.ref l],[]⟩) Q E' { s with heap:=s.heap.push (HT.oS (XC w)) }:=by
 have len:=hi.length;have sv:ns.length=vs.size:=by simp at len;omega
 have at_:∀ (i:Nat) v,vs[i]?=some v->∃ t,v=.int (ns.getD i 0) t:=λi v e=>qbw hi (by rw [T2] at e;exact e);obtain ⟨⟨oc,od,da,os⟩,hg,hc,nl,hd⟩:=id hl;simp only at hc hd;subst hc hd;have hS:(s.heap.push (HT.oS (XC w))).get? s.heap.objs.size=some (HT.oS (XC w)):=y4 _ rfl;have hg':(s.heap.push (HT.oS (XC w))).get? l=some { cls:=.type "list",dict:=od,data:=.seq vs nl,slots:=os }:=y3 _ hg;have h1:=F.sub_list_set;have h2:=F.sub_list_frozenset;have ne:(Value.type "list" == Value.type "dict")=false:=by decide
 have hl1:=hl.push (HT.oS (XC w));unfold Builtin.«set.__init__» noKeywords Builtin.Frozenset.updateFrom;generalize hPI:pyIter=PI
 wp_walk
 subst hPI;refine wpAny_pyIter_list hl1 ?_;refine x8 (wpAny_runValue ?_);have ll:l<s.heap.objs.size:=y6 hg;have sz:(s.heap.push (HT.oS (XC w))).objs.size=s.heap.objs.size+1:=Heap.size_push ..;refine qn9 (Walks.list (show A.in1.handled=none by simp [hh]) (s.heap.push (HT.oS (XC w))).objs.size l (by rw [sz];exact u6 (Nat.lt_succ_of_lt ll)) vs) (λi=>ns.getD i 0) at_ s.heap.objs.size
  (by rw [sz];simp only [mem_cons,not_mem_nil,or_false,not_or];exact ⟨u6 (Nat.lt_succ_self _),Nat.ne_of_gt ll⟩) hb vs.size 0 _ [] (HT.oS (XC w)) #[] 0 (.fresh 0 0 (XC w)) rfl (Nat.zero_le _) ⟨⟨_,y4 _ rfl,rfl,rfl⟩,hl1.push _⟩ ?_ (.inl ⟨rfl,Nat.zero_le _⟩) (λx=>?_) (Nat.zero_le _) ?_
 ·exact ⟨y3 _ hS,⟨rfl,rfl,rfl⟩,rfl,rfl,λq hq=>(by cases hq),Ok8.fresh ..,by simp,rfl,rfl⟩
 ·simp
 ·intro h' tk hS' kp;show wpAny _ _ _ _ _ _;obtain ⟨en,o,es,ep,t,q1,q2,q3⟩:=hS';refine x9 (h h' tk ⟨en,o,es,ep,t,q1,q2,λx=>(q3 x).trans ?_⟩ λb o hb e=>kp b o ?_ ?_ (y3 _ (y3 _ e)))
  ·show (∃ i,i<vs.size/\ns.getD i 0=x)↔x∈ns;rw [List.mem_iff_getElem?];constructor
   ·rintro ⟨i,h1,h2⟩;exact ⟨i,by rw [← h2,getD_eq_getElem?_getD,v4 (by omega)];rfl⟩
   ·rintro ⟨i,h1⟩;obtain ⟨h2,h3⟩:=za2 h1;exact ⟨i,by omega,by rw [getD_eq_getElem?_getD,h1];rfl⟩
  ·rw [sz];simp only [mem_cons,not_mem_nil,or_false];exact u6 (Nat.lt_succ_of_lt hb)
  ·exact u6 hb
def qda {l:Addr} {vs:Array Value} {ns:List Int} {Q:Value->Shared->Prop} (hh:A.handled=none) (hl:s.heap.IsList l vs) (hi:IntsAre vs.toList ns) (hb:vs.size<=306)
  (h:∀ h' tk,qnd prog w h' s.heap.objs.size (·∈ns)->(∀ b o,b<s.heap.objs.size->s.heap.get? b=some o->h'.get? b=some o)->Q (.ref s.heap.objs.size) { s with heap:=h',toks:=tk }) :
  wpAny (model prog w) A (call (.type "set") [.ref l]) Q E s:=by
 have C:=F.called_set;obtain ⟨c,tl,m1⟩:=C.mro;have m2:=C.made;have m3:=C.sub;have m4:=C.notType;have m5:=C.canCreate;have m6:=F.typeCall_set_1 (.ref l);refine wpAny_call (codeAny_of_tree ?_);show wpAny _ _ (callAny (.type "set") _) _ _ _;refine x9 ⟨Code.quiet_builtin _ (by decide +kernel),codeAny_builtin F.entry_type_call ?_⟩;rw [Around.under_plain (weight_type_call_type "set" [.ref l] []) rfl]
 repeat (any_goals (first|assumption|wp_step))
 refine codeAny_mono (qer (.ref l) (E:=E) (Q₁:=λv s₁=>v=.ref s.heap.objs.size/\s₁={ s with heap:=s.heap.push (HT.oS (XC w)) }) ⟨rfl,rfl⟩) λr s₁ hr=>?_;rcases r with e|f
 ·exact hr
 cases f<;>try exact hr.elim
 obtain ⟨rfl,rfl⟩:=hr;have hT:Shared.TypeIs { s with heap:=s.heap.push (HT.oS (XC w)) } (.ref s.heap.objs.size) "set" := ⟨_,y4 _ rfl,rfl⟩
 have n1:=C.init.lookup;have n2:=C.init.bind (.ref s.heap.objs.size)
 repeat (any_goals (first|assumption|wp_step))
 refine codeAny_mono (codeAny_call_builtin (R:=wants (λr s₂=>r=.none/\∃ h' tk,s₂={ s with heap:=h',toks:=tk }/\qnd prog w h' s.heap.objs.size (·∈ns)/\∀ b o,b<s.heap.objs.size->s.heap.get? b=some o->h'.get? b=some o) E) C.init.plain F.entry_set_init (check_set_init_1 hT (qn4 (by simp [hh]) hl hi hb λh' tk hS hk=>x9 ⟨rfl,h',tk,rfl,hS,hk⟩))) λr₂ s₂ hr₂=>?_;rcases r₂ with e|f
 ·exact hr₂
 cases f<;>try exact hr₂.elim
 obtain ⟨rfl,h',tk,rfl,hS,hk⟩:=hr₂
 repeat (any_goals (first|assumption|wp_step))
 exact h _ _ hS hk
end
end Tb8
namespace Tb8
open PySem PyProof.Rows PySem.SetTable PySem.Calls
theorem CC {α:Type}:∀ {l:List α} {i:Nat} (h:i<l.length),(l[i]::l.eraseIdx i).Perm l
 |[],i,h=>absurd h (Nat.not_lt_zero i)
 |a::r,0,h=>.refl _
 |a::r,i+1,h=>(List.Perm.swap ..).trans ((CC (l:=r) (i:=i) (by simpa using h)).cons a)
theorem qbh {α:Type} (nx:Nat->Nat):∀ (fuel k:Nat) (l:List α) (out:Array α),l.length<=fuel->(pickOrder.go nx fuel k l out).toList.Perm (out.toList++l)
 |0,k,l,out,h=>by
  have:l=[]:=List.length_eq_zero_iff.mp (by omega);subst this;simp [pickOrder.go]
 |fuel+1,k,l,out,h=>by
  rw [pickOrder.go];cases l with
  |nil=>simp
  |cons a r=>
   have lt:nx k%(a::r).length<(a::r).length:=Nat.mod_lt _ (by simp);rw [v4 lt];simp only;have ih:=qbh nx fuel (k+1) ((a::r).eraseIdx (nx k%(a::r).length)) (out.push (a::r)[nx k%(a::r).length]) (by rw [List.length_eraseIdx,if_pos lt];simp at h ⊢;omega);refine ih.trans ?_;rw [Array.toList_push,List.append_assoc];exact List.Perm.append_left _ (CC lt)
def qcN {α:Type} (nx:Nat->Nat) (xs:Array α):(pickOrder nx xs).toList.Perm xs.toList:=by
 unfold pickOrder;simpa using qbh nx xs.size 0 xs.toList #[] (by simp)
abbrev byT (w:World):Bool:=w.params.followText "set-order"
def wlk (w:World) (S ep:Nat) (es:Array (Int×Value)):Array (Int×Value):=if byT w then pickOrder (w.params.setOrder S ep) es else es
def MJ (w:World) (S ep:Nat) (es:Array (Int×Value)):(wlk w S ep es).toList.Perm es.toList:=by
 unfold wlk;split
 ·exact qcN _ _
 ·exact .refl _
def ML (w:World) (S ep:Nat) (es:Array (Int×Value)):(wlk w S ep es).size=es.size:=by
 rw [← Array.length_toList,(MJ w S ep es).length_eq,Array.length_toList]
def zI:Slot "set_iterator" "__next__" "set_iterator.__next__" :=
 .of (owner:="set_iterator") (n:="__next__") (by rw [typeLookup_type,builtinLookup_eq_fast];kernel_rfl) (by decide +kernel) (by decide +kernel) (by decide +kernel)
  (by first|exact .inl (by decide +kernel)|exact .inr (by decide +kernel)) (by rw [isSubtype_type];kernel_rfl)
def V6:Slot "set_iterator" "__iter__" "set_iterator.__iter__" :=
 .of (owner:="set_iterator") (n:="__iter__") (by rw [typeLookup_type,builtinLookup_eq_fast];kernel_rfl) (by decide +kernel) (by decide +kernel) (by decide +kernel)
  (by first|exact .inl (by decide +kernel)|exact .inr (by decide +kernel)) (by rw [isSubtype_type];kernel_rfl)
def YA:entryFor table "set_iterator.__next__" = some Builtin.«set_iterator.__next__»:=entryFor_of_tree (by kernel_rfl)
def UA (a:Value):argsOk "set_iterator.__next__" ⟨[a],[]⟩:=by unfold argsOk;kernel_rfl
def XN:entryFor table "set.__iter__" = some Builtin.«frozenset.__iter__»:=
 entryFor_alias (id':="frozenset.__iter__") (by kernel_rfl) rfl (by decide +kernel) (by kernel_rfl)
section
variable {prog:Program} {w:World} {A:Around} {E:Value->Shared->Prop} {s:Shared}
def oIt (S n ep slot i:Nat):Obj:={ cls:=.type "set_iterator",data:=.fields #[.int slot 0,.int i 0,.ref S,.int n 0,.int ep 0] }
def IS.drawn {S:Addr} {en:List (Int×Value)} {ld:Bool} {o:Obj} {es:Array (Int×Value)} {ep:Nat} {t:SetTable} (p:IS prog w s.heap S en ld o es ep t) {Q:Bool->Shared->Prop} (h:Q false s):wpAny (model prog w) A (setDrawn S) Q E s:=by
 unfold setDrawn setsByText;refine x8 (wpAny_setState_of p.ho p.hd p.fits ?_);dsimp only;refine x8 (x8 (wpAny_askSetting (x9 ?_)));refine x9 ?_;have:(!t.plain&&decide (es.size > 1))=false:=by rw [p.pl];rfl
 show Q (!(byT w)&&(!t.plain&&decide (es.size > 1))) s;rw [this,Bool.and_false];exact h
def qnU {S:Addr} {en:List (Int×Value)} {ld:Bool} {o:Obj} {es:Array (Int×Value)} {ep:Nat} {t:SetTable} (p:IS prog w s.heap S en ld o es ep t) {Q:Value->Shared->Prop}
  (hQ:Q (.ref s.heap.objs.size) { s with heap:=s.heap.push (oIt S es.size ep 0 0) }):wpAny (model prog w) A (pyIter (.ref S)) Q E s:=by
 have hT:s.TypeIs (.ref S) "set" := ⟨o,p.ho,p.hc.1⟩
 refine wpAny_pyIter_slot hT F.slot_set_iter (wpAny_call_entry F.slot_set_iter hT XN ?_ (F.args_set_iter_1 _));unfold Builtin.«frozenset.__iter__» Builtin.Frozenset.slot0 slotArgs;simp only [List.isEmpty_nil,Bool.not_true,Bool.false_eq_true,↓reduceIte,bind_assoc,length_nil,bne_self_eq_false];unfold Builtin.Frozenset.addrOf Builtin.Frozenset.sizeOf;refine x8 (x9 ?_)
 try dsimp only
 refine x8 (x9 ?_);refine x8 (x8 (wpAny_setEntries_of p.ho p.hd p.fits (x9 ?_)));refine x8 (p.drawn ?_);simp only [Bool.false_eq_true,if_false];refine x8 (x9 ?_);refine x8 (wpAny_setEpoch_of p.ho p.hd p.fits ?_);refine x8 (wpAny_newObj_type (x9 ⟨_,rfl,"set_iterator",_,⟨_,y4 _ rfl,rfl⟩,zI.lookup,?_⟩));exact hQ
def NA (w:World) (t:SetTable) (i:Nat):Nat:=if byT w then 0 else if i=0 then 0 else t.place.getD (i-1) 0+1
def qac {t:SetTable} {hs:List Int} (ok:Ok8 t hs) {i:Nat} (hi:i<=hs.length):below t.place (if i=0 then 0 else t.place.getD (i-1) 0+1)=i:=by
 have sz:=ok.sz;have B:=CS (j:=if i=0 then 0 else t.place.getD (i-1) 0+1) ok.up;have le:=B.le;rcases Nat.lt_trichotomy (below t.place (if i=0 then 0 else t.place.getD (i-1) 0+1)) i with c|c|c
 ·have i0:i≠0:=by omega
  have h2:=B.hi _ (v6 _) (by omega);rw [if_neg i0] at h2 c;have:=ok.up.le (a:=below t.place (t.place.getD (i-1) 0+1)) (b:=i-1) (by omega) (by omega);omega
 ·exact c
 ·have h2:=B.lo i c;by_cases i0:i=0
  ·rw [if_pos i0] at h2;omega
  ·rw [if_neg i0] at h2;have:=ok.up (i-1) i (by omega) (by omega);omega
def qlz {S:Addr} {en:List (Int×Value)} {o:Obj} {es:Array (Int×Value)} {ep:Nat} {t:SetTable} (p:IS prog w s.heap S en (XC w) o es ep t) {i:Nat} (hi:i<=es.size) {Q:Option (Value×Nat)->Shared->Prop}
  (h1:∀ v,(wlk w S ep es)[i]?.map (·.2)=some v->Q (some (v,NA w t (i+1))) s) (h2:i=es.size->Q none s):wpAny (model prog w) A (setNext S (NA w t i) i ep) Q E s:=by
 have ws:=ML w S ep es;have cs:(∃ q,(wlk w S ep es)[i]?=some q)\/i=es.size:=by
  rcases Nat.lt_or_ge i es.size with z|z
  ·exact .inl ⟨_,Array.getElem?_eq_getElem (by omega)⟩
  ·exact .inr (by omega)
 unfold setNext setsByText;refine x8 (wpAny_setState_of p.ho p.hd p.fits ?_);dsimp only;refine x8 (x8 (wpAny_askSetting (x9 ?_)));show wpAny _ _ (if byT w=true then _ else _) _ _ _;cases hb:byT w with
 |true=>
  rw [if_pos rfl];simp only [bne_self_eq_false,Bool.false_eq_true,if_false];unfold setWalk setsByText;refine x8 (x8 (wpAny_setState_of p.ho p.hd p.fits ?_));dsimp only;refine x8 (x8 (wpAny_askSetting (x9 ?_)));show wpAny _ _ (if byT w=true then _ else _) _ _ _;rw [hb,if_pos rfl];refine x8 (wpAny_askSetting (x9 ?_));refine x9 ?_;have ew:wlk w S ep es=pickOrder (w.params.setOrder S ep) es:=by unfold wlk;rw [hb,if_pos rfl]
  show Q (((pickOrder (w.params.setOrder S ep) es)[i]?).map λe=>(e.2,NA w t i)) s;have sl:NA w t i=NA w t (i+1):=by unfold NA;rw [hb,if_pos rfl,if_pos rfl]
  rw [← ew];rcases cs with ⟨q,hq⟩|hq
  ·rw [hq,sl];exact h1 q.2 (by rw [hq];rfl)
  ·rw [Array.getElem?_eq_none (by omega)];exact h2 hq
 |false=>
  rw [if_neg y8];have ew:wlk w S ep es=es:=by unfold wlk;rw [hb,if_neg y8]
  have pl:(!t.plain&&decide (es.size > 1))=false:=by rw [p.pl];rfl
  have ld:t.led=true:=by rw [p.ld];show (!(byT w))=true;rw [hb];rfl
  show wpAny _ _ (if (!t.plain&&decide (es.size > 1))=true then _ else _) _ _ _;rw [pl,if_neg y8];refine x8 ?_;show wpAny _ _ (if (!t.led&&!es.isEmpty)=true then _ else _) _ _ _;rw [ld];simp only [Bool.not_true,Bool.false_and,Bool.false_eq_true,if_false];refine x9 ?_;refine x9 ?_;have hs:NA w t i=if i=0 then 0 else t.place.getD (i-1) 0+1:=by unfold NA;rw [hb,if_neg y8]
  have lsz:=p.sz;have bl:below t.place (NA w t i)=i:=by rw [hs];exact qac p.ok (by rw [length_map];omega)
  have tsz:t.place.size=es.size:=by rw [p.ok.sz,length_map,lsz]
  rw [bl];rw [ew] at cs h1;rcases cs with ⟨q,hq⟩|hq
  ·have il:i<es.size:=(Array.getElem?_eq_some_iff.mp hq).1;have pq:t.place[i]?=some (t.place.getD i 0):=C8 (by omega);have sl:NA w t (i+1)=t.place.getD i 0+1:=by unfold NA;rw [hb,if_neg y8,if_neg (by omega)];rfl
   rw [hq,pq];obtain ⟨q1,q2⟩:=q;show Q (some (q2,t.place.getD i 0+1)) s;rw [← sl];exact h1 q2 (by rw [hq];rfl)
  ·rw [Array.getElem?_eq_none (by omega)];exact h2 hq
end
end Tb8
namespace Tb8
open PySem PyProof.Rows PySem.SetTable PySem.Calls PySem.W
section
variable {prog:Program} {w:World} {A:Around} {E:Value->Shared->Prop} {s:Shared}
def qgO (w:World) (h:Heap) (I S n ep:Nat) (t:SetTable) (i:Nat):Prop:=h.get? I=some (oIt S n ep (NA w t i) i)
def qgO.typeIs {I S n ep i:Nat} {t:SetTable} (x:qgO w s.heap I S n ep t i):s.TypeIs (.ref I) "set_iterator" := ⟨_,x,rfl⟩
def qdT {I S:Addr} {en:List (Int×Value)} {o:Obj} {es:Array (Int×Value)} {ep:Nat} {t:SetTable} (p:IS prog w s.heap S en (XC w) o es ep t) {i:Nat} (hi:i<es.size) (x:qgO w s.heap I S es.size ep t i) {Q:Option Value->Shared->Prop}
  (hQ:∀ v h',(wlk w S ep es)[i]?.map (·.2)=some v->qgO w h' I S es.size ep t (i+1)->Heap.SameBut I s.heap h'->Q (some v) { s with heap:=h' }):wpAny (model prog w) A (pyNext (.ref I)) Q E s:=by
 unfold pyNext;refine x8 (wpAny_attempt (wpAny_callSpecial?_slot (name:=Str.ofString "__next__") x.typeIs zI
  (wpAny_call_entry zI x.typeIs YA ?_ (UA _))))
 unfold Builtin.«set_iterator.__next__» slotArgs;simp only [List.isEmpty_nil,Bool.not_true,Bool.false_eq_true,↓reduceIte,bind_assoc,length_nil,bne_self_eq_false];refine x8 (x9 ?_);refine x8 (wpAny_fieldsOf x rfl ?_);dsimp only;refine x8 (wpAny_setEntries_of p.ho p.hd p.fits ?_);rw [show ((es.size:Int) != (es.size:Int))=false from bne_self_eq_false _];simp only [Bool.false_eq_true,if_false];refine x8 ?_;simp only [Int.toNat_natCast];refine qlz p (Nat.le_of_lt hi) (λv hv=>?_) (λz=>by omega);dsimp only;refine x8 (wpAny_setField_rec x (by simp) λh1 g1 s1=>?_);refine x8 (wpAny_setField_rec (s:={ s with heap:=h1 }) g1 (by simp) λh2 g2 s2=>?_);refine x9 ⟨v,rfl,x9 (hQ v h2 hv ?_ (s1.trans s2))⟩;exact g2
def qiN {I S:Addr} {en:List (Int×Value)} {o:Obj} {es:Array (Int×Value)} {ep:Nat} {t:SetTable} (hh:A.handled=none) (p:IS prog w s.heap S en (XC w) o es ep t) (x:qgO w s.heap I S es.size ep t es.size) {Q:Option Value->Shared->Prop}
  (hQ:∀ h',Heap.ExtBut I s.heap h'->Q none { s with heap:=h' }):wpAny (model prog w) A (pyNext (.ref I)) Q E s:=by
 unfold pyNext;refine x8 (wpAny_attempt (wpAny_callSpecial?_slot (name:=Str.ofString "__next__") x.typeIs zI
  (wpAny_call_entry zI x.typeIs YA ?_ (UA _))))
 unfold Builtin.«set_iterator.__next__» slotArgs;simp only [List.isEmpty_nil,Bool.not_true,Bool.false_eq_true,↓reduceIte,bind_assoc,length_nil,bne_self_eq_false];refine x8 (x9 ?_);refine x8 (wpAny_fieldsOf x rfl ?_);dsimp only;refine x8 (wpAny_setEntries_of p.ho p.hd p.fits ?_);rw [show ((es.size:Int) != (es.size:Int))=false from bne_self_eq_false _];simp only [Bool.false_eq_true,if_false];refine x8 ?_;simp only [Int.toNat_natCast];refine qlz p (v6 _) (λv hv=>?_) (λz=>?_)
 ·rw [Array.getElem?_eq_none (by rw [ML];exact v6 _)] at hv;cases hv
 dsimp only;refine x8 (wpAny_setField_rec x (by simp) λh1 g1 s1=>?_);show wpAny _ _ (newExc (.type "StopIteration") [] >>= _) _ _ _;refine x8 ?_;simp only [newExc,newTuple];refine x8 (wpAny_newObj_type ?_ (by size_fits));refine x8 (m:=firstArgMember _ _) (wpAny_of_eq (a:=Value.none) (by first|rfl|(simp only [firstArgMember];rfl)) ?_);refine wpAny_newObj_type ?_ (by size_fits);simp only [raiseNew];refine x8 (wpAny_handled ?_);rw [show A.in1.handled=none from hh];refine x8 (x9 (wpAny_throw ?_));refine x8 (wpAny_isInstance (T:="StopIteration") (b:=true) ⟨_,y4 _ rfl,rfl⟩ isSubtype_stop ?_);exact x9 (hQ _ ((s1.extBut.push _).push _))
end
def XT:entryFor table "set_iterator.__iter__" = some Builtin.«dict_keyiterator.__iter__»:=entryFor_alias (id':="dict_keyiterator.__iter__") (by kernel_rfl) rfl (by decide +kernel) (by kernel_rfl)
def C2 (a:Value):argsOk "set_iterator.__iter__" ⟨[a],[]⟩:=by unfold argsOk;kernel_rfl
section
variable {prog:Program} {w:World} {A:Around} {E:Value->Shared->Prop} {s:Shared}
def qoU {I S n ep i:Nat} {t:SetTable} (x:qgO w s.heap I S n ep t i) {Q:Value->Shared->Prop} (h:Q (.ref I) s):wpAny (model prog w) A (pyIter (.ref I)) Q E s:=by
 refine wpAny_pyIter_slot x.typeIs V6 (wpAny_call_entry V6 x.typeIs XT ?_ (C2 _));show wpAny _ _ (ret (.ref I)) _ _ s;exact x9 ⟨_,rfl,"set_iterator",_,x.typeIs,zI.lookup,h⟩
def qje (hh:A.handled=none) {I S:Addr} (ne:S≠I) (en:List (Int×Value)) (o:Obj) (es:Array (Int×Value)) (ep:Nat) (t:SetTable) :
  Walks prog w A I [I,S] [I] es.size (λi v=>(wlk w S ep es)[i]?.map (·.2)=some v) (λi h=>qgO w h I S es.size ep t i/\IS prog w h S en (XC w) o es ep t) where
 sub:=λb hb=>by simp at hb;simp [hb]
 frame:=λ_ _ _ st hk=>⟨hk I (by simp) _ st.1,st.2.keep (hk S (by simp) _ st.2.ho)⟩
 item:=λi s Q E hi st hQ=>qdT st.2 hi st.1 λv h' hv x sb=>hQ v h' s.toks hv ⟨x,st.2.keep ((sb.2 S ne).trans st.2.ho)⟩ λb o hb e=>sb.extBut b o (λh=>hb (by simp [h])) e
 done:=λs Q E st hQ=>qiN hh st.2 st.1 λh' he'=>hQ h' s.toks λb o hb e=>he' b o (λh=>hb (by simp [h])) e
 self:=λ_ _ _ _ st hQ=>qoU st.1 hQ
def qn6 {S:Addr} {Q:Bool->Shared->Prop} (hT:s.TypeIs (.ref S) "set") (h:Q false s):wpAny (model prog w) A (Builtin.List.listLengthHint (.ref S)) Q E s:=by
 unfold Builtin.List.listLengthHint;refine x8 (wpAny_specialOf hT PySem.F.slot_set_len.lookup ?_);generalize hid:("set.__len__" : String)=id0
 wp_delta
 rw [show splitId id0=some ("set","__len__") from by subst hid;decide +kernel];subst hid;refine x8 (wpAny_isInstance (T:="set") (b:=true) hT (by rw [isSubtype_type];kernel_rfl) ?_);refine wpAny_ite_split (λhab=>absurd hab (by decide)) (λ_=>?_);refine wpAny_ite_split (λ_=>?_) (λhab=>absurd (by decide +kernel) hab);refine x8 (wpAny_typeOf hT ?_);exact x9 h
def qqh (S:Addr) (en:List (Int×Value)) (o:Obj) (es:Array (Int×Value)) (ep:Nat) (t:SetTable) :
  KdlSrc prog w "set" S S es.size (λi v=>(wlk w S ep es)[i]?.map (·.2)=some v) (λh=>IS prog w h S en (XC w) o es ep t) where
 type:=λs p=>⟨o,p.ho,p.hc.1⟩
 there:=λh p=>⟨y6 p.ho,y6 p.ho⟩
 keep:=λh h' p k=>p.keep (k S (.inl rfl) _ p.ho)
 notList:=by decide
 notTuple:=by decide
 hint:=λA E s Q p h=>qn6 ⟨o,p.ho,p.hc.1⟩ h
 iter:=λA s hh p=>⟨oIt S es.size ep 0 0,_,λE Q hQ=>qnU p hQ,qje hh (u6 (y6 p.ho)) en o es ep t,by
  have z:NA w t 0=0:=by unfold NA;split<;>rfl
  refine ⟨?_,p.keep (y3 _ p.ho)⟩;unfold qgO;rw [z];exact y4 _ rfl⟩
theorem qcU:∀ {en:List (Int×Value)},(∀ q∈en,(intKind prog w).is q.1 q.2=true/\q.2.scannable=true)->IntsAre (en.map (·.2)) (en.map (·.1))
 |[],_=>.nil
 |q::r,h=>by
  obtain ⟨k,v⟩:=q;obtain ⟨t,e⟩:=NM (h (k,v) (by simp)).1;simp only at e;subst e;exact .cons k t (qcU λq hq=>h q (by simp [hq]))
def qis {R:List Value->Shared->Prop} (hh:A.handled=none) {S:Addr} {en:List (Int×Value)} {o:Obj} {es:Array (Int×Value)} {ep:Nat} {t:SetTable} (p:IS prog w s.heap S en (XC w) o es ep t) (hn:es.size<=sizeLine)
  (h:∀ (h':Heap) (tk:Nat) (acc:Array Value),(∀ b o,s.heap.get? b=some o->h'.get? b=some o)->s.heap.objs.size<h'.objs.size->ItemsOf (λi v=>(wlk w S ep es)[i]?.map (·.2)=some v) acc es.size->R acc.toList { s with heap:=h',toks:=tk }) :
  wpAny (model prog w) A (collect (.ref S)) R E s:=by
 have K:=qqh (prog:=prog) (w:=w) S en o es ep t;have lt:=y6 p.ho;have gL:(s.heap.push { cls:=.type "list",data:=.seq ([]:List Value).toArray }).get? s.heap.objs.size=some { cls:=.type "list",data:=.seq #[] }:=y4 _ rfl;unfold collect;refine x8 (wpAny_runValue (codeAny_builtin entry_proto_collect' ?_));rw [Around.under_plainId PySem.F.plain_proto_collect _];show wpAny _ A.in1 (newList [] >>= λl=>again (.builtin "list.__iadd__" ⟨[l,.ref S],[]⟩)) _ _ s;refine x8 (wpAny_newObj_type ?_);refine x9 ⟨plainId_quiet PySem.F.plain_list_iadd _,codeAny_builtin entry_list_iadd' ?_⟩;rw [Around.under_plainId PySem.F.plain_list_iadd _];show wpAny _ A.in1 (Builtin.List.listExtendWith (.ref s.heap.objs.size) (.ref S) (.ref s.heap.objs.size)) _ _ _;have fin:∀ (h':Heap) (tk:Nat) (acc:Array Value) (c:Nat),(∀ b o,b≠s.heap.objs.size->(s.heap.push { cls:=.type "list",data:=.seq ([]:List Value).toArray }).get? b=some o->h'.get? b=some o)->h'.get? s.heap.objs.size=some { cls:=.type "list",dict:=none,data:=.seq acc c,slots:=#[] }->ItemsOf (λi v=>(wlk w S ep es)[i]?.map (·.2)=some v) acc es.size ->
   wpAny (model prog w) A (load s.heap.objs.size >>= λo=>match o.data with|.seq xs _=>pure xs.toList|_=>unsupported "internal:collect") R E { s with heap:=h',toks:=tk }:=λh' tk acc c k g a=>
  x8 (wpAny_load g (x9 (h h' tk acc (λb o e=>k b o (u6 (y6 e)) (y3 _ e)) (y6 g) a)))
 refine y2 (kdl_extend (A:=A) (s:={ s with heap:=s.heap.push { cls:=.type "list",data:=.seq ([]:List Value).toArray } }) (R:=λq s'=>q=.ok (.ret (.ref s.heap.objs.size))/\wpAny (model prog w) A (load s.heap.objs.size >>= λo=>match o.data with|.seq xs _=>pure xs.toList|_=>unsupported "internal:collect") R E s')
  K hh (K.keep _ _ p λb _ o e=>y3 _ e) s.heap.objs.size (Nat.ne_of_gt lt) (Nat.ne_of_gt lt) (.ref s.heap.objs.size) 0 gL (λh' tk acc c k g a=>⟨rfl,fin h' tk acc c k g a⟩) hn) (λf s' x=>?_) λe s' x=>nomatch x.1
 cases f with
 |done f=>
  obtain ⟨e,x⟩:=x;cases e;exact x
 |again c=>
  refine ⟨x.1,codeAny_mono x.2 λq s2 y=>?_⟩;obtain ⟨rfl,y⟩:=y;exact y
def qg0 (hh:A.handled=none) {S:Addr} {en:List (Int×Value)} {o:Obj} {es:Array (Int×Value)} {ep:Nat} {t:SetTable} (p:IS prog w s.heap S en (XC w) o es ep t) (h64:en.length<64) {Q:Value->Shared->Prop}
  (h:∀ (h':Heap) (a:Addr) (out:Array Value) (ms:List Int) (e tk:Nat),(∀ b o,s.heap.get? b=some o->h'.get? b=some o)->s.heap.objs.size<=a->h'.get? a=some (seqObj "list" out e)->IntsAre out.toList ms->ms.Perm (en.map (·.1))->ms.Pairwise (·<=·)->Q (.ref a) { s with heap:=h',toks:=tk }) :
  wpAny (model prog w) A (call (.builtin "sorted") [.ref S]) Q E s:=by
 have ez:=p.sz;refine Calls.call_function_entry kind_sorted plain_sorted entry_sorted (args_sorted1 _) ?_;unfold Builtin.«sorted»;refine x8 (m:=checkCount "sorted" 1 1 _) (x9 ?_);refine x8 (qis (A:=A.in1) (by simp [hh]) p (by rw [ez,y9];omega) λh' tk acc hk hlt hacc=>?_);obtain ⟨en',he',pe'⟩:=NT ((MJ w S ep es).trans (by rw [p.he]));have av:acc.toList=en'.map (·.2):=by
  refine List.ext_getElem? λj=>?_;have lz:en'.length=es.size:=by rw [pe'.length_eq,ez]
  have ws:∀ j,(wlk w S ep es)[j]?=(en'[j]?).map λ(q:Int×Value)=>((intKind prog w).hash q.1,q.2):=λj=>by rw [T2,he',getElem?_map]
  cases e:acc.toList[j]? with
  |none=>
   have:acc.size<=j:=by simpa using e
   rw [getElem?_map,List.getElem?_eq_none (by rw [lz,← hacc.1];exact this)];rfl
  |some v=>
   have:(wlk w S ep es)[j]?.map (·.2)=some v:=hacc.2 j v (by rw [T2];exact e);rw [ws] at this;rw [getElem?_map,← this,Option.map_map];rfl
 have hI:IntsAre acc.toList (en'.map (·.1)):=by
  rw [av];exact qcU (prog:=prog) (w:=w) λq hq=>p.hI q (pe'.mem_iff.mp hq)
 have al:acc.toList.length<64:=by rw [av,length_map,pe'.length_eq];exact h64
 refine x8 (wpAny_newList ?_);have hoL:(h'.push (seqObj "list" acc.toList.toArray 0)).get? h'.objs.size=some (seqObj "list" acc.toList.toArray 0):=y4 _ rfl;refine x8 (wpAny_holding (wpAny_call_entry slot_list_sort ⟨_,hoL,rfl⟩ entry_list_sort (list_sort_tree hoL hI al λout ms a1 a2 a3=>⟨_,rfl,?_⟩) (args_list_sort _)));obtain ⟨e,he⟩:=sortedHeap_at (out:=out) hoL;refine x9 ⟨_,rfl,h _ h'.objs.size out ms e tk (λb o hb=>?_) ?_ he a1 (a2.trans (pe'.map _)) a3⟩
 ·have hb':=hk b o hb;rw [sortedHeap_old (u6 (y6 hb')) (y6 (y3 _ hb'))];exact y3 _ hb'
 ·exact Nat.le_of_lt hlt
end
end Tb8
namespace L3
open PySem PySem.Spec PyProof.Rows L2
def dd:List Int->List Int
 |[]=>[]
 |x::r=>if x∈dd r then dd r else x::dd r
theorem TX:∀ {l:List Int} {x:Int},x∈dd l↔x∈l
 |[],_=>Iff.rfl
 |y::r,x=>by
  unfold dd;split
  ·rename_i h;rw [TX,mem_cons];exact ⟨.inr,λz=>z.elim (λz=>z▸TX.mp h) id⟩
  ·rw [mem_cons,mem_cons,TX]
theorem qiL:∀ (l:List Int),(dd l).Nodup
 |[]=>List.Pairwise.nil
 |y::r=>by
  unfold dd;split
  ·exact qiL r
  ·rename_i h;exact List.nodup_cons.mpr ⟨h,qiL r⟩
section
variable {X:Cx}
def qaN {e:Expr} {te:TE} {p p2 pos pos2:Pos} (hc:X.calm=true) (hg:Gl X "sorted") (hm:X.mg "sorted" = none) (hg2:Gl X "set") (hm2:X.mg "set" = none) (he:PE X e te)
  (h1:starEach [e] X.env=(false,eval e X.env)::starEach [] X.env:=by rfl) (h2:starEach [.Call (.Name "set" p2) [e] [] pos2] X.env=(false,eval (.Call (.Name "set" p2) [e] [] pos2) X.env)::starEach [] X.env:=by rfl)
  (h3:(backTo pos (starEach [] X.env)).any (·.1)=false:=by rfl) (h4:(backTo pos2 (starEach [] X.env)).any (·.1)=false:=by rfl) :
  PE X (.Call (.Name "sorted" p) [.Call (.Name "set" p2) [e] [] pos2] [] pos) (λσ H Q=>te σ H λx H1=>∃ (a:Addr) (ns:List Int),x=.ref a/\SqL X.K H1 a (ns.map V.int)/\ns.length<=306/\(dd ns).length<64/\∀ l (ms:List Int),H1 l=none->ms.Perm (dd ns)->ms.Pairwise (·<=·)->Q (.ref l) (upd H1 l (.lst (ms.map V.int)))):=by
 intro pins s σ H Q I h;refine wpAny_Call_Name_kw (EL I hg hm PyProof.Rows.boot_sorted ?_);refine PyProof.Rows.callWith_builtin1 ?_ h2 h3;rw [h2];show wpAny _ _ (spliced ((false,eval (.Call (.Name "set" p2) [e] [] pos2) X.env)::backTo pos (starEach [] X.env))) _ _ s;refine Calls.spliced_cons ?_;refine wpAny_Call_Name_kw (EL I hg2 hm2 (show bootBuiltins "set" = some (.type "set") by decide +kernel) ?_);refine PyProof.Rows.callWith_type1 ?_ h1 h4;rw [h1];show wpAny _ _ (spliced ((false,eval e X.env)::backTo pos2 (starEach [] X.env))) _ _ s;refine Calls.spliced_cons (thn (he pins s σ H _ I h) λu s1 ⟨x,H1,I1,r1,a,ns,ex,hq,hl,hd,q⟩=>?_);subst ex;cases r1;refine Calls.spliced_nil ?_;obtain ⟨its,rv,pl,hz⟩:=I1.list hq;have hlen:its.length=ns.length:=by have:=rv.length;simp at this;omega
 refine Tb8.qda (vs:=its.toArray) (ns:=ns) (I1.ok.hd hc) pl.isList (by simpa using US rv) (by rw [size_toArray];omega) λh' tk is kp=>?_;refine Calls.spliced_nil ?_;obtain ⟨en,o,es,ep,t,ps,e306,mm⟩:=is;have pd:(en.map (·.1)).Perm (dd ns):=(List.perm_ext_iff_of_nodup ps.nd (qiL ns)).mpr λx=>(mm x).trans TX.symm;have e64:en.length<64:=by have:=pd.length_eq;rw [length_map] at this;omega
 refine Tb8.qg0 (s:={ s1 with heap:=h',toks:=tk }) (I1.ok.hd hc) ps e64 λh2 b out ms ee tk2 k2 lb gb ia pm up=>?_;have szle:s1.heap.objs.size<=b:=u5 (Nat.le_of_lt (y6 ps.ho)) lb;have ml:ms.length<=sizeLine:=by have:=(pm.trans pd).length_eq;rw [y9];omega
 refine ⟨.ref b,_,I1.laid (t':=tk2) (o:=.lst (ms.map V.int)) (λb o e=>k2 b o (kp b o (y6 e) e)) szle ⟨by simpa using ml,out.toList,ee,qcG ia,?_⟩,rfl,q _ ms (I1.hok.fresh szle) (pm.trans pd) up⟩;have ho:out=out.toList.toArray:=by simp
 rw [← ho];exact gb
def qhV (te:TE3):TE3:=λτ G q=>te τ G λx G1=>match x with
 |.ref p=>(match getL G1 p with|some ys=>(match RD ys with|some ns=>ns.length<=306/\(dd ns).length<64/\∀ l (ms:List Int),G1 l=none->ms.Perm (dd ns)->ms.Pairwise (·<=·)->q (.ref l) (gu G1 l (.lst (ms.map T.int)))|none=>False)|none=>False)
 |_=>False
def qaa {e:Expr} {te:TE3} {p p2 pos pos2:Pos} (hc:X.calm=true) (hg:Gl X "sorted") (hm:X.mg "sorted" = none) (hg2:Gl X "set") (hm2:X.mg "set" = none) (he:jE3 X e te)
  (h1:starEach [e] X.env=(false,eval e X.env)::starEach [] X.env:=by rfl) (h2:starEach [.Call (.Name "set" p2) [e] [] pos2] X.env=(false,eval (.Call (.Name "set" p2) [e] [] pos2) X.env)::starEach [] X.env:=by rfl)
  (h3:(backTo pos (starEach [] X.env)).any (·.1)=false:=by rfl) (h4:(backTo pos2 (starEach [] X.env)).any (·.1)=false:=by rfl):jE3 X (.Call (.Name "sorted" p) [.Call (.Name "set" p2) [e] [] pos2] [] pos) (qhV te):=
 ⟨DC (qaN hc hg hm hg2 hm2 he.h h1 h2 h3 h4) λ_ _ _ ⟨τ,G,q,rl,h,af⟩=>zf rl h λx G1 h1 v H1 rx hr1 k1 rl1=>by
  split at h1
  ·rename_i l;cases rx;split at h1
   ·rename_i ys e0;split at h1
    ·rename_i ns e1;obtain ⟨us,hs,r2⟩:=zz hr1 e0;have:=DJ e1;subst this;have:=DS r2;subst this;exact ⟨l,ns,rfl,hs,h1.1,h1.2.1,λb ms hl pm up=>af _ _ (h1.2.2 b ms (hr1.free hl) pm up) _ _ (.ref b) (HR.newL hr1 hl (NQ ms)) (k1.trans (Kp.newL hl))⟩
    ·exact h1.elim
   ·exact h1.elim
  ·exact h1.elim⟩
end
end L3
namespace HT
open PySem PyProof.Rows
abbrev oB (xs:Array Value) (c:Nat):Obj:={ cls:=.type "list",dict:=none,data:=.seq xs c,slots:=#[] }
def Bst (val:Nat->Int) (j:Nat) (xs:Array Value):Prop:=(j=0/\xs=#[])\/(0<j/\∃ m t,xs=#[.int m t,.int m t]/\(∃ i,i<j/\val i=m)/\∀ i,i<j->val i<=m)
def qpg (val:Nat->Int) (n:Nat) (dv v:Value):Prop:=(n=0/\v=dv)\/(0<n/\∃ m t,v=.int m t/\(∃ i,i<n/\val i=m)/\∀ i,i<n->val i<=m)
section
variable {prog:Program} {w:World} {A:Around} {R:Result->Shared->Prop} {I:Addr} {fp wr:List Addr} {n:Nat} {P:Nat->Value->Prop} {St:Nat->Heap->Prop}
def qc9 (W:Walks prog w A.in1 I fp wr n P St) (val:Nat->Int) (hval:∀ i v,P i v->∃ t,v=.int (val i) t) (S:Addr) (dv:Value) (hSf:S∉fp) :
  ∀ (k j:Nat) (s:Shared) (xs:Array Value) (c:Nat),n-j=k->j<=n->St j s.heap->Bst val j xs->s.heap.get? S=some (oB xs c) ->
  (∀ v h' tk,qpg val n dv v->(∀ b o,b∉wr->b≠S->s.heap.get? b=some o->h'.get? b=some o)->R (.ok (.ret v)) { s with heap:=h',toks:=tk }) ->
  codeAny (model prog w) A (.builtin "max.loop" ⟨[.ref I,.none,.ref S],[("default",dv)]⟩) R s:=by
 have hSw:S∉wr:=λh=>hSf (W.sub _ h);have nm:(toString "max" ++ toString ".loop" : String)="max.loop" := by decide
 intro k;induction k with
 |zero=>
  intro j s xs c hk hj hst hb hS hR;obtain rfl:j=n:=by omega
  refine codeAny_builtin F.entry_max_loop ?_;rw [Around.under_plainId F.plain_max_loop _];show wpAny _ A.in1 (seqItems? (.ref S) >>= _) _ _ s;refine x8 (wpAny_seqItems hS rfl ?_);show wpAny _ A.in1 (tryCatch (pyNext (.ref I)) _ >>= _) _ _ s;refine x8 (wpAny_tryCatch (W.done s _ _ hst λh' tk kp=>?_));rcases hb with ⟨j0,rfl⟩|⟨j1,m,t,rfl,hm⟩
  ·show wpAny _ A.in1 (rule _ >>= _) _ _ _;refine x8 (wpAny_rule (x9 ?_));exact hR dv h' tk (.inl ⟨j0,rfl⟩) λb o hbw _ e=>kp b o hbw e
  ·show wpAny _ A.in1 (updateSeq S (λ_=>#[]) >>= _) _ _ _;refine x8 (wpAny_updateSeq (kp S _ hSw hS) rfl (x8 (wpAny_letGo (x9 ?_))));exact hR _ _ tk (.inr ⟨j1,m,t,rfl,hm⟩) λb o hbw hbS e=>(Heap.get?_update_other _ _ (Ne.symm hbS)).trans (kp b o hbw e)
 |succ k ih=>
  intro j s xs c hk hj hst hb hS hR;have lt:j<n:=by omega
  refine codeAny_builtin F.entry_max_loop ?_;rw [Around.under_plainId F.plain_max_loop _];show wpAny _ A.in1 (seqItems? (.ref S) >>= _) _ _ s;refine x8 (wpAny_seqItems hS rfl ?_);show wpAny _ A.in1 (tryCatch (pyNext (.ref I)) _ >>= _) _ _ s;refine x8 (wpAny_tryCatch (W.item j s _ _ lt hst λv h' tk hP hst' kp=>?_));have hS':=kp S _ hSw hS;obtain ⟨u,rfl⟩:=hval j v hP;rcases hb with ⟨j0,rfl⟩|⟨j1,m,t,rfl,⟨i0,hi0,e0⟩,hm⟩
  ·subst j0;show wpAny _ A.in1 (updateSeq S _ >>= _) _ _ _;refine x8 (wpAny_updateSeq hS' rfl ?_);rw [nm];refine x9 ⟨plainId_quiet F.plain_max_loop _,ih 1 _ _ _ (by omega) (by omega) (W.frame _ _ _ hst' λb hbf o e=>(Heap.get?_update_other _ _ (λh:S=b=>hSf (by rw [h];exact hbf))).trans e) (.inr ⟨by omega,_,u,rfl,⟨0,by omega,rfl⟩,λi hi=>?_⟩) (Heap.get?_update_self _ hS' rfl) λv' h'' tk'' hv kp'=>?_⟩
   ·obtain rfl:i=0:=by omega
    exact Int.le_refl _
   ·exact hR v' h'' tk'' hv λb o hbw hbS e=>kp' b o hbw hbS ((Heap.get?_update_other _ _ (Ne.symm hbS)).trans (kp b o hbw e))
  ·show wpAny _ A.in1 (tryCatch (holding _ (richCompare .Gt _ _ >>= _)) _ >>= _) _ _ _;refine x8 (wpAny_tryCatch (wpAny_holding (x8 (PyProof.Rows.gt_int (Q:=λv s=>_) ?_))));refine x8 (wpAny_holding (wpAny_truthy_bool ?_));refine x8 (wpAny_letGo (x9 ?_));by_cases hb:m<val j
   ·rw [za0 hb];simp only [if_true];refine x8 (wpAny_updateSeq hS' rfl (x8 (wpAny_letGo ?_)));rw [nm];refine x9 ⟨plainId_quiet F.plain_max_loop _,ih (j+1) _ _ _ (by omega) (by omega) (W.frame _ _ _ hst' λb hbf o e=>(Heap.get?_update_other _ _ (λh:S=b=>hSf (by rw [h];exact hbf))).trans e) (.inr ⟨by omega,_,u,rfl,⟨j,by omega,rfl⟩,λi hi=>?_⟩) (Heap.get?_update_self _ hS' rfl) λv' h'' tk'' hv kp'=>?_⟩
    ·rcases Nat.lt_or_ge i j with z|z
     ·have:=hm i z;omega
     ·obtain rfl:i=j:=by omega
      exact Int.le_refl _
    ·exact hR v' h'' tk'' hv λb o hbw hbS e=>kp' b o hbw hbS ((Heap.get?_update_other _ _ (Ne.symm hbS)).trans (kp b o hbw e))
   ·rw [u9 hb];simp only [Bool.false_eq_true,if_false];refine x8 (wpAny_letGo ?_);rw [nm];refine x9 ⟨plainId_quiet F.plain_max_loop _,ih (j+1) _ _ _ (by omega) (by omega) hst' (.inr ⟨by omega,m,t,rfl,⟨i0,by omega,e0⟩,λi hi=>?_⟩) hS' λv' h'' tk'' hv kp'=>?_⟩
    ·rcases Nat.lt_or_ge i j with z|z
     ·exact hm i z
     ·obtain rfl:i=j:=by omega
      omega
    ·exact hR v' h'' tk'' hv λb o hbw hbS e=>kp' b o hbw hbS (kp b o hbw e)
end
section
variable {prog:Program} {w:World} {A:Around} {E:Value->Shared->Prop} {s:Shared}
def qjC {id:String} {b:Builtin} {args:List Value} {kw:List (Str×Value)} {Q:Value->Shared->Prop} (hk:builtinKind id=none) (hp:plainId id=true) (hb:entryFor table id=some b) (ha:argsOk id ⟨args,kw⟩)
  (hc:wpAny (model prog w) A.in1 (b ⟨args,kw⟩) (λfin s'=>match fin with
   |.done f=>(match (Except.ok f:Result) with|.ok (.ret v)=>Q v s'|.ok _=>False|.error e=>E e s')
   |.again c'=>c'.quiet=true/\codeAny (model prog w) A c' (λr s'=>match r with|.ok (.ret v)=>Q v s'|.ok _=>False|.error e=>E e s') s') E s) :
  wpAny (model prog w) A (call (.builtin id) args kw) Q E s:=by
 refine wpAny_call (codeAny_call_builtin hp hb ?_);simp only [checkBuiltinCall,hk];cases e:Manifest.signature? id with
 |none=>exact x9 hc
 |some sig=>
  have z:Bind.checkArgs id sig ⟨args,kw⟩=pure ():=by simpa only [argsOk,e] using ha
  simp only [z];exact x9 hc
def qcM (a b:Value):argsOk "max" ⟨[a],[("default",b)]⟩:=by unfold argsOk;kernel_rfl
def qaY {l:Addr} {its:List Value} {ns:List Int} {dv:Value} {Q:Value->Shared->Prop} (hh:A.handled=none) (hl:s.heap.IsList l its.toArray) (hv:IntsAre its ns)
  (h:∀ v h' tk,qpg (λi=>ns.getD i 0) ns.length dv v->(∀ b o,s.heap.get? b=some o->h'.get? b=some o)->Q v { s with heap:=h',toks:=tk }) :
  wpAny (model prog w) A (call (.builtin "max") [.ref l] [("default",dv)]) Q E s:=by
 have nm:(toString "max" ++ toString ".loop" : String)="max.loop" := by decide
 have ll:l<s.heap.objs.size:=by obtain ⟨o,e,_⟩:=hl;exact y6 e
 have sz:=hv.length;refine qjC F.kind_max F.plain_max F.entry_max (qcM _ _) ?_;show wpAny _ A.in1 (Builtin.Builtins.bindParams "max" ["key","default"] 0 ⟨[],[("default",dv)]⟩ >>= _) _ _ s;refine x8 (wpAny_of_eq (show Builtin.Builtins.bindParams "max" ["key","default"] 0 ⟨[],[("default",dv)]⟩=pure [none,some dv] from by kernel_rfl) ?_);refine x8 (x9 ?_);refine x8 (wpAny_pyIter_list hl ?_);refine x8 (wpAny_newObj_type ?_);rw [nm];have sz1:(s.heap.push { cls:=.type "list_iterator",data:=.fields #[.ref l,.int 0 0] }).objs.size=s.heap.objs.size+1:=Heap.size_push ..;refine x9 ⟨plainId_quiet F.plain_max_loop _,?_⟩;refine qc9 (Walks.list (A:=A.in1) (show A.in1.handled=none by simp [hh]) s.heap.objs.size l (u6 ll) its.toArray) (λi=>ns.getD i 0) (λi v hx=>hv.int_at i v (by simpa using hx)) _ dv ?_ (its.toArray.size-0) 0 _ #[] _ rfl (Nat.zero_le _) ?_ (.inl ⟨rfl,rfl⟩) (y4 _ rfl) λv h' tk hb kp=>?_
 ·rw [sz1];simp only [mem_cons,not_mem_nil,or_false,not_or];exact ⟨Nat.ne_of_gt (Nat.lt_succ_self _),Nat.ne_of_gt (Nat.lt_succ_of_lt ll)⟩
 ·exact ⟨⟨_,y3 _ (y4 _ rfl),rfl,rfl⟩,(hl.push _).push _⟩
 ·rw [size_toArray,sz] at hb;refine h v h' tk hb λb o e=>kp b o ?_ ?_ (y3 _ (y3 _ e))
  ·simp only [mem_cons,not_mem_nil,or_false];exact u6 (y6 e)
  ·rw [sz1];exact u6 (Nat.lt_succ_of_lt (y6 e))
end
end HT
namespace L3
open PySem PySem.Spec PyProof.Rows L2
section
variable {X:Cx}
def qlG (K:Frg):R2:=λx y H Q=>∃ (p:Addr) (ns:List Int),x=.ref p/\SqL K H p (ns.map V.int)/\(ns=[]->Q y H)/\(∀ m∈ns,(∀ a∈ns,a<=m)->Q (.int m) H)
def qiC (hc:X.calm=true):OpR X (λv u=>call (.builtin "max") [v] [("default",u)]) (qlG X.K):=by
 intro pins s σ H x y v u Q I rx ry h;obtain ⟨p,ns,rfl,hq,q0,q1⟩:=h;cases rx;obtain ⟨its,rv,pl,hz⟩:=I.list hq;refine HT.qaY (I.ok.hd hc) pl.isList (US rv) λv h' tk hb kp=>?_;rcases hb with ⟨n0,rfl⟩|⟨n1,m,t,rfl,⟨i,hi,e⟩,hm⟩
 ·exact ⟨y,H,I.kept (h':=h') (t':=tk) λb o e=>kp b o e,ry,q0 (List.length_eq_zero_iff.mp n0)⟩
 ·have gd:∀ j,(hj:j<ns.length)->ns.getD j 0=ns[j]:=λj hj=>by rw [getD_eq_getElem?_getD,v4 hj];rfl
  refine ⟨.int m,H,I.kept (h':=h') (t':=tk) λb o e=>kp b o e,⟨_,rfl⟩,q1 m (by rw [← e];show ns.getD i 0∈ns;rw [gd i hi];exact List.getElem_mem hi) λa ha=>?_⟩;obtain ⟨j,hj,rfl⟩:=List.mem_iff_getElem.mp ha;have:ns.getD j 0<=m:=hm j hj;rw [gd j hj] at this;exact this
def qhF {r:R2} {e d:Expr} {te td:TE} {p kp pos:Pos} (ho:OpR X (λv u=>call (.builtin "max") [v] [("default",u)]) r) (hg:Gl X "max") (hm:X.mg "max" = none) (he:PE X e te) (hd:PE X d td)
  (h1:starEach [e] X.env=(false,eval e X.env)::starEach [] X.env:=by rfl):PE X (.Call (.Name "max" p) [e] [⟨some "default",d,kp⟩] pos) (tOp r te td):=by
 intro pins s σ H Q I h;refine wpAny_Call_Name_kw (EL I hg hm PyProof.Rows.boot_max ?_);have z:backTo pos (starEach [e] X.env)=(false,eval e X.env)::backTo pos (starEach [] X.env):=by rw [h1];rfl
 refine callWith_kw (kws:=[⟨some "default",d,kp⟩]) ?_ z (by rw [z];rfl);rw [z];refine Calls.spliced_cons (thn (he pins s σ H _ I h) λv s1 ⟨x,H1,I1,r1,q1⟩=>?_);refine Calls.spliced_nil ?_;refine kws_cons (thn (hd pins s1 σ H1 _ I1 q1) λu s2 ⟨y,H2,I2,r2,q2⟩=>?_);exact kws_nil (ho pins s2 σ H2 x y v u Q I2 r1 r2 q2)
def qaL:R3:=λx y G q=>match x with
 |.ref p=>(match getL G p with|some ys=>(match RD ys with|some ns=>(ns=[]->q y G)/\(∀ m∈ns,(∀ a∈ns,a<=m)->q (.int m) G)|none=>False)|none=>False)
 |_=>False
def qeB {K:Frg}:XD K qaL (qlG K):=λx y v u G H q Q hr rx ry h af=>by
 unfold qaL at h;split at h
 ·rename_i p;cases rx;split at h
  ·rename_i ys e0;split at h
   ·rename_i ns e1;obtain ⟨us,hs,r2⟩:=zz hr e0;have:=DJ e1;subst this;have:=DS r2;subst this;exact ⟨p,ns,rfl,hs,λz=>af _ _ (h.1 z) _ _ ry hr Kp.refl,λm hm ha=>af _ _ (h.2 m hm ha) _ _ (.int _) hr Kp.refl⟩
   ·exact h.elim
  ·exact h.elim
 ·exact h.elim
def qio {e d:Expr} {te td:TE3} {p kp pos:Pos} (hc:X.calm=true) (hg:Gl X "max") (hm:X.mg "max" = none) (he:jE3 X e te) (hd:jE3 X d td)
  (h1:starEach [e] X.env=(false,eval e X.env)::starEach [] X.env:=by rfl):jE3 X (.Call (.Name "max" p) [e] [⟨some "default",d,kp⟩] pos) (o3 qaL te td):=
 ⟨DC (qhF (qiC hc) hg hm he.h hd.h h1) λ_ _ _ h=>qbs qeB h⟩
end
end L3
namespace Pu
open PySem L2 L3
open Bk (Lf Ext)
section
variable {D:Addr->Prop} {a:Addr} {G G' G0:Gp} {n n':Nat} {fv gv:List Nat} {l:Nat} {τ:St3} {ρ:Rho}
def NI (e:Ext a G G') (h:D a):Ex (rs D G) (rs D G'):=λb o x=>by
 obtain ⟨n,x⟩:=qo x;rw [zY n];exact e b o (by rintro rfl;exact n h) x
def UY {k:Int} (h:Lf G a k):G a≠none:=by
 obtain ⟨o,c,m,e,_⟩:=h;rw [e];simp
def WB {k:Int} (hd:Dom D G) (e:Ext a G G') (lf:Lf G' a k):Dom D G':=λb hb z=>by
 by_cases h:b=a
 ·subst h;exact UY lf z
 ·cases g:G b with
  |none=>exact hd b hb g
  |some o=>rw [e b o h g] at z;cases z
def Nw.backx {x:T} {d:PyData} {k:Int} (h:Nw D G G' x d) (e:Ext a G0 G) (lf:Lf G a k):Nw D G0 G' x d:=by
 rcases h with h|⟨p,xs,ds,h1,h2,c,r⟩
 ·exact .inl h
 refine .inr ⟨p,xs,ds,h1,h2,?_,r⟩;cases z:G0 p with
 |none=>rfl
 |some o=>
  by_cases hp:p=a
  ·subst hp;exact absurd c (UY lf)
  ·rw [e p o hp z] at c;cases c
structure Ln (fv:List Nat) (l:Nat) (D:Addr->Prop) (G:Gp) (τ:St3) (ρ:Rho) (a:Addr) (n:Nat):Prop where
 v:XF fv D G τ ρ
 d:Dom D G
 da:D a
 tl:τ[l]?=some (some (.ref a))
 ul:vw ρ l=none
 lf:Lf G a n
theorem Ln.up (h:Ln fv l D G τ ρ a n) (e:Ext a G G') (lf:Lf G' a n'):Ln fv l D G' τ ρ a n':=
 ⟨λi hi d hd=>let ⟨t,x,y⟩:=h.v i hi d hd;⟨t,x,y.up (NI e h.da)⟩,WB h.d e lf,h.da,h.tl,h.ul,lf⟩
def Ln.fst (h:Ln (fv++gv) l D G τ ρ a n):Ln fv l D G τ ρ a n:=⟨h.v.l,h.d,h.da,h.tl,h.ul,h.lf⟩
def Ln.snd (h:Ln (fv++gv) l D G τ ρ a n):Ln gv l D G τ ρ a n:=⟨h.v.r,h.d,h.da,h.tl,h.ul,h.lf⟩
end
abbrev QD:=PyData->Nat->Prop
structure PwE (l:Nat) (t:TE3) where
 w:Rho->Nat->QD->Prop
 fv:List Nat
 nw:Bool
 mono:∀ {ρ n} {Q Q':QD},w ρ n Q->(∀ d m,Q d m->Q' d m)->w ρ n Q'
 ok:∀ {D τ ρ G a n} {q:Q3} {Q:QD},Ln fv l D G τ ρ a n->w ρ n Q->(∀ x d G' n',Q d n'->Ext a G G'->Lf G' a n'->Dq (rs D G') x d->(nw=true->Nw D G G' x d)->q x G')->t τ G q
structure PwC (l:Nat) (t:TT3) where
 w:Rho->Nat->(Bool->Nat->Prop)->Prop
 fv:List Nat
 mono:∀ {ρ n} {Q Q':Bool->Nat->Prop},w ρ n Q->(∀ d m,Q d m->Q' d m)->w ρ n Q'
 ok:∀ {D τ ρ G a n} {q:Bool->Gp->Prop} {Q:Bool->Nat->Prop},Ln fv l D G τ ρ a n->w ρ n Q->(∀ k G' n',Q k n'->Ext a G G'->Lf G' a n'->q k G')->t τ G q
structure PwA (l:Nat) (t:TA3) where
 w:Rho->Nat->(List PyData->Nat->Prop)->Prop
 fv:List Nat
 k:Nat
 mono:∀ {ρ n} {Q Q':List PyData->Nat->Prop},w ρ n Q->(∀ d m,Q d m->Q' d m)->w ρ n Q'
 ok:∀ {D τ ρ G a n} {q:List T->Gp->Prop} {Q:List PyData->Nat->Prop},Ln fv l D G τ ρ a n->w ρ n Q->(∀ x d G' n',Q d n'->d.length=k->Ext a G G'->Lf G' a n'->Dqs (rs D G') x d->q x G')->t τ G q
structure PwI (l:Nat) (t:TI3) where
 w:Rho->Nat->(List PyData->Nat->Prop)->Prop
 fv:List Nat
 nm:Bool
 mono:∀ {ρ n} {Q Q':List PyData->Nat->Prop},w ρ n Q->(∀ d m,Q d m->Q' d m)->w ρ n Q'
 ok:∀ {D τ ρ G a n} {r:List T->(Gp->Prop)->Gp->Prop} {Q:List PyData->Nat->Prop},Ln fv l D G τ ρ a n->w ρ n Q ->
  (∀ items stay ds G' n',Q ds n'->Ext a G G'->Lf G' a n'->Dqs (rs D G') items ds->(∀ G'',(nm=true\/Ex (rs D G') G'')->stay G'')->(nm=true->∃ ns:List Int,ds=ns.map PyData.int)->r items stay G')->t τ G r
structure DrD (r:List T->Gp->Q3->Prop) where
 W:List PyData->Nat->QD->Prop
 nw:Bool
 mono:∀ {ds n} {Q Q':QD},W ds n Q->(∀ d m,Q d m->Q' d m)->W ds n Q'
 ok:∀ {D:Addr->Prop} {G:Gp} {a:Addr} {n:Nat} {ts:List T} {ds:List PyData} {q:Q3} {Q:QD},Lf G a n->D a->Dom D G->Dqs (rs D G) ts ds->W ds n Q->(∀ x d G' n',Q d n'->Ext a G G'->Lf G' a n'->Dq (rs D G') x d->(nw=true->Nw D G G' x d)->q x G')->r (.ref a::ts) G q
section
variable {l:Nat}
def eOf {t:TE3} (b:PuE t):PwE l t:=⟨λρ n Q=>∃ d,b.f ρ=some d/\Q d n,b.fv,b.nw,λ⟨d,h1,h2⟩ h=>⟨d,h1,h _ _ h2⟩,λh ⟨d,h1,h2⟩ k=>
 b.ok h.v h.d h1 λx G1 E1 D1 N1=>k x d G1 _ h2 (Bk.EM E1) (h.lf.ex E1) D1 N1⟩
def cOf {t:TT3} (b:PuC t):PwC l t:=⟨λρ n Q=>∃ d,b.f ρ=some d/\Q d n,b.fv,λ⟨d,h1,h2⟩ h=>⟨d,h1,h _ _ h2⟩,λh ⟨d,h1,h2⟩ k=>
 b.ok h.v h.d h1 λG1 E1=>k d G1 _ h2 (Bk.EM E1) (h.lf.ex E1)⟩
def aOf {t:TA3} (b:PuA t):PwA l t:=⟨λρ n Q=>∃ d,b.f ρ=some d/\Q d n,b.fv,b.n,λ⟨d,h1,h2⟩ h=>⟨d,h1,h _ _ h2⟩,λh ⟨d,h1,h2⟩ k=>
 b.ok h.v h.d h1 λx G1 E1 D1=>k x d G1 _ h2 (b.ln h1) (Bk.EM E1) (h.lf.ex E1) D1⟩
def iOf {t:TI3} (b:PuI t):PwI l t:=⟨λρ n Q=>∃ d,b.f ρ=some d/\Q d n,b.fv,b.nm,λ⟨d,h1,h2⟩ h=>⟨d,h1,h _ _ h2⟩,λh ⟨d,h1,h2⟩ k=>
 b.ok h.v h.d h1 λitems stay G1 E1 D1 s nm=>k items stay d G1 _ h2 (Bk.EM E1) (h.lf.ex E1) D1 s nm⟩
def eO {r:R3} {ta tb:TE3} (R:OpD r) (a:PwE l ta) (b:PwE l tb):PwE l (o3 r ta tb):=
 ⟨λρ n Q=>a.w ρ n λx n1=>b.w ρ n1 λy n2=>∃ v,R.f x y=some v/\Q v n2,a.fv++b.fv,R.nw,λh k=>a.mono h λx n1 h=>b.mono h λy n2 ⟨v,h1,h2⟩=>⟨v,h1,k _ _ h2⟩,λh hw k=>
  a.ok h.fst hw λx dx G1 n1 h1 E1 L1 D1 _=>b.ok (h.snd.up E1 L1) h1 λy dy G2 n2 ⟨v,e,hq⟩ E2 L2 D2 _=>R.ok (D1.up (NI E2 h.da)) D2 (WB (WB h.d E1 L1) E2 L2) e λz G3 E3 D3 N3=>k z v G3 n2 hq ((E1.trans E2).trans (Bk.EM E3)) (L2.ex E3) D3 λz=>(N3 z).backx (E1.trans E2) L2⟩
def VJ {ta:TE3} {tr:TA3} (a:PwE l ta) (r:PwA l tr):PwA l (qc ta tr):=
 ⟨λρ n Q=>a.w ρ n λx n1=>r.w ρ n1 λxs n2=>Q (x::xs) n2,a.fv++r.fv,r.k+1,λh k=>a.mono h λx n1 h=>r.mono h λxs n2 h=>k _ _ h,λh hw k=>
  a.ok h.fst hw λx dx G1 n1 h1 E1 L1 D1 _=>r.ok (h.snd.up E1 L1) h1 λy dy G2 n2 hq hl E2 L2 D2=>k _ _ G2 n2 hq (by simp [hl]) (E1.trans E2) L2 (.cons (D1.up (NI E2 h.da)) D2)⟩
def qnX {t:TA3} (b:PwA l t) (hn:Tru (Nat.ble b.k 1000)):PwE l (XJ t):=⟨λρ n Q=>b.w ρ n λxs n1=>Q (.tuple xs) n1,b.fv,false,λh k=>b.mono h λxs n1 h=>k _ _ h,λh hw k=>
 b.ok h hw λx dx G1 n1 h1 hl E1 L1 D1=>⟨by rw [D1.length,hl];exact few hn,k _ _ _ _ h1 E1 L1 (.tup D1) (λz=>by cases z)⟩⟩
def qhs {r:List T->Gp->Q3->Prop} {t:TA3} (R:FnD r) (b:PwA l t):PwE l (cb3 r t):=⟨λρ n Q=>b.w ρ n λxs n1=>∃ v,R.f xs=some v/\Q v n1,b.fv,R.nw,λh k=>b.mono h λxs n1 ⟨v,h1,h2⟩=>⟨v,h1,k _ _ h2⟩,λh hw k=>
 b.ok h hw λx dx G1 n1 ⟨v,e,hq⟩ hl E1 L1 D1=>R.ok D1 (WB h.d E1 L1) e λz G3 E3 D3 N3=>k z v G3 n1 hq (E1.trans (Bk.EM E3)) (L1.ex E3) D3 λz=>(N3 z).backx E1 L1⟩
def eDr {r:List T->Gp->Q3->Prop} {t:TA3} (R:DrD r) (b:PwA l t):PwE l (cb3 r (qc (v3 l) t)):=⟨λρ n Q=>b.w ρ n λxs n1=>R.W xs n1 Q,b.fv,R.nw,λh k=>b.mono h λxs n1 h=>R.mono h k,λ{D τ ρ G a n q Q} h hw k=>by
 simp only [cb3,qc,v3,h.tl];exact b.ok h hw λx dx G1 n1 hW hl E1 L1 D1=>R.ok L1 h.da (WB h.d E1 L1) D1 hW λz d G3 n3 hq E3 L3 D3 N3=>k z d G3 n3 hq (E1.trans E3) L3 D3 λz=>(N3 z).backx E1 L1⟩
def qeV {ta tb:TE3} (a:PwE l ta) (b:PwE l tb):PwE l (RJ ta tb):=⟨λρ n Q=>a.w ρ n λd n1=>∃ k,asB d=some k/\if k then b.w ρ n1 Q else Q (.bool false) n1,a.fv++b.fv,false,λh k=>a.mono h λd m ⟨j,e,h⟩=>⟨j,e,by
  cases j with
  |true=>rw [if_pos rfl] at h ⊢;exact b.mono h k
  |false=>exact k _ _ h⟩,λh hw k=>a.ok h.fst hw λx d G1 n1 ⟨j,e,hj⟩ E1 L1 D1 _=>by
  have:=TM e;subst this;cases D1;cases j with
  |true=>rw [if_pos rfl] at hj;exact b.ok (h.snd.up E1 L1) hj λx d G2 n2 hq E2 L2 D2 _=>k _ _ _ _ hq (E1.trans E2) L2 D2 (λz=>by cases z)
  |false=>exact k _ _ _ _ hj E1 L1 (.bl false) (λz=>by cases z)⟩
def eIf {t:TT3} {ta tb:TE3} (c:PwC l t) (a:PwE l ta) (b:PwE l tb):PwE l (if3 t ta tb):=⟨λρ n Q=>c.w ρ n λk n1=>if k then a.w ρ n1 Q else b.w ρ n1 Q,c.fv++(a.fv++b.fv),false,λh k=>c.mono h λj m h=>by
  cases j with
  |true=>rw [if_pos rfl] at h ⊢;exact a.mono h k
  |false=>exact b.mono h k,λh hw k=>c.ok h.fst hw λj G1 n1 hj E1 L1=>by
  cases j with
  |true=>rw [if_pos rfl] at hj ⊢;exact a.ok (h.snd.fst.up E1 L1) hj λx d G2 n2 hq E2 L2 D2 _=>k _ _ _ _ hq (E1.trans E2) L2 D2 (λz=>by cases z)
  |false=>exact b.ok (h.snd.snd.up E1 L1) hj λx d G2 n2 hq E2 L2 D2 _=>k _ _ _ _ hq (E1.trans E2) L2 D2 (λz=>by cases z)⟩
def iR {t:TA3} (b:PwA l t):PwI l (Y0 t):=⟨λρ n Q=>b.w ρ n λxs n1=>∃ ds,qf6 xs=some ds/\Q ds n1,b.fv,true,λh k=>b.mono h λxs n1 ⟨v,h1,h2⟩=>⟨v,h1,k _ _ h2⟩,λh hw k=>b.ok h hw λx dx G1 n1 ⟨ds,e,hq⟩ hl E1 L1 D1=>by
 unfold qf6 at e;split at e
 ·unfold cif at e;split at e
  ·rename_i c;cases e;cases D1 with
   |cons a b=>cases b;cases a;simp only;rw [L7];exact ⟨c,k _ _ _ _ _ hq E1 L1 (Dqs.ofInts _) (λ_ _=>trivial) λ_=>⟨_,rfl⟩⟩
  ·cases e
 ·unfold cif at e;split at e
  ·rename_i c;cases e;cases D1 with
   |cons a b=>cases b with
    |cons b c'=>cases c';cases a;cases b;simp only;rw [L7];exact ⟨c,k _ _ _ _ _ hq E1 L1 (Dqs.ofInts _) (λ_ _=>trivial) λ_=>⟨_,rfl⟩⟩
  ·cases e
 ·cases e⟩
end
def VA.ext {D:Addr->Prop} {a:Addr} {G G':Gp} {τ:St3} {ρ:Rho} (h:VA D G τ ρ) (e:Ext a G G') (da:D a):VA D G' τ ρ:=h.upx (NI e da)
structure RL (l:Nat) (a:Addr) (z0:Option (Option T)×Nat) (D:Addr->Prop) (G0:Gp) (A:Nat->Addr->Prop) (τ:St3) (ρ:Rho) (G:Gp) (n:Nat):Prop where
 r:RS D G0 A τ ρ G
 al:A l a
 tl:τ[l]?=some (some (.ref a))
 ul:ρ[l]?=some Sl.un
 lf:Lf G a n
 tz:τ[0]?=z0.1/\τ.length=z0.2
section
variable {l:Nat} {a:Addr} {z0:Option (Option T)×Nat} {D:Addr->Prop} {G0 G G':Gp} {A:Nat->Addr->Prop} {τ:St3} {ρ:Rho} {n n':Nat}
def RL.vl (h:RL l a z0 D G0 A τ ρ G n):vw ρ l=none:=by unfold vw;rw [h.ul];rfl
def RL.up (h:RL l a z0 D G0 A τ ρ G n) (e:Ext a G G') (lf:Lf G' a n'):RL l a z0 D G0 A τ ρ G' n':=
 ⟨h.r.keep (W:=λb=>b=a) e λb z=>⟨l,by rw [z];exact h.al,h.ul,by rw [z];exact UY lf⟩,h.al,h.tl,h.ul,lf,h.tz⟩
def RL.ne (h:RL l a z0 D G0 A τ ρ G n) {i:Nat} {p:Addr} {s:Sl} (hp:A i p) (e:ρ[i]?=some s) (hs:s≠.un):p≠a:=by
 rintro rfl;have:=h.r.inj i l _ hp h.al;subst this;rw [h.ul] at e;cases e;exact hs rfl
def RL.all (h:RL l a z0 D G0 A τ ρ G n) (fv:List Nat):Ln fv l (λb=>D b\/b=a) G τ ρ a n:=by
 refine ⟨λi _ d hd=>?_,λb hb=>?_,.inr rfl,h.tl,h.vl,h.lf⟩
 ·unfold vw at hd;obtain ⟨s,e,hd⟩:=obb hd;refine (h.r.sl i s e).vis hd (zt λb z=>?_) λp o q g=>?_
  ·rcases z with z|z
   ·exact .inl z
   ·subst z;exact .inr ⟨l,h.al⟩
  ·rw [zY]
   ·exact g
   ·rintro (z|z)
    ·exact h.r.nd q z
    ·exact h.ne q e (by rintro rfl;cases hd) z
 ·rcases hb with hb|hb
  ·exact h.r.domD b hb
  ·subst hb;exact UY h.lf
def qo4 {m:List Bool} (hm:mkb m l=false) (al:A l a):Ad m A l a:=⟨al,hm⟩
theorem RL.dem (h:RL l a z0 D G0 A τ ρ G n) {m:List Bool} (hm:mkb m l=false):RL l a z0 D G0 (Ad m A) τ (Pu.dm m ρ) G n:=
 ⟨h.r.dem m,qo4 hm h.al,h.tl,by rw [qdN,h.ul];simp [hm],h.lf,h.tz⟩
def RL.ln (h:RL l a z0 D G0 A τ ρ G n) {m:List Bool} {fv:List Nat} (hm:mkb m l=false) (hf:Tru (fv.all (mkb m))):Ln fv l (AD D (Ad m A)) G τ ρ a n:=
 ⟨h.r.viewD hf,(h.r.dem m).dom,.inr ⟨l,qo4 hm h.al⟩,h.tl,h.vl,h.lf⟩
theorem RL.put (h:RL l a z0 D G0 A τ ρ G n) {i:Nat} (hi:i≠l) (h0:i≠0) {x:T} {d:PyData} (hx:Dq (rs (AD D A) G) x d):RL l a z0 D G0 (Er A i) (τ.set i (some x)) (ρ.set i (.sh d)) G n:=
 ⟨h.r.put i hx,(.inr ⟨λz=>hi z.symm,h.al⟩),by rw [getElem?_set,if_neg hi];exact h.tl,by rw [getElem?_set,if_neg hi];exact h.ul,h.lf,⟨by rw [getElem?_set,if_neg h0];exact h.tz.1,by rw [List.length_set];exact h.tz.2⟩⟩
theorem RL.puts:∀ {ts:List (Nat×T)} {bs:List (Nat×PyData)} {A:Nat->Addr->Prop} {τ:St3} {ρ:Rho},RL l a z0 D G0 A τ ρ G n->Bd (rs (AD D A) G) ts bs->(∀ p∈bs,p.1≠l/\p.1≠0)->∃ A',RL l a z0 D G0 A' (sets τ ts) (jJ ρ bs) G n
 |_,_,A,_,_,h,.nil,_=>⟨A,h⟩
 |_,_,A,_,_,h,.cons x b,hn=>by
  unfold sets jJ;exact RL.puts (h.put (hn _ u8).1 (hn _ u8).2 x) (b.up qlr) (λp hp=>hn p (v7 _ hp))
theorem RL.upd (h:RL l a z0 D G0 A τ ρ G n) {i:Nat} (hi:i≠l) (h0:i≠0) {x:T} {s:Sl} {B:Addr->Prop} (hg:∀ b o,b≠a->¬ A i b->G b=some o->G' b=some o) (lf:Lf G' a n') (hB:∀ b,B b->(A i b\/G b=none)/\G' b≠none)
  (hs:Ex (rs (AD D A) G) (rs (AD D (Rg A i B)) G')->SlR (rs (AD D (Rg A i B)) G') G' B (some (some x)) s):RL l a z0 D G0 (Rg A i B) (τ.set i (some x)) (ρ.set i s) G' n':=
 ⟨h.r.upd i (W:=λb=>b=a\/A i b) (λb o w z=>hg b o (λy=>w (.inl y)) (λy=>w (.inr y)) z) (λb z=>by
  rcases z with z|z
  ·exact ⟨l,by rw [z];exact h.al,.inr ⟨h.ul,by rw [z];exact UY lf⟩⟩
  ·exact ⟨i,z,.inl rfl⟩) hB hs,.inr ⟨λz=>hi z.symm,h.al⟩,by rw [getElem?_set,if_neg hi];exact h.tl,by rw [getElem?_set,if_neg hi];exact h.ul,lf,⟨by rw [getElem?_set,if_neg h0];exact h.tz.1,by rw [List.length_set];exact h.tz.2⟩⟩
def RL.putN (h:RL l a z0 D G0 A τ ρ G n) {i:Nat} (hi:i≠l) (h0:i≠0) {x:T} {d:PyData} {ds:List PyData} (hd:d=.list ds) (E:Ext a G G') (lf:Lf G' a n') (hx:Nw (AD D A) G G' x d):∃ A',RL l a z0 D G0 A' (τ.set i (some x)) (ρ.set i (.ow ds)) G' n':=by
 rcases hx with hx|⟨p,xs,ds',rfl,e',gp,gp',hs⟩
 ·rw [hd] at hx;cases hx
 rw [hd] at e';cases e';refine ⟨_,h.upd hi h0 (B:=λb=>b=p) (λb o w _ z=>E b o w z) lf (λb z=>by subst z;exact ⟨.inr gp,by rw [gp'];simp⟩) λ_=>⟨p,xs,rfl,rfl,gp',hs.up (zt λb z=>?_)⟩⟩;rcases z with z|⟨j,⟨_,z⟩|⟨_,z⟩⟩
 ·exact .inl (.inl z)
 ·exact .inr z
 ·exact .inl (.inr ⟨j,z⟩)
theorem RL.wr (h:RL l a z0 D G0 A τ ρ G n) {i:Nat} {p:Addr} {xs:List T} {ds ds0:List PyData} (ho:ρ[i]?=some (Sl.ow ds0)) (hi:A i p) (ht:τ[i]?=some (some (.ref p))) (hs:Dqs (rs (AD D A) G) xs ds):RL l a z0 D G0 A τ (ρ.set i (.ow ds)) (gu G p (.lst xs)) n:=by
 have il:i≠l:=by rintro rfl;rw [h.ul] at ho;cases ho
 have pa:p≠a:=by rintro rfl;exact il (h.r.inj i l _ hi h.al)
 exact ⟨h.r.wr hi ht hs,h.al,h.tl,by rw [getElem?_set,if_neg il];exact h.ul,h.lf.new pa,h.tz⟩
end
abbrev QO:=Ot->Nat->Prop
def qdz (l:Nat) (a:Addr) (z0:Option (Option T)×Nat) (D:Addr->Prop) (G0:Gp) (e:Ends3):Ot->Nat->Prop
 |.nx ρ,n=>∀ A τ G,RL l a z0 D G0 A τ ρ G n->e.nx τ G
 |.bk ρ,n=>∀ A τ G,RL l a z0 D G0 A τ ρ G n->e.bk τ G
 |.ct ρ,n=>∀ A τ G,RL l a z0 D G0 A τ ρ G n->e.ct τ G
 |.rt d fr,n=>∀ x G,Ex G0 G->Lf G a n->Dq (rs (λb=>D b\/b=a) G) x d->(fr=true->Nw (λb=>D b\/b=a) G0 G x d)->e.rt x G
structure PwS (l:Nat) (t:TS3) where
 w:Rho->Nat->QO->Prop
 mono:∀ {ρ n} {Q Q':QO},w ρ n Q->(∀ o m,Q o m->Q' o m)->w ρ n Q'
 ok:∀ {a z0 D G0 A τ ρ G n} {e:Ends3} {Q:QO},RL l a z0 D G0 A τ ρ G n->w ρ n Q->(∀ o m,Q o m->qdz l a z0 D G0 e o m)->t e τ G
section
variable {l:Nat}
def WR:PwS l zE:=⟨λρ n Q=>Q (.nx ρ) n,λh k=>k _ _ h,λh hw k=>k _ _ hw _ _ _ h⟩
def sqw (b:Rho->Nat->QO->Prop) (Q:QO):QO:=λo n=>match o with|.nx ρ'=>b ρ' n Q|o=>Q o n
def jS {t u:TS3} (x:PwS l t) (y:PwS l u):PwS l (qK t u):=⟨λρ n Q=>x.w ρ n (sqw y.w Q),λh k=>x.mono h λo m h=>by
  cases o with
  |nx ρ=>exact y.mono h k
  |bk ρ=>exact k _ _ h
  |ct ρ=>exact k _ _ h
  |rt d f=>exact k _ _ h,λh hw k=>x.ok h hw λo m h=>by
  cases o with
  |nx ρ=>exact λA τ G r=>y.ok r h k
  |bk ρ=>exact k _ _ h
  |ct ρ=>exact k _ _ h
  |rt d f=>exact k _ _ h⟩
def wIf {c:TT3} {t u:TS3} (pc:PwC l c) (x:PwS l t) (y:PwS l u):PwS l (Z5 c t u):=⟨λρ n Q=>pc.w ρ n λk n1=>if k then x.w ρ n1 Q else y.w ρ n1 Q,λh k=>pc.mono h λj m h=>by
  cases j with
  |true=>rw [if_pos rfl] at h ⊢;exact x.mono h k
  |false=>exact y.mono h k,λh hw k=>pc.ok (h.all _) hw λj G1 n1 hj E1 L1=>by
  cases j with
  |true=>rw [if_pos rfl] at hj ⊢;exact x.ok (h.up E1 L1) hj k
  |false=>exact y.ok (h.up E1 L1) hj k⟩
def qhn {a:Addr} {z0:Option (Option T)×Nat} {D:Addr->Prop} {G0 G G':Gp} {A:Nat->Addr->Prop} {τ:St3} {ρ:Rho} {n:Nat} (h:RL l a z0 D G0 A τ ρ G n) (e:Ext a G G'):Ex G0 G':=λb o x=>e b o (by rintro rfl;rw [h.r.fr l _ h.al] at x;cases x) (h.r.ex b o x)
def qdJ {t:TE3} (x:PwE l t):PwS l (zB t):=⟨λρ n Q=>x.w ρ n λd n1=>Q (.rt d x.nw) n1,λh k=>x.mono h λd m h=>k _ _ h,λh hw k=>x.ok (h.all _) hw λy d G1 n1 hq E1 L1 D1 N1=>k _ _ hq y G1 (qhn h E1) L1 D1 λz=>(N1 z).back h.r.ex⟩
def qef (i:Nat):PwS l (zB (v3 i)):=⟨λρ n Q=>∃ d b,qc7 ρ i=some (.rt d b)/\Q (.rt d b) n,λ⟨d,b,h1,h2⟩ k=>⟨d,b,h1,k _ _ h2⟩,λ{a z0 D G0 A τ ρ G n e Q} h ⟨d,b,h1,h2⟩ k=>by
 unfold qc7 at h1;split at h1
 ·rename_i ds e;cases h1;obtain ⟨p,xs,b,c,g,f⟩:=h.r.ow i _ e;simp only [zB,v3,c];have pa:p≠a:=by
   rintro rfl;have:=h.r.inj i l _ b h.al;subst this;rw [h.ul] at e;cases e
  refine k _ _ h2 _ _ h.r.ex h.lf (.lst (by rw [zY (by rintro (z|z);exact h.r.nd b z;exact pa z)];exact g) (f.up (zt λb z=>?_))) λ_=>.inr ⟨p,xs,ds,rfl,rfl,h.r.fr i p b,g,f.up (zt λq z=>?_)⟩
  ·rcases z with z|z
   ·exact .inl z
   ·subst z;exact .inr ⟨l,h.al⟩
  ·rcases z with (z|z)|z
   ·exact .inl z
   ·subst z;exact .inr ⟨l,h.al⟩
   ·subst z;exact .inr ⟨i,b⟩
 ·rename_i d e;cases h1;obtain ⟨t,b,c⟩:=h.r.sh i _ e;simp only [zB,v3,b];refine k _ _ h2 _ _ h.r.ex h.lf (c.up (zt λb z=>?_)) (λz=>by cases z);rcases z with z|z
  ·exact .inl z
  ·subst z;exact .inr ⟨l,h.al⟩
 ·cases h1⟩
def EQ {t:TE3} (x:PwE l t) (i:Nat) (m:List Bool) (hm:Tru (x.fv.all (mkb m))) (hl:Tru (!mkb m l&&(i != l&&i != 0))):PwS l (za t (gn3 i)):=⟨λρ n Q=>x.w ρ n λd n1=>Q (.nx (XW m x.nw i d ρ)) n1,λh k=>x.mono h λd m h=>k _ _ h,λ{a z0 D G0 A τ ρ G n e Q} h hw k=>by
 have hl':mkb m l=false/\i≠l/\i≠0:=by simpa using hl.h
 refine x.ok (h.ln hl'.1 hm) hw λy d G1 n1 hq E1 L1 D1 N1=>?_;have k:=k _ _ hq;unfold XW at k;show e.nx (τ.set i (some y)) G1;split at k
 ·rename_i hs;exact k _ _ _ ((h.up E1 L1).put hl'.2.1 hl'.2.2 (WZ D1 hs))
 ·split at k
  ·rename_i hn;have N:=N1 hn;rcases id N with h2|⟨p,xs,ds,h1,h2,_⟩
   ·exact absurd h2 (by assumption)
   subst h2;obtain ⟨A',r⟩:=(h.dem hl'.1).putN hl'.2.1 hl'.2.2 rfl E1 L1 N;exact k _ _ _ r
  ·exact k _ _ _ (((h.dem hl'.1).up E1 L1).put hl'.2.1 hl'.2.2 D1)⟩
def qg4 {t:TE3} {g:TG3} (x:PwE l t) (pg:PuG g) (m:List Bool) (hm:Tru (x.fv.all (mkb m))) (hl:Tru (!mkb m l&&pg.tg.all (λi=>i != l&&i != 0))):PwS l (za t g):=⟨λρ n Q=>x.w ρ n λd n1=>∃ bs,pg.f d=some bs/\Q (.nx (jJ (dm m ρ) bs)) n1,λh k=>x.mono h λd m ⟨bs,h1,h2⟩=>⟨bs,h1,k _ _ h2⟩,λ{a z0 D G0 A τ ρ G n e Q} h hw k=>by
 have hl':mkb m l=false/\∀ i∈pg.tg,i≠l/\i≠0:=by simpa using hl.h
 refine x.ok (h.ln hl'.1 hm) hw λy d G1 n1 ⟨bs,e2,hq⟩ E1 L1 D1 N1=>?_;obtain ⟨ts,bd,kg⟩:=pg.ok D1 e2;refine kg _ _ _ ?_;obtain ⟨A',h'⟩:=((h.dem hl'.1).up E1 L1).puts bd (λp hp=>hl'.2 _ (pg.at' e2 p hp));exact k _ _ hq _ _ _ h'⟩
def qkG {t:TA3} (x:PwA l t) (i j:Nat) (m:List Bool) (hm:Tru (x.fv.all (mkb m))) (hl:Tru (!mkb m l&&((i != l&&i != 0)&&(j != l&&j != 0)))):PwS l (qfL i j t):=⟨λρ n Q=>x.w ρ n λds n1=>∃ o,qiS i j m ds ρ=some o/\Q o n1,λh k=>x.mono h λd m ⟨bs,h1,h2⟩=>⟨bs,h1,k _ _ h2⟩,λ{a z0 D G0 A τ ρ G n e Q} h hw k=>by
 have hl':mkb m l=false/\(i≠l/\i≠0)/\j≠l/\j≠0:=by simpa using hl.h
 refine x.ok (h.ln hl'.1 hm) hw λy d G1 n1 ⟨o,e2,hq⟩ hlen E1 L1 D1=>?_;unfold qiS at e2;split at e2
 ·cases D1 with
  |cons x1 b=>cases b with
   |cons x2 c=>
    cases c;split at e2
    ·rename_i hs;cases e2;rw [Bool.and_eq_true] at hs;exact k _ _ hq _ _ _ (((h.up E1 L1).put hl'.2.1.1 hl'.2.1.2 (WZ x1 hs.1)).put hl'.2.2.1 hl'.2.2.2 (WZ x2 hs.2))
    ·cases e2;exact k _ _ hq _ _ _ ((((h.dem hl'.1).up E1 L1).put hl'.2.1.1 hl'.2.1.2 x1).put hl'.2.2.1 hl'.2.2.2 (x2.up qlr))
 ·cases e2⟩
def RL.evalS {a:Addr} {z0:Option (Option T)×Nat} {D:Addr->Prop} {G0 G:Gp} {A:Nat->Addr->Prop} {τ:St3} {ρ:Rho} {n:Nat} (h:RL l a z0 D G0 A τ ρ G n) {t:TE3} (x:PwE l t) (m:List Bool) (hm:Tru (x.fv.all (mkb m))) (hl:mkb m l=false) {Q:QD} (hw:x.w ρ n Q) (q:Q3) (k:∀ y d G' n' A1,Q d n'->RL l a z0 D G0 A1 τ (dmS m d ρ) G' n'->Ext a G G'->Dq (rs (AD D A1) G') y d->q y G'):t τ G q:=by
 refine x.ok (h.ln hl hm) hw λy d G1 n1 hq E1 L1 D1 _=>?_;by_cases hs:RW d=true
 ·exact k y d G1 n1 A hq (by unfold dmS;rw [if_pos hs];exact h.up E1 L1) E1 (WZ D1 hs)
 ·exact k y d G1 n1 _ hq (by unfold dmS;rw [if_neg hs];exact (h.dem hl).up E1 L1) E1 D1
def qm0 {t:TE3} (x:PwE l t) (i:Nat) (m:List Bool) (hm:Tru (x.fv.all (mkb m))) (hl:Tru (!mkb m l)):PwS l (VO (bm3 qaT (v3 i) (qc t qj))):=⟨λρ n Q=>∃ ds,slot ρ i=some ds/\x.w ρ n λd n1=>slot (dmS m d ρ) i=some ds/\ds.length<16777216/\Q (.nx ((dmS m d ρ).set i (.ow (ds++[d])))) n1,λ⟨v,h0,h⟩ k=>⟨v,h0,x.mono h λd m ⟨y,h1,h2⟩=>⟨y,h1,k _ _ h2⟩⟩,λ{a z0 D G0 A τ ρ G n e Q} h ⟨ds,h0,hw⟩ k=>by
 have hl':mkb m l=false:=by simpa using hl.h
 obtain ⟨p,xs,b,c,g,f⟩:=h.r.ow i _ (YT h0);simp only [VO,bm3,v3,c,ze g];refine ⟨rfl,h.evalS x m hm hl' hw _ λy d G1 n1 A1 ⟨h1,h2,hq⟩ r E1 D1=>?_⟩;obtain ⟨p',xs',b',c',g',f'⟩:=r.r.ow i _ (YT h1);rw [c] at c';cases c';simp only [qj,qaT,g'];exact ⟨by rw [f'.length,y9];exact h2,k _ _ hq _ _ _ (r.wr (YT h1) b' c (f'.append (.cons D1 .nil)))⟩⟩
def qdI (gf:PyData->Option (List (Nat×PyData))) (bw:Rho->Nat->QO->Prop):List PyData->Rho->Nat->QO->Prop
 |[],ρ,n,Q=>Q (.nx ρ) n
 |d::r,ρ,n,Q=>∃ bs,gf d=some bs/\bw (jJ ρ bs) n λo n1=>match o with
  |.nx ρ'=>qdI gf bw r ρ' n1 Q
  |.ct ρ'=>qdI gf bw r ρ' n1 Q
  |.bk ρ'=>Q (.nx ρ') n1
  |.rt d b=>Q (.rt d b) n1
theorem DU {g:TG3} {tb:TS3} (pg:PuG g) (pb:PwS l tb):∀ {ds:List PyData} {ρ:Rho} {n:Nat} {Q Q':QO},qdI pg.f pb.w ds ρ n Q->(∀ o m,Q o m->Q' o m)->qdI pg.f pb.w ds ρ n Q'
 |[],_,_,_,_,h,k=>k _ _ h
 |d::r,_,_,_,_,⟨bs,e,h⟩,k=>⟨bs,e,pb.mono h λo m h=>by
   cases o with
   |nx ρ=>exact DU pg pb h k
   |ct ρ=>exact DU pg pb h k
   |bk ρ=>exact k _ _ h
   |rt d b=>exact k _ _ h⟩
theorem C5 {stay:Gp->Prop} {g:TG3} {tb:TS3} {e:Ends3} (pg:PuG g) (pb:PwS l tb) {a:Addr} {z0:Option (Option T)×Nat} {D:Addr->Prop} {G0:Gp} {Q:QO} (hl:∀ i∈pg.tg,i≠l/\i≠0) (hs:∀ A τ ρ G n,RL l a z0 D G0 A τ ρ G n->stay G) (k:∀ o m,Q o m->qdz l a z0 D G0 e o m) :
  ∀ (ds:List PyData) (items:List T),(∀ A τ ρ G n,RL l a z0 D G0 A τ ρ G n->Dqs (rs (AD D A) G) items ds)->∀ A τ ρ G n,RL l a z0 D G0 A τ ρ G n->qdI pg.f pb.w ds ρ n Q->CJ stay g tb e items τ G
 |[],items,hi,A,τ,ρ,G,n,h,hw=>by
  have:=hi _ _ _ _ _ h;cases this;exact ⟨hs _ _ _ _ _ h,k _ _ hw _ _ _ h⟩
 |d::ds,items,hi,A,τ,ρ,G,n,h,⟨bs,e1,hw⟩=>by
  have hh:=hi _ _ _ _ _ h;cases hh with
  |cons hx hr=>
   rename_i x items;obtain ⟨ts,bd,kg⟩:=pg.ok hx e1;refine ⟨hs _ _ _ _ _ h,kg _ _ _ ?_⟩;obtain ⟨A',h'⟩:=h.puts bd λp hp=>hl _ (pg.at' e1 p hp);have hi':∀ A τ ρ G n,RL l a z0 D G0 A τ ρ G n->Dqs (rs (AD D A) G) items ds:=λA τ ρ G n h=>by
    have:=hi _ _ _ _ _ h;cases this with
    |cons a b=>exact b
   refine pb.ok h' hw λo m hq=>?_;cases o with
   |nx ρ'=>exact λA2 τ2 G2 h2=>C5 pg pb hl hs k ds items hi' _ _ _ _ _ h2 hq
   |ct ρ'=>exact λA2 τ2 G2 h2=>C5 pg pb hl hs k ds items hi' _ _ _ _ _ h2 hq
   |bk ρ'=>exact k _ _ hq
   |rt d fr=>exact k _ _ hq
theorem RL.base {a:Addr} {z0:Option (Option T)×Nat} {D:Addr->Prop} {G0 Gb G:Gp} {A:Nat->Addr->Prop} {τ:St3} {ρ:Rho} {n:Nat} (h:RL l a z0 D Gb A τ ρ G n) (e:Ex G0 Gb) (hd:Dom D G0):RL l a z0 D G0 A τ ρ G n:=⟨h.r.base e hd,h.al,h.tl,h.ul,h.lf,h.tz⟩
theorem qdz.base {a:Addr} {z0:Option (Option T)×Nat} {D:Addr->Prop} {G0 Gb:Gp} {e:Ends3} {o:Ot} {n:Nat} (h:qdz l a z0 D G0 e o n) (x:Ex G0 Gb) (hd:Dom D G0):qdz l a z0 D Gb e o n:=by
 cases o with
 |nx ρ=>exact λA τ G r=>h A τ G (r.base x hd)
 |bk ρ=>exact λA τ G r=>h A τ G (r.base x hd)
 |ct ρ=>exact λA τ G r=>h A τ G (r.base x hd)
 |rt d fr=>exact λy G p q r z=>h y G (x.trans p) q r λw=>(z w).back x
def qiW {wi:TI3} {g:TG3} {tb:TS3} (pi:PwI l wi) (pg:PuG g) (pb:PwS l tb) (m:List Bool) (hm:Tru (pi.fv.all (mkb m))) (hl:Tru (!mkb m l&&pg.tg.all (λi=>i != l&&i != 0))):PwS l (EX wi g tb):=⟨λρ n Q=>pi.w ρ n λds n1=>qdI pg.f pb.w ds (if pi.nm then ρ else dm m ρ) n1 Q,λh k=>pi.mono h λd m h=>DU pg pb h k,λ{a z0 D G0 A τ ρ G n e Q} h hw k=>by
 have hl':mkb m l=false/\∀ i∈pg.tg,i≠l/\i≠0:=by simpa using hl.h
 refine pi.ok (h.ln hl'.1 hm) hw λitems stay ds G1 n1 hq E1 L1 D1 hs hnm=>?_;cases hb:pi.nm with
 |true=>
  rw [hb,if_pos rfl] at hq;obtain ⟨ns,rfl⟩:=hnm hb;have:=D1.ints;subst this;exact C5 pg pb hl'.2 (λ_ _ _ _ _ _=>hs _ (.inl hb)) k _ _ (λA τ ρ G _ _=>Dqs.ofInts _) _ _ _ _ _ (h.up E1 L1) hq
 |false=>
  rw [hb,if_neg y8] at hq;have h1:=(h.dem hl'.1).up E1 L1;have b1:Ex G0 (rs (λb=>∃ i,Ad m A i b) G1):=λb o e=>by
   rw [zY]
   ·exact h1.r.ex _ _ e
   ·rintro ⟨i,z⟩;rw [h1.r.fr i _ z] at e;cases e
  have h2:RL l a z0 D (rs (λb=>∃ i,Ad m A i b) G1) (Ad m A) τ (dm m ρ) G1 n1:=⟨⟨VI,h.r.dm.up b1,λi p z=>by unfold rs;exact qL ⟨i,z⟩,h1.r.da,h1.r.inj,h1.r.len,h1.r.sl⟩,h1.al,h1.tl,h1.ul,h1.lf,h1.tz⟩
  have X:∀ A2 τ2 ρ2 G2,RS D (rs (λb=>∃ i,Ad m A i b) G1) A2 τ2 ρ2 G2->Ex (rs (AD D (Ad m A)) G1) (rs (AD D A2) G2):=λA2 τ2 ρ2 G2 r b o e=>by
   obtain ⟨n1,e⟩:=qo e;have eb:rs (λb=>∃ i,Ad m A i b) G1 b=some o:=by rw [zY (λz=>n1 (.inr z))];exact e
   rw [zY]
   ·exact r.ex _ _ eb
   ·rintro (z|⟨i,z⟩)
    ·exact n1 (.inl z)
    ·rw [r.fr i _ z] at eb;cases eb
  exact C5 pg pb hl'.2 (λA2 τ2 ρ2 G2 n2 r=>hs _ (.inr ((X _ _ _ _ r.r).trans VI))) (λo m hq=>(k o m hq).base b1 h.r.dm) _ _ (λA2 τ2 ρ2 G2 n2 r=>D1.up (X _ _ _ _ r.r)) _ _ _ _ _ h2 hq⟩
end
def DSp (W:List PyData->Nat->QD->Prop) (fr:Bool):Sp3:=λts G q=>∃ (D:Addr->Prop) (a:Addr) (n:Nat) (ts':List T) (ds:List PyData) (Q:QD),ts=.ref a::ts'/\Lf G a n/\D a/\Dom D G/\Dqs (rs D G) ts' ds/\W ds n Q/\∀ x d G' n',Q d n'->Ext a G G'->Lf G' a n'->Dq (rs D G') x d->(fr=true->Nw D G G' x d)->q x G'
structure Wm where
 W:List PyData->Nat->QD->Prop
 mono:∀ {ds n} {Q Q':QD},W ds n Q->(∀ d m,Q d m->Q' d m)->W ds n Q'
def dSp (w:Wm) (fr:Bool):DrD (DSp w.W fr):=⟨w.W,fr,w.mono,λ{D G a n ts ds q Q} lf da hd hs hw k=>⟨D,a,n,ts,ds,Q,rfl,lf,da,hd,hs,hw,k⟩⟩
def qd2 (fr:Bool) (Q:QD):QO:=λo n=>match o with
 |.rt d b=>(fr=true->b=true)/\∃ m,n<=m/\Q d m
 |.nx _=>fr=false/\∃ m,n<=m/\Q .none m
 |_=>False
def qi4 {t:TS3} (b:PwS 0 t) (k N:Nat) (fr:Bool):Wm:=⟨λds n Q=>ds.length+1=k/\b.w (.un::(ds.map Sl.sh++List.replicate (N-(ds.length+1)) .un)) n (qd2 fr Q),λ⟨h1,h2⟩ k=>⟨h1,b.mono h2 λo m h=>by
 cases o with
 |rt d f=>obtain ⟨h1,m,h2,h3⟩:=h;exact ⟨h1,m,h2,k _ _ h3⟩
 |nx ρ=>obtain ⟨h1,m,h2,h3⟩:=h;exact ⟨h1,m,h2,k _ _ h3⟩
 |bk ρ=>exact h
 |ct ρ=>exact h⟩⟩
def WC {t:TS3} (b:PwS 0 t) (N:List Str) (k:Nat) (fr:Bool):∀ ts G q,DSp (qi4 b k N.length fr).W fr ts G q->ts.length=k/\t { nx:=λ_ G'=>q .non G',rt:=q } (qE N ts) G:=by
 rintro ts G q ⟨D,a,n,ts',ds,Q,rfl,lf,da,hd,hs,⟨hk,hw⟩,h⟩;refine ⟨by simp [hs.length];omega,?_⟩;have DD:∀ b,(D b/\b≠a)\/b=a↔D b:=λb=>by
  by_cases e:b=a
  ·subst e;simp [da]
  ·simp [e]
 have rr:∀ H,rs (λb=>(D b/\b≠a)\/b=a) H=rs D H:=λH=>by
  have:(λb=>(D b/\b≠a)\/b=a)=D:=funext λb=>propext (DD b);rw [this]
 have ad:AD (λb=>D b/\b≠a) (λi p=>i=0/\p=a)=D:=funext λb=>propext ⟨(λz=>by
   rcases z with z|⟨i,_,z⟩
   ·exact z.1
   ·rw [z];exact da),(λz=>by
   by_cases e:b=a
   ·exact .inr ⟨0,rfl,e⟩
   ·exact .inl ⟨z,e⟩)⟩
 have ga:G a≠none:=UY lf;have r:RL 0 a (some (some (.ref a)),(qE N (.ref a::ts')).length) (λb=>D b/\b≠a) (rs (λb=>b=a) G) (λi p=>i=0/\p=a) (qE N (.ref a::ts')) (.un::(ds.map Sl.sh++List.replicate (N.length-(ds.length+1)) .un)) G n:=by
  refine ⟨⟨VI,λb hb=>by rw [zY (D:=λb=>b=a) hb.2];exact hd b hb.1,λi p e=>by rw [e.2];unfold rs;exact qL rfl,λi p e=>by rw [e.2];exact ga,λi j p e e'=>e.1.trans e'.1.symm,by simp [qE,hs.length],λi s e=>?_⟩,⟨rfl,rfl⟩,by simp [qE],rfl,lf,⟨by simp [qE],rfl⟩⟩;rw [ad];cases i with
  |zero=>cases e;trivial
  |succ i=>
   rw [getElem?_cons_succ] at e;by_cases hi:i<ds.length
   ·rw [List.getElem?_append_left (by simpa using hi),getElem?_map] at e;obtain ⟨d2,e3,rfl⟩:=za1 e;obtain ⟨x,e5,hx⟩:=hs.get e3;refine ⟨x,?_,hx⟩;unfold qE;rw [List.getElem?_append_left (by simp [hs.length];exact hi),getElem?_map,getElem?_cons_succ,e5];rfl
   ·rw [List.getElem?_append_right (by simpa using hi),List.getElem?_replicate] at e;split at e<;>cases e
    trivial
 have xe:∀ {G'},Ex (rs (λb=>b=a) G) G'->Ext a G G':=λe b o n x=>e b o (by rw [zY (D:=λb=>b=a) n];exact x);refine b.ok r hw λo m hq=>?_;cases o with
 |rt d f=>
  intro x G' E L Dx0 N;have Dx:=Dx0;rw [rr] at Dx;obtain ⟨hq1,m2,hm,hq2⟩:=hq;refine h x d G' m2 hq2 (xe E) (L.mono (by omega)) Dx λz=>?_;rcases N (hq1 z) with h2|⟨p,xs,ds',h1,h2,c,g,f'⟩
  ·exact .inl h2
  have np:p≠a:=by
   rintro rfl;rw [h1] at Dx0;cases Dx0 with
   |lst g0 _=>exact (qo g0).1 (.inr rfl)
   |clo g0 _=>exact (qo g0).1 (.inr rfl)
  refine .inr ⟨p,xs,ds',h1,h2,by rw [zY (D:=λb=>b=a) np] at c;exact c,g,f'.up (zt λb z=>?_)⟩;rcases z with z|z
  ·exact .inl ((DD b).mpr z)
  ·exact .inr z
 |nx ρ=>
  obtain ⟨hq1,m2,hm,hq2⟩:=hq;exact λA τ G' r'=>h .non .none G' m2 hq2 (xe r'.r.ex) (r'.lf.mono (by omega)) .non λz=>by rw [hq1] at z;cases z
 |bk ρ=>exact hq.elim
 |ct ρ=>exact hq.elim
end Pu
namespace Pv
open PySem L2 L3 Pu
end Pv
namespace Pu
open PySem L2 L3
open Bk (Lf Ext)
def okW:QO:=λo _=>match o with|.nx _=>True|.ct _=>True|_=>False
def qpI (K:Int):TE3:=o3 ZX (c3 (.int 1)) (cb3 qfV (qc (c3 (.int K)) (qc (cb3 UD (qc (v3 0) qj)) qj)))
def qjm {i:Nat} {τ:St3} {t:T} {G:Gp} {q:Q3} (h:τ[i]?=some (some t)):v3 i τ G q=q t G:=by unfold v3;rw [h]
def qpe (K:Int) (R:TS3):TS3:=qK (EX (Y0 (qc (qpI K) qj)) (gn3 1) (qK (za (cb3 Bk.Q4 (qc (v3 0) (qc (v3 1) qj))) (gn3 2)) R)) (zB (c3 (.bl true)))
def qeb {R:TS3} (b:PwS 2 R) (N:List Str) (K:Int) (M:Nat) (hK:0<=K/\K<=60) (hN:N.length=M+3) (h:∀ k:Nat,k<=60->b.w ([.un,.sh (.int k),.un]++List.replicate M .un) 0 okW):∀ ts G q,R1 ts G q->ts.length=1/\qpe K R { nx:=λ_ G'=>q .non G',rt:=q } (qE N ts) G:=by
 rintro ts G q ⟨a,ns,rfl,hG,hl,hq⟩;refine ⟨rfl,?_⟩;have s0:(qE N [T.ref a])[0]?=some (some (.ref a)):=by simp [qE]
 have gl:getL G a=some (ns.map T.int):=by unfold getL;rw [hG]
 simp only [qpe,qK,EX,Y0,qpI,qc,qj,o3,c3,cb3,v3,s0,UD,gl,qfV,ZX,length_map];have cnt:((1+(if ((ns.length:Nat):Int)<K then ((ns.length:Nat):Int) else K)).toNat)<=61:=by split<;>omega
 refine ⟨⟨by split<;>omega,by split<;>omega⟩,?_⟩;refine qdl _ (λ_ τ G'=>G' a=some (.frz (ns.map T.int))/\τ[0]?=some (some (.ref a))/\τ.length=M+3) ⟨hG,s0,by simp [qE,hN]⟩ (λ_ _ _ _ _=>True.intro) ?_ ?_
 ·rintro i z τ G' nx hz ⟨gA,t0,tl⟩ hn;obtain ⟨hi,rfl⟩:=qhO hz;have hi2:i<=60:=by omega
  have t1:(τ.set 1 (some (T.int (0+(i:Int)))))[0]?=some (some (.ref a)):=by rw [getElem?_set,if_neg (by omega)];exact t0
  have t2:(τ.set 1 (some (T.int (0+(i:Int)))))[1]?=some (some (T.int (0+(i:Int)))):=by rw [getElem?_set,if_pos rfl,if_pos (by omega)]
  show v3 0 (τ.set 1 (some (T.int (0+(i:Int))))) G' (λx G1=>v3 1 (τ.set 1 (some (T.int (0+(i:Int))))) G1 λy G2=>Bk.Q4 [x,y] G2 λz G3=>R _ ((τ.set 1 (some (T.int (0+(i:Int))))).set 2 (some z)) G3);rw [qjm t1,qjm t2];refine ⟨a,_,ns,rfl,gA,hl,by omega,by omega,λp o c hp ho=>?_⟩;have pa:a≠p:=by rintro rfl;rw [gA] at hp;cases hp
  have r:RL 2 p (some (some (.ref a)),M+3) (λ_=>False) G' (λj q=>j=2/\q=p) ((τ.set 1 (some (T.int (0+(i:Int))))).set 2 (some (.ref p))) ([.un,.sh (.int i),.un]++List.replicate M .un) (gu G' p (.lst [.int o,.int c,.int 0])) 0:=by
   refine ⟨⟨jk hp,λb z=>z.elim,λj q e=>by rw [e.2];exact hp,λj q e=>by rw [e.2,qG];simp,λj k q e e'=>e.1.trans e'.1.symm,by simp [tl],λj s e=>?_⟩,⟨rfl,rfl⟩,by rw [getElem?_set,if_pos rfl,if_pos (by simp;omega)],rfl,⟨o,c,0,qG,ho,by omega,by omega⟩,⟨by rw [getElem?_set,if_neg (by omega)];exact t1,by simp [tl]⟩⟩
   match j,e with
   |0,e=>cases e;trivial
   |1,e=>
    cases e;refine ⟨.int (0+(i:Int)),by rw [getElem?_set,if_neg (by omega)];exact t2,?_⟩;rw [Int.zero_add];exact .int _
   |2,e=>cases e;trivial
   |j+3,e=>
    simp only [cons_append,List.nil_append,getElem?_cons_succ,List.getElem?_replicate] at e;split at e<;>cases e
    trivial
  refine b.ok r (h i hi2) λo' m ho'=>?_;cases o' with
  |nx ρ'=>exact λA τ' G2 r2=>hn _ _ ⟨r2.r.ex _ _ gA,r2.tz.1,r2.tz.2⟩
  |ct ρ'=>exact λA τ' G2 r2=>hn _ _ ⟨r2.r.ex _ _ gA,r2.tz.1,r2.tz.2⟩
  |bk ρ'=>exact ho'.elim
  |rt d f=>exact ho'.elim
 ·rintro τ G' ⟨gA,t0,tl⟩;exact hq G'
def qnx {G:Gp} {ts:List T} {i:Int} (h:Dqs G ts [.int i]):ts=[.int i]:=by
 cases h with
 |cons a b=>cases b;cases a;rfl
def lfc {G:Gp} {a:Addr} {n c:Nat} (h:Lf G a ((n:Int)+(c:Int))):Lf G a ((n+c:Nat):Int):=by rw [Int.natCast_add];exact h
def JD:DrD Bk.qD:=⟨λds n Q=>∃ m:Int,ds=[.int m]/\(1<=m/\m<1073741824)/\n<1000000000/\∀ d:Int,0<=d->d<m->Q (.int d) (n+1),false,
 λ⟨m,h1,h2,h3,h4⟩ k=>⟨m,h1,h2,h3,λd x y=>k _ _ (h4 d x y)⟩,λ{D G a n ts ds q Q} lf da hd hs ⟨m,h1,h2,h3,h4⟩ k=>by
 subst h1;have:=qnx hs;subst this;exact ⟨a,n,m,rfl,h2.1,h2.2,lf,by omega,λd G' x y L E=>k _ _ G' (n+1) (h4 d x y) E (lfc (c:=1) L) (.int d) (λz=>by cases z)⟩⟩
def qlD {l:Nat} {t:TE3} {b:PuE t}:(eOf (l:=l) b).w=λρ n Q=>∃ d,b.f ρ=some d/\Q d n:=id rfl
def qlV {l:Nat} {t:TT3} {b:PuC t}:(cOf (l:=l) b).w=λρ n Q=>∃ d,b.f ρ=some d/\Q d n:=id rfl
def ql4 {l:Nat} {t:TA3} {b:PuA t}:(aOf (l:=l) b).w=λρ n Q=>∃ d,b.f ρ=some d/\Q d n:=id rfl
def qmI {l:Nat} {t:TI3} {b:PuI t}:(iOf (l:=l) b).w=λρ n Q=>∃ d,b.f ρ=some d/\Q d n:=id rfl
def qpq {l:Nat} {r:R3} {ta tb:TE3} {R:OpD r} {a:PwE l ta} {b:PwE l tb}:(eO R a b).w=λρ n Q=>a.w ρ n λx n1=>b.w ρ n1 λy n2=>∃ v,R.f x y=some v/\Q v n2:=id rfl
def qbT {l:Nat} {ta:TE3} {tr:TA3} {a:PwE l ta} {r:PwA l tr}:(VJ a r).w=λρ n Q=>a.w ρ n λx n1=>r.w ρ n1 λxs n2=>Q (x::xs) n2:=id rfl
def qfr {l:Nat} {t:TA3} {b:PwA l t} {hn:Tru (Nat.ble b.k 1000)}:(qnX b hn).w=λρ n Q=>b.w ρ n λxs n1=>Q (.tuple xs) n1:=id rfl
def qcp {l:Nat} {r:List T->Gp->Q3->Prop} {t:TA3} {R:FnD r} {b:PwA l t}:(qhs R b).w=λρ n Q=>b.w ρ n λxs n1=>∃ v,R.f xs=some v/\Q v n1:=id rfl
def qlj {l:Nat} {r:List T->Gp->Q3->Prop} {t:TA3} {R:DrD r} {b:PwA l t}:(eDr R b).w=λρ n Q=>b.w ρ n λxs n1=>R.W xs n1 Q:=id rfl
def qcO {l:Nat} {ta tb:TE3} {a:PwE l ta} {b:PwE l tb}:(qeV a b).w=λρ n Q=>a.w ρ n λd n1=>∃ k,asB d=some k/\if k then b.w ρ n1 Q else Q (.bool false) n1:=id rfl
def qjn {l:Nat} {t:TT3} {ta tb:TE3} {c:PwC l t} {a:PwE l ta} {b:PwE l tb}:(eIf c a b).w=λρ n Q=>c.w ρ n λk n1=>if k then a.w ρ n1 Q else b.w ρ n1 Q:=id rfl
def qpF {l:Nat} {t:TA3} {b:PwA l t}:(iR b).w=λρ n Q=>b.w ρ n λxs n1=>∃ ds,qf6 xs=some ds/\Q ds n1:=id rfl
def qlX {l:Nat} {t:TA3} {b:PwA l t}:(iR b).nm=true:=id rfl
def qgB {l:Nat} {t:TI3} {b:PuI t}:(iOf (l:=l) b).nm=b.nm:=id rfl
def qe9 {l:Nat} {t:TE3} {b:PuE t}:(eOf (l:=l) b).nw=b.nw:=id rfl
def qlJ {l:Nat} {r:R3} {ta tb:TE3} {R:OpD r} {a:PwE l ta} {b:PwE l tb}:(eO R a b).nw=R.nw:=id rfl
def qbd {l:Nat} {t:TA3} {b:PwA l t} {hn:Tru (Nat.ble b.k 1000)}:(qnX b hn).nw=false:=id rfl
def qfy {l:Nat} {r:List T->Gp->Q3->Prop} {t:TA3} {R:DrD r} {b:PwA l t}:(eDr R b).nw=R.nw:=id rfl
def M7 {l:Nat} {ta tb:TE3} {a:PwE l ta} {b:PwE l tb}:(qeV a b).nw=false:=id rfl
def qfW {l:Nat} {t:TT3} {ta tb:TE3} {c:PwC l t} {a:PwE l ta} {b:PwE l tb}:(eIf c a b).nw=false:=id rfl
def qdu {l:Nat}:(WR (l:=l)).w=λρ n Q=>Q (.nx ρ) n:=id rfl
def qck {l:Nat} {t u:TS3} {x:PwS l t} {y:PwS l u}:(jS x y).w=λρ n Q=>x.w ρ n (sqw y.w Q):=id rfl
def qgj {b:Rho->Nat->QO->Prop} {Q:QO} {ρ:Rho} {n:Nat}:sqw b Q (.nx ρ) n=b ρ n Q:=id rfl
def qgp {b:Rho->Nat->QO->Prop} {Q:QO} {d:PyData} {f:Bool} {n:Nat}:sqw b Q (.rt d f) n=Q (.rt d f) n:=id rfl
def qmu {l:Nat} {c:TT3} {t u:TS3} {pc:PwC l c} {x:PwS l t} {y:PwS l u}:(wIf pc x y).w=λρ n Q=>pc.w ρ n λk n1=>if k then x.w ρ n1 Q else y.w ρ n1 Q:=id rfl
def qff {l:Nat} {t:TE3} {x:PwE l t}:(qdJ x).w=λρ n Q=>x.w ρ n λd n1=>Q (.rt d x.nw) n1:=id rfl
def qbY {l:Nat} {i:Nat}:(qef (l:=l) i).w=λρ n Q=>∃ d b,qc7 ρ i=some (.rt d b)/\Q (.rt d b) n:=id rfl
def qgg {l:Nat} {t:TE3} {x:PwE l t} {i:Nat} {m:List Bool} {hm:Tru (x.fv.all (mkb m))} {hl:Tru (!mkb m l&&(i != l&&i != 0))}:(EQ x i m hm hl).w=λρ n Q=>x.w ρ n λd n1=>Q (.nx (XW m x.nw i d ρ)) n1:=id rfl
def qdn {l:Nat} {t:TE3} {g:TG3} {x:PwE l t} {pg:PuG g} {m:List Bool} {hm:Tru (x.fv.all (mkb m))} {hl:Tru (!mkb m l&&pg.tg.all (λi=>i != l&&i != 0))}:(qg4 x pg m hm hl).w=λρ n Q=>x.w ρ n λd n1=>∃ bs,pg.f d=some bs/\Q (.nx (jJ (dm m ρ) bs)) n1:=id rfl
def qgy {l:Nat} {t:TA3} {x:PwA l t} {i j:Nat} {m:List Bool} {hm:Tru (x.fv.all (mkb m))} {hl:Tru (!mkb m l&&((i != l&&i != 0)&&(j != l&&j != 0)))}:(qkG x i j m hm hl).w=λρ n Q=>x.w ρ n λds n1=>∃ o,qiS i j m ds ρ=some o/\Q o n1:=id rfl
def qgm {l:Nat} {t:TE3} {x:PwE l t} {i:Nat} {m:List Bool} {hm:Tru (x.fv.all (mkb m))} {hl:Tru (!mkb m l)}:(qm0 x i m hm hl).w=λρ n Q=>∃ ds,slot ρ i=some ds/\x.w ρ n λd n1=>slot (dmS m d ρ) i=some ds/\ds.length<16777216/\Q (.nx ((dmS m d ρ).set i (.ow (ds++[d])))) n1:=id rfl
def qgR {l:Nat} {wi:TI3} {g:TG3} {tb:TS3} {pi:PwI l wi} {pg:PuG g} {pb:PwS l tb} {m:List Bool} {hm:Tru (pi.fv.all (mkb m))} {hl:Tru (!mkb m l&&pg.tg.all (λi=>i != l&&i != 0))}:(qiW pi pg pb m hm hl).w=λρ n Q=>pi.w ρ n λds n1=>qdI pg.f pb.w ds (if pi.nm then ρ else dm m ρ) n1 Q:=id rfl
def qde {ds:List PyData} {n:Nat} {Q:QD}:JD.W ds n Q=(∃ m:Int,ds=[.int m]/\(1<=m/\m<1073741824)/\n<1000000000/\∀ d:Int,0<=d->d<m->Q (.int d) (n+1)):=id rfl
def M9:JD.nw=false:=id rfl
def qlm {w:Wm} {fr:Bool}:(dSp w fr).W=w.W:=id rfl
def qgs {w:Wm} {fr:Bool}:(dSp w fr).nw=fr:=id rfl
def qcs {Q:QD} {d:PyData} {b:Bool} {n:Nat}:qd2 false Q (.rt d b) n=∃ m,n<=m/\Q d m:=propext ⟨λh=>h.2,λh=>⟨λz=>(y8 z).elim,h⟩⟩
def qgS {Q:QD} {d:PyData} {n:Nat}:qd2 true Q (.rt d true) n=∃ m,n<=m/\Q d m:=propext ⟨λh=>h.2,λh=>⟨λ_=>rfl,h⟩⟩
def qf7 {ρ:Rho} {n:Nat}:okW (.nx ρ) n=True:=id rfl
def qkw {α:Type} {v:α} {P:α->Prop}:(∃ d,some v=some d/\P d)=P v:=propext ⟨λ⟨d,h1,h2⟩=>by cases h1;exact h2,λh=>⟨v,rfl,h⟩⟩
def qfS {v:Int} {P:Int->Prop}:(∃ m:Int,[PyData.int v]=[.int m]/\P m)=P v:=propext ⟨λ⟨d,h1,h2⟩=>by cases h1;exact h2,λh=>⟨v,rfl,h⟩⟩
def qjw {d:PyData} {b:Bool} {P:PyData->Bool->Prop}:(∃ d' b',some (Ot.rt d b)=some (.rt d' b')/\P d' b')=P d b:=propext ⟨λ⟨x,y,h1,h2⟩=>by cases h1;exact h2,λh=>⟨d,b,rfl,h⟩⟩
def zn {l:Nat} {t u:TS3} {x:PwS l t} {y:PwS l u} {ρ:Rho} {n:Nat} {Q:QO} (h:∀ Y:Rho->Nat->QO->Prop,Y=y.w->x.w ρ n (sqw Y Q)):(jS x y).w ρ n Q:=h _ rfl
structure Mn (bw:Rho->Nat->QO->Prop):Prop where
 h:∀ ρ n (Q Q':QO),bw ρ n Q->(∀ o m,Q o m->Q' o m)->bw ρ n Q'
def PwS.mn {l:Nat} {t:TS3} (b:PwS l t):Mn b.w:=⟨λ_ _ _ _ h k=>b.mono h k⟩
section
variable {l:Nat} {g:TG3} {tb:TS3}
def JU {gf:PyData->Option (List (Nat×PyData))} {bw:Rho->Nat->QO->Prop} {α:Type} {f:α->PyData} (xs:List α) (mono:Mn bw) (I:Nat->Rho->Nat->Prop) {ρ:Rho} {n:Nat} {Q:QO} (h0:I 0 ρ n)
  (hs:∀ i x ρ n,xs[i]?=some x->I i ρ n->∃ bs,gf (f x)=some bs/\bw (jJ ρ bs) n λo m=>match o with|.nx ρ'=>I (i+1) ρ' m|.ct ρ'=>I (i+1) ρ' m|.bk ρ'=>Q (.nx ρ') m|.rt d b=>Q (.rt d b) m)
  (k:∀ ρ n,I xs.length ρ n->Q (.nx ρ) n):qdI gf bw (xs.map f) ρ n Q:=by
 have key:∀ (r:List α) (i:Nat) (ρ:Rho) (n:Nat),xs.drop i=r->i<=xs.length->I i ρ n->qdI gf bw (r.map f) ρ n Q:=by
  intro r;induction r with
  |nil=>
   intro i ρ n e hi h;have:i=xs.length:=by
    have:=congrArg List.length e;simp at this;omega
   subst this;exact k ρ n h
  |cons x r ih=>
   intro i ρ n e hi h;have hl:i<xs.length:=by
    have:=congrArg List.length e;simp at this;omega
   have e':=List.drop_eq_getElem_cons hl;rw [e] at e';injection e' with e1 e2;obtain ⟨bs,h1,h2⟩:=hs i x ρ n (by rw [v4 hl,e1]) h;refine ⟨bs,h1,mono.h _ _ _ _ h2 λo m h=>?_⟩;cases o with
   |nx ρ'=>exact ih (i+1) ρ' m e2.symm hl h
   |ct ρ'=>exact ih (i+1) ρ' m e2.symm hl h
   |bk ρ'=>exact h
   |rt d b=>exact h
 exact key xs 0 ρ n (by simp) (Nat.zero_le _) h0
end
def qcX {α β:Type} {x:α} {f:α->Option β}:(some x).bind f=f x:=id rfl
def qfR {α β:Type} {x:α} {f:α->β}:(some x).map f=some (f x):=id rfl
def ql6 {α:Type} {x:α} {r:List α}:(x::r).length=r.length+1:=id rfl
def qjY {α:Type}:([]:List α).length=0:=id rfl
def qmh {α:Type} {x y:α} {r:List α}:(x::r).set 0 y=y::r:=id rfl
def qju {α:Type} {x y:α} {r:List α} {i:Nat}:(x::r).set (i+1) y=x::r.set i y:=id rfl
def qlL {α:Type} {r:List α}:r++[]=r:=List.append_nil r
def qlt {α:Type} {x:α} {r s:List α}:(x::r)++s=x::(r++s):=id rfl
def qkR {α:Type} {s:List α}:[]++s=s:=id rfl
def qmy {n:Nat}:0+n=n:=Nat.zero_add n
def qjb {p:Prop}:(True/\p)=p:=true_and p
def qkX {α:Type} {a b:α} {i:Decidable True}:@ite α True i a b=a:=if_pos trivial
def qmd {α:Type} {a b:α} {i:Decidable False}:@ite α False i a b=b:=if_neg not_false
def qlU:(false=true)=False:=Bool.false_eq_true
def qmC:(!true)=false:=id rfl
def qkr:(!false)=true:=id rfl
def qlO {i:Decidable True}:@decide True i=true:=decide_true i
def qk3 {i:Decidable False}:@decide False i=false:=decide_false i
def qlC {b:Bool}:(b||false)=b:=Bool.or_false b
def qkk {b:Bool}:(false||b)=b:=Bool.false_or b
def qk7 {b:Bool}:(b&&true)=b:=Bool.and_true b
def qjf {b:Bool}:(true&&b)=b:=Bool.true_and b
def qkZ {b:Bool}:(false&&b)=false:=Bool.false_and b
def qke {b:Bool}:(b&&false)=false:=Bool.and_false b
def ai{a b:Prop}(x:a)(y:b):a/\b:=⟨x,y⟩
def pwA:=(ai (ai (ai (ai (ai (ai (ai @Pu.qlD (ai @Pu.qlV @Pu.ql4)) (ai @Pu.qmI (ai @Pu.qpq @Pu.qbT))) (ai (ai @Pu.qfr (ai @Pu.qcp @Pu.qlj)) (ai (ai @Pu.qcO @Pu.qjn) (ai @Pu.qpF @Pu.qlX)))) (ai (ai (ai @Pu.qgB (ai @Pu.qe9 @Pu.qlJ)) (ai @Pu.qbd (ai @Pu.qfy @Pu.M7))) (ai (ai @Pu.qfW (ai @Pu.qdu @Pu.qck)) (ai (ai @Pu.qgj @Pu.qgp) (ai @Pu.qmu @Pu.qff))))) (ai (ai (ai (ai @Pu.qbY (ai @Pu.qgg @Pu.qdn)) (ai @Pu.qgy (ai @Pu.qgm @Pu.qgR))) (ai (ai @Pu.qde (ai @Pu.M9 @Pu.qlm)) (ai (ai @Pu.qgs @Pu.qcs) (ai @Pu.qgS @Pu.qf7)))) (ai (ai (ai @Pu.qfS (ai @Pu.qjw @Pu.ql8)) (ai @Pu.qo8 (ai @Pu.qfp @Pu.qlH))) (ai (ai @Pu.qfA (ai @Pu.qfO @Pu.qpH)) (ai (ai @Pu.qgx @Pu.qdw) (ai @Pu.qeZ @Pu.qfe)))))) (ai (ai (ai (ai (ai @Pu.qc4 (ai @Pu.qlQ @Pu.qgD)) (ai @Pu.qmH (ai @Pu.qfd @Pu.qmO))) (ai (ai @Pu.qdv (ai @Pu.qb4 @Pu.qjz)) (ai (ai @Pu.qe2 @Pu.qmz) (ai @Pu.qfv @Pu.qfZ)))) (ai (ai (ai @Pu.qkL (ai @Pu.qkx @Pu.qkq)) (ai @Pu.qmA (ai @Pu.qe3 @Pu.qgP))) (ai (ai @Pu.qgq (ai @Pu.qgb @Pu.qgM)) (ai (ai @Pu.qf0 @Pu.qfC) (ai @Pu.qbm @Pu.qbL))))) (ai (ai (ai (ai @Pu.qjo (ai @Pu.qjI @Pu.qly)) (ai @Pu.qgF (ai @Pu.qbr @Pu.qbP))) (ai (ai @Pu.qgU (ai @Pu.qfB @Pu.qa4)) (ai (ai @Pu.L6 @Pu.qfG) (ai @Pu.qgz @Pu.qdq)))) (ai (ai (ai @Pu.qa8 (ai @Pu.MS @Pu.qbR)) (ai (ai @Pu.qo6 @Pu.qgn) (ai @Pu.qdb @Pu.qfm))) (ai (ai @Pu.qdr (ai @Pu.qe0 @Pu.qjR)) (ai (ai @Pu.qf2 @Pu.qdB) (ai @Pu.qgt @Pu.qb5))))))) (ai (ai (ai (ai (ai (ai @Pu.qgT (ai @Pu.qe4 @Pu.qfX)) (ai @Pu.qcW (ai @Pu.qfj @Pu.qaX))) (ai (ai @Pu.qjy (ai @Pu.qb2 @Pu.qdh)) (ai (ai @Pu.L4 @Pu.MF) (ai @Pu.M0 @Pu.qgu)))) (ai (ai (ai @Pu.qgH (ai @Pu.qbI @Pu.qb7)) (ai @Pu.qca (ai @Pu.NK @Pu.qdt))) (ai (ai @Pu.qbM (ai @Pu.MG @Pu.SK)) (ai (ai @Pu.qfh @Pu.qgv) (ai @Pu.qpr @Pu.qpc))))) (ai (ai (ai (ai @Pu.qkh (ai @Pu.qjM @Pu.K3)) (ai @Pu.qb9 (ai @Pu.qc6 @Pu.qdo))) (ai (ai @Pu.qgX (ai @Pu.qeI @Pu.qiA)) (ai (ai @Pu.at0 @Pu.eqS) (ai @Pu.eqI @Pu.qpn)))) (ai (ai (ai @Pu.qgf (ai @Pu.qe5 @Pu.qfw)) (ai @Pu.qby (ai @Pu.qfD @Pu.qjQ))) (ai (ai @Pu.qh6 (ai @Pu.qgC @Pu.qfT)) (ai (ai @Pu.qeY @Pu.qfn) (ai @Pu.qgV @Pu.qfl)))))) (ai (ai (ai (ai (ai @Pu.qgd (ai @Pu.qfK @Pu.qjj)) (ai @Pu.qmo (ai @Pu.qfE @Pu.qma))) (ai (ai @Pu.qjK (ai @Pu.qj8 @Pu.qg5)) (ai (ai @Pu.qgr @Pu.qgI) (ai @Pu.qjZ @Pu.qkO)))) (ai (ai (ai @Pu.qmn (ai @Pu.qlN @Pu.qpz)) (ai @Pu.qpo (ai @Pu.qpt @Pu.qkF))) (ai (ai @Pu.qkd (ai @Pu.qlF @Pu.qlS)) (ai (ai @Pu.qmK @Pu.qpx) (ai @Pu.qe8 @Pu.qgK))))) (ai (ai (ai (ai @Pu.qfJ (ai @Pu.qfI @Pu.qkw)) (ai @Pu.qcX (ai @Pu.qfR @Pu.ql6))) (ai (ai @Pu.qjY (ai @Pu.qmh @Pu.qju)) (ai (ai @Pu.qlL @Pu.qlt) (ai @Pu.qkR @Pu.qmy)))) (ai (ai (ai @Pu.qjb (ai @Pu.qkX @Pu.qmd)) (ai (ai @Pu.qlU @Pu.qmC) (ai @Pu.qkr @Pu.qlO))) (ai (ai @Pu.qk3 (ai @Pu.qlC @Pu.qkk)) (ai (ai @Pu.qk7 @Pu.qjf) (ai @Pu.qkZ @Pu.qke))))))))
end Pu
namespace Pu
open PySem L2 L3
def qcZ:PyData->Option PyData
 |.list xs=>(YV xs).bind λns=>cif (ns.length<=306/\(dd ns).length<64) (some (.list ((srt (dd ns)).map PyData.int))) none
 |_=>none
def qkQ {te:TE3} (a:PuE te):PuE (qhV te):=⟨λρ=>(a.f ρ).bind qcZ,a.fv,true,λhv hd hf k=>by
 obtain ⟨d,e1,hf⟩:=obb hf;refine a.ok hv hd e1 λx' G1 E1 D1 _=>?_;unfold qcZ at hf;split at hf
 ·obtain ⟨ns,e,hf⟩:=obb hf;unfold cif at hf;split at hf
  ·rename_i c;cases hf;cases D1 with
   |lst g hs=>
    have:=DH e;subst this;have:=hs.ints;subst this;simp only [ze (qo g).2,WL];refine ⟨c.1,c.2,λl ms hl hp hs=>?_⟩;have:ms=srt (dd ns):=MW (hp.trans (RI (dd ns)).symm) hs (qms (dd ns));subst this;exact k _ _ (E1.trans (jk hl)) (ZR (hd.up E1) hl (Dqs.ofInts _)) λ_=>(D6 hl (Dqs.ofInts _)).back E1
  ·cases hf
 ·cases hf⟩
def qit {te:TE3} {a:PuE te}:(qkQ a).f=λρ=>(a.f ρ).bind qcZ:=id rfl
open Bk (Lf Ext)
def the (S:PyData->Prop):Option PyData:=@dite _ (∃ v,S v) (Classical.propDecidable _) (λh=>some (Classical.choose h)) λ_=>none
end Pu
namespace Pu
open PySem L2 L3
open Bk (Lf Ext SD SDs RP K9 NS qcr qbv L5)
end Pu
namespace Pu
open PySem L2 L3
def CD (st:Bool):List PyData->Option PyData
 |[.none]=>some (.str "None")
 |[.bool b]=>some (.str (if b=true then Str.ofString "True" else Str.ofString "False"))
 |[.int i]=>cif (i.natAbs.log2<1920) (some (.str (Str.ofString (toString i)))) none
 |[.str x]=>match st with
  |true=>some (.str x)
  |false=>cif ((reprText x).length<=sizeLine) (some (.str (reprText x))) none
 |[.list ds]=>cif (ShW (.list ds)) (some (.str (PyData.list ds).shown)) none
 |[.tuple ds]=>cif (ShW (.tuple ds)) (some (.str (PyData.tuple ds).shown)) none
 |_=>none
def QA {α:Type} {c:Prop} {x:α} {d:α} (h:cif c (some x) none=some d):c/\x=d:=by
 unfold cif at h;split at h
 ·rename_i z;exact ⟨z,Option.some.inj h⟩
 ·cases h
def qdk (st:Bool):FnD (TJ st):=⟨CD st,false,λ{D G xs ds v q} hx hd hf k=>by
 cases hx with
 |nil=>cases hf
 |cons a b=>
  cases b with
  |cons b1 b2=>cases a<;>cases hf
  |nil=>
   have dp:=λn=>(a.up VI).dp n;have fin:∀ (x:Str) {w:PyData},w=v->w=.str x->q (.str x) G:=λx w e1 e2=>k _ _ Ex.refl (by rw [← e1,e2];exact .str _) (λz=>by cases z);cases a with
   |non=>exact fin _ (Option.some.inj hf) rfl
   |bl b=>exact fin _ (Option.some.inj hf) rfl
   |int i=>exact ⟨(QA hf).1,fin _ (QA hf).2 rfl⟩
   |str x=>
    cases st with
    |true=>exact fin _ (Option.some.inj hf) rfl
    |false=>exact ⟨(QA hf).1,fin _ (QA hf).2 rfl⟩
   |tup hs=>exact ⟨_,dp (qid (QA hf).1.nd),(QA hf).1,fin _ (QA hf).2 rfl⟩
   |lst g hs=>exact ⟨_,dp (qid (QA hf).1.nd),(QA hf).1,fin _ (QA hf).2 rfl⟩
   |clo g hs=>cases hf⟩
def LN {st:Bool}:(qdk st).f=CD st:=id rfl
def qeg {st:Bool}:(qdk st).nw=false:=id rfl
def qlT {st:Bool} {ds:List PyData} (h:ShW (.list ds)):CD st [.list ds]=some (.str (PyData.list ds).shown):=qL h
def qkt {st:Bool} {ds:List PyData} (h:ShW (.tuple ds)):CD st [.tuple ds]=some (.str (PyData.tuple ds).shown):=qL h
theorem log2_lt {n k:Nat} (h:n<2 ^ k) (hk:0<k):n.log2<k:=by
 rcases Nat.eq_zero_or_pos n with z|z
 ·subst z;simpa using hk
 ·exact (Nat.log2_lt (by omega)).mpr h
def qfF {st:Bool} {i:Int} (h:-1000000000<=i/\i<=1000000000):CD st [.int i]=some (.str (Str.ofString (toString i))):=qL (v9 (log2_lt (k:=30) (by omega) (by decide)) (by decide))
def ql7 {x:Str}:CD true [.str x]=some (.str x):=id rfl
def qlP {st:Bool}:CD st [.none]=some (.str "None"):=id rfl
def qlI {st b:Bool}:CD st [.bool b]=some (.str (if b=true then Str.ofString "True" else Str.ofString "False")):=id rfl
theorem qbt:∀ ks:List Int,qc2 (ks.map PyData.int)=0
 |[]=>rfl
 |k::ks=>by simp only [map_cons,qc2,dpt,qbt ks];rfl
theorem qhe:∀ ks js:List Int,ZW (ks.map PyData.int) (js.map PyData.int)=some (decide (ks=js))
 |[],[]=>rfl
 |[],_::_=>by simp [ZW]
 |_::_,[]=>by simp [ZW]
 |k::ks,j::js=>by
  simp only [map_cons,ZW,jP,qhe ks js];congr 1;by_cases h1:k=j<;>by_cases h2:ks=js<;>simp [h1,h2]
def qik (n:Bool) (ks js:List Int):eqD n (.list (ks.map PyData.int)) (.list (js.map PyData.int))=some (.bool (if n then !decide (ks=js) else decide (ks=js))):=by
 have h:qbV (.list (ks.map PyData.int)) (.list (js.map PyData.int))=none:=rfl;unfold eqD;rw [h];simp only;rw [qL (by simp [dpt,qbt])];simp only [jP,qhe,Option.map_some]
def qk0 {xs:List PyData} {j:Nat} (h1:1<=j) (h2:j<=xs.length):L2.atI xs (-(j:Int))=xs[xs.length-j]?:=by
 have e:ixN xs.length (-(j:Int))=some (xs.length-j):=by
  unfold ixN;rw [if_neg (by omega),if_pos (by omega)];congr 1;omega
 unfold L2.atI;rw [e];rfl
def nxM (M:Rho->Nat->Prop):QO:=λo m=>match o with|.nx ρ'=>M ρ' m|_=>False
def qce {M:Rho->Nat->Prop} {ρ:Rho} {n:Nat}:nxM M (.nx ρ) n=M ρ n:=id rfl
def qha {l:Nat} {t u:TS3} {x:PwS l t} {y:PwS l u} {ρ:Rho} {n:Nat} {Q:QO} (M:Rho->Nat->Prop) (h1:x.w ρ n (nxM M)) (h2:∀ ρ' m,M ρ' m->y.w ρ' m Q):(jS x y).w ρ n Q:=by
 rw [qck];refine x.mono h1 λo m h=>?_;cases o with
 |nx ρ'=>exact h2 _ _ h
 |_=>exact h.elim
def qhv {α:Type} (g:α->PyData) (xs:List α):∀ k,enD k (xs.map g)=(xs.zipIdx k).map λp=>PyData.tuple [.int (p.2:Int),g p.1]:=by
 induction xs with
 |nil=>intro k;rfl
 |cons x xs ih=>intro k;simp only [map_cons,enD,List.zipIdx_cons,ih (k+1)]
def qad {α:Type} {xs:List α} {i n:Nat} {x:α} (h:(xs.zipIdx 0)[i]?=some (x,n)):xs[i]?=some x/\n=i/\i<xs.length:=by
 rw [List.getElem?_zipIdx] at h;obtain ⟨c,hc,e⟩:=za1 h;simp only [Nat.zero_add,Prod.mk.injEq] at e;obtain ⟨rfl,rfl⟩:=e;exact ⟨hc,rfl,(za2 hc).1⟩
def qm7 (d e:PyData):Option PyData:=match d,e with
 |.list xs,.int k=>cif ((-(2 ^ 63)<=k/\k<2 ^ 63)/\xs.length*k.toNat<=sizeLine) (some (.list (List.replicate k.toNat xs).flatten)) none
 |_,_=>none
theorem Dqs.rep {G:Gp} {xs:List T} {ds:List PyData} (h:Dqs G xs ds):∀ k,Dqs G (List.replicate k xs).flatten (List.replicate k ds).flatten
 |0=>.nil
 |k+1=>by
  rw [List.replicate_succ,List.flatten_cons,List.replicate_succ,List.flatten_cons];exact h.append (h.rep k)
def qiG:OpD qi0:=⟨qm7,true,λ{D G x y d e v q} hx hy hd hf k=>by
 unfold qm7 at hf;cases hx with
 |lst g hs=>
  cases hy<;>try (simp at hf;done)
  simp only [cif] at hf;split at hf
  ·rename_i c;cases hf;simp only [qi0,(qo g).2];exact ⟨c.1,by rw [hs.length];exact c.2,λp hp=>k _ _ (jk hp) (ZR hd hp (hs.rep _)) λ_=>D6 hp (hs.rep _)⟩
  ·cases hf
 |_=>simp at hf⟩
def qhu:qiG.f=qm7:=id rfl
def qez:qiG.nw=true:=id rfl
def ql1 {xs:List PyData} {lo hi:Option Int}:slD (.list xs) lo hi=some (.list (VL xs lo hi)):=id rfl
def qgc {xs ys:List PyData} (h:xs.length+ys.length<=16777216):qaW (.list xs) (.list ys)=some (.list (xs++ys)):=qL (by rw [y9];exact h)
def qaM (d e:PyData):Option PyData:=match d,e with
 |.list ds,.int z=>(YV ds).map λns=>.int (match ns with|[]=>z|m::r=>mx (m::r))
 |_,_=>none
def qgA:OpD qaL:=⟨qaM,false,λ{D G x y d e v q} hx hy hd hf k=>by
 unfold qaM at hf;split at hf
 ·obtain ⟨ns,e,hf⟩:=za1 hf;subst hf;cases hx;cases hy;rename_i g hs;have:=DH e;subst this;have:=hs.ints;subst this;simp only [qaL,ze (qo g).2,WL];cases ns with
  |nil=>exact ⟨λ_=>k _ _ Ex.refl (.int _) (λz=>by cases z),λm hm=>(by cases hm)⟩
  |cons n r=>
   refine ⟨λz=>(by cases z),λm hm hl=>?_⟩;have:m=mx (n::r):=Int.le_antisymm (N7 hm) (hl _ (EO (by simp)));subst this;exact k _ _ Ex.refl (.int _) (λz=>by cases z)
 ·cases hf⟩
def qeS:qgA.f=qaM:=id rfl
def qjl {ns:List Int} {z:Int}:qaM (.list (ns.map PyData.int)) (.int z)=some (.int (match ns with|[]=>z|m::r=>mx (m::r))):=by simp only [qaM,WJ,Option.map_some]
def qhc (s:String):((Str.ofString s).cps.toList.all λc=>decide (c<16 ^ 8))=true:=by
 rw [Str.ofString_eq_toList];rw [List.all_eq_true];intro c hc;obtain ⟨x,_,rfl⟩:=mem_map.mp hc;have h:x.val.toNat<2 ^ 32:=x.val.toNat_lt;have e:16 ^ 8=4294967296:=by decide
 have e2:x.toNat=x.val.toNat:=rfl;rw [decide_eq_true_eq,e2,e];exact h
def qh4 (k:Nat) {i:Int} (h:-1000000<=i/\i<=1000000):Bk.SD k 13 (.str (Str.ofString (toString i))):=by
 refine Bk.L5 k 13 ?_ (qhc _);have:=PyProof.Rows.intsShortAll_ints2 [i] (by intro n hn;simp at hn;subst hn;omega);simp only [map_cons,List.map_nil,PyData.intsShortAll,PyData.intsShort,Bool.and_true,decide_eq_true_eq] at this;exact this
def qa9 {ds:List PyData} {r:Int} (h0:0<=r) (h1:r<(ds.length:Int)):∃ v∈ds,L2.atI ds r=some v:=by
 obtain ⟨j,rfl⟩:=Int.eq_ofNat_of_zero_le h0;have hj:j<ds.length:=by omega
 exact ⟨ds[j],List.getElem_mem hj,by rw [atN hj,v4 hj]⟩
def KL {ds:List PyData} {r:Int} {P:PyData->Prop} (n:Nat) (hl:ds.length=n) (h0:0<=r) (h1:r<(n:Int)) (h:∀ v∈ds,P v):∃ v,L2.atI ds r=some v/\P v:=by
 obtain ⟨v,hv,e⟩:=qa9 (ds:=ds) h0 (by rw [hl];exact h1);exact ⟨v,e,h v hv⟩
def qcg {xs:List PyData} {lo hi:Option Int} {d:PyData} (h:d∈VL xs lo hi):d∈xs:=List.mem_of_mem_drop (List.mem_of_mem_take h)
def qnh (d:PyData):Option PyData:=match d with|.list xs=>some (.list xs.reverse)|.tuple xs=>some (.tuple xs.reverse)|_=>none
def qnb {te:TE3} (a:PuE te):PuE (qm4 te (sp3 (u3 qdF (c3 (.int 1))))):=⟨λρ=>(a.f ρ).bind qnh,a.fv,false,λ{D τ ρ G q d} hv hd hf k=>by
 obtain ⟨v,e1,hf⟩:=obb hf;unfold qnh at hf;split at hf
 ·cases hf;refine a.ok hv hd e1 λx G1 E1 D1 _=>?_;cases D1 with
  |lst g hs=>
   simp only [sp3,u3,qdF,c3,ze (qo g).2];exact ⟨trivial,λp hp=>k _ _ (E1.trans (jk hp)) (ZR (hd.up E1) hp hs.rev) (λz=>by cases z)⟩
 ·cases hf;refine a.ok hv hd e1 λx G1 E1 D1 _=>?_;cases D1 with
  |tup hs=>
   simp only [sp3,u3,qdF,c3];exact ⟨trivial,k _ _ E1 (.tup hs.rev) (λz=>by cases z)⟩
 ·cases hf⟩
def qfa {te:TE3} {a:PuE te}:(qnb a).f=λρ=>(a.f ρ).bind qnh:=id rfl
def qcn {te:TE3} {a:PuE te}:(qnb a).nw=false:=id rfl
def KC (d e:PyData):Option PyData:=match d,e with
 |.tuple xs,.tuple ys=>cif (xs.length+ys.length<=sizeLine) (some (.tuple (xs++ys))) none
 |.list xs,.list ys=>cif (xs.length+ys.length<=sizeLine) (some (.list (xs++ys))) none
 |.int i,.int j=>some (.int (i+j))
 |_,_=>none
def jm:OpD ZZ:=⟨KC,false,λ{D G x y d e v q} hx hy hd hf k=>by
  unfold KC at hf;cases hx with
  | int i => cases hy <;> try (simp at hf;done)
             cases hf;exact k _ _ Ex.refl (.int _) (λz=>by cases z)
  |tup hs=>
    cases hy<;>try (simp at hf;done)
    rename_i hs2;simp only [cif] at hf;split at hf
    · rename_i c;cases hf;exact ⟨by rw [hs.length,hs2.length];exact c,k _ _ Ex.refl (.tup (hs.append hs2)) (λz=>by cases z)⟩
    · cases hf
  |lst g hs=>
    cases hy<;>try (simp at hf;done)
    rename_i g2 hs2;simp only [cif] at hf;split at hf
    · rename_i c;cases hf;simp only [ZZ,(qo g).2,(qo g2).2];exact ⟨by rw [hs.length,hs2.length];exact c,λp hp=>k _ _ (jk hp) (ZR hd hp (hs.append hs2)) (λz=>by cases z)⟩
    · cases hf
  |_=>simp at hf⟩
def slA (d:PyData) (lo hi:Option Int):Option PyData:=match d with
 |.tuple xs=>some (.tuple (VL xs lo hi))
 |.list xs=>some (.list (VL xs lo hi))
 |_=>none
def qfq {te:TE3} {tl th:TO3} (a:PuE te) (l:PuO tl) (h:PuO th):PuE (SI te tl th):=⟨λρ=>(a.f ρ).bind λd=>(l.f ρ).bind λlo=>(h.f ρ).bind λhi=>slA d lo hi,a.fv++(l.fv++h.fv),false,λhv hd hf k=>by
 obtain ⟨d,e1,hf⟩:=obb hf;obtain ⟨lo,e2,hf⟩:=obb hf;obtain ⟨hi,e3,hf⟩:=obb hf;refine a.ok hv.l hd e1 λx' G1 E1 D1 _=>l.ok (hv.r.l.up E1) (hd.up E1) e2 λG2 E2=>h.ok (hv.r.r.up (E1.trans E2)) (hd.up (E1.trans E2)) e3 λG3 E3=>?_;have E:=(E1.trans E2).trans E3;have D3:=(D1.up (zC E2)).up (zC E3);unfold slA at hf;cases D3 with
 |tup hs=>
  simp only at hf;cases hf;exact k _ _ E (.tup (hs.cut _ _)) (λz=>by cases z)
 |lst g hs=>
  simp only at hf;cases hf;simp only [qnL,ze (qo g).2];intro p hp;exact k _ _ (E.trans (jk hp)) (ZR (hd.up E) hp (hs.cut _ _)) (λz=>by cases z)
 |_=>simp at hf⟩
def Q6:jm.f=KC:=id rfl
def QQ:jm.nw=false:=id rfl
def MI {te:TE3} {tl th:TO3} {a:PuE te} {l:PuO tl} {h:PuO th}:(qfq a l h).f=λρ=>(a.f ρ).bind λd=>(l.f ρ).bind λlo=>(h.f ρ).bind λhi=>slA d lo hi:=id rfl
def LH {te:TE3} {tl th:TO3} {a:PuE te} {l:PuO tl} {h:PuO th}:(qfq a l h).nw=false:=id rfl
def qnY {xs:List PyData} {lo hi:Option Int}:slA (.tuple xs) lo hi=some (.tuple (VL xs lo hi)):=id rfl
def qmR {xs ys:List PyData} (h:xs.length+ys.length<=16777216):KC (.tuple xs) (.tuple ys)=some (.tuple (xs++ys)):=qL h
end Pu
namespace L3
open PySem PySem.Spec PyProof.Rows L2
section
variable {X:Cx}
end
end L3
namespace Pu
open PySem L2 L3
def wNo:Wm:=⟨λ_ _ _=>False,λh _=>h⟩
def Fn3.dz {P:Program} {w:World} {K:Frg} {mg:Str->Option Value} {base:Heap} {k:Nat} {x:Str} {sp:Sp3} (F:Fn3 P w K mg base k x sp) (fr:Bool):Fn3 P w K mg base k x (DSp wNo.W fr):=F.imp λts G q ⟨_,_,_,_,_,_,_,_,_,_,_,h,_⟩=>h.elim
def qkn {r:List T->Gp->Q3->Prop} {tb ti:TE3} {tr:TA3} (R:FnD r) (i:Nat) (b:PuE tb) (QG:PuA tr) (c:PuE ti) (m:List Bool) (hm:Tru (QG.fv.all (mkb m))) :
  PuS (za (cb3 r (qc (o3 ix3 (v3 i) tb) tr)) (ET (v3 i) ti)):=
 ⟨λ_ ρ=>(b.f ρ).bind λkb=>(asI kb).bind λkb=>(slot ρ i).bind λds=>(L2.atI ds kb).bind λx=>(QG.f ρ).bind λes=>(R.f (x::es)).bind λd=>(c.f ρ).bind λk=>qlo i k d (dm m ρ),λ{D G0 A τ ρ G n o e} h hf k=>by
 obtain ⟨kb,e1,hf⟩:=obb hf;obtain ⟨kk,e2,hf⟩:=obb hf;obtain ⟨ds,e3,hf⟩:=obb hf;obtain ⟨x,e4,hf⟩:=obb hf;obtain ⟨es,e5,hf⟩:=obb hf;obtain ⟨d,e6,hf⟩:=obb hf;obtain ⟨kd,e7,hf⟩:=obb hf;unfold qlo at hf;obtain ⟨kc,e8,hf⟩:=obb hf;obtain ⟨ds',e9,hf⟩:=obb hf;obtain ⟨j,e10,hf⟩:=obb hf;cases hf;have:=T5 e2;subst this;have:=T5 e8;subst this;obtain ⟨p,xs,bb,cc,g,f⟩:=h.ow i _ (YT e3);have h1:=h.dem m;obtain ⟨p',xs',bb',cc',g',f'⟩:=h1.ow i _ (YT e9);have pp:p=p':=by rw [cc] at cc';cases cc';rfl
 subst pp;have less:∀ q,AD D (Ad m A) q->AD D A q:=λq z=>by
  rcases z with z|⟨k,z⟩
  ·exact .inl z
  ·exact .inr ⟨k,(qkV z).1⟩
 show za (cb3 r (qc (o3 ix3 (v3 i) tb) tr)) (ET (v3 i) ti) e τ G;simp only [za,cb3,qc,o3,v3,cc];refine b.ok (h.viewAll _) h.domD e1 λy G1 E1 D1 _=>?_;cases D1;obtain ⟨t,e11,r1⟩:=(f.up (zC E1)).atI e4;simp only [ix3,ze (E1 _ _ g),e11];refine QG.ok ((h.up E1).viewD hm) ((h.up E1).dem m).dom e5 λts G2 E2 D2=>?_;have r2:=(r1.up (zt less)).up (zC E2);refine R.ok (.cons r2 D2) ((((h.up E1).up E2).dem m).dom) e6 λz G3 E3 D3 _=>?_;simp only [ET,v3,cc];refine c.ok ((((h.up E1).up E2).up E3).viewAll _) (((h.up E1).up E2).up E3).domD e7 λy4 G4 E4 D4 _=>?_;cases D4;have E:Ex G G4:=((E1.trans E2).trans E3).trans E4;simp only [qgQ,E _ _ g',f'.length,e10];exact k _ _ _ ((h1.up E).wr bb' cc ((f'.up (zC E)).set j (D3.up (zC E4))))⟩
def qh5 {r:List T->Gp->Q3->Prop} {tb ti:TE3} {tr:TA3} {R:FnD r} {i:Nat} {b:PuE tb} {QG:PuA tr} {c:PuE ti} {m:List Bool} {hm:Tru (QG.fv.all (mkb m))}:(qkn R i b QG c m hm).f=λ_ ρ=>(b.f ρ).bind λkb=>(asI kb).bind λkb=>(slot ρ i).bind λds=>(L2.atI ds kb).bind λx=>(QG.f ρ).bind λes=>(R.f (x::es)).bind λd=>(c.f ρ).bind λk=>qlo i k d (dm m ρ):=id rfl
end Pu
namespace L3
open PySem PySem.Spec PyProof.Rows L2
section
variable {X:Cx}
end
section
variable {X:Cx} {a b:Expr} {ta tb:TE3} {pos:Pos}
end
end L3
namespace Pu
open PySem L2 L3
end Pu
namespace L3
open PySem PySem.Spec PyProof.Rows L2 PySem.SeqAt
section
variable {X:Cx} {a b:Expr} {ta tb:TE3} {pos:Pos}
end
end L3
namespace Pu
open PySem L2 L3
end Pu
namespace L3
open PySem PySem.Spec PyProof.Rows L2
section
variable {X:Cx} {a b e:Expr} {ta tb te:TE3} {pos:Pos}
end
end L3
namespace Pu
open PySem L2 L3
end Pu
namespace L3
open PySem PySem.Spec PyProof.Rows L2
section
variable {X:Cx} {a b:Expr} {ta tb:TE3} {pos:Pos}
end
end L3
namespace Pu
open PySem L2 L3
end Pu
namespace L3
open PySem PySem.Spec PyProof.Rows L2
section
variable {X:Cx}
end
end L3
namespace Pu
open PySem L2 L3
end Pu
namespace L3
open PySem PySem.Spec PyProof.Rows L2
def ev {α:Type}:List α->List α
 |[]=>[]
 |[x]=>[x]
 |x::_::r=>x::ev r
section
variable {X:Cx} {e el ek:Expr} {p2 pos:Pos}
end
end L3
namespace Pu
open PySem L2 L3
end Pu
namespace L3
open PySem PySem.Spec PyProof.Rows L2
section
variable {X:Cx} {pos:Pos} {e:Expr} {te:TE3}
end
end L3
namespace Pu
open PySem L2 L3
open Bk (Lf Ext)
end Pu
namespace L3
open PySem PySem.Spec PyProof.Rows L2
section
variable {X:Cx} {pos:Pos} {o i e:Expr} {to ti te:TE3}
end
section
variable {K:Frg} {G G':Gp} {H H':Hp}
def qoq (kvs:List (Int×T)):List Key:=kvs.map λp=>(Sum.inl p.1:Key)
def qnF (kvs:List (Int×T)):List T:=kvs.map λp=>p.2
theorem HR.dct (hr:HR K G H) {p:Addr} {kvs:List (Int×T)} (g:G p=some (.dct kvs)):∃ vs,H p=some (.dK ((qoq kvs).zip vs))/\Rps K H (qnF kvs) vs:=hr p _ g
end
section
variable {X:Cx} {pos:Pos} {o i e:Expr} {to ti te:TE3}
variable {es:List Expr} {t:TA3}
end
end L3
namespace Pu
open PySem L2 L3
section
variable {D:Addr->Prop} {G0 G G':Gp} {A A':Nat->Addr->Prop} {τ:St3} {ρ:Rho}
end
end Pu
namespace Hd
open PySem L2 L3 PySem.W PySem.Spec PySem.Calls PyProof.Rows
def c1 (P:Params) (M:Str) (q:Nat) (nm:Str) (t:Nat) (ln:Int) (r:Nat):Obj:=oD P 4 [(.str "__module__" (t+7),.str M q),(.str "__qualname__" (t+9),.str nm (t+8)),(.str "__firstlineno__" (t+11),.int ln (t+10)),(.str "__static_attributes__" (t+12),.ref (r+7))]
def c2 (nm:Str) (t:Nat) (ln:Int) (r:Nat):Obj:=oC [.str nm (t+2),.str nm (t+3),.str "/claim/cut.py" (t+4),.int ln 0,.int 0 0,.int 0 0,.int 0 0,.int 0 0,.ref (r+3),.bool false,.int 181 0,.ref (r+4),.none,.none,.none,.none,.int (t+5:Nat) 0,.int ln 0,.str "/claim/cut.py" (t+6)]
def c4 (P:Params) (M:Str) (q t:Nat) (ln:Int) (r:Nat):Obj:=oD P 2 [(.str "__module__" (t+7),.str M q),(.str "__firstlineno__" (t+11),.int ln (t+10)),(.str "__static_attributes__" (t+12),.ref (r+7)),(.str "__doc__" (t+13),.none)]
def c5 (nm:Str) (b t r:Nat):Obj:=⟨.type "type",none,.cls ({ name:=nm,bases:=[Value.ref b],mro:=[Value.ref (r+9),Value.ref b,Value.type "ValueError",Value.type "Exception",Value.type "BaseException",Value.type "object"],ns:=r+8,qualname:=nm }),#[some (.ref r),none,some (.str nm t),some (.str nm (t+8)),some (.builtin "ValueError.__new__"),some (.bool true)]⟩
def oM (P:Params) (n:Nat) (M:Str) (q:Nat) (es:List (Value×Value)):Obj:=oD P n ([(.str "__name__" 165,.str M q),(.str "__doc__" 166,.none),(.str "__package__" 167,.none),(.str "__loader__" 168,.builtin "__main__.__loader__#opaque"),(.str "__spec__" 169,.none),(.str "__annotations__" 170,.ref 6),(.str "__builtins__" 171,.ref 4),(.str "__file__" 173,.str "/claim/cut.py" 172),(.str "__cached__" 174,.none)]++es)
theorem e {K:Frg} {h:Heap} {mg:Str->Option Value} (X:K.In h) (G:h.Ns mainGlobals mg) (x:Str) (st:Stmt) (ps:List Str) (f:Addr) (pm cd:Value) (l:K.lookup f=some (oF x st pm cd):=by kernel_rfl) (c:PySem.W.codeIn K cd x=true:=by kernel_rfl) (k:PySem.W.keepIn K (.ref f)=true:=by kernel_rfl) (e:PySem.W.nsIn K mainGlobals x=some (some (.ref f)):=by kernel_rfl)
  (b:∀ (kV doc pm:Value) (an:Option Addr) (cdv ct:Value) (us:List Value),us.length=ps.length->bindArgs (PySem.W.fnOf x x (QF st) (zo st) (qh st) .none kV doc pm an cdv ct) ⟨us,[]⟩=pure (ps.zip us):=by exact λ_ _ _ _ _ _ us hl=>by first|(obtain ⟨_,rfl⟩:=Pu.qja hl;rfl)|(obtain ⟨_,_,rfl⟩:=Pu.qoE hl;rfl)|(obtain ⟨_,_,_,rfl⟩:=Pu.qpi hl;rfl)|(obtain ⟨_,_,_,_,rfl⟩:=Pu.qpb hl;rfl)|(obtain ⟨_,_,_,_,_,rfl⟩:=Pu.qpd hl;rfl)|(obtain ⟨_,_,_,_,_,_,rfl⟩:=Pu.qqd hl;rfl)) :
  Fb K mg x st ps f (PySem.W.fnOf x x (QF st) (zo st) (qh st) .none .none .none pm none cd .none):=⟨qcF l c k,(qcF l c k).binds b,PySem.W.mg_of X G e⟩
end Hd
namespace Pu
open PySem L2 L3
open Bk (Lf Ext)
section
variable {D:Addr->Prop} {G0 G:Gp} {A:Nat->Addr->Prop} {τ:St3} {ρ:Rho}
end
section
variable {l:Nat}
end
def qfc {l:Nat} {t:TE3} (b:PuE t) (i j:Nat) (hl:Tru (i != l&&(i != 0&&(j != l&&j != 0)))):PwS l (za (XJ (qc t (qc (jO qj) qj))) (J5 2 (qU (gn3 i) (qU (gn3 j) J4)))):=⟨λρ n Q=>∃ d,b.f ρ=some d/\RW d=true/\Q (.nx ((ρ.set i (.sh d)).set j (.ow []))) n,λ⟨d,h1,h2,h3⟩ k=>⟨d,h1,h2,k _ _ h3⟩,λ{a z0 D G0 A τ ρ G n e Q} h ⟨d,h1,h2,hq⟩ k=>by
 obtain ⟨il,i0,jl,j0⟩:i≠l/\i≠0/\j≠l/\j≠0:=by simpa using hl.h
 have k:=k _ _ hq;simp only [za,XJ,qc,jO,qj,J5,qU,gn3,J4];have v:=h.all b.fv;refine b.ok v.v v.d h1 λx G1 E1 D1 _=>⟨by simp [y9],λp hp=>⟨by simp [y9],?_⟩⟩
 have r1:=(h.up (Bk.EM E1) (h.lf.ex E1)).put il i0 (WZ D1 h2);have e2:Ex G1 (gu G1 p (.lst [])):=jk hp;obtain ⟨A',r2⟩:=r1.putN jl j0 (x:=.ref p) (d:=.list []) rfl (Bk.EM e2) (r1.lf.ex e2) (.inr ⟨p,[],[],rfl,rfl,hp,qG,.nil⟩);exact ⟨by simp,k _ _ _ r2⟩⟩
def qeW {l:Nat} {t:TE3} {b:PuE t} {i j:Nat} {hl:Tru (i != l&&(i != 0&&(j != l&&j != 0)))}:(qfc b i j hl).w=λρ n Q=>∃ d,b.f ρ=some d/\RW d=true/\Q (.nx ((ρ.set i (.sh d)).set j (.ow []))) n:=id rfl
end Pu
namespace Pv
open PySem L2 L3 Pu
def ZN {lo:Int} {n i:Nat} {x:Int} (h:(XE lo n)[i]?=some x):i<n/\x=lo+i:=by
 unfold XE at h;rw [getElem?_map] at h;obtain ⟨k,e1,e2⟩:=za1 h;obtain ⟨hl,hk⟩:=za2 e1;simp at hl hk;subst hk;exact ⟨hl,e2.symm⟩
def V0 (lo:Int) (n:Nat):(XE lo n).length=n:=by simp [XE]
def ND {n m:Int} (hn:0<=n) (hm:0<=m):Builtin.bitAnd n m=2*Builtin.bitAnd (n/2) (m/2)+n%2*(m%2):=by
 rw [PySem.W.kbt_halves n m];have h1:n%2=0\/n%2=1:=by omega
 have h2:m%2=0\/m%2=1:=by omega
 rcases h1 with h1|h1<;>rcases h2 with h2|h2<;>simp [h1,h2]
def qi9 {x y A A' p:Int} (a:A=2*A'+p) (h:p=0/\x%2+y%2<2\/p=1/\x%2+y%2=2):(x+y-2*A)/2=x/2+y/2-2*A':=by omega
def qoQ (x y A:Int):(x+y-2*A)%2=(x%2+y%2)%2:=by rw [Int.sub_mul_emod_self_left,Int.add_emod]
def DL {x y:Int} (hx:0<=x) (hy:0<=y):0<=Builtin.bitXor x y/\Builtin.bitXor x y%2=(x%2+y%2)%2/\Builtin.bitXor x y/2=Builtin.bitXor (x/2) (y/2):=by
 have a:=ND hx hy;have s:=PyProof.Rows.bitAnd_range x hy;have s2:=PyProof.Rows.bitAnd_range y hx;rw [PyProof.Rows.bitAnd_comm y x] at s2;rw [PyProof.Rows.bitXor_and x y,PyProof.Rows.bitXor_and (x/2) (y/2)];refine ⟨by have:=s.2;have:=s2.2;clear a s s2;omega,qoQ _ _ _,qi9 a ?_⟩;rcases Int.emod_two_eq x with h1|h1<;>rcases Int.emod_two_eq y with h2|h2<;>rw [h1,h2]<;>decide
theorem qgo:∀ (k:Nat) (x y:Int),0<=x->x<2 ^ k->0<=y->y<2 ^ k->Builtin.bitXor x y<2 ^ k
 |0,x,y,h0,h1,h2,h3=>by
  simp at h1 h3;have e1:x=0:=by omega
  have e2:y=0:=by omega
  subst e1;subst e2;rw [PyProof.Rows.bitXor_self];decide
 |k+1,x,y,h0,h1,h2,h3=>by
  rw [Int.pow_succ] at h1 h3 ⊢;have ih:=qgo k (x/2) (y/2) (by omega) (by omega) (by omega) (by omega);obtain ⟨z0,z1,z2⟩:=DL h0 h2;rw [← z2] at ih;omega
def fl (ks:List Int):List Int:=ks.foldl (λacc m=>acc++acc.map λf=>Builtin.bitXor f m) [0]
def YL (ks:List Int) (m:Int):fl (ks++[m])=fl ks++(fl ks).map λf=>Builtin.bitXor f m:=by simp [fl]
def YQ {n:Nat} {ks:List Int} (h:ks.length=n+1):∃ (k':List Int) (m:Int),ks=k'++[m]/\k'.length=n:=by
 have hne:ks≠[]:=by rintro rfl;simp at h
 exact ⟨ks.dropLast,ks.getLast hne,(List.dropLast_concat_getLast hne).symm,by simp [h]⟩
def SM:∀ (n:Nat) (ks:List Int),ks.length=n->(fl ks).length=2 ^ n:=by
 intro n;induction n with
 |zero=>intro ks h;have:=List.eq_nil_of_length_eq_zero h;subst this;rfl
 |succ n ih=>
  intro ks h;obtain ⟨k',m,rfl,hl⟩:=YQ h;rw [YL,length_append,length_map,ih k' hl,Nat.pow_succ];omega
def qqt {ks:List Int} (hl:ks.length<=8):UF [.list (ks.map PyData.int)]=some (.list ((fl ks).map PyData.int)):=by
 rw [qdZ]
 try simp only [Pu.pwA,CM]
 refine QB (Q:=λo=>ZU true o=_) ks (λi ρ=>∃ s2,ρ=[.sh (.list (ks.map PyData.int)),.ow ((fl (ks.take i)).map PyData.int),s2]) ⟨_,rfl⟩ ?_ ?_
 ·rintro i m ρ hx ⟨s2,rfl⟩;have hi:=(za2 hx).1;have tk:ks.take (i+1)=ks.take i++[m]:=by rw [List.take_succ,hx];rfl
  have ln:=SM i (ks.take i) (by simp;omega);have l8:2 ^ i<=2 ^ 8:=Nat.pow_le_pow_right (by omega) (by omega)
  try simp only [Pu.pwA]
  rw [MT (ds:=(fl (ks.take i)).map PyData.int) (fs:=((fl (ks.take i)).map λf=>Builtin.bitXor f m).map PyData.int) rfl (by
   rw [map_map];refine RQ λf hf=>?_
   try simp only [Pu.pwA,qbQ,Function.comp_def]) (by simp;omega)]
  try simp only [Pu.pwA]
  rw [qlY (by simp;omega)]
  try simp only [Pu.pwA]
  rw [tk,YL,List.map_append];exact ⟨_,rfl⟩
 ·rintro ρ ⟨s2,rfl⟩;rw [List.take_length]
  try simp only [Pu.pwA]
theorem CW:∀ (ms:List Int) (k:Nat),enD k (ms.map PyData.int)=(ms.zipIdx k).map λp=>PyData.tuple [.int (p.2:Int),.int p.1]
 |[],k=>rfl
 |m::ms,k=>by simp only [map_cons,enD,List.zipIdx_cons,CW ms (k+1)]
def nm (s:Nat) (ks:List Int):Int:=(ks.zipIdx 0).foldl (λa p=>Builtin.bitXor a (p.1*((s/2 ^ p.2%2:Nat):Int))) 0
def YK (s:Nat) (ks:List Int) (m:Int):nm s (ks++[m])=Builtin.bitXor (nm s ks) (m*((s/2 ^ ks.length%2:Nat):Int)):=by
 simp [nm,List.zipIdx_append]
def qeE {s r:Nat}:∀ (n:Nat) (ks:List Int),ks.length=n->(∀ t,t<n->s/2 ^ t%2=r/2 ^ t%2)->nm s ks=nm r ks:=by
 intro n;induction n with
 |zero=>intro ks h _;have:=List.eq_nil_of_length_eq_zero h;subst this;rfl
 |succ n ih=>
  intro ks h hb;obtain ⟨k',m,rfl,hl⟩:=YQ h;rw [YK,YK,ih k' hl λt ht=>hb t (by omega),hl,hb n (by omega)]
def qen {n t r:Nat} (h:t<n):(2 ^ n+r)/2 ^ t%2=r/2 ^ t%2:=by
 have e:2 ^ n=2 ^ t*(2*2 ^ (n-t-1)):=by
  rw [← Nat.mul_assoc,Nat.mul_comm (2 ^ t) 2,Nat.mul_assoc,← Nat.pow_add,← Nat.pow_succ'];congr 1;omega
 rw [e,Nat.mul_add_div (Nat.pow_pos (by omega))];omega
def qeG {x:Int} (h:0<=x):Builtin.bitXor x 0=x:=by
 have a:=PyProof.Rows.bitXor_and x 0;have b:=PyProof.Rows.bitAnd_range x (show (0:Int)<=0 by omega);omega
def qeO:∀ (n:Nat) (ks:List Int),ks.length=n->(∀ m∈ks,0<=m)->∀ f∈fl ks,0<=f:=by
 intro n;induction n with
 |zero=>intro ks h _ f hf;have:=List.eq_nil_of_length_eq_zero h;subst this;simp [fl] at hf;omega
 |succ n ih=>
  intro ks h hm f hf;obtain ⟨k',m,rfl,hl⟩:=YQ h;rw [YL] at hf;have ih':=ih k' hl λz hz=>hm z (by simp [hz]);rcases List.mem_append.mp hf with hf|hf
  ·exact ih' f hf
  ·obtain ⟨g,hg,rfl⟩:=mem_map.mp hf;exact (DL (ih' g hg) (hm m (by simp))).1
def qog:∀ (n:Nat) (ks:List Int),ks.length=n->(∀ m∈ks,0<=m)->∀ s,s<2 ^ n->(fl ks)[s]?=some (nm s ks):=by
 intro n;induction n with
 |zero=>
  intro ks h _ s hs;have:=List.eq_nil_of_length_eq_zero h;subst this;have:s=0:=by simpa using hs
  subst this;rfl
 |succ n ih=>
  intro ks h hm s hs;obtain ⟨k',m,rfl,hl⟩:=YQ h;have hm':∀ z∈k',0<=z:=λz hz=>hm z (by simp [hz]);have ln:=SM n k' hl;rw [YL,YK,hl];rcases Nat.lt_or_ge s (2 ^ n) with z|z
  ·rw [List.getElem?_append_left (by omega),ih k' hl hm' s z];have e:s/2 ^ n%2=0:=by rw [Nat.div_eq_of_lt z]
   have nn:0<=nm s k':=qeO n k' hl hm' _ (u4 (ih k' hl hm' s z));rw [e];simp only [Int.natCast_zero,Int.mul_zero];rw [qeG nn]
  ·obtain ⟨r,rfl⟩:∃ r,s=2 ^ n+r:=⟨s-2 ^ n,by omega⟩
   rw [Nat.pow_succ] at hs;have hr:r<2 ^ n:=by omega
   rw [List.getElem?_append_right (by omega),ln,Nat.add_sub_cancel_left,getElem?_map,ih k' hl hm' r hr];have e:(2 ^ n+r)/2 ^ n%2=1:=by
    rw [Nat.add_div_left _ (Nat.pow_pos (by omega)),Nat.div_eq_of_lt hr]
   rw [e,qeE n k' hl λt ht=>qen ht];simp
def qoi {ks:List Int} (hm:∀ m∈ks,0<=m):fl ks=(List.range (2 ^ ks.length)).map λs=>nm s ks:=by
 refine List.ext_getElem? λs=>?_;have ln:=SM ks.length ks rfl;rcases Nat.lt_or_ge s (2 ^ ks.length) with z|z
 ·rw [qog ks.length ks rfl hm s z,getElem?_map,List.getElem?_range z];rfl
 ·rw [List.getElem?_eq_none (by omega),List.getElem?_eq_none (by simp;omega)]
def qee (x y:Int):Builtin.bitXor x y=Builtin.bitXor y x:=by
 rw [PyProof.Rows.bitXor_and x y,PyProof.Rows.bitXor_and y x,PyProof.Rows.bitAnd_comm x y];omega
def C6 (a:Nat):∀ b:Nat,Builtin.bitXor (a:Int) (b:Int)=((a ^^^ b:Nat):Int):=by
 induction a using Nat.strongRecOn with
 |ind a ih=>
  intro b;by_cases h:a=0
  ·subst h;rw [qee,Nat.zero_xor];exact qeG (Int.natCast_nonneg b)
  ·have s:=DL (Int.natCast_nonneg a) (Int.natCast_nonneg b);have i:=ih (a/2) (by omega) (b/2);have d:=Nat.xor_div_two (a:=a) (b:=b);have m:=Nat.xor_mod_two_eq_one (a:=a) (b:=b);rw [← d] at i;have m2:(a ^^^ b)%2=(a%2+b%2)%2:=by
    rcases Nat.mod_two_eq_zero_or_one a with h1|h1<;>rcases Nat.mod_two_eq_zero_or_one b with h2|h2<;>rcases Nat.mod_two_eq_zero_or_one (a ^^^ b) with h3|h3<;>simp [h1,h2,h3] at m ⊢
   have e:(((a ^^^ b)/2:Nat):Int)=Builtin.bitXor (a:Int) b/2:=i.symm.trans s.2.2.symm;have s2:=s.2.1;clear i d m s ih h;omega
theorem xor_assoc {x y z:Int} (hx:0<=x) (hy:0<=y) (hz:0<=z):Builtin.bitXor (Builtin.bitXor x y) z=Builtin.bitXor x (Builtin.bitXor y z):=by
 obtain ⟨a,rfl⟩:=Int.eq_ofNat_of_zero_le hx;obtain ⟨b,rfl⟩:=Int.eq_ofNat_of_zero_le hy;obtain ⟨c,rfl⟩:=Int.eq_ofNat_of_zero_le hz;rw [C6,C6,C6,C6,Nat.xor_assoc]
def qcy {x y:Int} (hx:0<=x) (hy:0<=y):Builtin.bitXor (Builtin.bitXor x y) y=x:=by
 rw [xor_assoc hx hy hy,PyProof.Rows.bitXor_self,qeG hx]
def qhh {x y m:Int} (hx:0<=x) (hy:0<=y) (hm:0<=m) (h:Builtin.bitXor x m=Builtin.bitXor y m):x=y:=by
 rw [← qcy hx hm,h,qcy hy hm]
def qp1:∀ (n:Nat) (cs:List Int),cs.length=n->∃ r,fl cs=0::r:=by
 intro n;induction n with
 |zero=>intro cs h;have:=List.eq_nil_of_length_eq_zero h;subst this;exact ⟨_,rfl⟩
 |succ n ih=>
  intro cs h;obtain ⟨k',m,rfl,hl⟩:=YQ h;obtain ⟨r,e⟩:=ih k' hl;rw [YL,e];exact ⟨_,rfl⟩
end Pv
namespace K50
open PySem L2 L3 Bk
def top (i : Nat) : Stmt := PySem.Challenge.pw_bankwalk_k50_trees_spoilt_anywhere.main.body.getD i (.Pass ⟨0,0,0,0⟩)
variable {P:Program} {w:World} {K:Frg} {mg:Str->Option Value} {base:Heap} {f:Addr} {fd:FuncData} {k:Nat} {sp:Sp3}
section
variable (m0:mg "isinstance" = none) (m1:mg "bool" = none) (m2:mg "int" = none) (m3:mg "enumerate" = none) {S4:Sp3} (V4:Fn3 P w K mg base k "flips" S4) (m5:mg "max" = none) (m6:mg "min" = none) {S7:Sp3} (V7:Fn3 P w K mg base k "led_to" S7) (m8:mg "len" = none) {S9:Sp3} (V9:Fn3 P w K mg base k "is_led_to_0" S9) {S10:Sp3} (V10:Fn3 P w K mg base k "is_number" S10) {S11:Nat->Option Sp3} (V11:WE P w K mg base k S11) {S12:Sp3} (V12:Fn3 P w K mg base k "searched" S12) (m13:mg "range" = none) (m14:mg "tuple" = none) {S15:Sp3} (V15:Fn3 P w K mg base k "span_flips" S15) (l_0:K7 K 0=some (Hd.TW "image_for.<locals>.<lambda>" (top 14) 0)) (l_1:K7 K 1=some (Hd.TW "image_for.<locals>.<lambda>" (top 14) 1)) (T_image_for:TabAt K mg base 79 "image_for.<locals>.<lambda>") {S19:Sp3} (V19:Fn3 P w K mg base k "is_tree" S19) (l_2:K7 K 2=some (Hd.TW "shows_no_image.<locals>.<lambda>" (top 17) 0)) (l_3:K7 K 3=some (Hd.TW "shows_no_image.<locals>.<lambda>" (top 17) 1)) (T_shows_no_image:TabAt K mg base 93 "shows_no_image.<locals>.<lambda>") (m23:mg "abs" = none) {S24:Sp3} (V24:Fn3 P w K mg base k "_law_mix" S24) {S25:Sp3} (V25:Fn3 P w K mg base k "_law_two" S25) {S26:Sp3} (V26:Fn3 P w K mg base k "_law_pick" S26) {S27:Sp3} (V27:Fn3 P w K mg base k "_law_flips" S27) (m28:mg "sorted" = none) (m29:mg "set" = none) {S30:Sp3} (V30:Fn3 P w K mg base k "_law_spans" S30) {S31:Sp3} (V31:Fn3 P w K mg base k "_law_last" S31) {S32:Sp3} (V32:Fn3 P w K mg base k "_law_bars" S32) {S33:Sp3} (V33:Fn3 P w K mg base k "_law_whole" S33) {S34:Sp3} (V34:Fn3 P w K mg base k "_law_led" S34) {S35:Sp3} (V35:Fn3 P w K mg base k "_law_paths" S35) (m36:mg "list" = none) {S37:Sp3} (V37:Fn3 P w K mg base k "_law_put" S37) (m38:mg "str" = none) {S39:Sp3} (V39:Fn3 P w K mg base k "_law_part" S39) {S40:Sp3} (V40:Fn3 P w K mg base k "_law_otherwise" S40) {S41:Sp3} (V41:Fn3 P w K mg base k "_law_grown" S41) {S42:Sp3} (V42:Fn3 P w K mg base k "_law_left" S42) {S43:Sp3} (V43:Fn3 P w K mg base k "_law_lot" S43) {S44:Sp3} (V44:Fn3 P w K mg base k "_law_bad" S44) {S45:Sp3} (V45:Fn3 P w K mg base k "image_for" S45) {S46:Sp3} (V46:Fn3 P w K mg base k "shows_no_image" S46) {S47:Sp3} (V47:Fn3 P w K mg base k "_law_spoilt" S47) {S48:Sp3} (V48:Fn3 P w K mg base k "image_choices" S48) {S49:Sp3} (V49:Fn3 P w K mg base k "first_led_to_0" S49) {S50:Sp3} (V50:Fn3 P w K mg base k "is_lost" S50)
abbrev jU:Stmt:=top 1
abbrev ZE:List Str:=["thing"]
abbrev YZ:List Str:=["thing"]
def SL:FnScope ZE YZ (qh jU):=Hd.sc0
def SV (E:Hd.Fb K mg "is_number" jU YZ f fd) (read:Rd sp 1 (Bk.jf) ZE):Fn3 P w K mg base (k+1) "is_number" sp:=
 Hd.jfE E SL read λcdv A outer s H E hr=>(qk (qu (WU (YC (qb 0) rfl m0 rfl m2 PyProof.Rows.boot_int) (X9 (qgL (YC (qb 0) rfl m0 rfl m1 PyProof.Rows.boot_bool))))))
abbrev DI:Stmt:=top 7
abbrev qbK:List Str:=["marks","told","mark"]
abbrev LO:List Str:=["marks"]
def DR:FnScope qbK LO (qh DI):=Hd.sc0
def qeo (E:Hd.Fb K mg "flips" DI LO f fd) (read:Rd sp 1 (Pv.KP) qbK):Fn3 P w K mg base (k+1) "flips" sp:=
 Hd.jfE E DR read λcdv A outer s H E hr=>(qg (qp 1 DR.nd (qF (qa qf qd))) (qg (z9 PassesOwn.never rfl (J9 (qb 0)) (qr (i:=2) (DR.nd)) (qk (qp 1 DR.nd (zh (qb 1) (qiV ["flip","mark"] [none,some 2] rfl (J9 (qb 1)) (λ_ _ _=>(jgn 0)) (λ_ _ _=>R0) (λ_ _ _=>(MU (qb 0) (qb 1))) (by kernel_rfl) (by kernel_rfl)))))) (qk (qu (qb 1)))))
abbrev V2:Stmt:=top 9
abbrev DP:List Str:=["numbers","x","told","t","number"]
abbrev CQ:List Str:=["numbers","x"]
def Z1:FnScope DP CQ (qh V2):=Hd.sc0
def CZ:TS3:=(qK (za (c3 (.int 0)) (gn3 2)) (qK (EX (EJ (qc (v3 0) qj)) (J5 2 (qU (gn3 3) (qU (gn3 4) J4))) (Z5 (tb3 (o3 (ZP false) (o3 (iI Builtin.bitAnd) (o3 (iC (λ_ j=>0<=j) (λi j=>i/2 ^ j.toNat)) (v3 1) (v3 3)) (c3 (.int 1))) (c3 (.int 1)))) (za (o3 (iI Builtin.bitXor) (v3 2) (v3 4)) (gn3 2)) zE)) (zB (v3 2))))
def qbU (E:Hd.Fb K mg "led_to" V2 CQ f fd) (read:Rd sp 2 (CZ) DP):Fn3 P w K mg base (k+1) "led_to" sp:=
 Hd.jfE E Z1 read λcdv A outer s H E hr=>(qg (qp 2 Z1.nd qf) (qg (z9 PassesOwn.never rfl (UN rfl m3 (qa (qb 0) qd)) (JE rfl (qS (qr (i:=3) (Z1.nd)) (qS (qr (i:=4) (Z1.nd)) JG))) (qk (jb (qO (zT hr.units) zi (qiQ (qjc (qb 1) (qb 3)) qf) qf (qz _)) (qk (qp 2 Z1.nd (MU (qb 2) (qb 4)))) zr))) (qk (qu (qb 2)))))
abbrev jx:Stmt:=top 10
abbrev j6:List Str:=["spans"]
abbrev JH:List Str:=["spans"]
def RR:FnScope j6 JH (qh jx):=Hd.sc0
def Z8 (S4:Sp3):TS3:=(zB (qk8 (U7 (v3 0)) (gn3 0) tt3 (U7 (qnf (cb3 S4 (qc (v3 0) qj)) (sp3 (c3 (.int 1))) np3)) (gn3 1) tt3 (v3 1) [none,none]))
def CY (E:Hd.Fb K mg "span_flips" jx JH f fd) (read:Rd sp 1 (Z8 S4) j6):Fn3 P w K mg base (k+1) "span_flips" sp:=
 Hd.jfE E RR read λcdv A outer s H E hr=>(qk (qu (qkl ["span","flip"] [none,none] rfl (J9 (qb 0)) (λ_ _ _=>(jgn 0)) (λ_ _ _=>R0) (λ_ _ _=>(J9 (NR (qi V4 hr rfl (qa (qb 0) qd)) (jo qf) UX))) (λ_ _ _=>(jgn 1)) (λ_ _ _=>R0) (λ_ _ _=>(qb 1)) (by kernel_rfl) (by kernel_rfl))))
abbrev zM:Stmt:=top 11
abbrev z5:List Str:=["bits","row","power"]
abbrev jG:List Str:=["bits","row"]
def ZT:FnScope z5 jG (qh zM):=Hd.sc0
def jM:TS3:=(qK (za (o3 (iC qco (λi j=>i*2 ^ j.toNat)) (c3 (.int 1)) (bl3 (o3 qaL (v3 1) (c3 (.int 0))))) (gn3 2)) (zB (cb3 qfV (qc (o3 ZX (v3 2) (c3 (.int 1))) (qc (o3 (iC qco (λi j=>i*2 ^ j.toNat)) (c3 (.int 1)) (v3 0)) qj)))))
def DB (E:Hd.Fb K mg "image_choices" zM jG f fd) (read:Rd sp 2 (jM) z5):Fn3 P w K mg base (k+1) "image_choices" sp:=
 Hd.jfE E ZT read λcdv A outer s H E hr=>(qg (qp 2 ZT.nd (qfb qf (T0 (qio rfl rfl m5 (qb 1) qf)))) (qk (qu (qA (DX rfl) K5 rfl m6 PyProof.Rows.boot_min (qa (zh (qb 2) qf) (qa (qfb qf (qb 0)) qd))))))
abbrev jh:Stmt:=top 12
abbrev jw:List Str:=["row","flip"]
abbrev ZD:List Str:=["row","flip"]
def XH:FnScope jw ZD (qh jh):=Hd.sc0
def QY (S7:Sp3):TS3:=(zB (RJ (o3 (ZP false) (bl3 (v3 1)) (cb3 UD (qc (v3 0) qj))) (o3 (ZP false) (cb3 S7 (qc (v3 0) (qc (v3 1) qj))) (c3 (.int 0)))))
def XR (E:Hd.Fb K mg "is_led_to_0" jh ZD f fd) (read:Rd sp 2 (QY S7) jw):Fn3 P w K mg base (k+1) "is_led_to_0" sp:=
 Hd.jfE E XH read λcdv A outer s H E hr=>(qk (qu (WU (jN (zT hr.units) zi (T0 (qb 1)) (qA qY zv rfl m8 PySem.boot_len (qa (qb 0) qd)) (qz _)) (X9 (jN (zT hr.units) zi (qi V7 hr rfl (qa (qb 0) (qa (qb 1) qd))) qf (qz _))))))
abbrev zA:Stmt:=top 13
abbrev zN:List Str:=["away","row","flip"]
abbrev jt:List Str:=["away","row"]
def QT:FnScope zN jt (qh zA):=Hd.sc0
def jr (S9:Sp3):TS3:=(qK (EX (U7 (v3 0)) (gn3 2) (Z5 (tb3 (cb3 S9 (qc (v3 1) (qc (v3 2) qj)))) (zB (v3 2)) zE)) (zB (c3 .non)))
def UQ (E:Hd.Fb K mg "first_led_to_0" zA jt f fd) (read:Rd sp 2 (jr S9) zN):Fn3 P w K mg base (k+1) "first_led_to_0" sp:=
 Hd.jfE E QT read λcdv A outer s H E hr=>(qg (z9 PassesOwn.never rfl (J9 (qb 0)) (qr (i:=2) (QT.nd)) (qk (jb (j7 (qi V9 hr rfl (qa (qb 1) (qa (qb 2) qd)))) (qk (qu (qb 2))) zr))) (qk (qu Z9)))
abbrev JK:Stmt:=top 16
abbrev VV:List Str:=["away","row","thing"]
abbrev WG:List Str:=["away","row","thing"]
def qaw:FnScope VV WG (qh JK):=Hd.sc0
def D7 (S9:Sp3) (S10:Sp3):TS3:=(zB (RJ (cb3 S10 (qc (v3 2) qj)) (RJ (o3 (in3 false) (v3 2) (v3 0)) (cb3 S9 (qc (v3 1) (qc (v3 2) qj))))))
def qay (E:Hd.Fb K mg "is_lost" JK WG f fd) (read:Rd sp 3 (D7 S9 S10) VV):Fn3 P w K mg base (k+1) "is_lost" sp:=
 Hd.jfE E qaw read λcdv A outer s H E hr=>(qk (qu (WU (qi V10 hr rfl (qa (qb 2) qd)) (WU (jN qcl qcJ (qb 2) (qb 0) (by with_unfolding_all rfl)) (X9 (qi V9 hr rfl (qa (qb 1) (qa (qb 2) qd))))))))
abbrev ZO:Stmt:=top 3
abbrev JZ:List Str:=["many","choices","bar","row","node","number","longer","part","kind"]
abbrev U2:List Str:=["many","choices","bar","row"]
def zQ:FnScope JZ U2 (qh ZO):=Hd.sc0
def EB (S11:Nat->Option Sp3) (S12:Sp3):TS3:=(qK (Z5 (tb3 (o3 (ZP false) (cb3 UD (qc (v3 3) qj)) (v3 0))) (zB (XJ (qc (c3 (.str "row")) (qc (v3 3) qj)))) zE) (qK (za (jO qj) (gn3 4)) (qK (EX (Y0 (qc (cv3 S11 (v3 1) (qc (v3 3) qj)) qj)) (gn3 5) (qK (za (o3 ZX (v3 3) (jO (qc (v3 5) qj))) (gn3 6)) (qK (za (cv3 S11 (v3 2) (qc (v3 6) qj)) (gn3 7)) (qK (Z5 (tb3 (o3 (qas false) (v3 7) (c3 .non))) (qK (za (cb3 S12 (qc (v3 0) (qc (v3 1) (qc (v3 2) (qc (v3 6) qj))))) (J5 2 (qU (gn3 8) (qU (gn3 7) J4)))) (Z5 (tb3 (o3 (ZP false) (v3 8) (c3 (.str "row")))) (zB (XJ (qc (c3 (.str "row")) (qc (v3 7) qj)))) zE)) zE) (VO (bm3 qaT (v3 4) (qc (v3 7) qj))))))) (zB (XJ (qc (c3 (.str "none")) (qc (cb3 EI (qc (v3 4) qj)) qj)))))))
def KF (E:Hd.Fb K mg "searched" ZO U2 f fd) (read:Rd sp 4 (EB S11 S12) JZ):Fn3 P w K mg base (k+1) "searched" sp:=
 Hd.jfE E zQ read λcdv A outer s H E hr=>(qg (jb (qO (zT hr.units) zi (qA qY zv rfl m8 PySem.boot_len (qa (qb 3) qd)) (qb 0) (qz _)) (qk (qu (jE (qa J8 (qa (qb 3) qd))))) zr) (qg (qp 4 zQ.nd (qF qd)) (qg (z9 PassesOwn.never rfl (z8 rfl m13 (qa (DN V11 hr (qb 1) (qa (qb 3) qd)) qd) (h1:=by intro _ _ _ h;simpa [qc,qj] using h)) (qr (i:=5) (zQ.nd)) (qg (qp 6 zQ.nd (zh (qb 3) (qF (qa (qb 5) qd)))) (qg (qp 7 zQ.nd (DN V11 hr (qb 2) (qa (qb 6) qd))) (qg (jb (qO NJ CF (qb 7) Z9 (qz _)) (qg (EF (qi V12 hr rfl (qa (qb 0) (qa (qb 1) (qa (qb 2) (qa (qb 6) qd))))) (JE rfl (qS (qr (i:=8) (zQ.nd)) (qS (qr (i:=7) (zQ.nd)) JG)))) (qk (jb (qO (zT hr.units) zi (qb 8) J8 (qz _)) (qk (qu (jE (qa J8 (qa (qb 7) qd))))) zr))) zr) (qk (YH (JI (qb 4) (qa (qb 7) qd)))))))) (qk (qu (jE (qa J8 (qa (qZ jB VM rfl m14 PyProof.Rows.boot_tuple (qa (qb 4) qd)) qd))))))))
abbrev jX:Stmt:=top 14
abbrev Q0:List Str:=["wide","bits","spans","away","kind","found"]
abbrev YD:List Str:=["wide","bits","spans"]
def jZ:FnScope Q0 YD (qh jX):=Hd.sc0
def YY (S15:Sp3) (S12:Sp3):TS3:=(qK (za (cb3 S15 (qc (v3 2) qj)) (gn3 3)) (qK (za (cl2 S12 (v3 0) (qc (jO qj) qj) 0 1 [1] [3]) (J5 2 (qU (gn3 4) (qU (gn3 5) J4)))) (qK (Z5 (tb3 (o3 (ZP false) (v3 4) (c3 (.str "none")))) (zB (XJ (qc (c3 (.str "none")) (qc (v3 5) qj)))) zE) (zB (XJ (qc (c3 (.str "image")) (qc (v3 5) qj)))))))
def SX (E:Hd.Fb K mg "image_for" jX YD f fd) (hc:fd.code=.ref 79) (read:Rd sp 3 (YY S15 S12) Q0):Fn3 P w K mg base (k+1) "image_for" sp:=
 Hd.qpu E hc jZ read λA outer s H E hr=>(qg (qp 3 jZ.nd (qi V15 hr rfl (qa (qb 2) qd))) (qg (EF (qfs [1] [3] V12 hr rfl T_image_for l_0 l_1 (qb 0) (qa (qF qd) qd)) (JE rfl (qS (qr (i:=4) (jZ.nd)) (qS (qr (i:=5) (jZ.nd)) JG)))) (qg (jb (qO (zT hr.units) zi (qb 4) J8 (qz _)) (qk (qu (jE (qa J8 (qa (qb 5) qd))))) zr) (qk (qu (jE (qa J8 (qa (qb 5) qd))))))))
abbrev JJ:Stmt:=top 5
abbrev VZ:List Str:=["many","choices","is_bar","row","thing","number","part","longer"]
abbrev XB:List Str:=["many","choices","is_bar","row","thing"]
def JN:FnScope VZ XB (qh JJ):=Hd.sc0
def D8 (S11:Nat->Option Sp3) (S19:Sp3):TS3:=(qK (Z5 (or3 (tb3 (o3 (ZP false) (cb3 UD (qc (v3 3) qj)) (v3 0))) (or3 (qaS (tb3 (NO (λt=>ju t "tuple") (v3 4)))) (tb3 (o3 (ZP true) (cb3 UD (qc (v3 4) qj)) (cv3 S11 (v3 1) (qc (v3 3) qj)))))) (zB (c3 (.bl false))) zE) (qK (EX (EJ (qc (v3 4) qj)) (J5 2 (qU (gn3 5) (qU (gn3 6) J4))) (qK (za (o3 ZX (v3 3) (jO (qc (v3 5) qj))) (gn3 7)) (Z5 (qgi (qaS (tb3 (cv3 S11 (v3 2) (qc (v3 7) (qc (v3 6) qj))))) (qaS (tb3 (cb3 S19 (qc (v3 0) (qc (v3 1) (qc (v3 2) (qc (v3 7) (qc (v3 6) qj))))))))) (zB (c3 (.bl false))) zE))) (zB (c3 (.bl true)))))
def N8 (E:Hd.Fb K mg "is_tree" JJ XB f fd) (read:Rd sp 5 (D8 S11 S19) VZ):Fn3 P w K mg base (k+1) "is_tree" sp:=
 Hd.jfE E JN read λcdv A outer s H E hr=>(qg (jb (jpt (XG (qO (zT hr.units) zi (qA qY zv rfl m8 PySem.boot_len (qa (qb 3) qd)) (qb 0) (qz _)) (XG (VQ (j7 (YC (qb 4) rfl m0 rfl m14 PyProof.Rows.boot_tuple))) (D0 (qO (WV hr.units) YF (qA qY zv rfl m8 PySem.boot_len (qa (qb 4) qd)) (DN V11 hr (qb 1) (qa (qb 3) qd)) (qz _)))))) (qk (qu YI)) zr) (qg (z9 PassesOwn.never rfl (UN rfl m3 (qa (qb 4) qd)) (JE rfl (qS (qr (i:=5) (JN.nd)) (qS (qr (i:=6) (JN.nd)) JG))) (qg (qp 7 JN.nd (zh (qb 3) (qF (qa (qb 5) qd)))) (qk (jb (jpt (SJ (VQ (j7 (DN V11 hr (qb 2) (qa (qb 7) (qa (qb 6) qd))))) (W4 (VQ (j7 (qi V19 hr rfl (qa (qb 0) (qa (qb 1) (qa (qb 2) (qa (qb 7) (qa (qb 6) qd))))))))))) (qk (qu YI)) zr)))) (qk (qu YI))))
abbrev zD:Stmt:=top 17
abbrev zJ:List Str:=["wide","bits","spans","thing","away"]
abbrev jq:List Str:=["wide","bits","spans","thing"]
def QR:FnScope zJ jq (qh zD):=Hd.sc0
def jp (S15:Sp3) (S19:Sp3):TS3:=(qK (za (cb3 S15 (qc (v3 2) qj)) (gn3 4)) (zB (cl2 S19 (v3 0) (qc (jO qj) (qc (v3 3) qj)) 2 3 [1] [4])))
def U3 (E:Hd.Fb K mg "shows_no_image" zD jq f fd) (hc:fd.code=.ref 93) (read:Rd sp 4 (jp S15 S19) zJ):Fn3 P w K mg base (k+1) "shows_no_image" sp:=
 Hd.qpu E hc QR read λA outer s H E hr=>(qg (qp 4 QR.nd (qi V15 hr rfl (qa (qb 2) qd))) (qk (qu (qfs [1] [4] V19 hr rfl T_shows_no_image l_2 l_3 (qb 0) (qa (qF qd) (qa (qb 3) qd))))))
abbrev JV:Stmt:=top 19
abbrev SZ:List Str:=["_law_cell","_law_k","_law_m"]
abbrev WX:List Str:=["_law_cell","_law_k"]
def XZ:FnScope SZ WX (qh JV):=Hd.sc0
def qaF (E:Hd.Fb K mg "_law_mix" JV WX f fd) (read:Rd sp 2 (Bk.DZ) SZ):Fn3 P w K mg base (k+1) "_law_mix" sp:=
 Hd.jfE E XZ read λcdv A outer s H E hr=>(qg (qp 2 XZ.nd (WW (JB (zh (zh (WW (qb 0) qf) (JB (JB (qb 1) (qb 1)) qf)) qf) qf) qf)) (qk (qu (WW (JB (qb 2) (qb 2)) qf))))
abbrev ZI:Stmt:=top 20
abbrev X5:List Str:=["_law_script","_law_k","_law_cell","_law_own"]
abbrev UH:List Str:=["_law_script","_law_k"]
def YG:FnScope X5 UH (qh ZI):=Hd.sc0
def LF (E:Hd.Fb K mg "_law_left" ZI UH f fd) (read:Rd sp 2 (Bk.UW) X5):Fn3 P w K mg base (k+1) "_law_left" sp:=
 Hd.jfE E YG read λcdv A outer s H E hr=>(qg (qp 2 YG.nd (qa5 (qO qap jK (qb 1) (qA qY zv rfl m8 PySem.boot_len (qa (qb 0) qd)) (qz _)) (jj (qb 0) (qb 1)) qf)) (qg (qp 3 YG.nd (qa5 (qO qkT jK (qA MZ qcE rfl m23 PyProof.Rows.boot_abs (qa (qb 2) qd)) (qjr qf qf) (qz _)) (qA MZ qcE rfl m23 PyProof.Rows.boot_abs (qa (qb 2) qd)) qf)) (qk (qu (qF (qa (qb 3) (qa (zh (qb 2) (JB qf (qb 1))) (qa qf qd))))))))
abbrev ZQ:Stmt:=top 21
abbrev X7:List Str:=["_law_left_here","_law_many","_law_digit"]
abbrev U1:List Str:=["_law_left_here","_law_many"]
def W7:FnScope X7 U1 (qh ZQ):=Hd.sc0
def LI (E:Hd.Fb K mg "_law_pick" ZQ U1 f fd) (read:Rd sp 2 (Bk.U0 S24) X7):Fn3 P w K mg base (k+1) "_law_pick" sp:=
 Hd.jfE E W7 read λcdv A outer s H E hr=>(qg (EF (zh (jj (qb 0) qf) qf) (qbx (qb 0) qf)) (qg (jb (qO qa1 jK (jj (qb 0) qf) qf (qz _)) (qg (qp 2 W7.nd (WW (jj (qb 0) qf) (qb 1))) (qg (EF (L0 (jj (qb 0) qf) (qb 1)) (qbx (qb 0) qf)) (qk (qu (qb 2))))) zr) (qk (qu (WW (L0 (qi V24 hr rfl (qa (qi V24 hr rfl (qa (jj (qb 0) qf) (qa (jj (qb 0) qf) qd))) (qa (zh (jj (qb 0) qf) qf) qd))) qf) (qb 1))))))
abbrev JM:Stmt:=top 22
abbrev VH:List Str:=["_law_t"]
abbrev W0:List Str:=["_law_t"]
def qaE:FnScope VH W0 (qh JM):=Hd.sc0
def WP:TS3:=(zB (o3 ix3 (jO (qc (c3 (.int 1)) (qc (c3 (.int 2)) (qc (c3 (.int 4)) (qc (c3 (.int 8)) (qc (c3 (.int 16)) (qc (c3 (.int 32)) (qc (c3 (.int 64)) (qc (c3 (.int 128)) (qc (c3 (.int 256)) qj)))))))))) (v3 0)))
def qaG (E:Hd.Fb K mg "_law_two" JM W0 f fd) (read:Rd sp 1 (WP) VH):Fn3 P w K mg base (k+1) "_law_two" sp:=
 Hd.jfE E qaE read λcdv A outer s H E hr=>(qk (qu (jj (qF (qa qf (qa qf (qa qf (qa qf (qa qf (qa qf (qa qf (qa qf (qa qf qd)))))))))) (qb 0))))
abbrev jW:Stmt:=top 23
abbrev QW:List Str:=["_law_marks","_law_found","_law_s","_law_one","_law_t","_law_mark"]
abbrev YS:List Str:=["_law_marks"]
def zu:FnScope QW YS (qh jW):=Hd.sc0
def YM (S25:Sp3):TS3:=(qK (za (jO qj) (gn3 1)) (qK (EX (Y0 (qc (cb3 S25 (qc (cb3 UD (qc (v3 0) qj)) qj)) qj)) (gn3 2) (qK (za (c3 (.int 0)) (gn3 3)) (qK (EX (EJ (qc (v3 0) qj)) (J5 2 (qU (gn3 4) (qU (gn3 5) J4))) (za (o3 (iI Builtin.bitXor) (v3 3) (o3 (iC J6 (·*·)) (v3 5) (o3 (iC (λ_ j=>0<j) (·%·)) (o3 (iC qeQ (·/·)) (v3 2) (cb3 S25 (qc (v3 4) qj))) (c3 (.int 2))))) (gn3 3))) (VO (bm3 qaT (v3 1) (qc (v3 3) qj)))))) (zB (v3 1))))
def SN (E:Hd.Fb K mg "_law_flips" jW YS f fd) (read:Rd sp 1 (YM S25) QW):Fn3 P w K mg base (k+1) "_law_flips" sp:=
 Hd.jfE E zu read λcdv A outer s H E hr=>(qg (qp 1 zu.nd (qF qd)) (qg (z9 PassesOwn.never rfl (z8 rfl m13 (qa (qi V25 hr rfl (qa (qA qY zv rfl m8 PySem.boot_len (qa (qb 0) qd)) qd)) qd) (h1:=by intro _ _ _ h;simpa [qc,qj] using h)) (qr (i:=2) (zu.nd)) (qg (qp 3 zu.nd qf) (qg (z9 PassesOwn.never rfl (UN rfl m3 (qa (qb 0) qd)) (JE rfl (qS (qr (i:=4) (zu.nd)) (qS (qr (i:=5) (zu.nd)) JG))) (qk (qp 3 zu.nd (MU (qb 3) (JB (qb 5) (WW (L0 (qb 2) (qi V25 hr rfl (qa (qb 4) qd))) qf)))))) (qk (YH (JI (qb 1) (qa (qb 3) qd))))))) (qk (qu (qb 1)))))
abbrev j4:Stmt:=top 24
abbrev ZM:List Str:=["_law_left_here","_law_wide","_law_found","_law_turn","_law_span","_law_more","_law_mark"]
abbrev VD:List Str:=["_law_left_here","_law_wide"]
def zU:FnScope ZM VD (qh j4):=Hd.sc0
def YU (S26:Sp3) (S25:Sp3) (S27:Sp3):TS3:=(qK (za (jO qj) (gn3 2)) (qK (EX (Y0 (qc (cb3 S26 (qc (v3 0) (qc (c3 (.int 5)) qj))) qj)) (gn3 3) (qK (za (jO qj) (gn3 4)) (qK (EX (Y0 (qc (cb3 S26 (qc (v3 0) (qc (c3 (.int 4)) qj))) qj)) (gn3 5) (qK (za (o3 ZX (c3 (.int 1)) (cb3 S26 (qc (v3 0) (qc (o3 (iI (·-·)) (cb3 S25 (qc (v3 1) qj)) (c3 (.int 1))) qj)))) (gn3 6)) (Z5 (tb3 (o3 (in3 true) (v3 6) (cb3 S27 (qc (v3 4) qj)))) (VO (bm3 qaT (v3 4) (qc (v3 6) qj))) zE))) (VO (bm3 qaT (v3 2) (qc (v3 4) qj)))))) (zB (v3 2))))
def SF (E:Hd.Fb K mg "_law_spans" j4 VD f fd) (read:Rd sp 2 (YU S26 S25 S27) ZM):Fn3 P w K mg base (k+1) "_law_spans" sp:=
 Hd.jfE E zU read λcdv A outer s H E hr=>(qg (qp 2 zU.nd (qF qd)) (qg (z9 PassesOwn.never rfl (z8 rfl m13 (qa (qi V26 hr rfl (qa (qb 0) (qa qf qd))) qd) (h1:=by intro _ _ _ h;simpa [qc,qj] using h)) (qr (i:=3) (zU.nd)) (qg (qp 4 zU.nd (qF qd)) (qg (z9 PassesOwn.never rfl (z8 rfl m13 (qa (qi V26 hr rfl (qa (qb 0) (qa qf qd))) qd) (h1:=by intro _ _ _ h;simpa [qc,qj] using h)) (qr (i:=5) (zU.nd)) (qg (qp 6 zU.nd (zh qf (qi V26 hr rfl (qa (qb 0) (qa (X0 (qi V25 hr rfl (qa (qb 1) qd)) qf) qd))))) (qk (jb (qO EH qcJ (qb 6) (qi V27 hr rfl (qa (qb 4) qd)) (by with_unfolding_all rfl)) (qk (YH (JI (qb 4) (qa (qb 6) qd)))) zr)))) (qk (YH (JI (qb 2) (qa (qb 4) qd))))))) (qk (qu (qb 2)))))
abbrev JY:Stmt:=top 25
abbrev VX:List Str:=["_law_spans_here","_law_found","_law_span"]
abbrev XA:List Str:=["_law_spans_here"]
def UJ:FnScope VX XA (qh JY):=Hd.sc0
def WN (S27:Sp3):TS3:=(qK (za (jO qj) (gn3 1)) (qK (EX (U7 (v3 0)) (gn3 2) (VO (bm3 qhK (v3 1) (qc (qnf (cb3 S27 (qc (v3 2) qj)) (sp3 (c3 (.int 1))) np3) qj)))) (zB (qhV (v3 1)))))
def qag (E:Hd.Fb K mg "_law_bad" JY XA f fd) (read:Rd sp 1 (WN S27) VX):Fn3 P w K mg base (k+1) "_law_bad" sp:=
 Hd.jfE E UJ read λcdv A outer s H E hr=>(qg (qp 1 UJ.nd (qF qd)) (qg (z9 PassesOwn.never rfl (J9 (qb 0)) (qr (i:=2) (UJ.nd)) (qk (YH (TQ (qb 1) (qa (NR (qi V27 hr rfl (qa (qb 2) qd)) (jo qf) UX) qd))))) (qk (qu (qaa rfl rfl m28 rfl m29 (qb 1))))))
abbrev JX:Stmt:=top 26
abbrev VN:List Str:=["_law_numbers","_law_x","_law_found","_law_t","_law_number"]
abbrev WA:List Str:=["_law_numbers","_law_x"]
def QM:FnScope VN WA (qh JX):=Hd.sc0
def WM (S25:Sp3):TS3:=(qK (za (c3 (.int 0)) (gn3 2)) (qK (EX (EJ (qc (v3 0) qj)) (J5 2 (qU (gn3 3) (qU (gn3 4) J4))) (za (o3 (iI Builtin.bitXor) (v3 2) (o3 (iC J6 (·*·)) (v3 4) (o3 (iC (λ_ j=>0<j) (·%·)) (o3 (iC qeQ (·/·)) (v3 1) (cb3 S25 (qc (v3 3) qj))) (c3 (.int 2))))) (gn3 2))) (zB (v3 2))))
def qaB (E:Hd.Fb K mg "_law_led" JX WA f fd) (read:Rd sp 2 (WM S25) VN):Fn3 P w K mg base (k+1) "_law_led" sp:=
 Hd.jfE E QM read λcdv A outer s H E hr=>(qg (qp 2 QM.nd qf) (qg (z9 PassesOwn.never rfl (UN rfl m3 (qa (qb 0) qd)) (JE rfl (qS (qr (i:=3) (QM.nd)) (qS (qr (i:=4) (QM.nd)) JG))) (qk (qp 2 QM.nd (MU (qb 2) (JB (qb 4) (WW (L0 (qb 1) (qi V25 hr rfl (qa (qb 3) qd))) qf)))))) (qk (qu (qb 2)))))
abbrev Q8:Stmt:=top 27
abbrev J0:List Str:=["_law_numbers","_law_bits","_law_top","_law_turn"]
abbrev UP:List Str:=["_law_numbers","_law_bits"]
def ZC:FnScope J0 UP (qh Q8):=Hd.sc0
def UR (S25:Sp3):TS3:=(qK (za (c3 (.int 1)) (gn3 2)) (qK (EX (Y0 (qc (c3 (.int 6)) qj)) (gn3 3) (Z5 (tb3 (o3 (iB λi j=>decide (j<=i)) (cb3 T9 (qc (o3 ZX (v3 0) (jO (qc (c3 (.int 0)) qj))) qj)) (v3 2))) (za (o3 (iC J6 (·*·)) (c3 (.int 2)) (v3 2)) (gn3 2)) zE)) (zB (cb3 qfV (qc (v3 2) (qc (o3 (iI (·-·)) (cb3 S25 (qc (v3 1) qj)) (c3 (.int 1))) qj))))))
def LZ (E:Hd.Fb K mg "_law_last" Q8 UP f fd) (read:Rd sp 2 (UR S25) J0):Fn3 P w K mg base (k+1) "_law_last" sp:=
 Hd.jfE E ZC read λcdv A outer s H E hr=>(qg (qp 2 ZC.nd qf) (qg (z9 PassesOwn.never rfl (z8 rfl m13 (qa qf qd) (h1:=by intro _ _ _ h;simpa [qc,qj] using h)) (qr (i:=3) (ZC.nd)) (qk (jb (qO qkT jK (qA (SC rfl) NC rfl m5 PyProof.Rows.boot_max (qa (zh (qb 0) (qF (qa qf qd))) qd)) (qb 2) (qz _)) (qk (qp 2 ZC.nd (JB qf (qb 2)))) zr))) (qk (qu (qA (DX rfl) K5 rfl m6 PyProof.Rows.boot_min (qa (qb 2) (qa (X0 (qi V25 hr rfl (qa (qb 1) qd)) qf) qd)))))))
abbrev J1:Stmt:=top 28
abbrev VP:List Str:=["_law_left_here","_law_great","_law_wide"]
abbrev WH:List Str:=["_law_left_here","_law_great"]
def X4:FnScope VP WH (qh J1):=Hd.sc0
def DW (S26:Sp3) (S30:Sp3):TS3:=(qK (za (o3 ZX (c3 (.int 1)) (cb3 S26 (qc (v3 0) (qc (o3 ix3 (jO (qc (c3 (.int 3)) (qc (c3 (.int 3)) (qc (c3 (.int 3)) (qc (c3 (.int 3)) (qc (c3 (.int 4)) (qc (c3 (.int 4)) (qc (c3 (.int 4)) (qc (o3 ix3 (jO (qc (c3 (.int 4)) (qc (c3 (.int 5)) qj))) (cb3 qc1 (qc (v3 1) qj))) qj))))))))) (cb3 S26 (qc (v3 0) (qc (c3 (.int 8)) qj)))) qj)))) (gn3 2)) (zB (XJ (qc (v3 2) (qc (cb3 S26 (qc (v3 0) (qc (o3 ix3 (jO (qc (c3 (.int 3)) (qc (c3 (.int 4)) (qc (c3 (.int 6)) qj)))) (cb3 S26 (qc (v3 0) (qc (c3 (.int 3)) qj)))) qj))) (qc (cb3 S30 (qc (v3 0) (qc (v3 2) qj))) qj))))))
def qae (E:Hd.Fb K mg "_law_lot" J1 WH f fd) (read:Rd sp 2 (DW S26 S30) VP):Fn3 P w K mg base (k+1) "_law_lot" sp:=
 Hd.jfE E X4 read λcdv A outer s H E hr=>(qg (qp 2 X4.nd (zh qf (qi V26 hr rfl (qa (qb 0) (qa (jj (qF (qa qf (qa qf (qa qf (qa qf (qa qf (qa qf (qa qf (qa (jj (qF (qa qf (qa qf qd))) (qZ JF W2 rfl m2 PyProof.Rows.boot_int (qa (qb 1) qd))) qd))))))))) (qi V26 hr rfl (qa (qb 0) (qa qf qd)))) qd))))) (qk (qu (jE (qa (qb 2) (qa (qi V26 hr rfl (qa (qb 0) (qa (jj (qF (qa qf (qa qf (qa qf qd)))) (qi V26 hr rfl (qa (qb 0) (qa qf qd)))) qd))) (qa (qi V30 hr rfl (qa (qb 0) (qa (qb 2) qd))) qd)))))))
abbrev j5:Stmt:=top 30
abbrev QZ:List Str:=["_law_thing"]
abbrev YX:List Str:=["_law_thing"]
def TV:FnScope QZ YX (qh j5):=Hd.sc0
def SY (E:Hd.Fb K mg "_law_whole" j5 YX f fd) (read:Rd sp 1 (Bk.jf) QZ):Fn3 P w K mg base (k+1) "_law_whole" sp:=
 Hd.jfE E TV read λcdv A outer s H E hr=>(qk (qu (WU (YC (qb 0) rfl m0 rfl m2 PyProof.Rows.boot_int) (X9 (qgL (YC (qb 0) rfl m0 rfl m1 PyProof.Rows.boot_bool))))))
abbrev Q7:Stmt:=top 29
abbrev JT:List Str:=["_law_wide","_law_bits","_law_bad_here","_law_numbers","_law_thing","_law_high","_law_number","_law_arm","_law_more"]
abbrev UU:List Str:=["_law_wide","_law_bits","_law_bad_here","_law_numbers","_law_thing"]
def jH:FnScope JT UU (qh Q7):=Hd.sc0
def U6 (S31:Sp3) (S25:Sp3) (S32:Sp3) (S33:Sp3) (S34:Sp3):TS3:=(qK (Z5 (or3 (qaS (tb3 (NO (λt=>ju t "tuple") (v3 4)))) (tb3 (o3 (ZP true) (cb3 UD (qc (v3 4) qj)) (o3 ZX (cb3 S31 (qc (v3 3) (qc (v3 1) qj))) (c3 (.int 1)))))) (zB (c3 (.bl false))) zE) (qK (za (cb3 S25 (qc (cb3 UD (qc (v3 3) qj)) qj)) (gn3 5)) (qK (EX (EJ (qc (v3 4) qj)) (J5 2 (qU (gn3 6) (qU (gn3 7) J4))) (qK (za (o3 ZX (v3 3) (jO (qc (v3 6) qj))) (gn3 8)) (Z5 (tb3 (NO (λt=>ju t "tuple") (v3 7))) (Z5 (or3 (tb3 (o3 (ZP false) (cb3 UD (qc (v3 8) qj)) (v3 0))) (qaS (tb3 (cb3 S32 (qc (v3 0) (qc (v3 1) (qc (v3 2) (qc (v3 8) (qc (v3 7) qj))))))))) (zB (c3 (.bl false))) zE) (Z5 (or3 (qaS (tb3 (cb3 S33 (qc (v3 7) qj)))) (or3 (tb3 (o3 (in3 true) (v3 7) (v3 2))) (qaS (tb3 (ch3 (iB λi j=>decide (i<=j)) (iB λi j=>decide (i<j)) (v3 5) (v3 7) (o3 (iC J6 (·*·)) (c3 (.int 2)) (v3 5))))))) (zB (c3 (.bl false))) (Z5 (tb3 (o3 (ZP true) (cb3 S34 (qc (v3 8) (qc (v3 7) qj))) (c3 (.int 0)))) (zB (c3 (.bl false))) zE))))) (zB (c3 (.bl true))))))
def LP (E:Hd.Fb K mg "_law_bars" Q7 UU f fd) (read:Rd sp 5 (U6 S31 S25 S32 S33 S34) JT):Fn3 P w K mg base (k+1) "_law_bars" sp:=
 Hd.jfE E jH read λcdv A outer s H E hr=>(qg (jb (jpt (XG (VQ (j7 (YC (qb 4) rfl m0 rfl m14 PyProof.Rows.boot_tuple))) (D0 (qO (WV hr.units) YF (qA qY zv rfl m8 PySem.boot_len (qa (qb 4) qd)) (zh (qi V31 hr rfl (qa (qb 3) (qa (qb 1) qd))) qf) (qz _))))) (qk (qu YI)) zr) (qg (qp 5 jH.nd (qi V25 hr rfl (qa (qA qY zv rfl m8 PySem.boot_len (qa (qb 3) qd)) qd))) (qg (z9 PassesOwn.never rfl (UN rfl m3 (qa (qb 4) qd)) (JE rfl (qS (qr (i:=6) (jH.nd)) (qS (qr (i:=7) (jH.nd)) JG))) (qg (qp 8 jH.nd (zh (qb 3) (qF (qa (qb 6) qd)))) (qk (jb (j7 (YC (qb 7) rfl m0 rfl m14 PyProof.Rows.boot_tuple)) (qk (jb (jpt (XG (qO (zT hr.units) zi (qA qY zv rfl m8 PySem.boot_len (qa (qb 8) qd)) (qb 0) (qz _)) (D0 (VQ (j7 (qi V32 hr rfl (qa (qb 0) (qa (qb 1) (qa (qb 2) (qa (qb 8) (qa (qb 7) qd))))))))))) (qk (qu YI)) zr)) (qk (jb (jpt (XG (VQ (j7 (qi V33 hr rfl (qa (qb 7) qd)))) (XG (qO EH qcJ (qb 7) (qb 2) (by with_unfolding_all rfl)) (D0 (VQ (MA qmJ jK qap jK (qb 5) (qb 7) (JB qf (qb 5)))))))) (qk (qu YI)) (qk (jb (qO (WV hr.units) YF (qi V34 hr rfl (qa (qb 8) (qa (qb 7) qd))) qf (qz _)) (qk (qu YI)) zr)))))))) (qk (qu YI)))))
abbrev j2:Stmt:=top 31
abbrev ZH:List Str:=["_law_thing","_law_found","_law_k","_law_part_here"]
abbrev VC:List Str:=["_law_thing"]
def jV:FnScope ZH VC (qh j2):=Hd.sc0
def YR (S35:Sp3):TS3:=(qK (za (jO (qc (XJ qj) qj)) (gn3 1)) (qK (Z5 (tb3 (NO (λt=>ju t "list" || ju t "tuple") (v3 0))) (EX (EJ (qc (v3 0) qj)) (J5 2 (qU (gn3 2) (qU (gn3 3) J4))) (VO (bm3 qhK (v3 1) (qc (lc3 (U7 (cb3 S35 (qc (v3 3) qj))) (gn3 0) tt3 (o3 ZZ (XJ (qc (v3 1) qj)) (v3 0)) [none,some 2]) qj)))) zE) (zB (v3 1))))
def TU (E:Hd.Fb K mg "_law_paths" j2 VC f fd) (read:Rd sp 1 (YR S35) ZH):Fn3 P w K mg base (k+1) "_law_paths" sp:=
 Hd.jfE E jV read λcdv A outer s H E hr=>(qg (qp 1 jV.nd (qF (qa (jE qd) qd))) (qg (jb (j7 (qcw (qb 0) rfl m0 rfl m36 PyProof.Rows.boot_list rfl m14 PyProof.Rows.boot_tuple)) (qk (z9 PassesOwn.never rfl (UN rfl m3 (qa (qb 0) qd)) (JE rfl (qS (qr (i:=2) (jV.nd)) (qS (qr (i:=3) (jV.nd)) JG))) (qk (YH (TQ (qb 1) (qa (qiV ["_law_path","_law_k"] [none,some 2] rfl (J9 (qi V35 hr rfl (qa (qb 3) qd))) (λ_ _ _=>(jgn 0)) (λ_ _ _=>R0) (λ_ _ _=>(zq (jE (qa (qb 1) qd)) (qb 0))) (by kernel_rfl) (by kernel_rfl)) qd)))))) zr) (qk (qu (qb 1)))))
abbrev Q9:Stmt:=top 32
abbrev JR:List Str:=["_law_thing","_law_path","_law_k"]
abbrev UZ:List Str:=["_law_thing","_law_path"]
def YJ:FnScope JR UZ (qh Q9):=Hd.sc0
def UL:TS3:=(qK (EX (U7 (v3 1)) (gn3 2) (za (o3 ix3 (v3 0) (v3 2)) (gn3 0))) (zB (v3 0)))
def KD (E:Hd.Fb K mg "_law_part" Q9 UZ f fd) (read:Rd sp 2 (UL) JR):Fn3 P w K mg base (k+1) "_law_part" sp:=
 Hd.jfE E YJ read λcdv A outer s H E hr=>(qg (z9 PassesOwn.never rfl (J9 (qb 1)) (qr (i:=2) (YJ.nd)) (qk (qp 0 YJ.nd (jj (qb 0) (qb 2))))) (qk (qu (qb 0))))
abbrev J2:Stmt:=top 33
abbrev V3:List Str:=["_law_thing","_law_path","_law_part_here","_law_parts"]
abbrev WT:List Str:=["_law_thing","_law_path","_law_part_here"]
def X8:FnScope V3 WT (qh J2):=Hd.sc0
def WQ (S37:Sp3):TS3:=(qK (Z5 (tb3 (o3 (ZP false) (v3 1) (XJ qj))) (zB (v3 2)) zE) (qK (za (cb3 qal (qc (v3 0) qj)) (gn3 3)) (qK (za (cb3 S37 (qc (o3 ix3 (v3 3) (o3 ix3 (v3 1) (c3 (.int 0)))) (qc (SI (v3 1) (sp3 (c3 (.int 1))) np3) (qc (v3 2) qj)))) (ET (v3 3) (o3 ix3 (v3 1) (c3 (.int 0))))) (zB (if3 (tb3 (NO (λt=>ju t "list") (v3 0))) (v3 3) (cb3 EI (qc (v3 3) qj)))))))
def qav (E:Hd.Fb K mg "_law_put" J2 WT f fd) (read:Rd sp 3 (WQ S37) V3):Fn3 P w K mg base (k+1) "_law_put" sp:=
 Hd.jfE E X8 read λcdv A outer s H E hr=>(qg (jb (qO (zT hr.units) zi (qb 1) (jE qd) (qz _)) (qk (qu (qb 2))) zr) (qg (qp 3 X8.nd (qZ EK NE rfl m36 PyProof.Rows.boot_list (qa (qb 0) qd))) (qg (EF (qi V37 hr rfl (qa (jj (qb 3) (jj (qb 1) qf)) (qa (QP (qb 1) (jo qf) UX) (qa (qb 2) qd)))) (qbx (qb 3) (jj (qb 1) qf))) (qk (qu (qa5 (j7 (YC (qb 0) rfl m0 rfl m36 PyProof.Rows.boot_list)) (qb 3) (qZ jB VM rfl m14 PyProof.Rows.boot_tuple (qa (qb 3) qd))))))))
abbrev zL:Stmt:=top 34
abbrev zZ:List Str:=["_law_left_here","_law_part_here","_law_way","_law_more","_law_row","_law_at","_law_front","_law_one","_law_middle","_law_two_here","_law_near"]
abbrev jL:List Str:=["_law_left_here","_law_part_here"]
def qt:FnScope zZ jL (qh zL):=Hd.sc0
def jF (S26:Sp3) (S33:Sp3):TS3:=(qK (qfL 2 3 (qc (cb3 S26 (qc (v3 0) (qc (c3 (.int 8)) qj))) (qc (o3 ix3 (jO (qc (c3 (.int 0)) (qc (c3 (.int 1)) (qc (c3 .non) (qc (XJ qj) (qc (XJ (qc (c3 (.int 0)) qj)) (qc (c3 (.str "0")) qj))))))) (cb3 S26 (qc (v3 0) (qc (c3 (.int 6)) qj)))) qj))) (qK (Z5 (tb3 (NO (λt=>ju t "list" || ju t "tuple") (v3 1))) (qK (za (cb3 qal (qc (v3 1) qj)) (gn3 4)) (qK (za (cb3 S26 (qc (v3 0) (qc (o3 ZZ (cb3 UD (qc (v3 4) qj)) (c3 (.int 1))) qj))) (gn3 5)) (qK (qfL 6 7 (qc (SI (v3 4) np3 (sp3 (v3 5))) (qc (SI (v3 4) (sp3 (v3 5)) (sp3 (o3 ZZ (v3 5) (c3 (.int 1))))) qj))) (qK (Z5 (tb3 (o3 (iB λi j=>decide (i<j)) (v3 2) (c3 (.int 3)))) (qK (za (o3 ix3 (jO (qc (jO qj) (qc (o3 qi0 (v3 7) (c3 (.int 2))) (qc (o3 ZZ (jO (qc (v3 3) qj)) (v3 7)) qj)))) (v3 2)) (gn3 8)) (za (o3 ZZ (o3 ZZ (v3 6) (v3 8)) (SI (v3 4) (sp3 (o3 ZZ (v3 5) (c3 (.int 1)))) np3)) (gn3 4))) (Z5 (tb3 (o3 (ZP false) (v3 2) (c3 (.int 3)))) (qK (za (SI (v3 4) (sp3 (v3 5)) (sp3 (o3 ZZ (v3 5) (c3 (.int 2))))) (gn3 9)) (za (o3 ZZ (o3 ZZ (v3 6) (qm4 (v3 9) (sp3 (u3 qdF (c3 (.int 1)))))) (SI (v3 4) (sp3 (o3 ZZ (v3 5) (c3 (.int 2)))) np3)) (gn3 4))) (za (o3 ix3 (jO (qc (qm4 (v3 4) (sp3 (u3 qdF (c3 (.int 1))))) (qc (v3 4) (qc (jO (qc (v3 1) qj)) (qc (jO qj) qj))))) (o3 (iI (·-·)) (v3 2) (c3 (.int 4)))) (gn3 4)))) (qK (Z5 (tb3 (o3 (ZP true) (NO (λt=>ju t "tuple") (v3 1)) (o3 (ZP false) (v3 2) (c3 (.int 5))))) (zB (cb3 EI (qc (v3 4) qj))) zE) (zB (v3 4))))))) zE) (qK (Z5 (qaS (tb3 (cb3 S33 (qc (v3 1) qj)))) (zB (o3 ix3 (jO (qc (c3 (.int 0)) (qc (c3 (.int 1)) (qc (c3 (.bl false)) (qc (c3 (.str "")) (qc (XJ (qc (c3 .non) qj)) (qc (u3 qdF (c3 (.int 1))) (qc (jO qj) (qc (c3 (.bl true)) qj))))))))) (v3 2))) zE) (qK (za (jO (qc (o3 ZZ (v3 1) (c3 (.int 1))) (qc (o3 (iI (·-·)) (v3 1) (c3 (.int 1))) (qc (o3 (iI (·-·)) (c3 (.int 0)) (v3 1)) (qc (o3 ZZ (v3 1) (c3 (.int 2))) qj))))) (gn3 10)) (zB (o3 ix3 (o3 ZZ (v3 10) (jO (qc (o3 (ZP false) (v3 1) (c3 (.int 1))) (qc (cb3 (TJ true) (qc (v3 1) qj)) (qc (XJ (qc (v3 1) qj)) (qc (v3 3) qj)))))) (v3 2)))))))
def EZ (E:Hd.Fb K mg "_law_otherwise" zL jL f fd) (read:Rd sp 2 (jF S26 S33) zZ):Fn3 P w K mg base (k+1) "_law_otherwise" sp:=
 Hd.jfE E qt read λcdv A outer s H E hr=>(qg (L8 (i:=2) (j:=3) rfl qt.nd rfl rfl (by decide) rfl rfl (qa (qi V26 hr rfl (qa (qb 0) (qa qf qd))) (qa (jj (qF (qa qf (qa qf (qa Z9 (qa (jE qd) (qa (jE (qa qf qd)) (qa J8 qd))))))) (qi V26 hr rfl (qa (qb 0) (qa qf qd)))) qd))) (qg (jb (j7 (qcw (qb 1) rfl m0 rfl m36 PyProof.Rows.boot_list rfl m14 PyProof.Rows.boot_tuple)) (qg (qp 4 qt.nd (qZ EK NE rfl m36 PyProof.Rows.boot_list (qa (qb 1) qd))) (qg (qp 5 qt.nd (qi V26 hr rfl (qa (qb 0) (qa (zq (qA qY zv rfl m8 PySem.boot_len (qa (qb 4) qd)) qf) qd)))) (qg (L8 (i:=6) (j:=7) rfl qt.nd rfl rfl (by decide) rfl rfl (qa (QP (qb 4) UX (jo (qb 5))) (qa (QP (qb 4) (jo (qb 5)) (jo (zq (qb 5) qf))) qd))) (qg (jb (qO qap jK (qb 2) qf (qz _)) (qg (qp 8 qt.nd (jj (qF (qa (qF qd) (qa (qmq (qb 7) qf) (qa (zq (qF (qa (qb 3) qd)) (qb 7)) qd)))) (qb 2))) (qk (qp 4 qt.nd (zq (zq (qb 6) (qb 8)) (QP (qb 4) (jo (zq (qb 5) qf)) UX))))) (qk (jb (qO (zT hr.units) zi (qb 2) qf (qz _)) (qg (qp 9 qt.nd (QP (qb 4) (jo (qb 5)) (jo (zq (qb 5) qf)))) (qk (qp 4 qt.nd (zq (zq (qb 6) (qft (qb 9) (jo (MO qf)) (ops:=λ_ _=>_) (by intro _ _;with_unfolding_all rfl))) (QP (qb 4) (jo (zq (qb 5) qf)) UX))))) (qk (qp 4 qt.nd (jj (qF (qa (qft (qb 4) (jo (MO qf)) (ops:=λ_ _=>_) (by intro _ _;with_unfolding_all rfl)) (qa (qb 4) (qa (qF (qa (qb 1) qd)) (qa (qF qd) qd))))) (X0 (qb 2) qf))))))) (qg (jb (qO (WV hr.units) YF (YC (qb 1) rfl m0 rfl m14 PyProof.Rows.boot_tuple) (jN (zT hr.units) zi (qb 2) qf (qz _)) (qz _)) (qk (qu (qZ jB VM rfl m14 PyProof.Rows.boot_tuple (qa (qb 4) qd)))) zr) (qk (qu (qb 4)))))))) zr) (qg (jb (VQ (j7 (qi V33 hr rfl (qa (qb 1) qd)))) (qk (qu (jj (qF (qa qf (qa qf (qa YI (qa J8 (qa (jE (qa Z9 qd)) (qa (MO qf) (qa (qF qd) (qa YI qd))))))))) (qb 2)))) zr) (qg (qp 10 qt.nd (qF (qa (zq (qb 1) qf) (qa (X0 (qb 1) qf) (qa (X0 qf (qb 1)) (qa (zq (qb 1) qf) qd)))))) (qk (qu (jj (zq (qb 10) (qF (qa (jN (zT hr.units) zi (qb 1) qf (qz _)) (qa (qZ (YE hr.gd hr.units) CP rfl m38 PyProof.Rows.boot_str (qa (qb 1) qd)) (qa (jE (qa (qb 1) qd)) (qa (qb 3) qd)))))) (qb 2))))))))
abbrev jA:Stmt:=top 35
abbrev jR:List Str:=["_law_left_here","_law_thing","_law_turn","_law_again","_law_paths_here","_law_path","_law_part_here"]
abbrev JA:List Str:=["_law_left_here","_law_thing","_law_turn"]
def zj:FnScope jR JA (qh jA):=Hd.sc0
def Z4 (S26:Sp3) (S35:Sp3) (S39:Sp3) (S40:Sp3) (S37:Sp3):TS3:=(qK (EX (Y0 (qc (o3 ZX (c3 (.int 1)) (cb3 qc1 (qc (RJ (o3 (iB λi j=>decide (j<i)) (v3 2) (c3 (.int 1))) (o3 (ZP false) (cb3 S26 (qc (v3 0) (qc (c3 (.int 3)) qj))) (c3 (.int 0)))) qj))) qj)) (gn3 3) (qK (za (cb3 S35 (qc (v3 1) qj)) (gn3 4)) (qK (za (o3 ix3 (v3 4) (u3 qdF (c3 (.int 1)))) (gn3 5)) (qK (Z5 (or3 (tb3 (o3 (iB λi j=>decide (j<i)) (v3 2) (c3 (.int 0)))) (tb3 (o3 (iB λi j=>decide (j<i)) (v3 3) (c3 (.int 0))))) (za (o3 ix3 (v3 4) (cb3 S26 (qc (v3 0) (qc (cb3 UD (qc (v3 4) qj)) qj)))) (gn3 5)) zE) (qK (za (cb3 S40 (qc (v3 0) (qc (cb3 S39 (qc (v3 1) (qc (v3 5) qj))) qj))) (gn3 6)) (za (cb3 S37 (qc (v3 1) (qc (v3 5) (qc (v3 6) qj)))) (gn3 1))))))) (zB (v3 1)))
def RA (E:Hd.Fb K mg "_law_spoilt" jA JA f fd) (read:Rd sp 3 (Z4 S26 S35 S39 S40 S37) jR):Fn3 P w K mg base (k+1) "_law_spoilt" sp:=
 Hd.jfE E zj read λcdv A outer s H E hr=>(qg (z9 PassesOwn.never rfl (z8 rfl m13 (qa (zh qf (qZ JF W2 rfl m2 PyProof.Rows.boot_int (qa (WU (jN qa1 jK (qb 2) qf (qz _)) (X9 (jN (zT hr.units) zi (qi V26 hr rfl (qa (qb 0) (qa qf qd))) qf (qz _)))) qd))) qd) (h1:=by intro _ _ _ h;simpa [qc,qj] using h)) (qr (i:=3) (zj.nd)) (qg (qp 4 zj.nd (qi V35 hr rfl (qa (qb 1) qd))) (qg (qp 5 zj.nd (jj (qb 4) (MO qf))) (qg (jb (jpt (XG (qO qa1 jK (qb 2) qf (qz _)) (D0 (qO qa1 jK (qb 3) qf (qz _))))) (qk (qp 5 zj.nd (jj (qb 4) (qi V26 hr rfl (qa (qb 0) (qa (qA qY zv rfl m8 PySem.boot_len (qa (qb 4) qd)) qd)))))) zr) (qg (qp 6 zj.nd (qi V40 hr rfl (qa (qb 0) (qa (qi V39 hr rfl (qa (qb 1) (qa (qb 5) qd))) qd)))) (qk (qp 1 zj.nd (qi V37 hr rfl (qa (qb 1) (qa (qb 5) (qa (qb 6) qd))))))))))) (qk (qu (qb 1))))
abbrev jQ:Stmt:=top 36
abbrev ZL:List Str:=["_law_left_here","_law_lot_here","_law_bad_here","_law_numbers","_law_wide","_law_bits","_law_spans_here","_law_high","_law_arms","_law_number","_law_more","_law_some","_law_deeper","_law_arm"]
abbrev VF:List Str:=["_law_left_here","_law_lot_here","_law_bad_here","_law_numbers"]
def qJ:FnScope ZL VF (qh jQ):=Hd.sc0
def YO (S25:Sp3) (S31:Sp3) (S34:Sp3) (S26:Sp3) (S41:Sp3):TS3:=(qK (za (v3 1) (J5 3 (qU (gn3 4) (qU (gn3 5) (qU (gn3 6) J4))))) (qK (za (XJ (qc (cb3 S25 (qc (cb3 UD (qc (v3 3) qj)) qj)) (qc (jO qj) qj))) (J5 2 (qU (gn3 7) (qU (gn3 8) J4)))) (qK (EX (Y0 (qc (o3 ZX (cb3 S31 (qc (v3 3) (qc (v3 5) qj))) (c3 (.int 1))) qj)) (gn3 9) (qK (za (o3 ZX (v3 3) (jO (qc (v3 9) qj))) (gn3 10)) (qK (za (lc3 (U7 (v3 2)) (gn3 0) (qgi (tb3 (ch3 (iB λi j=>decide (i<=j)) (iB λi j=>decide (i<j)) (v3 1) (v3 0) (o3 (iC J6 (·*·)) (c3 (.int 2)) (v3 1)))) (tb3 (o3 (ZP false) (cb3 S34 (qc (v3 2) (qc (v3 0) qj))) (c3 (.int 0))))) (v3 0) [none,some 7,some 10]) (gn3 11)) (qK (za (RJ (o3 (ZP false) (cb3 S26 (qc (v3 0) (qc (c3 (.int 4)) qj))) (c3 (.int 0))) (o3 (iB λi j=>decide (i<j)) (cb3 UD (qc (v3 10) qj)) (v3 4))) (gn3 12)) (qK (za (if3 (or3 (qgi (tb3 (o3 (ZP false) (v3 11) (jO qj))) (tb3 (o3 (iB λi j=>decide (i<j)) (cb3 UD (qc (v3 10) qj)) (v3 4)))) (tb3 (v3 12))) (cb3 S41 (qc (v3 0) (qc (v3 1) (qc (v3 2) (qc (v3 10) qj))))) (c3 .non)) (gn3 13)) (qK (Z5 (qgi (tb3 (o3 (qas false) (v3 13) (c3 .non))) (tb3 (o3 (ZP false) (v3 11) (jO qj)))) (zB (c3 .non)) zE) (VO (bm3 qaT (v3 8) (qc (if3 (tb3 (o3 (qas false) (v3 13) (c3 .non))) (o3 ix3 (v3 11) (cb3 S26 (qc (v3 0) (qc (cb3 UD (qc (v3 11) qj)) qj)))) (v3 13)) qj))))))))) (zB (cb3 EI (qc (v3 8) qj))))))
def zS (E:Hd.Fb K mg "_law_grown" jQ VF f fd) (read:Rd sp 4 (YO S25 S31 S34 S26 S41) ZL):Fn3 P w K mg base (k+1) "_law_grown" sp:=
 Hd.jfE E qJ read λcdv A outer s H E hr=>(qg (EF (qb 1) (JE rfl (qS (qr (i:=4) (qJ.nd)) (qS (qr (i:=5) (qJ.nd)) (qS (qr (i:=6) (qJ.nd)) JG))))) (qg (EF (jE (qa (qi V25 hr rfl (qa (qA qY zv rfl m8 PySem.boot_len (qa (qb 3) qd)) qd)) (qa (qF qd) qd))) (JE rfl (qS (qr (i:=7) (qJ.nd)) (qS (qr (i:=8) (qJ.nd)) JG)))) (qg (z9 PassesOwn.never rfl (z8 rfl m13 (qa (zh (qi V31 hr rfl (qa (qb 3) (qa (qb 5) qd))) qf) qd) (h1:=by intro _ _ _ h;simpa [qc,qj] using h)) (qr (i:=9) (qJ.nd)) (qg (qp 10 qJ.nd (zh (qb 3) (qF (qa (qb 9) qd)))) (qg (qdQ 11 ["_law_one","_law_high","_law_more"] [none,some 7,some 10] rfl qJ.nd (J9 (qb 2)) (λ_ _ _=>(jgn 0)) (λ_ _ _=>qmN (jpt (SJ (MA qmJ jK qap jK (qb 1) (qb 0) (JB qf (qb 1))) (W4 (qO (zT hr.units) zi (qi V34 hr rfl (qa (qb 2) (qa (qb 0) qd))) qf (qz _)))))) (λ_ _ _=>(qb 0)) (by kernel_rfl) (by kernel_rfl) rfl rfl) (qg (qp 12 qJ.nd (WU (jN (zT hr.units) zi (qi V26 hr rfl (qa (qb 0) (qa qf qd))) qf (qz _)) (X9 (jN qap jK (qA qY zv rfl m8 PySem.boot_len (qa (qb 10) qd)) (qb 4) (qz _))))) (qg (qp 13 qJ.nd (qa5 (jpt (XG (jpt (SJ (qO (zT hr.units) zi (qb 11) (qF qd) (qz _)) (W4 (qO qap jK (qA qY zv rfl m8 PySem.boot_len (qa (qb 10) qd)) (qb 4) (qz _))))) (D0 (j7 (qb 12))))) (qi V41 hr rfl (qa (qb 0) (qa (qb 1) (qa (qb 2) (qa (qb 10) qd))))) Z9)) (qg (jb (jpt (SJ (qO NJ CF (qb 13) Z9 (qz _)) (W4 (qO (zT hr.units) zi (qb 11) (qF qd) (qz _))))) (qk (qu Z9)) zr) (qk (YH (JI (qb 8) (qa (qa5 (qO NJ CF (qb 13) Z9 (qz _)) (jj (qb 11) (qi V26 hr rfl (qa (qb 0) (qa (qA qY zv rfl m8 PySem.boot_len (qa (qb 11) qd)) qd)))) (qb 13)) qd)))))))))) (qk (qu (qZ jB VM rfl m14 PyProof.Rows.boot_tuple (qa (qb 8) qd)))))))
abbrev YB:Stmt:=top 37
abbrev qeT:List Str:=["_law_script","_law_k","_law_left_here","_law_wide","_law_bits","_law_spans_here","_law_many","_law_bad_here","_law_tree","_law_turn","_law_thing","_law_told","_law_due","_law_found"]
abbrev qmb:List Str:=["_law_script"]
def QJ:FnScope qeT qmb (qh YB):=Hd.sc0
def qiy (S42:Sp3) (S43:Sp3) (S26:Sp3) (S44:Sp3) (S41:Sp3) (S45:Sp3) (S46:Sp3) (S47:Sp3) (S32:Sp3):TS3:=(qK (EX (Y0 (qc (o3 ZX (c3 (.int 1)) (cb3 qfV (qc (c3 (.int 2)) (qc (cb3 UD (qc (v3 0) qj)) qj)))) qj)) (gn3 1) (qK (za (cb3 S42 (qc (v3 0) (qc (v3 1) qj))) (gn3 2)) (qK (za (cb3 S43 (qc (v3 2) (qc (o3 (ZP false) (v3 1) (c3 (.int 0))) qj))) (J5 3 (qU (gn3 3) (qU (gn3 4) (qU (gn3 5) J4))))) (qK (za (cb3 T9 (qc (o3 ZX (jO (qc (c3 (.int 0)) qj)) (lc3 (U7 (v3 5)) (gn3 0) tt3 (cb3 UD (qc (v3 0) qj)) [none])) qj)) (gn3 6)) (qK (qfL 4 7 (qc (o3 ZX (cb3 qmv (qc (c3 (.int 0)) (qc (o3 (iI (·-·)) (v3 6) (c3 (.int 1))) qj))) (cb3 qc1 (qc (o3 (ZP false) (cb3 S26 (qc (v3 2) (qc (c3 (.int 3)) qj))) (c3 (.int 0))) qj))) (qc (cb3 S44 (qc (v3 5) qj)) qj))) (qK (za (cb3 S41 (qc (v3 2) (qc (XJ (qc (v3 3) (qc (v3 4) (qc (v3 5) qj)))) (qc (v3 7) (qc (jO qj) qj))))) (gn3 8)) (qK (Z5 (tb3 (o3 (ZP true) (o3 (qas false) (v3 8) (c3 .non)) (o3 (ZP false) (o3 ix3 (cb3 S45 (qc (v3 3) (qc (v3 4) (qc (v3 5) qj)))) (c3 (.int 0))) (c3 (.str "image"))))) (zB (c3 (.bl false))) zE) (qK (Z5 (qgi (tb3 (o3 (qas true) (v3 8) (c3 .non))) (tb3 (o3 (qm2 true) (cb3 S46 (qc (v3 3) (qc (v3 4) (qc (v3 5) (qc (v3 8) qj))))) (c3 (.bl true))))) (zB (c3 (.bl false))) zE) (EX (Y0 (qc (o3 (iC J6 (·*·)) (o3 ix3 (jO (qc (c3 (.int 30)) (qc (c3 (.int 8)) qj))) (cb3 qc1 (qc (o3 (iB λi j=>decide (j<i)) (v3 3) (c3 (.int 4))) qj))) (cb3 qc1 (qc (o3 (qas true) (v3 8) (c3 .non)) qj))) qj)) (gn3 9) (qK (za (cb3 S47 (qc (v3 2) (qc (v3 8) (qc (v3 9) qj)))) (gn3 10)) (qK (qfL 11 12 (qc (cb3 (TJ true) (qc (v3 10) qj)) (qc (cb3 S32 (qc (v3 3) (qc (v3 4) (qc (v3 7) (qc (jO qj) (qc (v3 10) qj)))))) qj))) (qK (za (cb3 S46 (qc (v3 3) (qc (v3 4) (qc (v3 5) (qc (v3 10) qj))))) (gn3 13)) (Z5 (or3 (qaS (tb3 (NO (λt=>ju t "bool") (v3 13)))) (or3 (tb3 (o3 (ZP true) (v3 13) (v3 12))) (tb3 (o3 (ZP true) (cb3 (TJ true) (qc (v3 10) qj)) (v3 11))))) (zB (c3 (.bl false))) zE))))))))))))) (zB (c3 (.bl true))))
def qlA (F:Fun K "law" "law" YB f fd) (read:Rd sp 1 (qiy S42 S43 S26 S44 S41 S45 S46 S47 S32) qeT):FnOk P w K mg base CX0 (k+1) f fd qmb (lSp K sp):=
 qeX (t3:=(qiy S42 S43 S26 S44 S41 S45 S46 S47 S32)) F QJ (λcdv A outer s H E hr=>(qg (z9 PassesOwn.never rfl (z8 rfl m13 (qa (zh qf (qA (DX rfl) K5 rfl m6 PyProof.Rows.boot_min (qa qf (qa (qA qY zv rfl m8 PySem.boot_len (qa (qb 0) qd)) qd)))) qd) (h1:=by intro _ _ _ h;simpa [qc,qj] using h)) (qr (i:=1) (QJ.nd)) (qg (qp 2 QJ.nd (qi V42 hr rfl (qa (qb 0) (qa (qb 1) qd)))) (qg (EF (qi V43 hr rfl (qa (qb 2) (qa (jN (zT hr.units) zi (qb 1) qf (qz _)) qd))) (JE rfl (qS (qr (i:=3) (QJ.nd)) (qS (qr (i:=4) (QJ.nd)) (qS (qr (i:=5) (QJ.nd)) JG))))) (qg (qp 6 QJ.nd (qA (SC rfl) NC rfl m5 PyProof.Rows.boot_max (qa (zh (qF (qa qf qd)) (qiV ["_law_span"] [none] rfl (J9 (qb 5)) (λ_ _ _=>(jgn 0)) (λ_ _ _=>R0) (λ_ _ _=>(qA qY zv rfl m8 PySem.boot_len (qa (qb 0) qd))) (by kernel_rfl) (by kernel_rfl))) qd))) (qg (L8 (i:=4) (j:=7) rfl QJ.nd rfl rfl (by decide) rfl rfl (qa (zh (qA (qbZ rfl) qia rfl m5 PyProof.Rows.boot_max (qa qf (qa (X0 (qb 6) qf) qd))) (qZ JF W2 rfl m2 PyProof.Rows.boot_int (qa (jN (zT hr.units) zi (qi V26 hr rfl (qa (qb 2) (qa qf qd))) qf (qz _)) qd))) (qa (qi V44 hr rfl (qa (qb 5) qd)) qd))) (qg (qp 8 QJ.nd (qi V41 hr rfl (qa (qb 2) (qa (jE (qa (qb 3) (qa (qb 4) (qa (qb 5) qd)))) (qa (qb 7) (qa (qF qd) qd)))))) (qg (jb (qO (WV hr.units) YF (jN NJ CF (qb 8) Z9 (qz _)) (jN (zT hr.units) zi (jj (qi V45 hr rfl (qa (qb 3) (qa (qb 4) (qa (qb 5) qd)))) qf) J8 (qz _)) (qz _)) (qk (qu YI)) zr) (qg (jb (jpt (SJ (qO qcV MM (qb 8) Z9 (qz _)) (W4 (qO qhf qdS (qi V46 hr rfl (qa (qb 3) (qa (qb 4) (qa (qb 5) (qa (qb 8) qd))))) YI (qz _))))) (qk (qu YI)) zr) (qk (z9 PassesOwn.never rfl (z8 rfl m13 (qa (JB (jj (qF (qa qf (qa qf qd))) (qZ JF W2 rfl m2 PyProof.Rows.boot_int (qa (jN qa1 jK (qb 3) qf (qz _)) qd))) (qZ JF W2 rfl m2 PyProof.Rows.boot_int (qa (jN qcV MM (qb 8) Z9 (qz _)) qd))) qd) (h1:=by intro _ _ _ h;simpa [qc,qj] using h)) (qr (i:=9) (QJ.nd)) (qg (qp 10 QJ.nd (qi V47 hr rfl (qa (qb 2) (qa (qb 8) (qa (qb 9) qd))))) (qg (L8 (i:=11) (j:=12) rfl QJ.nd rfl rfl (by decide) rfl rfl (qa (qZ (YE hr.gd hr.units) CP rfl m38 PyProof.Rows.boot_str (qa (qb 10) qd)) (qa (qi V32 hr rfl (qa (qb 3) (qa (qb 4) (qa (qb 7) (qa (qF qd) (qa (qb 10) qd)))))) qd))) (qg (qp 13 QJ.nd (qi V46 hr rfl (qa (qb 3) (qa (qb 4) (qa (qb 5) (qa (qb 10) qd)))))) (qk (jb (jpt (XG (VQ (j7 (YC (qb 13) rfl m0 rfl m1 PyProof.Rows.boot_bool))) (XG (qO (WV hr.units) YF (qb 13) (qb 12) (qz _)) (D0 (qO (WV hr.units) YF (qZ (YE hr.gd hr.units) CP rfl m38 PyProof.Rows.boot_str (qa (qb 10) qd)) (qb 11) (qz _)))))) (qk (qu YI)) zr))))))))))))))) (qk (qu YI)))) read
def qoD {S:Sp3} (rd:∀ ts G q,S ts G q->ts.length=2/\((cb3 S48 (qc (v3 1) (qc (v3 0) qj))):TE3) (ts.map some) G q):Lam3 P w K mg base k 0 S:=
 RE l_0 rfl (by kernel_rfl) (λ_ _ _ _ us hl=>by obtain ⟨_,rfl⟩:=Pu.qja hl;rfl) (λA outer s H E f c clos hr=>(qi V48 hr rfl (qa (qb 1) (qa (qb 0) qd)))) rd
def qod {S:Sp3} (rd:∀ ts G q,S ts G q->ts.length=2/\((cb3 S49 (qc (v3 1) (qc (v3 0) qj))):TE3) (ts.map some) G q):Lam3 P w K mg base k 1 S:=
 RE l_1 rfl (by kernel_rfl) (λ_ _ _ _ us hl=>by obtain ⟨_,rfl⟩:=Pu.qja hl;rfl) (λA outer s H E f c clos hr=>(qi V49 hr rfl (qa (qb 1) (qa (qb 0) qd)))) rd
def qoM {S:Sp3} (rd:∀ ts G q,S ts G q->ts.length=2/\((cb3 S48 (qc (v3 1) (qc (v3 0) qj))):TE3) (ts.map some) G q):Lam3 P w K mg base k 2 S:=
 RE l_2 rfl (by kernel_rfl) (λ_ _ _ _ us hl=>by obtain ⟨_,rfl⟩:=Pu.qja hl;rfl) (λA outer s H E f c clos hr=>(qi V48 hr rfl (qa (qb 1) (qa (qb 0) qd)))) rd
def qob {S:Sp3} (rd:∀ ts G q,S ts G q->ts.length=3/\((cb3 S50 (qc (v3 2) (qc (v3 0) (qc (v3 1) qj)))):TE3) (ts.map some) G q):Lam3 P w K mg base k 3 S:=
 RE l_3 rfl (by kernel_rfl) (λ_ _ _ _ us hl=>by obtain ⟨_,_,rfl⟩:=Pu.qoE hl;rfl) (λA outer s H E f c clos hr=>(qi V50 hr rfl (qa (qb 2) (qa (qb 0) (qa (qb 1) qd))))) rd
end
end K50
namespace K50
open PySem L2 L3 Pu
def ZK:PuS (Bk.jf):=(EC (KG (qax (λt=>ju t "int") (bV 0)) (qiR (qax (λt=>ju t "bool") (bV 0)))))
def jg:List PyData->Option PyData:=Pu.run ZK.f 1 1 1000000000 false
def TN:Rd (PSp jg false) 1 (Bk.jf) ZE:=qV ZK ZE 1 1000000000 false
def SQ {x0:PyData}:jg [x0]=ZU false (ZK.f 1000000000 [.sh x0]):=id rfl
def DK:PuS (K50.CZ):=(QK (EW (qP 0) 2 [] ⟨rfl⟩) (QK (MV (T3 (qe (bV 0) qm)) (M1 2 (je (gN 3) (je (gN 4) NF))) (sIf (bTb (bO (UC false) (bO (opI Builtin.bitAnd) (bO (opC (λ_ j=>0<=j) (λi j=>i/2 ^ j.toNat)) (bV 1) (bV 3)) (qP 1)) (qP 1))) (EW (bO (opI Builtin.bitXor) (bV 2) (bV 4)) 2 [false,false,true,false,true] ⟨rfl⟩) VB) [true] ⟨rfl⟩) (CG 2)))
def JP:List PyData->Option PyData:=Pu.run DK.f 2 5 1000000000 false
def qcI:Rd (PSp JP false) 2 (K50.CZ) DP:=qV DK DP 2 1000000000 false
def qbD {x0 x1:PyData}:JP [x0,x1]=ZU false (DK.f 1000000000 [.sh x0,.sh x1,.un,.un,.un]):=id rfl
def jY:PuS (K50.Z8 (PSp Pv.UF true)):=(EC (qoo (qaP (bV 0)) (gN 0) bTt (qaP (bSl (qw (zg Pv.UF true) (qe (bV 0) qm)) (bSp (qP 1)) bNp)) (gN 1) bTt (bV 1) [none,none] ⟨rfl⟩ ⟨rfl⟩ ⟨rfl⟩))
def qT:List PyData->Option PyData:=Pu.run jY.f 1 1 1000000000 true
def RC:Rd (PSp qT true) 1 (K50.Z8 (PSp Pv.UF true)) j6:=qV jY j6 1 1000000000 true
def RM {x0:PyData}:qT [x0]=ZU true (jY.f 1000000000 [.sh x0]):=id rfl
def z4:PuS (K50.jM):=(QK (EW (bO (opC qco (λi j=>i*2 ^ j.toNat)) (qP 1) (qn1 (bO qgA (bV 1) (qP 0)))) 2 [false,true] ⟨rfl⟩) (EC (qw qmX (qe (bO RU (bV 2) (qP 1)) (qe (bO (opC qco (λi j=>i*2 ^ j.toNat)) (qP 1) (bV 0)) qm)))))
def qC:List PyData->Option PyData:=Pu.run z4.f 2 3 1000000000 false
def DA:Rd (PSp qC false) 2 (K50.jM) z5:=qV z4 z5 2 1000000000 false
def EU {x0 x1:PyData}:qC [x0,x1]=ZU false (z4.f 1000000000 [.sh x0,.sh x1,.un]):=id rfl
def jz:PuS (K50.QY (PSp JP false)):=(EC (KG (bO (UC false) (qn1 (bV 1)) (qw T6 (qe (bV 0) qm))) (bO (UC false) (qw (zg JP false) (qe (bV 0) (qe (bV 1) qm))) (qP 0))))
def qR:List PyData->Option PyData:=Pu.run jz.f 2 2 1000000000 false
def XI:Rd (PSp qR false) 2 (K50.QY (PSp JP false)) jw:=qV jz jw 2 1000000000 false
def XQ {x0 x1:PyData}:qR [x0,x1]=ZU false (jz.f 1000000000 [.sh x0,.sh x1]):=id rfl
def zK:PuS (K50.jr (PSp qR false)):=(QK (MV (qaP (bV 0)) (gN 2) (sIf (bTb (qw (zg qR false) (qe (bV 1) (qe (bV 2) qm)))) (CG 2) VB) [true] ⟨rfl⟩) (EC qaH))
def qW:List PyData->Option PyData:=Pu.run zK.f 2 3 1000000000 false
def U4:Rd (PSp qW false) 2 (K50.jr (PSp qR false)) zN:=qV zK zN 2 1000000000 false
def UM {x0 x1:PyData}:qW [x0,x1]=ZU false (zK.f 1000000000 [.sh x0,.sh x1,.un]):=id rfl
def Z7:PuS (K50.D7 (PSp qR false) (PSp jg false)):=(EC (KG (qw (zg jg false) (qe (bV 2) qm)) (KG (bO (qng false) (bV 2) (bV 0)) (qw (zg qR false) (qe (bV 1) (qe (bV 2) qm))))))
def QH:List PyData->Option PyData:=Pu.run Z7.f 3 3 1000000000 false
def qaK:Rd (PSp QH false) 3 (K50.D7 (PSp qR false) (PSp jg false)) VV:=qV Z7 VV 3 1000000000 false
def qam {x0 x1 x2:PyData}:QH [x0,x1,x2]=ZU false (Z7.f 1000000000 [.sh x0,.sh x1,.sh x2]):=id rfl
def qm6:PuE (cb3 (PSp qC false) (qc (v3 1) (qc (v3 0) qj))):=(qw (zg qC false) (qe (bV 1) (qe (bV 0) qm)))
def qlc:List PyData->Option PyData:=qi7 qm6.f 2
def qnP:∀ ts G q,PSp qlc false ts G q->ts.length=2/\((cb3 (PSp qC false) (qc (v3 1) (qc (v3 0) qj))):TE3) (ts.map some) G q:=RB qm6 2
def qns {x0 x1:PyData}:qlc [x0,x1]=qm6.f [.sh x0,.sh x1]:=id rfl
def qmU:PuE (cb3 (PSp qW false) (qc (v3 1) (qc (v3 0) qj))):=(qw (zg qW false) (qe (bV 1) (qe (bV 0) qm)))
def qk9:List PyData->Option PyData:=qi7 qmU.f 2
def qn5:∀ ts G q,PSp qk9 false ts G q->ts.length=2/\((cb3 (PSp qW false) (qc (v3 1) (qc (v3 0) qj))):TE3) (ts.map some) G q:=RB qmU 2
def qo1 {x0 x1:PyData}:qk9 [x0,x1]=qmU.f [.sh x0,.sh x1]:=id rfl
def qna:PuE (cb3 (PSp qC false) (qc (v3 1) (qc (v3 0) qj))):=(qw (zg qC false) (qe (bV 1) (qe (bV 0) qm)))
def qjx:List PyData->Option PyData:=qi7 qna.f 2
def qoT:∀ ts G q,PSp qjx false ts G q->ts.length=2/\((cb3 (PSp qC false) (qc (v3 1) (qc (v3 0) qj))):TE3) (ts.map some) G q:=RB qna 2
def qoC {x0 x1:PyData}:qjx [x0,x1]=qna.f [.sh x0,.sh x1]:=id rfl
def qm1:PuE (cb3 (PSp QH false) (qc (v3 2) (qc (v3 0) (qc (v3 1) qj)))):=(qw (zg QH false) (qe (bV 2) (qe (bV 0) (qe (bV 1) qm))))
def qmL:List PyData->Option PyData:=qi7 qm1.f 3
def qos:∀ ts G q,PSp qmL false ts G q->ts.length=3/\((cb3 (PSp QH false) (qc (v3 2) (qc (v3 0) (qc (v3 1) qj)))):TE3) (ts.map some) G q:=RB qm1 3
def qoG {x0 x1 x2:PyData}:qmL [x0,x1,x2]=qm1.f [.sh x0,.sh x1,.sh x2]:=id rfl
def PhL:PhD:=λi=>[qlc,qk9,qjx,qmL][i]?
def QL (Ff:List PyData->Option PyData):PuS (K50.EB (phS PhL) (PSp Ff false)):=(QK (sIf (bTb (bO (UC false) (qw T6 (qe (bV 3) qm)) (bV 0))) (EC (KA (qe (qdy "row") (qe (bV 3) qm)) ⟨rfl⟩)) VB) (QK (EW (ZY qm ⟨rfl⟩) 4 [] ⟨rfl⟩) (QK (MV (qhG (qe (bCv PhL (bV 1) (qe (bV 3) qm)) qm)) (gN 5) (QK (EW (bO VU (bV 3) (ZY (qe (bV 5) qm) ⟨rfl⟩)) 6 [false,false,false,true,false,true] ⟨rfl⟩) (QK (EW (bCv PhL (bV 2) (qe (bV 6) qm)) 7 [false,false,true,false,false,false,true] ⟨rfl⟩) (QK (sIf (bTb (bO (LV false) (bV 7) qaH)) (QK (qhb (qw (zg Ff false) (qe (bV 0) (qe (bV 1) (qe (bV 2) (qe (bV 6) qm))))) (M1 2 (je (gN 8) (je (gN 7) NF))) [true,true,true,false,false,false,true] ⟨rfl⟩) (sIf (bTb (bO (UC false) (bV 8) (qdy "row"))) (EC (KA (qe (qdy "row") (qe (bV 7) qm)) ⟨rfl⟩)) VB)) VB) (qok (bV 7) 4 [false,false,false,false,false,false,false,true] ⟨rfl⟩)))) [false,true,false,true] ⟨rfl⟩) (EC (KA (qe (qdy "none") (qe (qw qi5 (qe (bV 4) qm)) qm)) ⟨rfl⟩)))))
def qX:Nat->List PyData->Option PyData
 |0=>λ_=>none
 |j+1=>Pu.run (QL (qX j)).f 4 9 1000000000 false
def KS (j:Nat):Rd (PSp (qX (j+1)) false) 4 (K50.EB (phS PhL) (PSp (qX j) false)) JZ:=qV (QL (qX j)) JZ 4 1000000000 false
def KB {j:Nat} {x0 x1 x2 x3:PyData}:qX (j+1) [x0,x1,x2,x3]=ZU false ((QL (qX j)).f 1000000000 [.sh x0,.sh x1,.sh x2,.sh x3,.un,.un,.un,.un,.un]):=id rfl
def Q5:PuS (K50.YY (PSp qT true) (PSp (qX 6) false)):=(QK (EW (qw (zg qT true) (qe (bV 2) qm)) 3 [false,false,true] ⟨rfl⟩) (QK (qhb (qoX (qX 6) false (bV 0) (qe (ZY qm ⟨rfl⟩) qm) 0 1 [1] [3]) (M1 2 (je (gN 4) (je (gN 5) NF))) [true,true,false,true] ⟨rfl⟩) (QK (sIf (bTb (bO (UC false) (bV 4) (qdy "none"))) (EC (KA (qe (qdy "none") (qe (bV 5) qm)) ⟨rfl⟩)) VB) (EC (KA (qe (qdy "image") (qe (bV 5) qm)) ⟨rfl⟩)))))
def zR:List PyData->Option PyData:=Pu.run Q5.f 3 6 1000000000 false
def SW:Rd (PSp zR false) 3 (K50.YY (PSp qT true) (PSp (qX 6) false)) Q0:=qV Q5 Q0 3 1000000000 false
def SH {x0 x1 x2:PyData}:zR [x0,x1,x2]=ZU false (Q5.f 1000000000 [.sh x0,.sh x1,.sh x2,.un,.un,.un]):=id rfl
def QV (Ff:List PyData->Option PyData):PuS (K50.D8 (phS PhL) (PSp Ff false)):=(QK (sIf (bOr (bTb (bO (UC false) (qw T6 (qe (bV 3) qm)) (bV 0))) (bOr (qdM (bTb (qax (λt=>ju t "tuple") (bV 4)))) (bTb (bO (UC true) (qw T6 (qe (bV 4) qm)) (bCv PhL (bV 1) (qe (bV 3) qm)))))) (EC (bBl false)) VB) (QK (MV (T3 (qe (bV 4) qm)) (M1 2 (je (gN 5) (je (gN 6) NF))) (QK (EW (bO VU (bV 3) (ZY (qe (bV 5) qm) ⟨rfl⟩)) 7 [false,false,false,true,false,true] ⟨rfl⟩) (sIf (qi1 (qdM (bTb (bCv PhL (bV 2) (qe (bV 7) (qe (bV 6) qm))))) (qdM (bTb (qw (zg Ff false) (qe (bV 0) (qe (bV 1) (qe (bV 2) (qe (bV 7) (qe (bV 6) qm))))))))) (EC (bBl false)) VB)) [false,false,false,false,true] ⟨rfl⟩) (EC (bBl true))))
def zy:Nat->List PyData->Option PyData
 |0=>λ_=>none
 |j+1=>Pu.run (QV (zy j)).f 5 8 1000000000 false
def N4 (j:Nat):Rd (PSp (zy (j+1)) false) 5 (K50.D8 (phS PhL) (PSp (zy j) false)) VZ:=qV (QV (zy j)) VZ 5 1000000000 false
def N5 {j:Nat} {x0 x1 x2 x3 x4:PyData}:zy (j+1) [x0,x1,x2,x3,x4]=ZU false ((QV (zy j)).f 1000000000 [.sh x0,.sh x1,.sh x2,.sh x3,.sh x4,.un,.un,.un]):=id rfl
def zP:PuS (K50.jp (PSp qT true) (PSp (zy 6) false)):=(QK (EW (qw (zg qT true) (qe (bV 2) qm)) 4 [false,false,true] ⟨rfl⟩) (EC (qoX (zy 6) false (bV 0) (qe (ZY qm ⟨rfl⟩) (qe (bV 3) qm)) 2 3 [1] [4])))
def qN:List PyData->Option PyData:=Pu.run zP.f 4 5 1000000000 false
def UT:Rd (PSp qN false) 4 (K50.jp (PSp qT true) (PSp (zy 6) false)) zJ:=qV zP zJ 4 1000000000 false
def U8 {x0 x1 x2 x3:PyData}:qN [x0,x1,x2,x3]=ZU false (zP.f 1000000000 [.sh x0,.sh x1,.sh x2,.sh x3,.un]):=id rfl
def VG:PuS (K50.WP):=(EC (bO CU (ZY (qe (qP 1) (qe (qP 2) (qe (qP 4) (qe (qP 8) (qe (qP 16) (qe (qP 32) (qe (qP 64) (qe (qP 128) (qe (qP 256) qm))))))))) ⟨rfl⟩) (bV 0)))
def qy:List PyData->Option PyData:=Pu.run VG.f 1 1 1000000000 false
def qar:Rd (PSp qy false) 1 (K50.WP) VH:=qV VG VH 1 1000000000 false
def NX {x0:PyData}:qy [x0]=ZU false (VG.f 1000000000 [.sh x0]):=id rfl
def Q2:PuS (K50.YM (PSp qy false)):=(QK (EW (ZY qm ⟨rfl⟩) 1 [] ⟨rfl⟩) (QK (MV (qhG (qe (qw (zg qy false) (qe (qw T6 (qe (bV 0) qm)) qm)) qm)) (gN 2) (QK (EW (qP 0) 3 [] ⟨rfl⟩) (QK (MV (T3 (qe (bV 0) qm)) (M1 2 (je (gN 4) (je (gN 5) NF))) (EW (bO (opI Builtin.bitXor) (bV 3) (bO (opC J6 (·*·)) (bV 5) (bO (opC (λ_ j=>0<j) (·%·)) (bO (opC qeQ (·/·)) (bV 2) (qw (zg qy false) (qe (bV 4) qm))) (qP 2)))) 3 [false,false,true,true,true,true] ⟨rfl⟩) [true] ⟨rfl⟩) (qok (bV 3) 1 [false,false,false,true] ⟨rfl⟩))) [true] ⟨rfl⟩) (CG 1)))
def zk:List PyData->Option PyData:=Pu.run Q2.f 1 6 1000000000 true
def S6:Rd (PSp zk true) 1 (K50.YM (PSp qy false)) QW:=qV Q2 QW 1 1000000000 true
def TB {x0:PyData}:zk [x0]=ZU true (Q2.f 1000000000 [.sh x0,.un,.un,.un,.un,.un]):=id rfl
def QE:=((jS (EQ (eO RU (eOf (qP 1)) (eDr JD (aOf (qe (bO (opI (·-·)) (qw (zg qy false) (qe (bV 1) qm)) (qP 1)) qm)))) 6 [false,true] ⟨rfl⟩ ⟨rfl⟩) (wIf (cOf (bTb (bO (qng true) (bV 6) (qw (zg zk true) (qe (bV 4) qm))))) (qm0 (eOf (bV 6)) 4 [false,false,false,false,false,false,true] ⟨rfl⟩ ⟨rfl⟩) WR)):PwS 0 _)
def QC:=((jS (EQ (eOf (ZY qm ⟨rfl⟩)) 4 [] ⟨rfl⟩ ⟨rfl⟩) (jS (qiW (iR (VJ (eDr JD (aOf (qe (qP 4) qm))) (aOf qm))) (gN 5) QE [] ⟨rfl⟩ ⟨rfl⟩) (qm0 (eOf (bV 4)) 2 [false,false,false,false,true] ⟨rfl⟩ ⟨rfl⟩))):PwS 0 _)
def ZJ:PwS 0 (K50.YU Bk.qD (PSp qy false) (PSp zk true)):=(jS (EQ (eOf (ZY qm ⟨rfl⟩)) 2 [] ⟨rfl⟩ ⟨rfl⟩) (jS (qiW (iR (VJ (eDr JD (aOf (qe (qP 5) qm))) (aOf qm))) (gN 3) QC [] ⟨rfl⟩ ⟨rfl⟩) (qef 2)))
def jd:Wm:=qi4 ZJ 2 7 true
def SA:Rd (DSp jd.W true) 2 (K50.YU Bk.qD (PSp qy false) (PSp zk true)) ZM:=WC ZJ ZM 2 true
def T4 {x0:PyData} {n:Nat} {Q:QD}:jd.W [x0] n Q=(2=2/\ZJ.w [.un,.sh x0,.un,.un,.un,.un,.un] n (qd2 true Q)):=id rfl
def V8:PuS (K50.WN (PSp zk true)):=(QK (EW (ZY qm ⟨rfl⟩) 1 [] ⟨rfl⟩) (QK (MV (qaP (bV 0)) (gN 2) (qon (bSl (qw (zg zk true) (qe (bV 2) qm)) (bSp (qP 1)) bNp) 1 [false,false,true] ⟨rfl⟩) [true] ⟨rfl⟩) (EC (qkQ (bV 1)))))
def QI:List PyData->Option PyData:=Pu.run V8.f 1 3 1000000000 true
def qah:Rd (PSp QI true) 1 (K50.WN (PSp zk true)) VX:=qV V8 VX 1 1000000000 true
def qab {x0:PyData}:QI [x0]=ZU true (V8.f 1000000000 [.sh x0,.un,.un]):=id rfl
def VY:PuS (K50.WM (PSp qy false)):=(QK (EW (qP 0) 2 [] ⟨rfl⟩) (QK (MV (T3 (qe (bV 0) qm)) (M1 2 (je (gN 3) (je (gN 4) NF))) (EW (bO (opI Builtin.bitXor) (bV 2) (bO (opC J6 (·*·)) (bV 4) (bO (opC (λ_ j=>0<j) (·%·)) (bO (opC qeQ (·/·)) (bV 1) (qw (zg qy false) (qe (bV 3) qm))) (qP 2)))) 2 [false,true,true,true,true] ⟨rfl⟩) [true] ⟨rfl⟩) (CG 2)))
def z6:List PyData->Option PyData:=Pu.run VY.f 2 5 1000000000 false
def qaf:Rd (PSp z6 false) 2 (K50.WM (PSp qy false)) VN:=qV VY VN 2 1000000000 false
def qau {x0 x1:PyData}:z6 [x0,x1]=ZU false (VY.f 1000000000 [.sh x0,.sh x1,.un,.un,.un]):=id rfl
def JO:PuS (K50.UR (PSp qy false)):=(QK (EW (qP 1) 2 [] ⟨rfl⟩) (QK (MV (qhG (qe (qP 6) qm)) (gN 3) (sIf (bTb (bO (opB λi j=>decide (j<=i)) (qw qeK (qe (bO VU (bV 0) (ZY (qe (qP 0) qm) ⟨rfl⟩)) qm)) (bV 2))) (EW (bO (opC J6 (·*·)) (qP 2) (bV 2)) 2 [false,false,true] ⟨rfl⟩) VB) [] ⟨rfl⟩) (EC (qw qmX (qe (bV 2) (qe (bO (opI (·-·)) (qw (zg qy false) (qe (bV 1) qm)) (qP 1)) qm))))))
def zF:List PyData->Option PyData:=Pu.run JO.f 2 4 1000000000 false
def KR:Rd (PSp zF false) 2 (K50.UR (PSp qy false)) J0:=qV JO J0 2 1000000000 false
def LS {x0 x1:PyData}:zF [x0,x1]=ZU false (JO.f 1000000000 [.sh x0,.sh x1,.un,.un]):=id rfl
def V1:PwS 0 (K50.DW Bk.qD (DSp jd.W true)):=(jS (EQ (eO RU (eOf (qP 1)) (eDr JD (VJ (eO CU (eOf (ZY (qe (qP 3) (qe (qP 3) (qe (qP 3) (qe (qP 3) (qe (qP 4) (qe (qP 4) (qe (qP 4) (qe (bO CU (ZY (qe (qP 4) (qe (qP 5) qm)) ⟨rfl⟩) (qw qi3 (qe (bV 1) qm))) qm)))))))) ⟨rfl⟩)) (eDr JD (aOf (qe (qP 8) qm)))) (aOf qm)))) 2 [false,true] ⟨rfl⟩ ⟨rfl⟩) (qdJ (qnX (VJ (eOf (bV 2)) (VJ (eDr JD (VJ (eO CU (eOf (ZY (qe (qP 3) (qe (qP 4) (qe (qP 6) qm))) ⟨rfl⟩)) (eDr JD (aOf (qe (qP 3) qm)))) (aOf qm))) (VJ (eDr (dSp jd true) (aOf (qe (bV 2) qm))) (aOf qm)))) ⟨rfl⟩)))
def QS:Wm:=qi4 V1 2 3 false
def qaO:Rd (DSp QS.W false) 2 (K50.DW Bk.qD (DSp jd.W true)) VP:=WC V1 VP 2 false
def qan {x0:PyData} {n:Nat} {Q:QD}:QS.W [x0] n Q=(2=2/\V1.w [.un,.sh x0,.un] n (qd2 false Q)):=id rfl
def ZG:PuS (Bk.jf):=(EC (KG (qax (λt=>ju t "int") (bV 0)) (qiR (qax (λt=>ju t "bool") (bV 0)))))
def zl:List PyData->Option PyData:=Pu.run ZG.f 1 1 1000000000 false
def TZ:Rd (PSp zl false) 1 (Bk.jf) QZ:=qV ZG QZ 1 1000000000 false
def SB {x0:PyData}:zl [x0]=ZU false (ZG.f 1000000000 [.sh x0]):=id rfl
def jC (Ff:List PyData->Option PyData):PuS (K50.U6 (PSp zF false) (PSp qy false) (PSp Ff false) (PSp zl false) (PSp z6 false)):=(QK (sIf (bOr (qdM (bTb (qax (λt=>ju t "tuple") (bV 4)))) (bTb (bO (UC true) (qw T6 (qe (bV 4) qm)) (bO RU (qw (zg zF false) (qe (bV 3) (qe (bV 1) qm))) (qP 1))))) (EC (bBl false)) VB) (QK (EW (qw (zg qy false) (qe (qw T6 (qe (bV 3) qm)) qm)) 5 [false,false,false,true] ⟨rfl⟩) (QK (MV (T3 (qe (bV 4) qm)) (M1 2 (je (gN 6) (je (gN 7) NF))) (QK (EW (bO VU (bV 3) (ZY (qe (bV 6) qm) ⟨rfl⟩)) 8 [false,false,false,true,false,false,true] ⟨rfl⟩) (sIf (bTb (qax (λt=>ju t "tuple") (bV 7))) (sIf (bOr (bTb (bO (UC false) (qw T6 (qe (bV 8) qm)) (bV 0))) (qdM (bTb (qw (zg Ff false) (qe (bV 0) (qe (bV 1) (qe (bV 2) (qe (bV 8) (qe (bV 7) qm))))))))) (EC (bBl false)) VB) (sIf (bOr (qdM (bTb (qw (zg zl false) (qe (bV 7) qm)))) (bOr (bTb (bO (qng true) (bV 7) (bV 2))) (qdM (bTb (bCh (opB λi j=>decide (i<=j)) (opB λi j=>decide (i<j)) (bV 5) (bV 7) (bO (opC J6 (·*·)) (qP 2) (bV 5))))))) (EC (bBl false)) (sIf (bTb (bO (UC true) (qw (zg z6 false) (qe (bV 8) (qe (bV 7) qm))) (qP 0))) (EC (bBl false)) VB)))) [false,false,false,false,true] ⟨rfl⟩) (EC (bBl true)))))
def zd:Nat->List PyData->Option PyData
 |0=>λ_=>none
 |j+1=>Pu.run (jC (zd j)).f 5 9 1000000000 false
def LX (j:Nat):Rd (PSp (zd (j+1)) false) 5 (K50.U6 (PSp zF false) (PSp qy false) (PSp (zd j) false) (PSp zl false) (PSp z6 false)) JT:=qV (jC (zd j)) JT 5 1000000000 false
def KI {j:Nat} {x0 x1 x2 x3 x4:PyData}:zd (j+1) [x0,x1,x2,x3,x4]=ZU false ((jC (zd j)).f 1000000000 [.sh x0,.sh x1,.sh x2,.sh x3,.sh x4,.un,.un,.un,.un]):=id rfl
def jI (Ff:List PyData->Option PyData):PuS (K50.YR (PSp Ff true)):=(QK (EW (ZY (qe (KA qm ⟨rfl⟩) qm) ⟨rfl⟩) 1 [] ⟨rfl⟩) (QK (sIf (bTb (qax (λt=>ju t "list" || ju t "tuple") (bV 0))) (MV (T3 (qe (bV 0) qm)) (M1 2 (je (gN 2) (je (gN 3) NF))) (qon (bLc (qaP (qw (zg Ff true) (qe (bV 3) qm))) (gN 0) bTt (bO jm (KA (qe (bV 1) qm) ⟨rfl⟩) (bV 0)) [none,some 2] ⟨rfl⟩) 1 [false,false,true,true] ⟨rfl⟩) [true] ⟨rfl⟩) VB) (CG 1)))
def qH:Nat->List PyData->Option PyData
 |0=>λ_=>none
 |j+1=>Pu.run (jI (qH j)).f 1 4 1000000000 true
def TK (j:Nat):Rd (PSp (qH (j+1)) true) 1 (K50.YR (PSp (qH j) true)) ZH:=qV (jI (qH j)) ZH 1 1000000000 true
def SE {j:Nat} {x0:PyData}:qH (j+1) [x0]=ZU true ((jI (qH j)).f 1000000000 [.sh x0,.un,.un,.un]):=id rfl
def JW:PuS (K50.UL):=(QK (MV (qaP (bV 1)) (gN 2) (EW (bO CU (bV 0) (bV 2)) 0 [true,false,true] ⟨rfl⟩) [false,true] ⟨rfl⟩) (CG 0))
def jD:List PyData->Option PyData:=Pu.run JW.f 2 3 1000000000 false
def K6:Rd (PSp jD false) 2 (K50.UL) JR:=qV JW JR 2 1000000000 false
def LD {x0 x1:PyData}:jD [x0,x1]=ZU false (JW.f 1000000000 [.sh x0,.sh x1,.un]):=id rfl
def JC (Ff:List PyData->Option PyData):PuS (K50.WQ (PSp Ff false)):=(QK (sIf (bTb (bO (UC false) (bV 1) (KA qm ⟨rfl⟩))) (CG 2) VB) (QK (EW (qw qnc (qe (bV 0) qm)) 3 [true] ⟨rfl⟩) (QK (qkn (zg Ff false) 3 (bO CU (bV 1) (qP 0)) (qe (qfq (bV 1) (bSp (qP 1)) bNp) (qe (bV 2) qm)) (bO CU (bV 1) (qP 0)) [false,true,true] ⟨rfl⟩) (EC (bIf (bTb (qax (λt=>ju t "list") (bV 0))) (bV 3) (qw qi5 (qe (bV 3) qm)))))))
def zx:Nat->List PyData->Option PyData
 |0=>λ_=>none
 |j+1=>Pu.run (JC (zx j)).f 3 4 1000000000 false
def qaD (j:Nat):Rd (PSp (zx (j+1)) false) 3 (K50.WQ (PSp (zx j) false)) V3:=qV (JC (zx j)) V3 3 1000000000 false
def X6 {j:Nat} {x0 x1 x2:PyData}:zx (j+1) [x0,x1,x2]=ZU false ((JC (zx j)).f 1000000000 [.sh x0,.sh x1,.sh x2,.un]):=id rfl
def zp:=((jS (EQ (eOf (qw qnc (qe (bV 1) qm))) 4 [false,true] ⟨rfl⟩ ⟨rfl⟩) (jS (EQ (eDr JD (aOf (qe (bO jm (qw T6 (qe (bV 4) qm)) (qP 1)) qm))) 5 [false,false,false,false,true] ⟨rfl⟩ ⟨rfl⟩) (jS (qkG (aOf (qe (qfq (bV 4) bNp (bSp (bV 5))) (qe (qfq (bV 4) (bSp (bV 5)) (bSp (bO jm (bV 5) (qP 1)))) qm))) 6 7 [false,false,false,false,true,true] ⟨rfl⟩ ⟨rfl⟩) (jS (wIf (cOf (bTb (bO (opB λi j=>decide (i<j)) (bV 2) (qP 3)))) (jS (EQ (eOf (bO CU (ZY (qe (ZY qm ⟨rfl⟩) (qe (bO qiG (bV 7) (qP 2)) (qe (bO jm (ZY (qe (bV 3) qm) ⟨rfl⟩) (bV 7)) qm))) ⟨rfl⟩) (bV 2))) 8 [false,false,true,true,false,false,false,true] ⟨rfl⟩ ⟨rfl⟩) (EQ (eOf (bO jm (bO jm (bV 6) (bV 8)) (qfq (bV 4) (bSp (bO jm (bV 5) (qP 1))) bNp))) 4 [false,false,false,false,true,true,true,false,true] ⟨rfl⟩ ⟨rfl⟩)) (wIf (cOf (bTb (bO (UC false) (bV 2) (qP 3)))) (jS (EQ (eOf (qfq (bV 4) (bSp (bV 5)) (bSp (bO jm (bV 5) (qP 2))))) 9 [false,false,false,false,true,true] ⟨rfl⟩ ⟨rfl⟩) (EQ (eOf (bO jm (bO jm (bV 6) (qnb (bV 9))) (qfq (bV 4) (bSp (bO jm (bV 5) (qP 2))) bNp))) 4 [false,false,false,false,true,true,true,false,false,true] ⟨rfl⟩ ⟨rfl⟩)) (EQ (eOf (bO CU (ZY (qe (qnb (bV 4)) (qe (bV 4) (qe (ZY (qe (bV 1) qm) ⟨rfl⟩) (qe (ZY qm ⟨rfl⟩) qm)))) ⟨rfl⟩) (bO (opI (·-·)) (bV 2) (qP 4)))) 4 [false,true,true,false,true] ⟨rfl⟩ ⟨rfl⟩))) (jS (wIf (cOf (bTb (bO (UC true) (qax (λt=>ju t "tuple") (bV 1)) (bO (UC false) (bV 2) (qP 5))))) (qdJ (eOf (qw qi5 (qe (bV 4) qm)))) WR) (qef 4)))))):PwS 0 _)
def z7:PwS 0 (K50.jF Bk.qD (PSp zl false)):=(jS (qkG (VJ (eDr JD (aOf (qe (qP 8) qm))) (VJ (eO CU (eOf (ZY (qe (qP 0) (qe (qP 1) (qe qaH (qe (KA qm ⟨rfl⟩) (qe (KA (qe (qP 0) qm) ⟨rfl⟩) (qe (qdy "0") qm)))))) ⟨rfl⟩)) (eDr JD (aOf (qe (qP 6) qm)))) (aOf qm))) 2 3 [] ⟨rfl⟩ ⟨rfl⟩) (jS (wIf (cOf (bTb (qax (λt=>ju t "list" || ju t "tuple") (bV 1)))) zp WR) (jS (wIf (cOf (qdM (bTb (qw (zg zl false) (qe (bV 1) qm))))) (qdJ (eOf (bO CU (ZY (qe (qP 0) (qe (qP 1) (qe (bBl false) (qe (qdy "") (qe (KA (qe qaH qm) ⟨rfl⟩) (qe (qnE (qP 1)) (qe (ZY qm ⟨rfl⟩) (qe (bBl true) qm)))))))) ⟨rfl⟩) (bV 2)))) WR) (jS (EQ (eOf (ZY (qe (bO jm (bV 1) (qP 1)) (qe (bO (opI (·-·)) (bV 1) (qP 1)) (qe (bO (opI (·-·)) (qP 0) (bV 1)) (qe (bO jm (bV 1) (qP 2)) qm)))) ⟨rfl⟩)) 10 [false,true] ⟨rfl⟩ ⟨rfl⟩) (qdJ (eOf (bO CU (bO jm (bV 10) (ZY (qe (bO (UC false) (bV 1) (qP 1)) (qe (qw (qdk true) (qe (bV 1) qm)) (qe (KA (qe (bV 1) qm) ⟨rfl⟩) (qe (bV 3) qm)))) ⟨rfl⟩)) (bV 2))))))))
def zc:Wm:=qi4 z7 2 11 false
def ER:Rd (DSp zc.W false) 2 (K50.jF Bk.qD (PSp zl false)) zZ:=WC z7 zZ 2 false
def EV {x0:PyData} {n:Nat} {Q:QD}:zc.W [x0] n Q=(2=2/\z7.w [.un,.sh x0,.un,.un,.un,.un,.un,.un,.un,.un,.un] n (qd2 false Q)):=id rfl
def zw:=((jS (EQ (eOf (qw (zg (qH 9) true) (qe (bV 1) qm))) 4 [false,true] ⟨rfl⟩ ⟨rfl⟩) (jS (EQ (eOf (bO CU (bV 4) (qnE (qP 1)))) 5 [false,false,false,false,true] ⟨rfl⟩ ⟨rfl⟩) (jS (wIf (cOf (bOr (bTb (bO (opB λi j=>decide (j<i)) (bV 2) (qP 0))) (bTb (bO (opB λi j=>decide (j<i)) (bV 3) (qP 0))))) (EQ (eO CU (eOf (bV 4)) (eDr JD (aOf (qe (qw T6 (qe (bV 4) qm)) qm)))) 5 [false,false,false,false,true] ⟨rfl⟩ ⟨rfl⟩) WR) (jS (EQ (eDr (dSp zc false) (aOf (qe (qw (zg jD false) (qe (bV 1) (qe (bV 5) qm))) qm))) 6 [false,true,false,false,false,true] ⟨rfl⟩ ⟨rfl⟩) (EQ (eOf (qw (zg (zx 9) false) (qe (bV 1) (qe (bV 5) (qe (bV 6) qm))))) 1 [false,true,false,false,false,true,true] ⟨rfl⟩ ⟨rfl⟩))))):PwS 0 _)
def jT:PwS 0 (K50.Z4 Bk.qD (PSp (qH 9) true) (PSp jD false) (DSp zc.W false) (PSp (zx 9) false)):=(jS (qiW (iR (VJ (eO RU (eOf (qP 1)) (qhs qi3 (VJ (qeV (eOf (bO (opB λi j=>decide (j<i)) (bV 2) (qP 1))) (eO (UC false) (eDr JD (aOf (qe (qP 3) qm))) (eOf (qP 0)))) (aOf qm)))) (aOf qm))) (gN 3) zw [false,false,true] ⟨rfl⟩ ⟨rfl⟩) (qef 1))
def zX:Wm:=qi4 jT 3 7 false
def RF:Rd (DSp zX.W false) 3 (K50.Z4 Bk.qD (PSp (qH 9) true) (PSp jD false) (DSp zc.W false) (PSp (zx 9) false)) jR:=WC jT jR 3 false
def RG {x0 x1:PyData} {n:Nat} {Q:QD}:zX.W [x0,x1] n Q=(3=3/\jT.w [.un,.sh x0,.sh x1,.un,.un,.un,.un] n (qd2 false Q)):=id rfl
def ji (Wf:Wm):=((jS (EQ (eOf (bO VU (bV 3) (ZY (qe (bV 9) qm) ⟨rfl⟩))) 10 [false,false,false,true,false,false,false,false,false,true] ⟨rfl⟩ ⟨rfl⟩) (jS (EQ (eOf (bLc (qaP (bV 2)) (gN 0) (qi1 (bTb (bCh (opB λi j=>decide (i<=j)) (opB λi j=>decide (i<j)) (bV 1) (bV 0) (bO (opC J6 (·*·)) (qP 2) (bV 1)))) (bTb (bO (UC false) (qw (zg z6 false) (qe (bV 2) (qe (bV 0) qm))) (qP 0)))) (bV 0) [none,some 7,some 10] ⟨rfl⟩)) 11 [false,false,true,false,false,false,false,true,false,false,true] ⟨rfl⟩ ⟨rfl⟩) (jS (EQ (qeV (eO (UC false) (eDr JD (aOf (qe (qP 4) qm))) (eOf (qP 0))) (eOf (bO (opB λi j=>decide (i<j)) (qw T6 (qe (bV 10) qm)) (bV 4)))) 12 [false,false,false,false,true,false,false,false,false,false,true] ⟨rfl⟩ ⟨rfl⟩) (jS (EQ (eIf (cOf (bOr (qi1 (bTb (bO (UC false) (bV 11) (ZY qm ⟨rfl⟩))) (bTb (bO (opB λi j=>decide (i<j)) (qw T6 (qe (bV 10) qm)) (bV 4)))) (bTb (bV 12)))) (eDr (dSp Wf false) (aOf (qe (bV 1) (qe (bV 2) (qe (bV 10) qm))))) (eOf qaH)) 13 [false,true,true,false,true,false,false,false,false,false,true,true,true] ⟨rfl⟩ ⟨rfl⟩) (jS (wIf (cOf (qi1 (bTb (bO (LV false) (bV 13) qaH)) (bTb (bO (UC false) (bV 11) (ZY qm ⟨rfl⟩))))) (qdJ (eOf qaH)) WR) (qm0 (eIf (cOf (bTb (bO (LV false) (bV 13) qaH))) (eO CU (eOf (bV 11)) (eDr JD (aOf (qe (qw T6 (qe (bV 11) qm)) qm)))) (eOf (bV 13))) 8 [false,false,false,false,false,false,false,false,false,false,false,true,false,true] ⟨rfl⟩ ⟨rfl⟩)))))):PwS 0 _)
def Q1 (Wf:Wm):PwS 0 (K50.YO (PSp qy false) (PSp zF false) (PSp z6 false) Bk.qD (DSp Wf.W false)):=(jS (qg4 (eOf (bV 1)) (M1 3 (je (gN 4) (je (gN 5) (je (gN 6) NF)))) [false,true] ⟨rfl⟩ ⟨rfl⟩) (jS (qfc (qw (zg qy false) (qe (qw T6 (qe (bV 3) qm)) qm)) 7 8 ⟨rfl⟩) (jS (qiW (iOf (qhG (qe (bO RU (qw (zg zF false) (qe (bV 3) (qe (bV 5) qm))) (qP 1)) qm))) (gN 9) (ji Wf) [false,false,false,true,false,true] ⟨rfl⟩ ⟨rfl⟩) (qdJ (eOf (qw qi5 (qe (bV 8) qm)))))))
def qM:Nat->Wm
 |0=>wNo
 |j+1=>qi4 (Q1 (qM j)) 4 14 false
def zV (j:Nat):Rd (DSp (qM (j+1)).W false) 4 (K50.YO (PSp qy false) (PSp zF false) (PSp z6 false) Bk.qD (DSp (qM j).W false)) ZL:=WC (Q1 (qM j)) ZL 4 false
def SR {j:Nat} {x0 x1 x2:PyData} {n:Nat} {Q:QD}:(qM (j+1)).W [x0,x1,x2] n Q=(4=4/\(Q1 (qM j)).w [.un,.sh x0,.sh x1,.sh x2,.un,.un,.un,.un,.un,.un,.un,.un,.un,.un] n (qd2 false Q)):=id rfl
def qnz (zb0:Sp3) (zb2:Sp3) (za7:Sp3) (za9:Sp3) (za6:Sp3) (zb4:Sp3) (zb3:Sp3) (za8:Sp3):TS3:=(qK (za (cb3 zb0 (qc (v3 2) (qc (o3 (ZP false) (v3 1) (c3 (.int 0))) qj))) (J5 3 (qU (gn3 3) (qU (gn3 4) (qU (gn3 5) J4))))) (qK (za (cb3 T9 (qc (o3 ZX (jO (qc (c3 (.int 0)) qj)) (lc3 (U7 (v3 5)) (gn3 0) tt3 (cb3 UD (qc (v3 0) qj)) [none])) qj)) (gn3 6)) (qK (qfL 4 7 (qc (o3 ZX (cb3 qmv (qc (c3 (.int 0)) (qc (o3 (iI (·-·)) (v3 6) (c3 (.int 1))) qj))) (cb3 qc1 (qc (o3 (ZP false) (cb3 zb2 (qc (v3 2) (qc (c3 (.int 3)) qj))) (c3 (.int 0))) qj))) (qc (cb3 za7 (qc (v3 5) qj)) qj))) (qK (za (cb3 za9 (qc (v3 2) (qc (XJ (qc (v3 3) (qc (v3 4) (qc (v3 5) qj)))) (qc (v3 7) (qc (jO qj) qj))))) (gn3 8)) (qK (Z5 (tb3 (o3 (ZP true) (o3 (qas false) (v3 8) (c3 .non)) (o3 (ZP false) (o3 ix3 (cb3 za6 (qc (v3 3) (qc (v3 4) (qc (v3 5) qj)))) (c3 (.int 0))) (c3 (.str "image"))))) (zB (c3 (.bl false))) zE) (qK (Z5 (qgi (tb3 (o3 (qas true) (v3 8) (c3 .non))) (tb3 (o3 (qm2 true) (cb3 zb4 (qc (v3 3) (qc (v3 4) (qc (v3 5) (qc (v3 8) qj))))) (c3 (.bl true))))) (zB (c3 (.bl false))) zE) (EX (Y0 (qc (o3 (iC J6 (·*·)) (o3 ix3 (jO (qc (c3 (.int 30)) (qc (c3 (.int 8)) qj))) (cb3 qc1 (qc (o3 (iB λi j=>decide (j<i)) (v3 3) (c3 (.int 4))) qj))) (cb3 qc1 (qc (o3 (qas true) (v3 8) (c3 .non)) qj))) qj)) (gn3 9) (qK (za (cb3 zb3 (qc (v3 2) (qc (v3 8) (qc (v3 9) qj)))) (gn3 10)) (qK (qfL 11 12 (qc (cb3 (TJ true) (qc (v3 10) qj)) (qc (cb3 za8 (qc (v3 3) (qc (v3 4) (qc (v3 7) (qc (jO qj) (qc (v3 10) qj)))))) qj))) (qK (za (cb3 zb4 (qc (v3 3) (qc (v3 4) (qc (v3 5) (qc (v3 10) qj))))) (gn3 13)) (Z5 (or3 (qaS (tb3 (NO (λt=>ju t "bool") (v3 13)))) (or3 (tb3 (o3 (ZP true) (v3 13) (v3 12))) (tb3 (o3 (ZP true) (cb3 (TJ true) (qc (v3 10) qj)) (v3 11))))) (zB (c3 (.bl false))) zE)))))))))))
def DO:=((jS (EQ (eDr (dSp zX false) (aOf (qe (bV 8) (qe (bV 9) qm)))) 10 [false,false,false,false,false,false,false,false,true,true] ⟨rfl⟩ ⟨rfl⟩) (jS (qkG (aOf (qe (qw (qdk true) (qe (bV 10) qm)) (qe (qw (zg (zd 6) false) (qe (bV 3) (qe (bV 4) (qe (bV 7) (qe (ZY qm ⟨rfl⟩) (qe (bV 10) qm)))))) qm))) 11 12 [false,false,false,true,true,false,false,true,false,false,true] ⟨rfl⟩ ⟨rfl⟩) (jS (EQ (eOf (qw (zg qN false) (qe (bV 3) (qe (bV 4) (qe (bV 5) (qe (bV 10) qm)))))) 13 [false,false,false,true,true,true,false,false,false,false,true] ⟨rfl⟩ ⟨rfl⟩) (wIf (cOf (bOr (qdM (bTb (qax (λt=>ju t "bool") (bV 13)))) (bOr (bTb (bO (UC true) (bV 13) (bV 12))) (bTb (bO (UC true) (qw (qdk true) (qe (bV 10) qm)) (bV 11)))))) (qdJ (eOf (bBl false))) WR)))):PwS 2 _)
def qeP:PwS 2 (qnz (DSp QS.W false) Bk.qD (PSp QI true) (DSp (qM 6).W false) (PSp zR false) (PSp qN false) (DSp zX.W false) (PSp (zd 6) false)):=(jS (qg4 (eDr (dSp QS false) (aOf (qe (bO (UC false) (bV 1) (qP 0)) qm))) (M1 3 (je (gN 3) (je (gN 4) (je (gN 5) NF)))) [false,true] ⟨rfl⟩ ⟨rfl⟩) (jS (EQ (eOf (qw qeK (qe (bO VU (ZY (qe (qP 0) qm) ⟨rfl⟩) (bLc (qaP (bV 5)) (gN 0) bTt (qw T6 (qe (bV 0) qm)) [none] ⟨rfl⟩)) qm))) 6 [false,false,false,false,false,true] ⟨rfl⟩ ⟨rfl⟩) (jS (qkG (VJ (eO RU (eOf (qw qpG (qe (qP 0) (qe (bO (opI (·-·)) (bV 6) (qP 1)) qm)))) (qhs qi3 (VJ (eO (UC false) (eDr JD (aOf (qe (qP 3) qm))) (eOf (qP 0))) (aOf qm)))) (aOf (qe (qw (zg QI true) (qe (bV 5) qm)) qm))) 4 7 [false,false,false,false,false,true,true] ⟨rfl⟩ ⟨rfl⟩) (jS (EQ (eDr (dSp (qM 6) false) (aOf (qe (KA (qe (bV 3) (qe (bV 4) (qe (bV 5) qm))) ⟨rfl⟩) (qe (bV 7) (qe (ZY qm ⟨rfl⟩) qm))))) 8 [false,false,false,true,true,true,false,true] ⟨rfl⟩ ⟨rfl⟩) (jS (wIf (cOf (bTb (bO (UC true) (bO (LV false) (bV 8) qaH) (bO (UC false) (bO CU (qw (zg zR false) (qe (bV 3) (qe (bV 4) (qe (bV 5) qm)))) (qP 0)) (qdy "image"))))) (qdJ (eOf (bBl false))) WR) (jS (wIf (cOf (qi1 (bTb (bO (LV true) (bV 8) qaH)) (bTb (bO (qlq true) (qw (zg qN false) (qe (bV 3) (qe (bV 4) (qe (bV 5) (qe (bV 8) qm))))) (bBl true))))) (qdJ (eOf (bBl false))) WR) (qiW (iOf (qhG (qe (bO (opC J6 (·*·)) (bO CU (ZY (qe (qP 30) (qe (qP 8) qm)) ⟨rfl⟩) (qw qi3 (qe (bO (opB λi j=>decide (j<i)) (bV 3) (qP 4)) qm))) (qw qi3 (qe (bO (LV true) (bV 8) qaH) qm))) qm))) (gN 9) DO [false,false,false,true,false,false,false,false,true] ⟨rfl⟩ ⟨rfl⟩)))))))
def qkB (h:∀ k:Nat,k<=60->qeP.w [.un,.sh (.int k),.un,.un,.un,.un,.un,.un,.un,.un,.un,.un,.un,.un] 0 okW):Rd R1 1 (K50.qiy Bk.Q4 (DSp QS.W false) Bk.qD (PSp QI true) (DSp (qM 6).W false) (PSp zR false) (PSp qN false) (DSp zX.W false) (PSp (zd 6) false)) qeT:=qeb qeP qeT 2 11 ⟨by decide,by decide⟩ rfl h
end K50
namespace K50
open PySem L2 L3 Pu Pv
def p2 {t:Nat} (h:t<=8):0<(2:Int) ^ t/\(2:Int) ^ t<=256:=by
 have h1:2 ^ t<=2 ^ 8:=Nat.pow_le_pow_right (by decide) h;have h2:0<2 ^ t:=Nat.pow_pos (by decide);have h3:((2 ^ t:Nat):Int)=2 ^ t:=by simp
 omega
def LA {t:Nat} (h:t<=8):qy [.int (t:Int)]=some (.int (2 ^ t)):=by
 have e:L2.atI [PyData.int 1,.int 2,.int 4,.int 8,.int 16,.int 32,.int 64,.int 128,.int 256] (t:Int)=some (.int (2 ^ t)):=by
  have e:[PyData.int 1,.int 2,.int 4,.int 8,.int 16,.int 32,.int 64,.int 128,.int 256]=(List.range 9).map λt=>PyData.int (2 ^ t):=rfl;have h9:=Nat.lt_succ_of_le h;rw [e,atN (by rw [length_map,length_range];exact h9),getElem?_map,List.getElem?_range h9];rfl
 rw [NX]
 try simp only [Pu.pwA,VG,e]
def qpK {ks:List Int} (hl:ks.length<=8) (hk:∀ m∈ks,0<=m):zk [.list (ks.map PyData.int)]=some (.list ((fl ks).map PyData.int)):=by
 have pw:=p2 hl;rw [TB]
 try simp (disch:=omega) only [Pu.pwA,Q2,length_map,LA hl,qcB]
 refine QB (Q:=λo=>ZU true o=_) (XE 0 ((2:Int) ^ ks.length).toNat) (λi ρ=>∃ s2 s3 s4 s5,ρ=[.sh (.list (ks.map PyData.int)),.ow (((List.range i).map λs=>nm s ks).map PyData.int),s2,s3,s4,s5]) ⟨_,_,_,_,rfl⟩ ?_ ?_
 ·rintro i x ρ hx ⟨s2,s3,s4,s5,rfl⟩;obtain ⟨hi,rfl⟩:=ZN hx
  try simp only [Pu.pwA,CW,Int.zero_add]
  refine QB (Q:=λo=>Nx o _) (ks.zipIdx 0) (λj ρ=>∃ s4 s5,ρ=[.sh (.list (ks.map PyData.int)),.ow (((List.range i).map λs=>nm s ks).map PyData.int),.sh (.int (i:Int)),.sh (.int (nm i (ks.take j))),s4,s5]) ⟨_,_,rfl⟩ ?_ ?_
  ·rintro j p ρ hp ⟨s4,s5,rfl⟩;rw [List.getElem?_zipIdx] at hp;obtain ⟨m,hm,rfl⟩:=za1 hp;have hj:=(za2 hm).1;have tk:ks.take (j+1)=ks.take j++[m]:=by rw [List.take_succ,hm];rfl
   have pj:=p2 (show j<=8 by omega);have e2:(i:Int)/2 ^ j%2=((i/2 ^ j%2:Nat):Int):=by simp
   have e3:((i/2 ^ j%2:Nat):Int)<2:=by omega
   have ln:(ks.take j).length=j:=by simp;omega
   have sn:=YK i (ks.take j) m;rw [ln] at sn;have e4:cI J6 (·*·) (.int m) (.int ((i/2 ^ j%2:Nat):Int))=some (.int (m*((i/2 ^ j%2:Nat):Int))):=WO (by omega)
   try simp (disch:=omega) only [Pu.pwA,Nat.zero_add,LA (show j<=8 by omega),qfQ,qgN,e2,e4]
   rw [tk,sn];exact ⟨_,_,rfl⟩
  ·rintro ρ ⟨s4,s5,rfl⟩;rw [List.length_zipIdx,List.take_length]
   try simp only [Pu.pwA]
   rw [KJ (ds:=((List.range i).map λs=>nm s ks).map PyData.int) rfl (by simp;omega)]
   try simp only [Pu.pwA]
   rw [List.range_succ,List.map_append,List.map_append];exact ⟨_,_,_,_,rfl⟩
 ·rintro ρ ⟨s2,s3,s4,s5,rfl⟩;rw [V0,qoi hk]
  try simp only [Pu.pwA]
  have:((2:Int) ^ ks.length).toNat=2 ^ ks.length:=by
   have h3:((2 ^ ks.length:Nat):Int)=2 ^ ks.length:=by simp
   omega
  rw [this]
def led:Nat->List Int->Nat->Int
 |_,[],_=>0
 |t,n::r,x=>Builtin.bitXor (n*((x/2 ^ t%2:Nat):Int)) (led (t+1) r x)
def qpJ {ks:List Int} {x:Nat} (hl:ks.length<=8):z6 [.list (ks.map PyData.int),.int (x:Int)]=some (.int (nm x ks)):=by
 rw [qau]
 try simp only [Pu.pwA,VY,CW]
 refine QB (Q:=λo=>ZU false o=_) (ks.zipIdx 0) (λj ρ=>∃ s3 s4,ρ=[.sh (.list (ks.map PyData.int)),.sh (.int (x:Int)),.sh (.int (nm x (ks.take j))),s3,s4]) ⟨_,_,rfl⟩ ?_ ?_
 ·rintro j p ρ hp ⟨s3,s4,rfl⟩;rw [List.getElem?_zipIdx] at hp;obtain ⟨m,hm,rfl⟩:=za1 hp;have hj:=(za2 hm).1;have tk:ks.take (j+1)=ks.take j++[m]:=by rw [List.take_succ,hm];rfl
  have pj:=p2 (show j<=8 by omega);have e2:(x:Int)/2 ^ j%2=((x/2 ^ j%2:Nat):Int):=by simp
  have e3:((x/2 ^ j%2:Nat):Int)<2:=by omega
  have ln:(ks.take j).length=j:=by simp;omega
  have sn:=YK x (ks.take j) m;rw [ln] at sn;have e4:cI J6 (·*·) (.int m) (.int ((x/2 ^ j%2:Nat):Int))=some (.int (m*((x/2 ^ j%2:Nat):Int))):=WO (by omega)
  try simp (disch:=omega) only [Pu.pwA,Nat.zero_add,LA (show j<=8 by omega),qfQ,qgN,e2,e4]
  rw [tk,sn];exact ⟨_,_,rfl⟩
 ·rintro ρ ⟨s3,s4,rfl⟩;rw [List.length_zipIdx,List.take_length];rfl
def qnG {y:Int} (h:0<=y):Builtin.bitAnd y 1=y%2:=by
 have a:=ND h (show (0:Int)<=1 by omega);have r:=PyProof.Rows.bitAnd_range (y/2) (show (0:Int)<=0 by omega);rw [show (1:Int)/2=0 from rfl,show (1:Int)%2=1 from rfl] at a;omega
theorem qlf (x:Nat):∀ (j:Nat) {ks:List Int},ks.length=j->(∀ m∈ks,0<=m)->0<=nm x ks
 |0,ks,h,_=>by have:=List.length_eq_zero_iff.mp h;subst this;exact Int.le_refl 0
 |j+1,ks,h,hk=>by
  obtain ⟨r,m,rfl,hl⟩:=YQ h;rw [YK];have h1:=qlf x j (ks:=r) (by simp at h;omega) λm hm=>hk m (by simp [hm]);have h2:0<=m*((x/2 ^ r.length%2:Nat):Int):=Int.mul_nonneg (hk m (by simp)) (by omega);exact (DL h1 h2).1
def qql {ks:List Int} {x:Nat} (hk:∀ m∈ks,0<=m):JP [.list (ks.map PyData.int),.int (x:Int)]=some (.int (nm x ks)):=by
 rw [qbD]
 try simp only [Pu.pwA,DK,CW]
 refine QB (Q:=λo=>ZU false o=_) (ks.zipIdx 0) (λj ρ=>∃ s3 s4,ρ=[.sh (.list (ks.map PyData.int)),.sh (.int (x:Int)),.sh (.int (nm x (ks.take j))),s3,s4]) ⟨_,_,rfl⟩ ?_ ?_
 ·rintro j p ρ hp ⟨s3,s4,rfl⟩;rw [List.getElem?_zipIdx] at hp;obtain ⟨m,hm,rfl⟩:=za1 hp;have hj:=(za2 hm).1;have tk:ks.take (j+1)=ks.take j++[m]:=by rw [List.take_succ,hm];rfl
  have e2:Builtin.bitAnd ((x:Int)/2 ^ j) 1=((x/2 ^ j%2:Nat):Int):=by rw [qnG (Int.ediv_nonneg (by omega) (Int.le_of_lt (Int.pow_pos (by omega))))];simp
  have ln:(ks.take j).length=j:=by simp;omega
  have sn:=YK x (ks.take j) m;rw [ln] at sn;have nn:0<=nm x (ks.take j):=qlf x _ rfl λm hm=>hk m (List.mem_of_mem_take hm);have e3:x/2 ^ j%2=0\/x/2 ^ j%2=1:=by omega
  try simp (disch:=omega) only [Pu.pwA,Nat.zero_add,qkp,Int.toNat_natCast,e2]
  rcases e3 with e3|e3
  ·have e4:decide (((x/2 ^ j%2:Nat):Int)=1)=false:=by rw [e3];rfl
   have e5:nm x (ks.take (j+1))=nm x (ks.take j):=by rw [tk,sn,e3];simpa using qeG nn
   try simp only [Pu.pwA,eqD_int]
   rw [if_neg (by rw [e4];exact y8),e5];exact ⟨_,_,rfl⟩
  ·have e4:decide (((x/2 ^ j%2:Nat):Int)=1)=true:=by rw [e3];rfl
   have e5:nm x (ks.take (j+1))=Builtin.bitXor (nm x (ks.take j)) m:=by rw [tk,sn,e3];simp
   try simp only [Pu.pwA,eqD_int]
   rw [if_pos e4,e5];exact ⟨_,_,rfl⟩
 ·rintro ρ ⟨s3,s4,rfl⟩;rw [List.length_zipIdx,List.take_length];rfl
def isl (ks:List Int) (x:Nat):Bool:=decide ((Builtin.Int.intBits (x:Int):Int)=(ks.length:Int))&&decide (nm x ks=0)
def qpy {ks:List Int} {x:Nat} (hk:∀ m∈ks,0<=m):qR [.list (ks.map PyData.int),.int (x:Int)]=some (.bool (isl ks x)):=by
 rw [XQ]
 try simp only [Pu.pwA,jz,qql hk,length_map]
 unfold isl;by_cases c:(Builtin.Int.intBits (x:Int):Int)=(ks.length:Int)
 ·rw [za0 c];simp [Pu.pwA]
 ·rw [u9 c];simp [Pu.pwA]
def tld:Option Nat->PyData
 |some x=>.int (x:Int)
 |none=>.none
def DT {α:Type} {gf:PyData->Option (List (Nat×PyData))} {bf:Rho->Option Ot} {g:α->PyData} {ρ:Rho} {F:Ot->Option Ot} {Q:Option Ot->Prop} {p:α->Bool} {rv:α->PyData} (xs:List α) (I:Nat->Rho->Prop) (h0:I 0 ρ)
  (hs:∀ i x ρ,xs[i]?=some x->I i ρ->if p x=true then ((gf (g x)).bind λbs=>bf (jJ ρ bs))=some (.rt (rv x) false) else Nx ((gf (g x)).bind λbs=>bf (jJ ρ bs)) (I (i+1)))
  (hn:xs.find? p=none->∀ ρ',I xs.length ρ'->Q (F (.nx ρ'))) (hr:∀ y,xs.find? p=some y->Q (F (.rt (rv y) false))):Q ((XS gf bf (xs.map g) ρ).bind F):=by
 cases h:xs.find? p with
 |none=>
  have hz:=List.find?_eq_none.mp h;refine QB xs I h0 (λi x ρ hx hI=>?_) (hn h);have:=hs i x ρ hx hI
  rwa [if_neg (hz x (u4 hx))] at this
 |some y=>
  obtain ⟨hy,as,bs,e,ha⟩:=List.find?_eq_some_iff_append.mp h;have at_:xs[as.length]?=some y:=by rw [e];simp
  refine qix xs as.length y (rv y) false at_ I h0 (λi x ρ hi hx hI=>?_) (λρ hI=>?_) (hr y h)
  ·have:=hs i x ρ hx hI;rw [e,List.getElem?_append_left hi] at hx
   rwa [if_neg (by simpa using ha x (u4 hx))] at this
  ·have:=hs _ _ ρ at_ hI
   rwa [if_pos hy] at this
def qnj {ks:List Int} (hk:∀ m∈ks,0<=m) {xs:List Nat}:qW [.list (xs.map λx:Nat=>PyData.int (x:Int)),.list (ks.map PyData.int)]=some (tld (xs.find? (isl ks))):=by
 rw [UM]
 try simp only [Pu.pwA,zK]
 refine DT (Q:=λo=>ZU false o=_) (p:=isl ks) (rv:=λx=>.int (x:Int)) xs (λ_ ρ=>∃ s2,ρ=[.sh (.list (xs.map λx:Nat=>PyData.int (x:Int))),.sh (.list (ks.map PyData.int)),s2]) ⟨_,rfl⟩ ?_ (λhf=>?_) λy hf=>?_
 ·rintro i x ρ hx ⟨s2,rfl⟩
  try simp only [Pu.pwA,qpy hk]
  cases isl ks x with
  |true=>rw [if_pos rfl,if_pos rfl]
  |false=>rw [if_neg y8,if_neg y8];exact ⟨_,rfl⟩
 ·rintro ρ ⟨s2,rfl⟩;rw [hf];rfl
 ·rw [hf];rfl
def gr (ks:List Int):Int:=match ks with|[]=>0|m::r=>mx (m::r)
def chn (b:Nat) (ks:List Int):Int:=if (2:Int) ^ b<2 ^ Builtin.Int.intBits (gr ks)+1 then 2 ^ b else 2 ^ Builtin.Int.intBits (gr ks)+1
def qpk {b:Nat} {ks:List Int} (hb:b<=1000) (h:Builtin.Int.intBits (gr ks)<=1000):qC [.int (b:Int),.list (ks.map PyData.int)]=some (.int (chn b ks)):=by
 rw [EU];have e0:qaM (.list (ks.map PyData.int)) (.int 0)=some (.int (gr ks)):=by rw [qjl];cases ks<;>rfl
 simp (disch:=first|omega|decide|(refine ⟨by omega,by omega,by decide⟩)) only [z4,qeS,e0,asI,qmc,Int.toNat_natCast,Int.one_mul,Pu.pwA];rfl
def FL0 {b:Nat} {ks:List Int} (hb:b<=1000) (h:Builtin.Int.intBits (gr ks)<=1000):qlc [.list (ks.map PyData.int),.int (b:Int)]=some (.int (chn b ks)):=by
 rw [qns]
 try simp only [Pu.pwA,qm6,qpk hb h]
def FL1 {ks:List Int} (hk:∀ m∈ks,0<=m) {xs:List Nat}:qk9 [.list (ks.map PyData.int),.list (xs.map λx:Nat=>PyData.int (x:Int))]=some (tld (xs.find? (isl ks))):=by
 rw [qo1]
 try simp only [Pu.pwA,qmU,qnj hk]
def WF {i:Int}:noC (.int i)=true:=by unfold noC;rfl
theorem TL:∀ (ks:List Int),DF (ks.map PyData.int)=true
 |[]=>by unfold DF;rfl
 |k::r=>by rw [map_cons];unfold DF;rw [WF,TL r];rfl
def ZA {ks:List Int}:noC (.list (ks.map PyData.int))=true:=by unfold noC;exact TL ks
def V5 {x y:PyData} (hx:noC x=true) (hy:noC y=true):DF [x,y]=true:=by unfold DF;rw [hx];unfold DF;rw [hy];unfold DF;rfl
def qa7 {o:Option Nat}:noC (tld o)=true:=by cases o<;>(unfold tld noC;rfl)
def DY {xs:List Nat}:(xs.map λx:Nat=>PyData.int (x:Int))=(xs.map λx:Nat=>(x:Int)).map PyData.int:=by rw [map_map];rfl
def Fv0 {b:Nat} {ks:List Int} (hb:b<=1000) (h:Builtin.Int.intBits (gr ks)<=1000):Fv PhL (RV 0 [.int (b:Int)]) [.list (ks.map PyData.int)]=some (.int (chn b ks)):=by
 unfold Fv RV;simp only [cons_append,List.nil_append];rw [if_pos ⟨Int.le_refl _,V5 ZA WF⟩];show (some qlc).bind _=_;rw [Option.bind_some,FL0 hb h,Option.bind_some,if_pos WF]
def Fv1 {ks:List Int} (hk:∀ m∈ks,0<=m) {xs:List Nat}:Fv PhL (RV 1 [.list (xs.map λx:Nat=>PyData.int (x:Int))]) [.list (ks.map PyData.int)]=some (tld (xs.find? (isl ks))):=by
 unfold Fv RV;simp only [cons_append,List.nil_append];rw [if_pos ⟨by decide,V5 ZA (by rw [DY];exact ZA)⟩];show (some qk9).bind _=_;rw [Option.bind_some,FL1 hk,Option.bind_some,if_pos qa7]
def TR:PyData->Bool
 |.none=>true
 |_=>false
def sr (many:Nat) (ch:List Int->Nat) (br:List Int->PyData):Nat->List Int->Bool×PyData
 |0,_=>(false,.none)
 |j+1,ks=>if ks.length=many then (true,.list (ks.map PyData.int)) else
  match (List.range (ch ks)).find? (λi:Nat=>TR (br (ks++[(i:Int)]))&&(sr many ch br j (ks++[(i:Int)])).1) with
  |some i=>(true,(sr many ch br j (ks++[(i:Int)])).2)
  |none=>(false,.tuple ((List.range (ch ks)).map λi:Nat=>if TR (br (ks++[(i:Int)])) then (sr many ch br j (ks++[(i:Int)])).2 else br (ks++[(i:Int)])))
def srd (r:Bool×PyData):PyData:=.tuple [.str (if r.1 then "row" else "none"),r.2]
def qov {d:PyData}:qdH false d .none=some (.bool (TR d)):=by cases d<;>rfl
def pap (many:Nat) (ch:List Int->Nat) (br:List Int->PyData) (j:Nat) (ks:List Int) (i:Nat):PyData:=if TR (br (ks++[(i:Int)])) then (sr many ch br j (ks++[(i:Int)])).2 else br (ks++[(i:Int)])
def hit (many:Nat) (ch:List Int->Nat) (br:List Int->PyData) (j:Nat) (ks:List Int) (i:Nat):Bool:=TR (br (ks++[(i:Int)]))&&(sr many ch br j (ks++[(i:Int)])).1
def a7 {m:List Bool} {d:PyData} {ρ:Rho}:XW m false 7 d ρ=(if RW d then ρ else dm m ρ).set 7 (.sh d):=by unfold XW;split<;>rfl
def dm7 {s0 s1 s2 s3 s4 s5 s6 s8:Sl} {e d:PyData}:dmS [false,false,false,false,false,false,false,true] d [s0,s1,s2,s3,s4,s5,s6,.sh e,s8]=[s0,s1,s2,s3,s4,s5,s6,.sh e,s8]:=by unfold dmS;split<;>rfl
def qqg {many:Nat} {ch:List Int->Nat} {br:List Int->PyData} {C0 C1:PyData} {Ok:List Int->Prop} (h0:∀ ks,Ok ks->ks.length<many->Fv PhL C0 [.list (ks.map PyData.int)]=some (.int (ch ks:Int)))
  (h1:∀ ks,Ok ks->Fv PhL C1 [.list (ks.map PyData.int)]=some (br ks)) (hm:many<=1000) (hch:∀ ks,ch ks<=1000) (hok:∀ ks (i:Nat),Ok ks->ks.length<many->i<ch ks->Ok (ks++[(i:Int)])) :
  ∀ (j:Nat) (ks:List Int),Ok ks->ks.length<=many->many<ks.length+j->qX j [.int (many:Int),C0,C1,.list (ks.map PyData.int)]=some (srd (sr many ch br j ks)):=by
 intro j;induction j with
 |zero=>intro ks _ _ _;omega
 |succ j ih=>
  intro ks ok hl hj;rw [KB];have e0:((ks.length:Int)=(many:Int))↔ks.length=many:=by omega
  by_cases c:ks.length=many
  ·have e1:decide ((ks.length:Int)=(many:Int))=true:=za0 (e0.mpr c)
   try simp only [Pu.pwA,QL,length_map,e1]
   unfold sr;rw [if_pos c];rfl
  ·have e1:decide ((ks.length:Int)=(many:Int))=false:=u9 (λz=>c (e0.mp z));have hc:=hch ks;have kl:ks.length<many:=by omega
   try simp (disch:=omega) only [Pu.pwA,QL,length_map,e1,h0 ks ok (by omega),qcB,qh1,qb8]
   rw [show (XE 0 ((ch ks:Int)).toNat).map PyData.int=(List.range (ch ks)).map λi:Nat=>PyData.int (i:Int) by rw [XE,map_map,Int.toNat_natCast];refine List.map_congr_left λi _=>?_;simp];have body:∀ i:Nat,i<ch ks->Fv PhL C1 [.list ((ks++[(i:Int)]).map PyData.int)]=some (br (ks++[(i:Int)]))/\qX j [.int (many:Int),C0,C1,.list ((ks++[(i:Int)]).map PyData.int)]=some (srd (sr many ch br j (ks++[(i:Int)]))):=λi hi=>
    ⟨h1 _ (hok ks i ok kl hi),ih _ (hok ks i ok kl hi) (by simp;omega) (by simp;omega)⟩
   have ct:∀ i:Nat,qaW (.list (ks.map PyData.int)) (.list [.int (i:Int)])=some (.list ((ks++[(i:Int)]).map PyData.int)):=λi=>by
    have mp:ks.map PyData.int++[PyData.int (i:Int)]=(ks++[(i:Int)]).map PyData.int:=by simp
    simp only [qaW,mp];exact qL (by rw [length_map,List.length_singleton,y9];omega)
   have unf:sr many ch br (j+1) ks=match (List.range (ch ks)).find? (hit many ch br j ks) with
    |some i=>(true,(sr many ch br j (ks++[(i:Int)])).2)
    |none=>(false,.tuple ((List.range (ch ks)).map (pap many ch br j ks))):=by
    rw [sr,if_neg c];rfl
   rw [unf];refine DT (Q:=λo=>ZU false o=_) (p:=hit many ch br j ks) (rv:=λn=>srd (true,(sr many ch br j (ks++[(n:Int)])).2)) (List.range (ch ks)) (g:=λi:Nat=>PyData.int (i:Int)) (λi ρ=>∃ s5 s6 s7 s8,ρ=[.sh (.int (many:Int)),.sh C0,.sh C1,.sh (.list (ks.map PyData.int)),.ow ((List.range i).map (pap many ch br j ks)),s5,s6,s7,s8]) ⟨_,_,_,_,rfl⟩ ?_ (λhf=>?_) λn hf=>?_
   ·rintro k i ρ hx ⟨s5,s6,s7,s8,rfl⟩;obtain ⟨hk,rfl⟩:=za2 hx;rw [List.getElem_range];have hi':k<ch ks:=by simpa using hk
    obtain ⟨b1,b2⟩:=body k hi';have pa:(List.range (k+1)).map (pap many ch br j ks)=(List.range k).map (pap many ch br j ks)++[pap many ch br j ks k]:=by rw [List.range_succ,List.map_append];rfl
    try simp only [Pu.pwA,ct,b1,qov,a7]
    have lr:((List.range k).map (pap many ch br j ks)).length<16777216:=by simp;omega
    unfold hit;cases hb:TR (br (ks++[(k:Int)])) with
    |true=>
     cases hr:(sr many ch br j (ks++[(k:Int)])).1 with
     |true=>
      cases hs:RW (br (ks++[(k:Int)]))<;>try simp only [Pu.pwA,b2,srd,hr]
      all_goals rw [if_pos hb]
      all_goals rfl
     |false=>
      have pe:pap many ch br j ks k=(sr many ch br j (ks++[(k:Int)])).2:=by unfold pap;rw [if_pos hb]
      cases hs:RW (br (ks++[(k:Int)]))<;>try simp only [Pu.pwA,b2,srd,hr]
      all_goals rw [if_pos hb,if_neg (by decide)]
      all_goals try simp only [Pu.pwA,dm7]
      all_goals rw [KJ (ds:=(List.range k).map (pap many ch br j ks)) rfl lr,pa,pe]
      all_goals exact ⟨_,_,_,_,rfl⟩
    |false=>
     have pe:pap many ch br j ks k=br (ks++[(k:Int)]):=by unfold pap;rw [hb];rfl
     cases hs:RW (br (ks++[(k:Int)]))<;>try simp only [Pu.pwA,b2,srd]
     all_goals rw [if_neg (by rw [hb];exact y8)]
     all_goals try simp only [Pu.pwA,dm7]
     all_goals rw [KJ (ds:=(List.range k).map (pap many ch br j ks)) rfl lr,pa,pe]
     all_goals exact ⟨_,_,_,_,rfl⟩
   ·rintro ρ ⟨s5,s6,s7,s8,rfl⟩;rw [hf,length_range]
    try simp only [Pu.pwA,srd]
   ·rw [hf];rfl
def Rw (b:Nat) (ks:List Int):Prop:=∀ m∈ks,0<=m/\m<2 ^ b
def CO {x:Int} {b:Nat} (h0:0<=x) (h:x<2 ^ b):Builtin.Int.intBits x<=b:=by
 unfold Builtin.Int.intBits;split
 ·omega
 ·rename_i c;have hx:x≠0:=by simpa using c
  have h2:x.natAbs<2 ^ b:=by
   have:((2 ^ b:Nat):Int)=2 ^ b:=by simp
   omega
  have:=(Nat.log2_lt (by omega:x.natAbs≠0)).mpr h2;omega
def qg9 {b:Nat} {ks:List Int} (h:Rw b ks):0<=gr ks/\gr ks<2 ^ b:=by
 cases ks with
 |nil=>exact ⟨Int.le_refl 0,Int.pow_pos (by omega)⟩
 |cons m r=>exact h _ (EO (by simp))
def XY {b:Nat} {ks:List Int}:0<=chn b ks/\chn b ks<=2 ^ b:=by
 have p:(0:Int)<2 ^ b:=Int.pow_pos (by omega);have q:(0:Int)<2 ^ Builtin.Int.intBits (gr ks):=Int.pow_pos (by omega);unfold chn;split<;>omega
def imd (r:Bool×PyData):PyData:=.tuple [.str (if r.1 then "image" else "none"),r.2]
def qqr {many b:Nat} {S:PyData} {xs:List Nat} (hm:many<=5) (hb:b<=9) (hs:qT [S]=some (.list (xs.map λx:Nat=>PyData.int (x:Int)))) (hn:∀ p,(sr many (λks=>(chn b ks).toNat) (λks=>tld (xs.find? (isl ks))) 6 [])=p->noC p.2=true) :
  zR [.int (many:Int),.int (b:Int),S]=some (imd (sr many (λks=>(chn b ks).toNat) (λks=>tld (xs.find? (isl ks))) 6 [])):=by
 have pb:(2:Int) ^ b<=512:=by
  have h1:2 ^ b<=2 ^ 9:=Nat.pow_le_pow_right (by omega) hb;have h3:((2 ^ b:Nat):Int)=2 ^ b:=by simp
  omega
 have A:=qqg (many:=many) (ch:=λks=>(chn b ks).toNat) (br:=λks=>tld (xs.find? (isl ks))) (C0:=RV 0 [.int (b:Int)]) (C1:=RV 1 [.list (xs.map λx:Nat=>PyData.int (x:Int))]) (Ok:=Rw b)
  (λks ok _=>by
   have c:=XY (b:=b) (ks:=ks);have g:=qg9 ok;rw [Fv0 (by omega) (u5 (CO g.1 g.2) (by omega)),Int.toNat_of_nonneg c.1])
  (λks ok=>Fv1 λm hm=>(ok m hm).1) (by omega) (λks=>by have c:=XY (b:=b) (ks:=ks);omega)
  (λks i ok _ hi m hm=>by
   have c:=XY (b:=b) (ks:=ks);rcases List.mem_append.mp hm with z|z
   ·exact ok m z
   ·obtain rfl:=List.mem_singleton.mp z;omega) 6 [] (λm hm=>by cases hm) (Nat.zero_le _) (by simp;omega)
 rw [List.map_nil] at A;generalize hr:sr many (λks=>(chn b ks).toNat) (λks=>tld (xs.find? (isl ks))) 6 []=r at A ⊢;have nc:=hn r hr;rw [SH];unfold Q5;have ns:noC (srd r)=true:=by unfold srd noC;exact V5 (by unfold noC;rfl) nc
 try simp only [Pu.pwA,hs,qga,qeC,A,ns,srd,imd]
 obtain ⟨k,p⟩:=r;cases k
 ·have n2:noC (.tuple [.str "none",p])=true:=ns
  try simp only [Pu.pwA]
  rw [if_pos n2]
  try simp only [Pu.pwA]
  try rw [if_pos (by decide)]
 ·have n2:noC (.tuple [.str "row",p])=true:=ns
  try simp only [Pu.pwA]
  rw [if_pos n2]
  try simp only [Pu.pwA]
  first|rfl|(rw [if_neg (by decide)];rfl)|(rw [if_neg (by decide)];try simp only [Pu.pwA])
theorem qcc {many:Nat} {ch:List Int->Nat} {br:List Int->PyData} (hb:∀ ks,noC (br ks)=true):∀ (j:Nat) (ks:List Int),noC (sr many ch br j ks).2=true
 |0,ks=>by unfold sr noC;rfl
 |j+1,ks=>by
  unfold sr;split
  ·exact ZA
  ·split
   ·exact qcc hb j _
   ·unfold noC;refine DE.mpr λd hd=>?_;obtain ⟨i,_,rfl⟩:=mem_map.mp hd;split
    ·exact qcc hb j _
    ·exact hb _
def qes {α:Type} (xs:List α) (k:Nat):VL xs none (some (k:Int))=xs.take k:=by
 unfold VL;rw [HT.RH,HT.NP,List.drop_zero,Nat.sub_zero,List.take_eq_take_iff];omega
def C4 {α:Type} (xs:List α) (k:Nat):VL xs (some (k:Int)) none=xs.drop k:=by
 unfold VL;rw [HT.RH,HT.NP,List.take_of_length_le (by simp)];by_cases c:k<=xs.length
 ·rw [Nat.min_eq_left c]
 ·rw [Nat.min_eq_right (by omega),List.drop_of_length_le (v6 _),List.drop_of_length_le (by omega)]
def qn7 {α:Type} (xs:List α):VL xs (some (1:Int)) none=xs.drop 1:=C4 xs 1
def spd (ss:List (List Int)):PyData:=.list (ss.map λs=>PyData.list (s.map PyData.int))
def aw (ss:List (List Int)):List Int:=ss.flatMap λs=>(fl s).drop 1
def Sps (ss:List (List Int)):Prop:=ss.length<=4/\∀ s∈ss,s.length<=3/\∀ m∈s,0<=m
theorem SO {k n:Nat}:∀ {ss:List (List Int)},ss.length<=n->(∀ s∈ss,s.length<=k)->(aw ss).length<=n*2 ^ k
 |[],_,_=>Nat.zero_le _
 |s::r,h,hs=>by
  obtain ⟨n,rfl⟩:∃ m,n=m+1:=⟨n-1,by simp at h;omega⟩
  have ih:=SO (k:=k) (n:=n) (ss:=r) (by simp at h;omega) λx hx=>hs x (by simp [hx]);have l:=SM s.length s rfl;have p:2 ^ s.length<=2 ^ k:=Nat.pow_le_pow_right (by omega) (hs s (by simp));rw [show aw (s::r)=(fl s).drop 1++aw r from List.flatMap_cons,length_append,List.length_drop,Nat.succ_mul];omega
def qo3 {ss:List (List Int)} (h:Sps ss):qT [spd ss]=some (.list ((aw ss).map PyData.int)):=by
 have l:=SO h.1 λs hs=>(h.2 s hs).1;rw [RM]
 try simp only [Pu.pwA,jY,spd]
 rw [qhx (ds:=ss.map λs=>PyData.list (s.map PyData.int)) (fs:=(aw ss).map PyData.int)]
 ·try simp only [Pu.pwA]
 ·try simp only [Pu.pwA]
 ·have e:(aw ss).map PyData.int=ss.flatMap λs=>((fl s).drop 1).map PyData.int:=by unfold aw;rw [List.map_flatMap]
  rw [e];refine qeu λs hs=>?_
  try simp only [Pu.pwA,qkv,qqt (ks:=s) (by have:=(h.2 s hs).1;omega),ql1,qn7]
  rw [← List.map_drop,RQ (k:=PyData.int) λq hq=>?_]
  ·try simp only [Pu.pwA]
  ·try simp only [Pu.pwA,qbQ]
 ·rw [length_map];omega
theorem qcj:∀ l:List Int,(dd l).length<=l.length
 |[]=>v6 _
 |x::r=>by
  have:=qcj r;unfold dd;split
  ·simp;omega
  ·simp;omega
def bd (ss:List (List Int)):List Int:=srt (dd (aw ss))
def qfM {ss:List (List Int)} {x:Int}:x∈bd ss↔x∈aw ss:=by
 unfold bd;rw [(RI _).mem_iff,TX]
def qnK {ss:List (List Int)} (h:Sps ss):QI [spd ss]=some (.list ((bd ss).map PyData.int)):=by
 have l:=SO h.1 λs hs=>(h.2 s hs).1;rw [qab]
 try simp only [Pu.pwA,V8,spd]
 refine QB (Q:=λo=>ZU true o=_) ss (λi ρ=>∃ s2,ρ=[.sh (spd ss),.ow ((aw (ss.take i)).map PyData.int),s2]) ⟨_,rfl⟩ ?_ ?_
 ·rintro i s ρ hs ⟨s2,rfl⟩;have hm:=u4 hs;have l2:=SO (n:=4) (k:=3) (ss:=ss.take i) (by rw [List.length_take];have:=h.1;omega) λs hs=>(h.2 s (List.mem_of_mem_take hs)).1;have l3:=SM s.length s rfl;have l4:2 ^ s.length<=2 ^ 3:=Nat.pow_le_pow_right (by omega) (h.2 s hm).1;have tk:aw (ss.take (i+1))=aw (ss.take i)++(fl s).drop 1:=by rw [List.take_succ,hs];simp [aw]
  try simp only [Pu.pwA,qpK (ks:=s) (by have:=(h.2 s hm).1;omega) (h.2 s hm).2,ql1,qn7]
  have ex:qg3 1 (.list (((fl s).map PyData.int).drop 1)) [.sh (spd ss),.ow ((aw (ss.take i)).map PyData.int),.sh (.list (s.map PyData.int))]=some (.nx [.sh (spd ss),.ow ((aw (ss.take (i+1))).map PyData.int),.sh (.list (s.map PyData.int))]):=by
   rw [tk,List.map_append,List.map_drop];have le:((aw (ss.take i)).map PyData.int).length+(((fl s).map PyData.int).drop 1).length<=sizeLine:=by
    simp only [length_map,List.length_drop,y9];omega
   exact qL le
  rw [ex];exact ⟨_,rfl⟩
 ·rintro ρ ⟨s2,rfl⟩;rw [List.take_length];have e:qcZ (.list ((aw ss).map PyData.int))=some (.list ((bd ss).map PyData.int)):=by
   have:=qcj (aw ss);unfold qcZ;simp only [WJ,Option.bind_some];exact qL ⟨by omega,by omega⟩
  try simp only [Pu.pwA,qit,e]
  try rfl
def DM {x:Int} {b:Nat} (h0:0<=x):Builtin.Int.intBits x<=b↔x<2 ^ b:=by
 refine ⟨λh=>?_,CO h0⟩;have p:(0:Int)<2 ^ b:=Int.pow_pos (by omega);unfold Builtin.Int.intBits at h;split at h
 ·rename_i c;have:x=0:=by simpa using c
  omega
 ·rename_i c;have hx:x≠0:=by simpa using c
  have:x.natAbs<2 ^ b:=(Nat.log2_lt (by omega)).mp (by omega);have:((2 ^ b:Nat):Int)=2 ^ b:=by simp
  omega
def qnD {ks:List Int} (hk:∀ m∈ks,0<=m):mx (ks++[0])=gr ks:=by
 have h1:mx (ks++[0])∈ks++[0]:=EO (by simp);have h0:0<=mx (ks++[0]):=N7 (by simp);cases ks with
 |nil=>rfl
 |cons a r=>
  unfold gr;simp only;have h3:mx (a::r)∈a::r:=EO (by simp);have h4:mx (a::r)<=mx (a::r++[0]):=N7 (List.mem_append.mpr (.inl h3));rcases List.mem_append.mp h1 with z|z
  ·have:=N7 z;omega
  ·have:=List.mem_singleton.mp z;have:=hk _ h3;omega
def la (t:Nat) (ks:List Int):Int:=if (2:Int) ^ t-1<2 ^ Builtin.Int.intBits (gr ks) then 2 ^ t-1 else 2 ^ Builtin.Int.intBits (gr ks)
def qgG {t:Nat} {ks:List Int} (hk:∀ m∈ks,0<=m) (hl:ks.length<=1000) (hb:Builtin.Int.intBits (gr ks)<=6) (ht:t<=8):zF [.list (ks.map PyData.int),.int (t:Int)]=some (.int (la t ks)):=by
 have g0:0<=gr ks:=by cases ks with
  |nil=>exact Int.le_refl 0
  |cons a r=>exact hk _ (EO (by simp))
 have ct:qaW (.list (ks.map PyData.int)) (.list [.int 0])=some (.list ((ks++[0]).map PyData.int)):=by
  rw [qgc (by simp;omega)];simp
 have em:mxD [.list ((ks++[0]).map PyData.int)]=some (.int (gr ks)):=by rw [qjN (by simp),qnD hk]
 rw [LS]
 try simp (disch:=omega) only [Pu.pwA,JO,ct,em,qcB]
 refine QB (Q:=λo=>ZU false o=_) (XE 0 (6:Int).toNat) (λi ρ=>∃ s3 v,v=2 ^ min i (Builtin.Int.intBits (gr ks))/\ρ=[.sh (.list (ks.map PyData.int)),.sh (.int (t:Int)),.sh (.int v),s3]) ⟨_,1,by rw [Nat.zero_min];rfl,rfl⟩ ?_ ?_
 ·rintro i x ρ hx ⟨s3,v,rfl,rfl⟩;obtain ⟨hi,rfl⟩:=ZN hx
  try simp only [Pu.pwA,ct,em]
  have pw:=p2 (show min i (Builtin.Int.intBits (gr ks))<=8 by omega);have e4:cI J6 (·*·) (.int 2) (.int (2 ^ min i (Builtin.Int.intBits (gr ks))))=some (.int (2*(2 ^ min i (Builtin.Int.intBits (gr ks))))):=WO (by omega);rcases Nat.lt_or_ge i (Builtin.Int.intBits (gr ks)) with c|c
  ·have ge:¬ gr ks<2 ^ i:=λz=>by have:=(DM g0).mpr z;omega
   have mi:min i (Builtin.Int.intBits (gr ks))=i:=by omega
   rw [mi] at e4 ⊢;have d1:decide ((2:Int) ^ i<=gr ks)=true:=za0 (by omega)
   try simp only [Pu.pwA,d1,e4]
   refine ⟨_,_,?_,rfl⟩;rw [show min (i+1) (Builtin.Int.intBits (gr ks))=i+1 by omega,Int.pow_succ,Int.mul_comm (2 ^ i) 2]
  ·have lt:gr ks<2 ^ Builtin.Int.intBits (gr ks):=(DM g0).mp (v6 _);have mi:min i (Builtin.Int.intBits (gr ks))=Builtin.Int.intBits (gr ks):=by omega
   rw [mi];have d1:decide ((2:Int) ^ Builtin.Int.intBits (gr ks)<=gr ks)=false:=u9 (by omega)
   try simp only [Pu.pwA,d1]
   refine ⟨_,_,?_,rfl⟩;rw [show min (i+1) (Builtin.Int.intBits (gr ks))=Builtin.Int.intBits (gr ks) by omega]
 ·rintro ρ ⟨s3,v,rfl,rfl⟩;rw [V0,show min (6:Int).toNat (Builtin.Int.intBits (gr ks))=Builtin.Int.intBits (gr ks) by omega]
  try simp only [Pu.pwA,LA ht]
  rfl
def rwd (r:List Int):PyData:=.list (r.map PyData.int)
def brX (xs:List Nat) (ks:List Int):PyData:=tld (xs.find? (isl ks))
def chX (b:Nat) (ks:List Int):Nat:=(chn b ks).toNat
def qeF {xs:List Nat} {r:List Int}:TR (brX xs r)=xs.all λx=>!isl r x:=by
 unfold brX;cases h:xs.find? (isl r) with
 |none=>
  have hn:=List.find?_eq_none.mp h;rw [show (xs.all λx=>!isl r x)=true from List.all_eq_true.mpr λx hx=>by simpa using hn x hx];rfl
 |some x=>
  have h1:=List.find?_some h;have h2:=List.mem_of_find?_eq_some h;cases e:xs.all λx=>!isl r x with
  |false=>rfl
  |true=>have:=List.all_eq_true.mp e x h2;rw [h1] at this;cases this
def LQ {t:Nat} {ks:List Int} (h:Rw t ks):Builtin.Int.intBits (gr ks)<=t:=by
 have g:=qg9 h;exact CO g.1 g.2
def qe7 {b:Nat} {ks:List Int}:(chX b ks:Int)=la b ks+1:=by
 have c:=XY (b:=b) (ks:=ks);unfold chX la;rw [Int.toNat_of_nonneg c.1];unfold chn;split<;>split<;>omega
def ME {b t:Nat} {ks:List Int} (h:Rw t ks):chX b ks<=2 ^ b/\chX b ks<=2 ^ t+1:=by
 have c:=XY (b:=b) (ks:=ks);have h3:((2 ^ b:Nat):Int)=2 ^ b:=by simp
 have p:2 ^ Builtin.Int.intBits (gr ks)<=2 ^ t:=Nat.pow_le_pow_right (by omega) (LQ h);have h4:((2 ^ Builtin.Int.intBits (gr ks):Nat):Int)=2 ^ Builtin.Int.intBits (gr ks):=by simp
 unfold chX;refine ⟨by omega,?_⟩;unfold chn at c ⊢;split<;>omega
def axs (ss:List (List Int)):List Nat:=(aw ss).map Int.toNat
def KO {neg:Bool} {n:Int} {ms:List Int}:inD neg (.int n) (.list (ms.map PyData.int))=some (.bool (if neg then !(ms.any (·==n)) else ms.any (·==n))):=by
 refine (qL ⟨rfl,by simp [LR]⟩).trans ?_;rw [List.any_map];rfl
def Spn (w:Nat) (s:List Int):Prop:=s.length<=3/\(∀ m∈s,0<=m/\m<2 ^ w)/\∀ x∈(fl s).drop 1,x≠0
def qiB {w:Nat}:Spn w []:=⟨by simp,by simp,by simp [fl]⟩
def qeJ {w i:Nat} {s:List Int} {m:Int} (h:Spn w s) (hi:i<3) (hl:s.length<=i) (m0:0<=m) (m1:m<2 ^ w) (hm:¬ m∈fl s):Spn w (s++[m]):=by
 obtain ⟨_,h2,h3⟩:=h;have nn:=qeO s.length s rfl λm hm=>(h2 m hm).1;refine ⟨by simp;omega,λx hx=>?_,λx hx=>?_⟩
 ·rcases List.mem_append.mp hx with hx|hx
  ·exact h2 x hx
  ·rw [List.mem_singleton.mp hx];exact ⟨m0,m1⟩
 ·obtain ⟨r,e⟩:=qp1 s.length s rfl;have ex:(fl (s++[m])).drop 1=(fl s).drop 1++(fl s).map λf=>Builtin.bitXor f m:=by rw [YL,e];rfl
  rw [ex] at hx;rcases List.mem_append.mp hx with hx|hx
  ·exact h3 x hx
  ·obtain ⟨f,hf,rfl⟩:=mem_map.mp hx;intro z;refine hm ?_;have:f=m:=qhh (nn f hf) m0 m0 (by rw [z,PyProof.Rows.bitXor_self]);exact this▸hf
def qpX {w:Nat} (h:1<=w) (hw:w<=8):(0:Int)<2 ^ w/\(2:Int) ^ w<=256/\(2:Int)<=2 ^ w:=by
 have pw:=p2 hw;obtain ⟨v,rfl⟩:∃ v,w=v+1:=⟨w-1,by omega⟩
 have:=p2 (show v<=8 by omega);rw [Int.pow_succ] at *;omega
def qp4 {c:Int} {i:Nat} (h:c<5) (hi:i<c.toNat):i+1<=4:=by omega
def qqk {n n' i:Nat} (hn:n<900000) (h:n'<=n+1+4*i) (hi:i+1<=4):n'<=900020:=by omega
def qqb {n n':Nat} {c:Int} (h0:0<=c) (h:c<5) (hn:n'<=n+1+4*c.toNat):n'<=n+17/\c.toNat<=4:=by omega
def qpT {n n' n2 i:Nat} {e:Int} (h0:0<=e) (h:e<4) (hn:n'<=n+1+4*i) (h2:n2<=n'+1+e.toNat):n2<=n+1+4*(i+1):=by omega
def qqn {e:Int} {j:Nat} (h:e<4) (hj:j<e.toNat):j<3:=by omega
def qhU {w n:Nat} {Q:QD} (hn:n<900000) (hw1:1<=w) (hw:w<=8) (h:∀ ss:List (List Int),ss.length<=4->(∀ s∈ss,Spn w s)->Q (spd ss) (n+17)):jd.W [.int (w:Int)] n Q:=by
 obtain ⟨pw0,pw1,pw2⟩:=qpX hw1 hw;rw [T4];refine ⟨rfl,?_⟩;unfold ZJ;refine zn λY1 h1=>?_
 try simp only [Pu.pwA]
 rw [h1];refine zn λY2 h2=>?_
 try simp only [Pu.pwA]
 refine ⟨by omega,by omega,λc c0 c1=>?_⟩
 try simp (disch:=omega) only [Pu.pwA,qcB]
 refine JU (XE 0 c.toNat) QC.mn (λi ρ n'=>n'<=n+1+4*i/\∃ (ss:List (List Int)) (s3 s4 s5 s6:Sl),ρ=[.un,.sh (.int (w:Int)),.ow (ss.map λs=>PyData.list (s.map PyData.int)),s3,s4,s5,s6]/\ss.length=i/\∀ s∈ss,Spn w s) ⟨Nat.le_add_right _ _,[],_,_,_,_,rfl,rfl,by simp⟩ ?_ ?_
 ·rintro i x ρ n' hx ⟨hn',ss,s3,s4,s5,s6,rfl,ls,hs⟩;obtain ⟨hi,rfl⟩:=ZN hx;refine ⟨_,rfl,?_⟩;unfold QC;refine zn λY3 h3=>?_
  try simp only [Pu.pwA]
  rw [h3];refine zn λY4 h4=>?_
  try simp only [Pu.pwA]
  have i4:=qp4 c1 hi;have n9:=qqk hn hn' i4;refine ⟨by omega,Nat.lt_of_le_of_lt n9 (by decide),λe e0 e1=>?_⟩
  try simp (disch:=omega) only [Pu.pwA,qcB]
  refine JU (XE 0 e.toNat) QE.mn (λj ρ n2=>n2<=n'+1+j/\∃ (s:List Int) (s5 s6:Sl),ρ=[.un,.sh (.int (w:Int)),.ow (ss.map λs=>PyData.list (s.map PyData.int)),.sh (.int (0+(i:Int))),.ow (s.map PyData.int),s5,s6]/\s.length<=j/\Spn w s) ⟨Nat.le_add_right _ _,[],_,_,rfl,v6 _,qiB⟩ ?_ ?_
  ·rintro j x ρ n2 hx ⟨hn2,s,s5,s6,rfl,lj,hsp⟩;obtain ⟨hj,rfl⟩:=ZN hx;refine ⟨_,rfl,?_⟩;unfold QE;refine zn λY5 h5=>?_
   try simp only [Pu.pwA,LA hw]
   have j3:=qqn e1 hj;have n2l:n2<=900020+1+3:=u5 hn2 (Nat.add_le_add (Nat.succ_le_succ n9) (Nat.le_of_lt j3));refine ⟨by clear hn' hi hn2 lj hj;omega,Nat.lt_of_le_of_lt n2l (by decide),λm0 a0 a1=>?_⟩;rw [h5]
   try simp only [Pu.pwA,qpK (ks:=s) (by have:=hsp.1;omega) λm hm=>(hsp.2.1 m hm).1,KO]
   by_cases hm:(fl s).any (·==1+m0)=true
   ·try simp only [Pu.pwA,hm]
    exact ⟨Nat.succ_le_succ hn2,s,_,_,rfl,Nat.le_succ_of_le lj,hsp⟩
   ·simp only [Bool.not_eq_true] at hm;have hm2:¬ (1+m0)∈fl s:=λz=>by
     rw [List.any_eq_true.mpr ⟨_,z,by simp⟩] at hm;cases hm
    try simp only [Pu.pwA,hm]
    refine ⟨by have:=hsp.1;simp;omega,Nat.succ_le_succ hn2,s++[1+m0],_,_,by rw [List.map_append];rfl,by rw [length_append];exact Nat.succ_le_succ lj,qeJ hsp j3 lj (Int.add_nonneg (by decide) a0) (by clear hn' hi hn2 lj hj;omega) hm2⟩
  ·rintro ρ n2 ⟨hn2,s,s5,s6,rfl,lj,hsp⟩;rw [V0] at hn2;rw [h4]
   try simp only [Pu.pwA]
   refine ⟨by simp;omega,qpT e0 e1 hn' hn2,ss++[s],_,_,_,_,by rw [List.map_append];rfl,by simp [ls],λx hx=>?_⟩;rcases List.mem_append.mp hx with hx|hx
   ·exact hs x hx
   ·rw [List.mem_singleton.mp hx];exact hsp
 ·rintro ρ n' ⟨hn',ss,s3,s4,s5,s6,rfl,ls,hs⟩;rw [V0] at hn' ls
  try simp only [Pu.pwA,h2]
  obtain ⟨h17,h4⟩:=qqb c0 c1 hn';exact ⟨n+17,h17,h ss (by rw [ls];exact h4) hs⟩
def al0 {P:PyData->Prop}:∀ d∈([]:List PyData),P d:=λ_ h=>nomatch h
def alc {P:PyData->Prop} {x:PyData} {r:List PyData} (h:P x) (t:∀ d∈r,P d):∀ d∈x::r,P d:=λd hd=>by
 rcases mem_cons.mp hd with rfl|hd
 ·exact h
 ·exact t d hd
def In3 (u:Int) (d:PyData):Prop:=∃ v:Int,d=.int v/\3<=v/\v<=u
def in3 {v u:Int} (h0:3<=v) (h1:v<=u):In3 u (.int v):=⟨v,rfl,h0,h1⟩
def at8 {c u:Int} (h0:0<=c) (h1:c<8) (h2:4<=u) (h3:u<=5):∃ v:Int,L2.atI [PyData.int 3,.int 3,.int 3,.int 3,.int 4,.int 4,.int 4,.int u] c=some (.int v)/\3<=v/\v<=5:=by
 have a:In3 5 (.int 3):=in3 (by decide) (by decide);have b:In3 5 (.int 4):=in3 (by decide) (by decide);obtain ⟨_,e,v,rfl,z⟩:=KL (P:=In3 5) 8 rfl h0 h1 (alc a (alc a (alc a (alc a (alc b (alc b (alc b (alc (in3 (Int.le_trans (by decide) h2) h3) al0))))))));exact ⟨v,e,z⟩
def at3 {c:Int} (h0:0<=c) (h1:c<3):∃ v:Int,L2.atI [PyData.int 3,.int 4,.int 6] c=some (.int v)/\3<=v/\v<=6:=by
 obtain ⟨_,e,v,rfl,z⟩:=KL (P:=In3 6) 3 rfl h0 h1 (alc (in3 (v:=3) (by decide) (by decide)) (alc (in3 (v:=4) (by decide) (by decide)) (alc (in3 (v:=6) (by decide) (by decide)) al0)));exact ⟨v,e,z⟩
def qn2 {n:Nat} {g:Bool} {Q:QD} (hn:n<800000) (h:∀ (w b:Nat) (ss:List (List Int)),1<=w->w<=5->b<=5->ss.length<=4->(∀ s∈ss,Spn w s)->Q (.tuple [.int (w:Int),.int (b:Int),spd ss]) (n+21)):QS.W [.bool g] n Q:=by
 rw [qan];refine ⟨rfl,?_⟩;unfold V1;refine zn λY1 h1=>?_
 try simp only [Pu.pwA]
 obtain ⟨y,ey,y0,y1⟩:∃ y:Int,L2.atI [PyData.int 4,.int 5] (if g then 1 else 0)=some (.int y)/\4<=y/\y<=5:=by
  cases g
  ·exact ⟨4,rfl,by decide,by decide⟩
  ·exact ⟨5,rfl,by decide,by decide⟩
 try simp only [Pu.pwA,ey]
 refine ⟨⟨by omega,by omega⟩,by omega,λc c0 c1=>?_⟩;obtain ⟨v,ev,v0,v1⟩:=at8 c0 c1 y0 y1;refine ⟨_,ev,v,rfl,⟨by omega,by omega⟩,by omega,λw0 a0 a1=>?_⟩;obtain ⟨w,hw⟩:∃ w:Nat,1+w0=(w:Int):=⟨(1+w0).toNat,(Int.toNat_of_nonneg (Int.add_nonneg (by decide) a0)).symm⟩
 rw [hw,h1]
 try simp only [Pu.pwA]
 refine ⟨by omega,by omega,λe e0 e1=>?_⟩;obtain ⟨u,eu,u0,u1⟩:=at3 e0 e1;refine ⟨_,eu,u,rfl,⟨by omega,by omega⟩,by omega,λb0 b1 b2=>?_⟩;obtain ⟨b,rfl⟩:∃ b:Nat,b0=(b:Int):=⟨b0.toNat,(Int.toNat_of_nonneg b1).symm⟩
 have w15:1<=w/\w<=5:=by clear hn h1;omega
 have b5:b<=5:=by clear hn h1 w15 hw;omega
 have n4:n+4<900000:=by clear hw a0 a1 b1 b2;omega
 refine qhU n4 w15.1 (u5 w15.2 (by decide)) λss ls hs=>?_
 try simp only [Pu.pwA]
 exact ⟨n+21,v6 _,h w b ss w15.1 w15.2 b5 ls hs⟩
open Bk (SD SDs qbv L5 qc3 qcQ RP K9)
def Th (L B:Nat):Nat->PyData->Prop
 |_,.none=>True
 |_,.bool _=>True
 |_,.int i=>-(B:Int)<=i/\i<=B
 |_,.str s=>s.cps.size<=20/\(s.cps.toList.all λc=>decide (c<16 ^ 8))=true
 |n+1,.list ds=>ds.length<=L/\∀ d∈ds,Th L B n d
 |n+1,.tuple ds=>ds.length<=L/\∀ d∈ds,Th L B n d
 |_,_=>False
def qoB {L B:Nat} (n:Nat):Th L B n .none:=by cases n<;>trivial
def qmY {L B:Nat} (n:Nat) {b:Bool}:Th L B n (.bool b):=by cases n<;>trivial
def qiZ {L B:Nat} (n:Nat) {i:Int}:Th L B n (.int i)=(-(B:Int)<=i/\i<=B):=by cases n<;>rfl
def qkC {L B:Nat} (n:Nat) {s:Str}:Th L B n (.str s)=(s.cps.size<=20/\(s.cps.toList.all λc=>decide (c<16 ^ 8))=true):=by cases n<;>rfl
def qkN {L B n:Nat} {ds:List PyData} (hl:ds.length<=L) (h:∀ d∈ds,Th L B n d):Th L B (n+1) (.tuple ds):=⟨hl,h⟩
def qpl {L B n:Nat} {ds:List PyData} (hl:ds.length<=L) (h:∀ d∈ds,Th L B n d):Th L B (n+1) (.list ds):=⟨hl,h⟩
theorem ZB {L B L' B':Nat} (hL:L<=L') (hB:B<=B'):∀ {n:Nat} (m:Nat) {d:PyData},Th L B n d->n<=m->Th L' B' m d
 |n,m,.none,_,_=>qoB m
 |n,m,.bool _,_,_=>qmY m
 |n,m,.int i,h,_=>by rw [qiZ] at h ⊢;omega
 |n,m,.str s,h,_=>by rw [qkC] at h ⊢;exact h
 |n+1,m+1,.list ds,⟨h1,h2⟩,e=>⟨by omega,λd hd=>ZB hL hB m (h2 d hd) (by omega)⟩
 |n+1,m+1,.tuple ds,⟨h1,h2⟩,e=>⟨by omega,λd hd=>ZB hL hB m (h2 d hd) (by omega)⟩
 |0,_,.list ds,h,_=>h.elim
 |0,_,.tuple ds,h,_=>h.elim
 |n+1,0,.list ds,h,e=>by omega
 |n+1,0,.tuple ds,h,e=>by omega
 |0,_,.dict _,h,_=>h.elim
 |n+1,_,.dict _,h,_=>h.elim
mutual
/-- how great a thing is -/
def wt:PyData->Nat
 |.list ds=>wts ds
 |.tuple ds=>wts ds
 |.str s=>s.cps.size
 |_=>0
def wts:List PyData->Nat
 |[]=>0
 |d::r=>wt d+1+wts r
end
theorem Z6:∀ xs ys:List PyData,wts (xs++ys)=wts xs+wts ys
 |[],ys=>by simp [wts]
 |x::r,ys=>by rw [cons_append,wts,wts,Z6 r ys];omega
theorem K1:∀ xs:List PyData,wts xs.reverse=wts xs
 |[]=>rfl
 |x::r=>by rw [List.reverse_cons,Z6,K1 r];simp only [wts];omega
def UB (xs:List PyData) (k:Nat):wts (xs.take k)+wts (xs.drop k)=wts xs:=by rw [← Z6,List.take_append_drop]
theorem qdC {r y:PyData}:∀ {ds:List PyData} {k:Nat},ds[k]?=some y->wts (ds.set k r)+wt y=wts ds+wt r
 |[],_,h=>by cases h
 |x::ds,0,h=>by
  cases h;simp only [set_cons_zero,wts];omega
 |x::ds,k+1,h=>by
  have:=qdC (r:=r) (ds:=ds) (k:=k) (by simpa using h);simp only [set_cons_succ,wts];omega
def qfo {y:PyData} {ds:List PyData} {k:Nat} (h:ds[k]?=some y):wt y+1<=wts ds:=by
 have e:=UB ds k;have hk:=(za2 h).1;rw [List.drop_eq_getElem_cons hk,(za2 h).2] at e;simp only [wts] at e;omega
theorem qic {L B:Nat} (hB:B<=1000000):∀ {n:Nat} {d:PyData},Th L B n d->SD n (wt d) d
 |n,.none,_=>qc3 _ _
 |n,.bool _,_=>qcQ _ _ _
 |n,.int i,h=>by rw [qiZ] at h;exact qbv _ _ (by omega)
 |n,.str s,h=>by
  rw [qkC] at h;exact L5 _ _ (v6 _) h.2
 |n+1,.list ds,⟨h1,h2⟩=>K9 (go ds λd hd=>qic hB (h2 d hd))
 |n+1,.tuple ds,⟨h1,h2⟩=>RP (go ds λd hd=>qic hB (h2 d hd))
 |0,.list ds,h=>h.elim
 |0,.tuple ds,h=>h.elim
 |0,.dict _,h=>h.elim
 |n+1,.dict _,h=>h.elim
where go {n:Nat}:∀ ds:List PyData,(∀ d∈ds,SD n (wt d) d)->SDs n (wts ds) ds
 |[],_=>Bk.qcr _ _
 |d::r,h=>Bk.NS (h d (by simp)) (go r λe he=>h e (by simp [he])) (by simp only [wts];omega)
def qiO {L B n:Nat} {d:PyData} (h:Th L B n d) (hB:B<=1000000) (hn:n<=40) (hb:wt d<=2 ^ 20):∃ x,CD true [d]=some (.str x):=by
 have w:=(qic hB h).w hn hb;cases d with
 |none=>exact ⟨_,qlP⟩
 |bool b=>exact ⟨_,qlI⟩
 |int i=>rw [qiZ] at h;exact ⟨_,qfF (by omega)⟩
 |str x=>exact ⟨_,ql7⟩
 |list ds=>exact ⟨_,qlT w⟩
 |tuple ds=>exact ⟨_,qkt w⟩
 |dict _=>cases n<;>exact h.elim
def WS {m:List Bool} {i:Nat} {d:PyData} {ρ:Rho} (h:dm m ρ=ρ):XW m false i d ρ=ρ.set i (.sh d):=by
 unfold XW;rw [h];split<;>rfl
def ptD (p:List Nat):PyData:=.tuple (p.map λ(k:Nat)=>PyData.int (k:Int))
def pe:List Nat->PyData->Option PyData
 |[],d=>some d
 |k::p,d=>(SG d).bind λds=>(ds[k]?).bind (pe p)
def mkS:PyData->List PyData->PyData
 |.list _,l=>.list l
 |_,l=>.tuple l
def pu (x:PyData):List Nat->PyData->Option PyData
 |[],_=>some x
 |k::p,d=>(SG d).bind λds=>(ds[k]?).bind λe=>(pu x p e).map λe'=>mkS d (ds.set k e')
def kind {L B n:Nat} {d:PyData} (h:Th L B n d):∃ t,tyD d=some t/\((∃ m ds,n=m+1/\SG d=some ds/\(ju t "list" || ju t "tuple")=true/\wt d=wts ds/\ds.length<=L/\∀ e∈ds,Th L B m e)\/(ju t "list" || ju t "tuple")=false/\SG d=none):=by
 cases d with
 |dict _=>cases n<;>exact h.elim
 |list ds=>
  cases n with
  |zero=>exact h.elim
  |succ m=>exact ⟨_,rfl,.inl ⟨m,ds,rfl,rfl,rfl,rfl,h⟩⟩
 |tuple ds=>
  cases n with
  |zero=>exact h.elim
  |succ m=>exact ⟨_,rfl,.inl ⟨m,ds,rfl,rfl,rfl,rfl,h⟩⟩
 |_=>exact ⟨_,rfl,.inr ⟨rfl,rfl⟩⟩
def qnl {L B n:Nat} (d:PyData) {ds:List PyData} (hl:ds.length<=L) (h:∀ d∈ds,Th L B n d):Th L B (n+1) (mkS d ds):=by cases d<;>exact ⟨hl,h⟩
def qel {d:PyData} {ds:List PyData} (h:SG d=some ds):qjP [d]=some (.list ds)/\(∀ l,wt (mkS d l)=wts l)/\(∃ t,tyD d=some t/\∀ l,mkS d l=if ju t "list" = true then .list l else .tuple l)/\∀ (k:Nat) y,ds[k]?=some y->ixD d (.int (k:Int))=some y:=by
 cases d with
 |list _=>cases h;exact ⟨rfl,λ_=>rfl,⟨_,rfl,λ_=>rfl⟩,λk y e=>by rw [qiA,atN (za2 e).1,e]⟩
 |tuple _=>cases h;exact ⟨rfl,λ_=>rfl,⟨_,rfl,λ_=>rfl⟩,λk y e=>by rw [qeI,atN (za2 e).1,e]⟩
 |_=>cases h
theorem qib {L B:Nat}:∀ {n:Nat} {p:List Nat} {d e:PyData},Th L B n d->pe p d=some e->p.length<=n/\Th L B (n-p.length) e
 |n,[],d,e,h,he=>by cases he;exact ⟨Nat.zero_le _,h⟩
 |n,k::p,d,e,h,he=>by
  simp only [pe] at he;obtain ⟨ds,e1,he⟩:=obb he;obtain ⟨x,e2,he⟩:=obb he;have hx:=u4 e2;obtain ⟨_,_,⟨m,_,rfl,sd,_,_,_,ha⟩|⟨_,sd⟩⟩:=kind h
  all_goals cases sd.symm.trans e1
  have:=qib (ha x hx) he;simp only [length_cons];exact ⟨by omega,by rw [show m+1-(p.length+1)=m-p.length by omega];exact this.2⟩
theorem qmp {L B L' B':Nat} (hL:L<=L') (hB:B<=B') {x:PyData}:∀ {n:Nat} {p:List Nat} {d:PyData},Th L B n d->(pe p d).isSome=true->Th L' B' (n-p.length+1) x->∃ r,pu x p d=some r/\Th L' B' (n+1) r
 |n,[],d,h,he,hx=>⟨x,rfl,by simpa using hx⟩
 |n,k::p,d,h,he,hx=>by
  obtain ⟨e,he⟩:=Option.isSome_iff_exists.mp he;simp only [pe] at he;obtain ⟨ds,e1,he⟩:=obb he;obtain ⟨y,e2,he3⟩:=obb he;have hy:=u4 e2;obtain ⟨_,_,⟨m,_,rfl,sd,_,_,hl,ha⟩|⟨_,sd⟩⟩:=kind h
  all_goals cases sd.symm.trans e1
  simp only [length_cons,Nat.succ_sub_succ] at hx;obtain ⟨r,e3,hr⟩:=qmp hL hB (ha y hy) (by rw [he3];rfl) hx;refine ⟨_,by simp only [pu,e1,e2,Option.bind_some,e3];rfl,qnl _ (by rw [List.length_set];omega) λd hd=>?_⟩;rcases List.mem_or_eq_of_mem_set hd with hd|rfl
  ·exact ZB hL hB _ (ha d hd) (by omega)
  ·exact hr
def qpp {d:PyData} {ds:List PyData} (h:SG d=some ds):wts ds=wt d:=by cases d<;>cases h<;>rfl
theorem qjU:∀ {p:List Nat} {d e:PyData},pe p d=some e->wt e<=wt d
 |[],d,e,he=>by cases he;exact v6 _
 |k::p,d,e,he=>by
  simp only [pe] at he;obtain ⟨ds,e1,he⟩:=obb he;obtain ⟨x,e2,he⟩:=obb he;have:=qjU he;have:=qfo e2;have:wts ds=wt d:=qpp e1;omega
theorem qjS {x:PyData}:∀ {p:List Nat} {d r:PyData},pu x p d=some r->wt r<=wt d+wt x
 |[],d,r,h=>by cases h;exact Nat.le_add_left _ _
 |k::p,d,r,h=>by
  simp only [pu] at h;obtain ⟨ds,e0,h⟩:=obb h;obtain ⟨e,e1,h⟩:=obb h;obtain ⟨e',e2,rfl⟩:=za1 h;have:=qjS e2;have:=qdC (r:=e') e1;rw [(qel e0).2.1,← qpp e0];omega
def qbf (ds:List PyData) (k:Nat):enD k ds=(ds.zipIdx k).map λp=>PyData.tuple [.int (p.2:Int),p.1]:=by
 have:=qhv id ds k;rw [List.map_id] at this;exact this
def qhY {i:Nat} {es ds:List PyData} {ρ:Rho} (h:slot ρ i=some ds) (hl:ds.length+es.length<=16777216):qg3 i (.list es) ρ=some (.nx (ρ.set i (.ow (ds++es)))):=by unfold qg3;rw [h];simp only [Option.bind_some];exact qL hl
def qd5 {L B n j:Nat} {d:PyData} {ds:List PyData} (hd:SG d=some ds) (ha:∀ e∈ds,Th L B n e) (hn:n<=100) (hp:wts ds<=900000) (ih:∀ e,Th L B n e->wt e<=900000->∃ ps:List (List Nat),qH j [e]=some (.list (ps.map ptD))/\(∀ p∈ps,(pe p e).isSome=true)/\1<=ps.length/\ps.length<=wt e+1) (F:Ot->Option Ot) :
  ∃ (ps:List (List Nat)) (s2 s3:Sl),(XS (Pu.M1 2 (Pu.je (gN 2) (Pu.je (gN 3) Pu.NF))).f (λρ=>(lcF (λρ=>(((vw ρ 3).bind λx=>some [x]).bind (qH j)).bind SG) (lcH (λd=>some [(0,d)]) (λx=>some true) λρ=>(Option.map PyData.tuple ((vw ρ 1).bind λx=>some [x])).bind λx=>(vw ρ 0).bind λy=>jm.f x y) [none,some 2] ρ).bind λd=>qg3 1 d (dmS [false,false,true,true] d ρ)) (List.map (λp=>PyData.tuple [PyData.int (p.2:Int),p.1]) ds.zipIdx) [Sl.sh d,Sl.ow [PyData.tuple []],Sl.un,Sl.un]).bind F=F (.nx [.sh d,.ow (ps.map ptD),s2,s3])/\(∀ p∈ps,(pe p d).isSome=true)/\1<=ps.length/\ps.length<=wts ds+1:=by
 refine QB (Q:=λo=>∃ (ps:List (List Nat)) (s2 s3:Sl),o=F (.nx [.sh d,.ow (ps.map ptD),s2,s3])/\(∀ p∈ps,(pe p d).isSome=true)/\1<=ps.length/\ps.length<=wts ds+1) ds.zipIdx (λi ρ=>∃ (ps:List (List Nat)) (s2 s3:Sl),ρ=[.sh d,.ow (ps.map ptD),s2,s3]/\(∀ p∈ps,(pe p d).isSome=true)/\1<=ps.length/\ps.length<=wts (ds.take i)+1) ⟨[[]],_,_,rfl,λp hp=>by rw [List.mem_singleton.mp hp];rfl,by simp,by simp⟩ ?_ ?_
 ·rintro i ⟨e,k⟩ ρ hx ⟨ps,s2,s3,rfl,hv,l1,l2⟩;obtain ⟨hx',rfl,hk⟩:=qad hx;have wa:=qfo hx';obtain ⟨qs,e1,hq,q1,q2⟩:=ih e (ha e (u4 hx')) (by omega);have wk:wts (ds.take (k+1))=wts (ds.take k)+(wt e+1):=by rw [List.take_succ,hx',Z6];simp only [Option.toList_some,wts,Nat.add_zero]
  have wl:=UB ds (k+1)
  try simp only [Pu.pwA]
  rw [MT (ds:=qs.map ptD) (fs:=(qs.map λp=>k::p).map ptD)]
  rotate_left
  ·try simp only [Pu.pwA,e1]
  ·rw [map_map];refine RQ λp hp=>?_;have ct:KC (.tuple [.int (k:Int)]) (ptD p)=some (ptD (k::p)):=by
    obtain ⟨y,hy⟩:=Option.isSome_iff_exists.mp (hq p hp);have:=(qib (ha e (u4 hx')) hy).1;exact qmR (by simp;omega)
   try simp only [Pu.pwA,qbQ,Q6,ct,Function.comp_def]
  ·simp;omega
  try simp only [Pu.pwA]
  rw [qhY (ds:=ps.map ptD) rfl (by simp;omega)]
  try simp only [Pu.pwA]
  refine ⟨ps++qs.map (λp=>k::p),_,_,by rw [List.map_append],λp hp=>?_,by simp;omega,by rw [length_append,length_map];omega⟩;rcases List.mem_append.mp hp with hp|hp
  ·exact hv p hp
  ·obtain ⟨q,hq',rfl⟩:=mem_map.mp hp;simp only [pe,hd,hx',Option.bind_some];exact hq q hq'
 ·rintro ρ ⟨ps,s2,s3,rfl,hv,l1,l2⟩;rw [List.length_zipIdx,List.take_length] at l2;exact ⟨ps,s2,s3,rfl,hv,l1,l2⟩
def qhS {L B:Nat}:∀ {n j:Nat} {d:PyData},Th L B n d->n<j->n<=100->wt d<=900000->∃ ps:List (List Nat),qH j [d]=some (.list (ps.map ptD))/\(∀ p∈ps,(pe p d).isSome=true)/\1<=ps.length/\ps.length<=wt d+1:=by
 intro n j;induction j generalizing n with
 |zero=>intro d _ h;omega
 |succ j ih=>
  intro d h hj hn hp;rw [SE];obtain ⟨t,ty,⟨m,ds,rfl,sd,sb,ew,_,ha⟩|⟨sb,_⟩⟩:=kind h
  ·rw [ew] at hp ⊢;obtain ⟨ps,s2,s3,e,r⟩:=qd5 (d:=d) sd ha (by omega) hp (λe he hw=>ih he (by omega) (by omega) hw) (sqk (λx ρ=>qc7 ρ 1) 1000000000);refine ⟨ps,?_,r⟩
   try simp only [Pu.pwA,jI,ty,sb,sd,qbf]
   rw [e]
   try simp only [Pu.pwA]
  ·refine ⟨[[]],?_,λp hp=>by rw [List.mem_singleton.mp hp];rfl,v6 _,Nat.le_add_left _ _⟩
   try simp only [Pu.pwA,jI,ty,sb,ptD,map_cons,List.map_nil]
def qjk {p:List Nat} {d e:PyData} (h:pe p d=some e):jD [d,ptD p]=some e:=by
 rw [LD]
 try simp only [Pu.pwA,JW,ptD]
 refine QB (Q:=λo=>ZU false o=some e) p (λi ρ=>∃ (x:PyData) (s2:Sl),ρ=[.sh x,.sh (ptD p),s2]/\pe (p.drop i) x=some e) ⟨d,_,rfl,by simpa using h⟩ ?_ ?_
 ·rintro i k ρ hx ⟨x,s2,rfl,hv⟩;have hi:=(za2 hx).1;rw [List.drop_eq_getElem_cons hi,(za2 hx).2] at hv;simp only [pe] at hv;obtain ⟨ds,e1,hv⟩:=obb hv;obtain ⟨y,e2,hv⟩:=obb hv;have ix:=(qel e1).2.2.2 k y e2
  try simp only [Pu.pwA,ix]
  rw [WS rfl];exact ⟨y,_,rfl,hv⟩
 ·rintro ρ ⟨x,s2,rfl,hv⟩;rw [List.drop_length] at hv;cases hv
  try simp only [Pu.pwA]
def qli (p:List Nat):eqD false (ptD p) (.tuple [])=some (.bool p.isEmpty):=by
 have e:ptD p=.tuple ((p.map λ(k:Nat)=>(k:Int)).map PyData.int):=by unfold ptD;rw [map_map];rfl
 have h:qbV (.tuple ((p.map λ(k:Nat)=>(k:Int)).map PyData.int)) (.tuple [])=none:=rfl;rw [e];unfold eqD;rw [h];simp only;rw [qL (by simp only [dpt,qbt,qc2];omega)];have:=qhe (p.map λ(k:Nat)=>(k:Int)) [];simp only [List.map_nil] at this;simp only [jP,this,Option.map_some];cases p<;>simp
theorem qmf {x:PyData}:∀ {p:List Nat} {j:Nat} {d:PyData},p.length<j->(pe p d).isSome=true->∃ r,pu x p d=some r/\zx j [d,ptD p,x]=some r
 |[],j,d,hj,_=>by
  obtain ⟨j,rfl⟩:∃ i,j=i+1:=⟨j-1,by omega⟩
  refine ⟨x,rfl,?_⟩;rw [X6]
  try simp only [Pu.pwA,JC,qli,List.isEmpty_nil]
 |k::p,j,d,hj,he=>by
  obtain ⟨j,rfl⟩:∃ i,j=i+1:=⟨j-1,by omega⟩
  obtain ⟨e,he⟩:=Option.isSome_iff_exists.mp he;simp only [pe] at he;obtain ⟨ds,e1,he⟩:=obb he;obtain ⟨y,e2,he3⟩:=obb he;have hk:=(za2 e2).1;obtain ⟨r,e4,e5⟩:=qmf (x:=x) (p:=p) (j:=j) (d:=y) (by simp at hj;omega) (by rw [he3];rfl);have a0:ixD (ptD (k::p)) (.int 0)=some (.int (k:Int)):=by simp only [ptD,map_cons,qeI,at0]
  have a1:slA (ptD (k::p)) (some 1) none=some (ptD p):=by
   simp only [ptD,qnY,qn7,map_cons,List.drop_succ_cons,List.drop_zero]
  have sk:qlo 3 (.int (k:Int)) r [.sh d,.sh (ptD (k::p)),.sh x,.ow ds]=some (.nx [.sh d,.sh (ptD (k::p)),.sh x,.ow (ds.set k r)]):=by
   have ix:ixN ds.length (k:Int)=some k:=by unfold ixN;rw [if_pos (by omega),if_pos (by omega)];rfl
   unfold qlo
   try simp only [Pu.pwA,qh6,qb9,K3,ix,Option.bind_some]
  obtain ⟨ls,_,⟨t,ty,mk⟩,_⟩:=qel e1;refine ⟨mkS d (ds.set k r),by simp only [pu,e1,e2,Option.bind_some,e4];rfl,?_⟩;rw [X6,mk]
  try simp only [Pu.pwA,JC,qli,List.isEmpty_cons,qh5,MI,a0,a1,atN hk,e2,e5,ls,e1,sk,ty]
  cases ju t "list" <;> try simp only [Pu.pwA,if_true,if_false,Bool.false_eq_true]
end K50
namespace K50
open PySem L2 L3 Pu Pv
def ala {P:PyData->Prop} {x y:List PyData} (h:∀ d∈x,P d) (t:∀ d∈y,P d):∀ d∈x++y,P d:=λd hd=>by
 rcases List.mem_append.mp hd with hd|hd
 ·exact h d hd
 ·exact t d hd
def qnQ (k m n:Nat):min (k+m) n-min k n<=m:=by omega
def qnO (k n:Nat):n-min k n<=n-k:=by omega
def qct {α:Type} (xs:List α) (k m:Nat):(VL xs (some (k:Int)) (some ((k+m:Nat):Int))).length<=min m (xs.length-k):=by
 unfold VL;rw [HT.RH,HT.RH,List.length_take,List.length_drop];exact Nat.le_min.mpr ⟨u5 (Nat.min_le_left _ _) (qnQ _ _ _),u5 (Nat.min_le_right _ _) (qnO _ _)⟩
def NV {xs ys:List PyData} (h:xs.length+ys.length<=16777216):KC (.list xs) (.list ys)=some (.list (xs++ys)):=qL h
def qbF {xs:List PyData} {lo hi:Option Int}:slA (.list xs) lo hi=some (.list (VL xs lo hi)):=id rfl
def qky {m:List Bool} {i:Nat} {d:PyData} {ρ:Rho} (h:RW d=true):XW m false i d ρ=ρ.set i (.sh d):=by
 unfold XW;rw [h];rfl
def qdi {i j:Nat} {m:List Bool} {d e:PyData} {ρ:Rho} (h:dm m ρ=ρ):qiS i j m [d,e] ρ=some (.nx ((ρ.set i (.sh d)).set j (.sh e))):=by
 unfold qiS;simp only [h];split<;>rfl
def isI:PyData->Bool
 |.int _=>true
 |_=>false
def qpa {L B n:Nat} {d:PyData} (h:Th L B n d):∃ t,tyD d=some t/\(ju t "int" = false/\isI d=false\/ju t "int" = true/\ju t "bool" = !isI d):=by
 cases d with
 |dict _=>cases n<;>exact h.elim
 |int _=>exact ⟨_,rfl,.inr ⟨rfl,rfl⟩⟩
 |bool _=>exact ⟨_,rfl,.inr ⟨rfl,rfl⟩⟩
 |_=>exact ⟨_,rfl,.inl ⟨rfl,rfl⟩⟩
def qhi {L B n:Nat} {d:PyData} (h:Th L B n d):zl [d]=some (.bool (isI d)):=by
 rw [SB];obtain ⟨t,ty,⟨a,b⟩|⟨a,b⟩⟩:=qpa h<;>try simp only [Pu.pwA,ZG,ty,a,b,Bool.not_not]
def qk5 {i j:Nat} {m:List Bool} {x y:List PyData} {ρ:Rho}:qiS i j m [.list x,.list y] ρ=some (.nx (((dm m ρ).set i (.sh (.list x))).set j (.sh (.list y)))):=id rfl
def qkg {xs:List PyData}:qnh (.list xs)=some (.list xs.reverse):=id rfl
def qpV {xs:List PyData} (h:xs.length<=1000):qm7 (.list xs) (.int 2)=some (.list (xs++xs)):=by
 have t:(2:Int).toNat=2:=rfl;have e:(List.replicate (2:Int).toNat xs).flatten=xs++xs:=by
  rw [t];simp [List.replicate]
 have c:(-(2 ^ 63)<=(2:Int)/\(2:Int)<2 ^ 63)/\xs.length*(2:Int).toNat<=sizeLine:=⟨by decide,by rw [y9,t];omega⟩
 refine (qL c).trans ?_;rw [e]
def qcz (xs:List PyData) (k m:Nat):wts (VL xs (some (k:Int)) (some ((k+m:Nat):Int)))<=wts xs:=by
 unfold VL;have a:=UB xs (HT.sIx xs.length 0 (some (k:Int)));have b:=UB (xs.drop (HT.sIx xs.length 0 (some (k:Int)))) (HT.sIx xs.length xs.length (some ((k+m:Nat):Int))-HT.sIx xs.length 0 (some (k:Int)));omega
def qbp (xs:List PyData) (k:Nat):wts (xs.take k)<=wts xs/\wts (xs.drop k)<=wts xs:=by have:=UB xs k;omega
def qpj {P:PyData->Prop} {L N:Nat} {A mid B:List PyData} (hs:A.length+mid.length+B.length<=L+1) (hL:L<=1000) (tA:∀ d∈A,P d) (tm:∀ d∈mid,P d) (tB:∀ d∈B,P d) (gA:wts A<=N) (wm:wts mid<=2*N+4) (gB:wts B<=N) :
  KC (.list A) (.list mid)=some (.list (A++mid))/\KC (.list (A++mid)) (.list B)=some (.list (A++mid++B))/\(A++mid++B).length<=L+1/\(∀ d∈A++mid++B,P d)/\wts (A++mid++B)<=4*N+9:=
 ⟨NV (by omega),NV (by rw [length_append];omega),by rw [length_append,length_append];exact hs,ala (ala tA tm) tB,by rw [Z6,Z6];omega⟩
def UD {n a o L c:Nat} (h:o<=min c (n-a)) (hc:c<=1) (ha:a<=n) (hn:n<=L) {m:Nat} (hm:m<=o+1):a+m+(n-(a+1))<=L+1:=by
 have:=Nat.le_min.mp h;clear h;omega
def qpM {n a o L:Nat} (h:o<=min 2 (n-a)) (ha:a<=n) (hn:n<=L):a+o+(n-(a+2))<=L+1:=by
 have:=Nat.le_min.mp h;clear h;omega
def qph {w:Int} (h:¬ w<3) (h3:¬ w=3) (h8:w<8):0<=w-4/\w-4<((4:Nat):Int):=by omega
def qpW {o:List PyData} {x:PyData} {N:Nat} (h:o.length<=1) (g:wts o<=N) (gx:wt x<=3):(o++o).length<=o.length+1/\wts (o++o)<=2*N+4/\(x::o).length<=o.length+1/\wts (x::o)<=2*N+4:=
 ⟨by rw [length_append];omega,by rw [Z6];omega,v6 _,by simp only [wts];omega⟩
def qpZ {ds:List PyData} {p:PyData} {N L:Nat} (h:ds.length<=L) (g:wts ds<=N) (gp:wt p<=N):ds.reverse.length<=L+1/\wts ds.reverse<=2*N+4/\ds.length<=L+1/\wts ds<=2*N+4/\wts [p]<=2*N+4:=
 ⟨by rw [List.length_reverse];omega,by rw [K1];omega,by omega,by omega,by simp only [wts];omega⟩
def qoS {P:PyData->Prop} {L N k:Nat} {part more:PyData} {t:String} {ds:List PyData} {way:Int} {Q:QO} (hls:qjP [part]=some (.list ds)) (hty:tyD part=some t) (hl:ds.length<=L) (hL:L<=1000) (ha:∀ d∈ds,P d) (hm:P more) (hp:P part) (gd:wts ds<=N) (gm:wt more<=3) (gp:wt part<=N) (w0:0<=way) (w1:way<8) (hk:k<900000)
  (h:∀ r:List PyData,r.length<=L+1->(∀ d∈r,P d)->wts r<=4*N+9->∀ b k',k'<=k+1->Q (.rt (.tuple r) b) k'/\Q (.rt (.list r) b) k'):zp.w [.un,.sh part,.sh (.int way),.sh more,.un,.un,.un,.un,.un,.un,.un] k Q:=by
 unfold zp;refine zn λY1 h1=>?_
 try simp only [Pu.pwA,hls]
 rw [h1];refine zn λY2 h2=>?_;have c0:KC (.int (ds.length:Int)) (.int 1)=some (.int ((ds.length:Int)+1)):=id rfl
 try simp only [Pu.pwA,Q6,QQ,c0]
 refine ⟨by omega,by omega,λa' a0 a1=>?_⟩;obtain ⟨a,rfl,ha'⟩:∃ a:Nat,a'=(a:Int)/\a<=ds.length:=⟨a'.toNat,by omega,by omega⟩
 try simp only [Pu.pwA]
 rw [h2];refine zn λY3 h3=>?_;have c1:KC (.int (a:Int)) (.int 1)=some (.int ((a+1:Nat):Int)):=id rfl;have c2:KC (.int (a:Int)) (.int 2)=some (.int ((a+2:Nat):Int)):=id rfl;have s1:slA (.list ds) none (some (a:Int))=some (.list (ds.take a)):=by rw [qbF,qes]
 have s2:slA (.list ds) (some ((a+1:Nat):Int)) none=some (.list (ds.drop (a+1))):=by rw [qbF,C4]
 have s3:slA (.list ds) (some ((a+2:Nat):Int)) none=some (.list (ds.drop (a+2))):=by rw [qbF,C4]
 obtain ⟨o1,s4,l4,t4,g4⟩:∃ o,slA (.list ds) (some (a:Int)) (some ((a+1:Nat):Int))=some (.list o)/\o.length<=min 1 (ds.length-a)/\(∀ d∈o,P d)/\wts o<=N:=⟨_,qbF,qct ds a 1,λd hd=>ha d (qcg hd),u5 (qcz ds a 1) gd⟩
 obtain ⟨o2,s5,l5,t5,g5⟩:∃ o,slA (.list ds) (some (a:Int)) (some ((a+2:Nat):Int))=some (.list o)/\o.length<=min 2 (ds.length-a)/\(∀ d∈o,P d)/\wts o<=N:=⟨_,qbF,qct ds a 2,λd hd=>ha d (qcg hd),u5 (qcz ds a 2) gd⟩
 have tA:∀ d∈ds.take a,P d:=λd hd=>ha d (List.mem_of_mem_take hd);have tB:∀ d∈ds.drop (a+1),P d:=λd hd=>ha d (List.mem_of_mem_drop hd);have tC:∀ d∈ds.drop (a+2),P d:=λd hd=>ha d (List.mem_of_mem_drop hd);have lA:(ds.take a).length=a:=by rw [List.length_take];omega
 have lB:(ds.drop (a+1)).length=ds.length-(a+1):=List.length_drop;have lC:(ds.drop (a+2)).length=ds.length-(a+2):=List.length_drop;have gA:wts (ds.take a)<=N:=u5 (qbp ds a).1 gd;have gB:wts (ds.drop (a+1))<=N:=u5 (qbp ds (a+1)).2 gd;have gC:wts (ds.drop (a+2))<=N:=u5 (qbp ds (a+2)).2 gd;generalize ds.take a=A at *;generalize ds.drop (a+1)=Bb at *;generalize ds.drop (a+2)=C at *
 try simp only [Pu.pwA,MI,LH,Q6,QQ,c1,s1,s4,qk5]
 rw [h3];refine qha (λρ' m=>m=k+1/\∃ (r:List PyData) (s5 s6 s7 s8 s9 s10:Sl),ρ'=[.un,.sh part,.sh (.int way),.sh more,.sh (.list r),s5,s6,s7,s8,s9,s10]/\r.length<=L+1/\(∀ d∈r,P d)/\wts r<=4*N+9) ?_ ?_
 ·by_cases z:way<3
  ·have k1:KC (.list [more]) (.list o1)=some (.list (more::o1)):=NV (by rw [List.length_singleton];omega);have o11:o1.length<=1:=u5 l4 (Nat.min_le_left _ _);have ml:=qpW (x:=more) o11 g4 gm;obtain ⟨v,ev,mid,rfl,lm,tm,wm⟩:=KL (ds:=[.list [],.list (o1++o1),.list (more::o1)]) (P:=λv=>∃ mid,v=.list mid/\mid.length<=o1.length+1/\(∀ d∈mid,P d)/\wts mid<=2*N+4) 3 rfl w0 z (alc ⟨_,rfl,Nat.zero_le _,al0,Nat.zero_le _⟩ (alc ⟨_,rfl,ml.1,ala t4 t4,ml.2.1⟩ (alc ⟨_,rfl,ml.2.2.1,alc hm t4,ml.2.2.2⟩ al0)));obtain ⟨k2,k3,q1,q2,q3⟩:=qpj (L:=L) (N:=N) (A:=A) (mid:=mid) (B:=Bb) (by rw [lA,lB];exact UD l4 (v6 _) ha' hl lm) hL tA tm tB gA wm gB
   try simp only [Pu.pwA,z,decide_true,qhu,qez,qpV (xs:=o1) (u5 o11 (by decide)),MI,LH,Q6,QQ,k1,ev,c1,s2,k2,k3,qce]
   exact ⟨_,_,_,_,_,_,_,rfl,q1,q2,q3⟩
  try simp only [Pu.pwA,z,decide_false]
  by_cases z2:way=3
  ·obtain ⟨k2,k3,q1,q2,q3⟩:=qpj (L:=L) (N:=N) (A:=A) (mid:=o2.reverse) (B:=C) (by rw [lA,lC,List.length_reverse];exact qpM l5 ha' hl) hL tA (λd hd=>t5 d (List.mem_reverse.mp hd)) tC gA (by rw [K1];exact u5 g5 (u5 (Nat.le_mul_of_pos_left N (by decide)) (Nat.le_add_right _ _))) gC
   try simp only [Pu.pwA,z2,decide_true,MI,LH,Q6,QQ,qfa,qcn,qkg,c2,s5,s3,k2,k3,qce]
   exact ⟨_,_,_,_,_,_,_,rfl,q1,q2,q3⟩
  ·try simp only [Pu.pwA,z2,decide_false]
   have al:=qpZ (p:=part) hl gd gp;obtain ⟨v,ev,r,rfl,lm,tm,wm⟩:=KL (ds:=[.list ds.reverse,.list ds,.list [part],.list []]) (P:=λv=>∃ mid,v=.list mid/\mid.length<=L+1/\(∀ d∈mid,P d)/\wts mid<=2*N+4) (r:=way-4) 4 rfl (qph z z2 w1).1 (qph z z2 w1).2 (alc ⟨_,rfl,al.1,λd hd=>ha d (List.mem_reverse.mp hd),al.2.1⟩ (alc ⟨_,rfl,al.2.2.1,ha,al.2.2.2.1⟩ (alc ⟨_,rfl,Nat.le_add_left _ _,alc hp al0,al.2.2.2.2⟩ (alc ⟨_,rfl,Nat.zero_le _,al0,Nat.zero_le _⟩ al0))))
   try simp only [Pu.pwA,qfa,qcn,qkg,ev,qce]
   exact ⟨_,_,_,_,_,_,_,rfl,lm,tm,by omega⟩
 ·rintro ρ' m ⟨rfl,r,s5,s6,s7,s8,s9,s10,rfl,lr,tr,wr⟩;refine zn λY4 h4=>?_;have g:=λb=>h r lr tr wr b (k+1) (v6 _);have e2:∀ b c:Bool,eqD true (.bool b) (.bool c)=some (.bool (b != c)):=λb c=>by cases b<;>cases c<;>rfl
  try simp only [Pu.pwA,hty,e2]
  cases ju t "tuple" != decide (way=5) with
  |false=>
   try simp only [Pu.pwA]
   rw [h4]
   try simp only [Pu.pwA]
   exact (g _).2
  |true=>
   try simp only [Pu.pwA]
   exact (g _).1
def qkM {L B m:Nat} {j:Int} (h0:-(B:Int)-2<=j) (h1:j<=(B:Int)+2):Th (L+1) (B+2) m (.int j)/\wt (.int j)<=40:=⟨by rw [qiZ];omega,Nat.zero_le _⟩
def qc8 {L B m:Nat} {i:Int} (h0:-(B:Int)<=i) (h1:i<=B) {j:Int} (g0:i-1<=j\/-i<=j) (g1:j<=i+2\/j<=-i):Th (L+1) (B+2) m (.int j)/\wt (.int j)<=40:=qkM (by omega) (by omega)
def qa0 {L B m:Nat} {j:Int} (h0:-2<=j) (h1:j<=2):Th (L+1) (B+2) m (.int j)/\wt (.int j)<=40:=qkM (by omega) (by omega)
def qki {L B m:Nat} {d:PyData} (h:Th (L+1) (B+2) m d) (g:wt d<=39):Th (L+1) (B+2) (m+1) (.tuple [d])/\wt (.tuple [d])<=40:=⟨qkN (Nat.succ_le_succ (Nat.zero_le L)) (alc h al0),Nat.succ_le_succ g⟩
def qh9 {L B:Nat}:∀ d∈([.int 0,.int 1,.none,.tuple [],.tuple [.int 0],.str (Str.ofString "0")]:List PyData),Th (L+1) (B+2) 1 d/\wt d<=3:=
 have i0:∀ m,Th (L+1) (B+2) m (.int 0):=λm=>(qa0 (by decide) (by decide)).1
 alc ⟨i0 1,by decide⟩ (alc ⟨(qa0 (by decide) (by decide)).1,by decide⟩ (alc ⟨qoB 1,by decide⟩ (alc ⟨qkN (Nat.zero_le _) al0,by decide⟩ (alc ⟨qkN (Nat.succ_le_succ (Nat.zero_le L)) (alc (i0 0) al0),by decide⟩ (alc ⟨by rw [qkC];decide,by decide⟩ al0)))))
def qkK {L B n:Nat}:∀ d∈([.int 0,.int 1,.bool false,.str "",.tuple [.none],.int (-1),.list [],.bool true]:List PyData),Th (L+1) (B+2) (n+1) d/\wt d<=40:=
 alc (qa0 (by decide) (by decide)) (alc (qa0 (by decide) (by decide)) (alc ⟨qmY _,by decide⟩ (alc ⟨by rw [qkC];decide,by decide⟩ (alc (qki (qoB _) (by decide)) (alc (qa0 (by decide) (by decide)) (alc ⟨qpl (Nat.zero_le _) al0,by decide⟩ (alc ⟨qmY _,by decide⟩ al0)))))))
def qhH {L B n:Nat} {i:Int} {more:PyData} (h0:-(B:Int)<=i) (h1:i<=B) (hB:B<=100000) (hm:Th (L+1) (B+2) 1 more) (gm:wt more<=3) :
  ∀ d∈([.int (i+1),.int (i-1),.int (0-i),.int (i+2),.bool (decide (i=1)),.str (Str.ofString (toString i)),.tuple [.int i],more]:List PyData),Th (L+1) (B+2) (n+1) d/\wt d<=40:=by
 have s:=qh4 0 (i:=i) (by omega);exact alc (qc8 h0 h1 (by omega) (by omega)) (alc (qc8 h0 h1 (by omega) (by omega)) (alc (qc8 h0 h1 (by omega) (by omega)) (alc (qc8 h0 h1 (by omega) (by omega)) (alc ⟨qmY _,Nat.zero_le _⟩ (alc ⟨by rw [qkC];exact ⟨u5 s.bk (by decide),s.lv⟩,u5 s.bk (by decide)⟩ (alc (qki (qc8 h0 h1 (by omega) (by omega)).1 (Nat.zero_le _)) (alc ⟨ZB (v6 _) (v6 _) _ hm (by omega),u5 gm (by decide)⟩ al0)))))))
def qno {L B n k N:Nat} {part:PyData} {Q:QD} (hp:Th L B n part) (gN:wt part<=N) (hL:L<=1000) (hB:B<=100000) (hk:k<800000) (h:∀ d,Th (L+1) (B+2) (n+1) d->wt d<=4*N+40->Q d (k+5)):zc.W [part] k Q:=by
 rw [EV];refine ⟨rfl,?_⟩;unfold z7;show (jS _ (jS (wIf _ zp WR) _)).w _ _ _;refine zn λY1 h1=>?_
 try simp only [Pu.pwA]
 refine ⟨by omega,by omega,λway w0 w1=>⟨by omega,by omega,λu u0 u1=>?_⟩⟩;refine KL 6 rfl u0 u1 λmore hv=>?_;obtain ⟨hm,gm⟩:=qh9 (L:=L) (B:=B) more hv;clear hv;rw [qdi rfl];refine ⟨_,rfl,?_⟩
 try simp only [Pu.pwA]
 rw [h1];refine zn λY2 h2=>?_;obtain ⟨t,ty,⟨m,ds,rfl,sd,sb,ew,hl,ha⟩|⟨sb,_⟩⟩:=kind hp
 ·try simp only [Pu.pwA,ty,sb]
  refine qoS (P:=Th (L+1) (B+2) (m+1)) (L:=L) (ds:=ds) (qel sd).1 ty hl hL (λd hd=>ZB (Nat.le_succ _) (Nat.le_add_right _ _) _ (ha d hd) (Nat.le_succ _)) (ZB (v6 _) (v6 _) _ hm (Nat.succ_le_succ (Nat.zero_le _))) (ZB (n:=m+1) (Nat.le_succ _) (Nat.le_add_right _ _) _ hp (v6 _)) (N:=N) (by rw [← ew];exact gN) gm gN w0 w1 (by omega) λr lr tr wr b k' hk'=>?_
  try simp only [Pu.pwA]
  have wr':wts r<=4*N+40:=u5 wr (Nat.add_le_add_left (by decide) _);have hk5:k'<=k+5:=by omega
  exact ⟨⟨_,hk5,h _ (qkN lr tr) wr'⟩,⟨_,hk5,h _ (qpl lr tr) wr'⟩⟩
 have N40:40<=4*N+40:=Nat.le_add_left _ _
 try simp only [Pu.pwA,ty,sb]
 rw [h2];refine zn λY3 h3=>?_;have wh:=qhi hp;cases c:isI part with
 |false=>
  rw [c] at wh;obtain ⟨v,ev,hv⟩:=KL (P:=λd=>Th (L+1) (B+2) (n+1) d/\wt d<=40) 8 rfl w0 w1 qkK
  try simp only [Pu.pwA,wh,ev,Bool.not_false]
  exact ⟨_,Nat.le_add_right (k+2) 3,h v hv.1 (u5 hv.2 N40)⟩
 |true=>
  rw [c] at wh;cases part with
  |int i=>
   try simp only [Pu.pwA,wh,Bool.not_true]
   rw [h3];refine zn λY4 h4=>?_;have c1:KC (.int i) (.int 1)=some (.int (i+1)):=id rfl;have c2:KC (.int i) (.int 2)=some (.int (i+2)):=id rfl
   try simp only [Pu.pwA,Q6,QQ,c1,c2]
   rw [h4];rw [qiZ] at hp;have sh:=qfF (st:=true) (i:=i) (by omega);have ct:KC (.list [.int (i+1),.int (i-1),.int (0-i),.int (i+2)]) (.list [.bool (decide (i=1)),.str (Str.ofString (toString i)),.tuple [.int i],more])=some (.list [.int (i+1),.int (i-1),.int (0-i),.int (i+2),.bool (decide (i=1)),.str (Str.ofString (toString i)),.tuple [.int i],more]):=NV (by simp)
   try simp only [Pu.pwA,Q6,QQ,LN,qeg,sh,ct]
   obtain ⟨v,ev,hv⟩:=KL (P:=λd=>Th (L+1) (B+2) (n+1) d/\wt d<=40) 8 rfl w0 w1 (qhH hp.1 hp.2 hB hm gm)
   try simp only [Pu.pwA,ev]
   exact ⟨_,Nat.le_add_right (k+2) 3,h v hv.1 (u5 hv.2 N40)⟩
  |_=>cases c
def qgk {m:List Bool} {nw:Bool} {i:Nat} {p:List Nat} {ρ:Rho}:XW m nw i (ptD p) ρ=(dm m ρ).set i (.sh (ptD p)):=qg5
def qhy {ps:List (List Nat)} {r:Int} (h0:0<=r) (h1:r<ps.length):∃ p∈ps,L2.atI (ps.map ptD) r=some (ptD p):=by
 obtain ⟨v,hv,e⟩:=qa9 (ds:=ps.map ptD) h0 (by simpa using h1);obtain ⟨p,hp,rfl⟩:=mem_map.mp hv;exact ⟨p,hp,e⟩
def qbA {ps:List (List Nat)} (h:1<=ps.length):∃ p∈ps,L2.atI (ps.map ptD) (-1)=some (ptD p):=by
 have:=qk0 (xs:=ps.map ptD) (j:=1) (v6 _) (by simpa using h);have hl:ps.length-1<ps.length:=by omega
 rw [length_map,getElem?_map,v4 hl] at this;exact ⟨_,List.getElem_mem hl,this⟩
def qou {L B n k N:Nat} {th:PyData} {turn ag:Int} {s4 s5 s6:Sl} {Q:QO} (h:Th L B n th) (gN:wt th<=N) (hN:N<=100000) (hn:n<=7) (hL:L<=100) (hB:B<=1000) (hk:k<700000)
  (hQ:∀ (r:PyData) (k':Nat) (s4 s5 s6:Sl),Th (L+1) (B+2) (n+1) r->wt r<=5*N+40->k'<=k+6->Q (.nx [.un,.sh r,.sh (.int turn),.sh (.int ag),s4,s5,s6]) k'):zw.w [.un,.sh th,.sh (.int turn),.sh (.int ag),s4,s5,s6] k Q:=by
 obtain ⟨ps,ep,hv,l1,l2⟩:=qhS (j:=9) h (by omega) (by omega) (by omega);unfold zw;refine zn λY1 h1=>?_
 try simp only [Pu.pwA,ep]
 rw [h1];refine zn λY2 h2=>?_;obtain ⟨q0,hq0,e0⟩:=qbA l1
 try simp only [Pu.pwA,e0,qgk]
 rw [h2];refine zn λY3 h3=>?_;have go:∀ (q:List Nat) (k':Nat),q∈ps->k'<=k+1->Y3 [.un,.sh th,.sh (.int turn),.sh (.int ag),.sh (.list (ps.map ptD)),.sh (ptD q),s6] k' Q:=by
  intro q k' hq hk';obtain ⟨e,he⟩:=Option.isSome_iff_exists.mp (hv q hq);obtain ⟨ql,te⟩:=qib h he;rw [h3];refine zn λY4 h4=>?_
  try simp only [Pu.pwA,qjk he]
  have we:=qjU he;refine qno te (u5 we gN) (by omega) (by omega) (by omega) λx hx gx=>?_;rw [WS rfl]
  try simp only [Pu.pwA]
  rw [h4];obtain ⟨r,er,tr⟩:=qmp (L':=L+1) (B':=B+2) (by omega) (by omega) h (hv q hq) hx;obtain ⟨r',er',ep'⟩:=qmf (x:=x) (p:=q) (j:=9) (d:=th) (by omega) (hv q hq);rw [er] at er';cases er'
  try simp only [Pu.pwA,ep']
  rw [WS rfl];exact hQ r _ _ _ _ tr (by have:=qjS er;omega) (by omega)
 by_cases c:0<turn\/0<ag
 ·have dr:(1<=((ps.map ptD).length:Int)/\((ps.map ptD).length:Int)<1073741824)/\k<1000000000/\∀ r:Int,0<=r->r<((ps.map ptD).length:Int)->∃ d,L2.atI (ps.map ptD) r=some d/\Y3 (XW [false,false,false,false,true] false 5 d [.un,.sh th,.sh (.int turn),.sh (.int ag),.sh (.list (ps.map ptD)),.sh (ptD q0),s6]) (k+1) Q:=by
   rw [length_map];refine ⟨by omega,by omega,λr r0 r1=>?_⟩;obtain ⟨q,hq,eq⟩:=qhy r0 r1;refine ⟨_,eq,?_⟩;rw [qgk];exact go q _ hq (by omega)
  by_cases c1:0<turn
  ·try simp only [Pu.pwA,c1,decide_true]
   exact dr
  ·have c2:0<ag:=c.resolve_left c1
   try simp only [Pu.pwA,c1,c2,decide_true,decide_false]
   exact dr
 ·have c1:¬ (0<turn):=λz=>c (.inl z);have c2:¬ (0<ag):=λz=>c (.inr z)
  try simp only [Pu.pwA,c1,c2,decide_false]
  exact go q0 _ hq0 (by omega)
def qpE (lo:Int) (n:Nat):(XE lo n).length=n:=by simp [XE]
def qnZ {L B n k N:Nat} {th:PyData} {turn:Int} {Q:QD} (h:Th L B n th) (wN:wt th<=N) (hN:N<=10000) (hn:n<=5) (hL:L<=20) (hB:B<=900) (hk:k<600000) (hQ:∀ r,Th (L+2) (B+4) (n+2) r->wt r<=25*N+300->Q r (k+20)):zX.W [th,.int turn] k Q:=by
 rw [RG];refine ⟨rfl,?_⟩;unfold jT;refine zn λY1 h1=>?_;have fin:∀ (c k':Nat),c<=2->k'<=k+1->qdI (gN 3).f zw.w ((XE 0 c).map PyData.int) [.un,.sh th,.sh (.int turn),.un,.un,.un,.un] k' (sqw Y1 (qd2 false Q)):=by
  intro c k' hc hk';refine JU (XE 0 c) zw.mn (λi ρ m=>m<=k+1+6*i/\∃ (x:PyData) (s3 s4 s5 s6:Sl),ρ=[.un,.sh x,.sh (.int turn),s3,s4,s5,s6]/\Th (L+i) (B+2*i) (n+i) x/\wt x+10<=5 ^ i*(N+10)) ⟨by omega,th,_,_,_,_,rfl,h,by omega⟩ ?_ ?_
  ·rintro i ag ρ m hx ⟨hm,x,s3,s4,s5,s6,rfl,tx,gx⟩;have hi:i<c:=by have:=(za2 hx).1;rw [qpE] at this;exact this
   refine ⟨_,rfl,?_⟩;have i1:i=0\/i=1:=by omega
   have gb:5 ^ i*(N+10)<=100000:=by rcases i1 with rfl|rfl<;>omega
   refine qou (N:=5 ^ i*(N+10)-10) tx (by omega) (by omega) (by omega) (by omega) (by omega) (by omega) λr k2 t4 t5 t6 tr gr hk2=>?_;exact ⟨by omega,r,_,_,_,_,rfl,ZB (by omega) (by omega) _ tr (by omega),by rcases i1 with rfl|rfl<;>omega⟩
  ·rintro ρ m ⟨hm,x,s3,s4,s5,s6,rfl,tx,gx⟩;rw [qpE] at hm tx gx
   try simp only [Pu.pwA]
   rw [h1]
   try simp only [Pu.pwA]
   exact ⟨_,by omega,hQ x (ZB (by omega) (by omega) _ tx (by omega)) (by rcases (show c=0\/c=1\/c=2 by omega) with rfl|rfl|rfl<;>omega)⟩
 by_cases c:1<turn
 ·try simp only [Pu.pwA,c,decide_true]
  refine ⟨by omega,by omega,λf f0 f1=>?_⟩;by_cases e:f=0
  ·try simp (disch:=omega) only [Pu.pwA,e,decide_true,qcB]
   exact fin 2 _ (by omega) (by omega)
  ·try simp (disch:=omega) only [Pu.pwA,e,decide_false,qcB]
   exact fin 1 _ (by omega) (by omega)
 ·try simp (disch:=omega) only [Pu.pwA,c,decide_false,qcB]
  exact fin 1 _ (by omega) (by omega)
theorem qcu {L B:Nat}:∀ {n:Nat} {d:PyData},Th L B n d->noC d=true
 |n,.none,_=>by unfold noC;rfl
 |n,.bool _,_=>by unfold noC;rfl
 |n,.int _,_=>by unfold noC;rfl
 |n,.str _,_=>by unfold noC;rfl
 |n+1,.list ds,⟨_,h⟩=>by unfold noC;exact DE.mpr λe he=>qcu (h e he)
 |n+1,.tuple ds,⟨_,h⟩=>by unfold noC;exact DE.mpr λe he=>qcu (h e he)
 |0,.list _,h=>h.elim
 |0,.tuple _,h=>h.elim
 |0,.dict _,h=>h.elim
 |n+1,.dict _,h=>h.elim
def qdG (xs:List Nat) (r:List Int):PyData->Bool
 |.int n=>xs.any (λx=>(x:Int)==n)&&isl r n.toNat
 |_=>false
def arm (xs:List Nat) (w:Nat) (r:List Int) (f:List Int->PyData->Bool) (d:PyData):Bool:=qdG xs r d||(decide (r.length≠w)&&f r d)
def brs (b w:Nat) (xs:List Nat):Nat->List Int->PyData->Bool
 |0,_,_=>false
 |j+1,ks,.tuple ds=>decide (ds.length=chX b ks)&&(ds.zipIdx 0).all λp=>arm xs w (ks++[(p.2:Int)]) (brs b w xs j) p.1
 |_+1,_,_=>false
def qiM {b w:Nat} {xs:List Nat} {j:Nat} {ks:List Int} {n:Int}:brs b w xs j ks (.int n)=false:=by cases j<;>rfl
def qhT {neg:Bool} {n:Int} {xs:List Nat}:inD neg (.int n) (.list (xs.map λx:Nat=>PyData.int (x:Int)))=some (.bool (if neg then !(xs.any λx=>(x:Int)==n) else xs.any λx=>(x:Int)==n)):=by
 rw [DY,KO,List.any_map];rfl
def sTT:ju "tuple" "tuple" = true:=by decide
def LJ {L B n:Nat} {d:PyData} (h:Th L B n d):(∃ m ds,n=m+1/\d=.tuple ds/\∀ e∈ds,Th L B m e)\/(∃ t,tyD d=some t/\ju t "tuple" = false)/\∀ b w xs j ks,brs b w xs j ks d=false:=by
 cases d with
 |dict _=>cases n<;>exact h.elim
 |tuple ds=>
  cases n with
  |zero=>exact h.elim
  |succ m=>exact .inl ⟨m,ds,rfl,rfl,h.2⟩
 |_=>exact .inr ⟨⟨_,rfl,rfl⟩,λ_ _ _ j _=>by cases j<;>rfl⟩
def qkA {L B n:Nat} {d:PyData} (h:Th L B n d):jg [d]=some (.bool (isI d)):=by
 rw [SQ];obtain ⟨t,ty,⟨a,b⟩|⟨a,b⟩⟩:=qpa h<;>try simp only [Pu.pwA,ZK,ty,a,b,Bool.not_not]
def LK {xs:List Nat} {n:Int} (h:(xs.any λx=>(x:Int)==n)=true):∃ x:Nat,n=(x:Int):=by
 obtain ⟨x,_,hx⟩:=List.any_eq_true.mp h;exact ⟨x,(beq_iff_eq.mp hx).symm⟩
def qdA {xs:List Nat} {r:List Int} {d:PyData} (h:isI d=false):qdG xs r d=false:=by cases d<;>first|rfl|cases h
def ql9 {ks:List Int} (hk:∀ m∈ks,0<=m) {xs:List Nat} {L B n:Nat} {d:PyData} (h:Th L B n d):QH [.list (xs.map λx:Nat=>PyData.int (x:Int)),.list (ks.map PyData.int),d]=some (.bool (qdG xs ks d)):=by
 rw [qam];cases hi:isI d with
 |false=>try simp only [Pu.pwA,Z7,qkA h,hi,qdA hi]
 |true=>
  cases d with
  |int n=>
   try simp only [Pu.pwA,Z7,qkA h,isI,qhT,qdG]
   cases c:xs.any λx=>(x:Int)==n with
   |false=>try simp only [Pu.pwA]
   |true=>
    obtain ⟨x,rfl⟩:=LK c;have e:=qpy (ks:=ks) (x:=x) hk
    try simp only [Pu.pwA,e,Int.toNat_natCast]
  |_=>cases hi
def FL2 {b:Nat} {ks:List Int} (hb:b<=1000) (h:Builtin.Int.intBits (gr ks)<=1000):qjx [.list (ks.map PyData.int),.int (b:Int)]=some (.int (chn b ks)):=by
 rw [qoC]
 try simp only [Pu.pwA,qna,qpk hb h]
def FL3 {ks:List Int} (hk:∀ m∈ks,0<=m) {xs:List Nat} {L B n:Nat} {d:PyData} (h:Th L B n d):qmL [.list (ks.map PyData.int),d,.list (xs.map λx:Nat=>PyData.int (x:Int))]=some (.bool (qdG xs ks d)):=by
 rw [qoG]
 try simp only [Pu.pwA,qm1,ql9 hk h]
def qkc {x y z:PyData} (hx:noC x=true) (hy:noC y=true) (hz:noC z=true):DF [x,y,z]=true:=by
 unfold DF;rw [hx,V5 hy hz];rfl
def Fv2 {b:Nat} {ks:List Int} (hb:b<=1000) (h:Builtin.Int.intBits (gr ks)<=1000):Fv PhL (RV 2 [.int (b:Int)]) [.list (ks.map PyData.int)]=some (.int (chn b ks)):=by
 unfold Fv RV;simp only [cons_append,List.nil_append];rw [if_pos ⟨by decide,V5 ZA WF⟩];show (some qjx).bind _=_;rw [Option.bind_some,FL2 hb h,Option.bind_some,if_pos WF]
def qfz {b:Bool}:noC (.bool b)=true:=by unfold noC;rfl
def Fv3 {ks:List Int} (hk:∀ m∈ks,0<=m) {xs:List Nat} {L B n:Nat} {d:PyData} (h:Th L B n d):Fv PhL (RV 3 [.list (xs.map λx:Nat=>PyData.int (x:Int))]) [.list (ks.map PyData.int),d]=some (.bool (qdG xs ks d)):=by
 unfold Fv RV;simp only [cons_append,List.nil_append];rw [if_pos ⟨by decide,qkc ZA (qcu h) (by rw [DY];exact ZA)⟩];show (some qmL).bind _=_;rw [Option.bind_some,FL3 hk h,Option.bind_some,if_pos qfz]
def qlM (b:Bool) (o:Option Ot) (I:Rho->Prop):Prop:=if b=true then Nx o I else o=some (.rt (.bool false) false)
def L9 {α:Type} {gf:PyData->Option (List (Nat×PyData))} {bf:Rho->Option Ot} {g:α->PyData} {ρ:Rho} {F:Ot->Option Ot} {Q:Option Ot->Prop} (p:α->Bool) (xs:List α) (I:Nat->Rho->Prop) (h0:I 0 ρ)
  (hs:∀ i x ρ,xs[i]?=some x->I i ρ->qlM (p x) ((gf (g x)).bind λbs=>bf (jJ ρ bs)) (I (i+1)))
  (ht:xs.all p=true->∀ ρ',I xs.length ρ'->Q (F (.nx ρ'))) (hf:xs.all p=false->Q (F (.rt (.bool false) false))):Q ((XS gf bf (xs.map g) ρ).bind F):=by
 have al:(xs.find? λx=>!p x)=none↔xs.all p=true:=by rw [List.find?_eq_none,List.all_eq_true];simp
 refine DT (p:=λx=>!p x) (rv:=λ_=>.bool false) xs I h0 (λi x ρ hx hI=>?_) (λh=>ht (al.mp h)) λy h=>hf (Bool.eq_false_iff.mpr λz=>by rw [al.mpr z] at h;cases h);have:=hs i x ρ hx hI;unfold qlM at this;cases c:p x<;>simpa [c] using this
def qlh {ks:List Int} (h:ks.length<=1000) (i:Nat):qaW (.list (ks.map PyData.int)) (.list [.int (i:Int)])=some (.list ((ks++[(i:Int)]).map PyData.int)):=by
 have mp:ks.map PyData.int++[PyData.int (i:Int)]=(ks++[(i:Int)]).map PyData.int:=by simp
 simp only [qaW,mp];exact qL (by rw [length_map,List.length_singleton,y9];omega)
def KM {b:Nat} {ks:List Int} {i:Nat} (hk:Rw b ks) (h:i<chX b ks):Rw b (ks++[(i:Int)]):=λx hx=>by
 have e5:((2 ^ b:Nat):Int)=2 ^ b:=by simp
 have hcx:=(ME (b:=b) hk).1;rcases List.mem_append.mp hx with z|z
 ·exact hk x z
 ·obtain rfl:=List.mem_singleton.mp z;omega
def qjp {w b L B:Nat} {xs:List Nat} (hb:b<=9) (hw:w<=1000):∀ (j m:Nat) (ks:List Int) (d:PyData),Rw b ks->ks.length<=w->w<ks.length+j->Th L B m d ->
  zy j [.int (w:Int),RV 2 [.int (b:Int)],RV 3 [.list (xs.map λx:Nat=>PyData.int (x:Int))],.list (ks.map PyData.int),d]=some (.bool (decide (ks.length≠w)&&brs b w xs j ks d)):=by
 intro j;induction j with
 |zero=>intro m ks d _ _ h _;omega
 |succ j ih=>
  intro m ks d hk hl hj ht;rw [N5];have e0:((ks.length:Int)=(w:Int))↔ks.length=w:=by omega
  by_cases c:ks.length=w
  ·have e1:decide ((ks.length:Int)=(w:Int))=true:=za0 (e0.mpr c);have e2:decide (ks.length≠w)=false:=u9 (λz=>z c)
   try simp only [Pu.pwA,QV,length_map,e1,e2]
  ·have e1:decide ((ks.length:Int)=(w:Int))=false:=u9 (λz=>c (e0.mp z));have e2:decide (ks.length≠w)=true:=za0 c;rcases LJ ht with ⟨m',ds,rfl,rfl,hm⟩|⟨⟨t,ty,sb⟩,hb⟩
   ·clear ht;have g:=qg9 hk;have cc:=XY (b:=b) (ks:=ks);have f2:=Fv2 (b:=b) (ks:=ks) (by omega) (u5 (CO g.1 g.2) (by omega));have hlen:((ds.length:Int)=chn b ks)↔ds.length=chX b ks:=by unfold chX;omega
    try simp only [Pu.pwA,QV,length_map,e1,e2,decide_eq_decide.mpr hlen,f2,sTT,qbf,qh1,qb8]
    unfold brs;cases c3:decide (ds.length=chX b ks) with
    |false=>rfl
    |true=>
     have c3:=of_decide_eq_true c3;refine L9 (Q:=λo=>ZU false o=_) (λp:PyData×Nat=>arm xs w (ks++[(p.2:Int)]) (brs b w xs j) p.1) (ds.zipIdx 0) (λi ρ=>∃ s5 s6 s7,ρ=[.sh (.int (w:Int)),.sh (RV 2 [.int (b:Int)]),.sh (RV 3 [.list (xs.map λx:Nat=>PyData.int (x:Int))]),.sh (.list (ks.map PyData.int)),.sh (.tuple ds),s5,s6,s7]) ⟨_,_,_,rfl⟩ ?_ (λha=>?_) (λha=>by rw [ha];rfl)
     ·rintro i p ρ hp ⟨s5,s6,s7,rfl⟩;rw [List.getElem?_zipIdx] at hp;obtain ⟨e,he,rfl⟩:=za1 hp;have hi:=(za2 he).1;have hte:=hm e (u4 he);have hr:=KM (i:=i) hk (by omega);have g1:=Fv3 (xs:=xs) (λx hx=>(hr x hx).1) hte;have g2:=ih m' _ e hr (by simp;omega) (by simp;omega) hte
      try simp only [Pu.pwA,Nat.zero_add,qlh (show ks.length<=1000 by omega),g1,g2,qh1,qb8,arm]
      cases qdG xs (ks++[(i:Int)]) e<;>cases decide ((ks++[(i:Int)]).length≠w)&&brs b w xs j (ks++[(i:Int)]) e<;>first|rfl|exact ⟨_,_,_,rfl⟩
     ·rintro ρ ⟨s5,s6,s7,rfl⟩;rw [ha];rfl
   ·try simp only [Pu.pwA,QV,length_map,e1,ty,sb,hb]
def MK {xs:List Nat} {ks:List Int} {n:Nat}:isl ks n=(decide ((2:Int) ^ (ks.length-1)<=(n:Int))&&decide ((n:Int)<2*2 ^ (ks.length-1))&&decide (nm n ks=0))\/ks=[]:=by
 cases ks with
 |nil=>exact .inr rfl
 |cons a r=>
  refine .inl ?_;unfold isl;congr 1;have b1:=DM (x:=(n:Int)) (b:=r.length) (by omega);have b2:=DM (x:=(n:Int)) (b:=r.length+1) (by omega);rw [Int.pow_succ] at b2;rw [length_cons,Nat.add_sub_cancel];refine Bool.eq_iff_iff.mpr ?_;simp only [Bool.and_eq_true,decide_eq_true_eq];omega
def rhB (w b:Nat) (bs ks:List Int) (ds:List PyData) (r:Rho):Rho:=.sh (.int (w:Int))::.sh (.int (b:Int))::.sh (.list (bs.map PyData.int))::.sh (.list (ks.map PyData.int))::.sh (.tuple ds)::.sh (.int (2 ^ ks.length))::r
def qmi {w b L B:Nat} {xs:List Nat} {bs:List Int} (hb:b<=6) (hw:w<=5) (hbs:∀ n:Int,(bs.any (·==n))=xs.any λx=>(x:Int)==n):∀ (j m:Nat) (ks:List Int) (d:PyData),Rw b ks->ks.length<w->w<ks.length+j->Th L B m d ->
    zd j [.int (w:Int),.int (b:Int),.list (bs.map PyData.int),.list (ks.map PyData.int),d]=some (.bool (brs b w xs j ks d)):=by
  intro j;induction j with
  |zero=>intro m ks d _ _ h _;omega
  |succ j ih=>
    intro m ks d hk hl hj ht;rw [KI];rcases LJ ht with ⟨m',ds,rfl,rfl,hm⟩|⟨⟨t,ty,sb⟩,hbr⟩
    · clear ht;have lae:=qgG (t:=b) (ks:=ks) (λx hx=>(hk x hx).1) (by omega) (u5 (LQ hk) (by omega)) (by omega);have cl:=qe7 (b:=b) (ks:=ks);have hlen:((ds.length:Int)=la b ks+1)↔ds.length=chX b ks:=by omega
      by_cases c3:ds.length=chX b ks
      · have e3:decide ((ds.length:Int)=la b ks+1)=true:=za0 (hlen.mpr c3);have e4:decide (ds.length=chX b ks)=true:=za0 c3;have hcx:=(ME (b:=b) hk).1;have tw:=LA (t:=ks.length) (by omega)
        try simp only [Pu.pwA,jC,length_map,e3,lae,tw,sTT,qbf]
        unfold brs;rw [e4];have pw:=p2 (t:=ks.length) (by omega);have m2:cI J6 (·*·) (.int 2) (.int (2 ^ ks.length))=some (.int (2*2 ^ ks.length)):=WO (by omega);refine L9 (Q:=λo=>ZU false o=_) (λp:PyData×Nat=>arm xs w (ks++[(p.2:Int)]) (brs b w xs j) p.1) (ds.zipIdx 0) (λi ρ=>∃ s6 s7 s8,ρ=rhB w b bs ks ds [s6,s7,s8]) ⟨_,_,_,rfl⟩ ?_ (λha=>?_) (λha=>by rw [ha];rfl)
        · rintro i p ρ hp ⟨s5,s6,s7,rfl⟩;rw [List.getElem?_zipIdx] at hp;obtain ⟨e,he,rfl⟩:=za1 hp;have hi:=(za2 he).1;have hte:=hm e (u4 he);have hr:=KM (i:=i) hk (by omega);unfold rhB;rcases LJ hte with ⟨m'',es,rfl,rfl,_⟩|⟨⟨t,ty,sb⟩,hbr⟩
          rotate_left
          cases hI:isI e with
          |false=>
            try simp only [Pu.pwA,Nat.zero_add,qlh (show ks.length<=1000 by omega),ty,sb,qhi hte,hI,arm,qdA hI,hbr,Bool.and_false,Bool.or_false]
            rfl
          |true=>
           cases e with
           |int n=>
            try simp only [Pu.pwA,Nat.zero_add,qlh (show ks.length<=1000 by omega),ty,sb,qhi hte,isI,KO,hbs,arm,qiM,Bool.and_false,Bool.or_false,qdG]
            cases c:xs.any λx=>(x:Int)==n with
            |false=>rfl
            |true=>
              obtain ⟨n,rfl⟩:=LK c;have is:=MK (xs:=xs) (ks:=ks++[(i:Int)]) (n:=n);rw [length_append,List.length_singleton,Nat.add_sub_cancel,or_iff_left (by simp)] at is;have ll:=qpJ (ks:=ks++[(i:Int)]) (x:=n) (by simp;omega);rw [Int.toNat_natCast,is]
              try simp only [Pu.pwA,m2,ll]
              cases decide ((2:Int) ^ ks.length<=(n:Int))<;>cases decide ((n:Int)<2*2 ^ ks.length)<;>cases decide (nm n (ks++[(i:Int)])=0)<;>first|rfl|exact ⟨_,_,_,rfl⟩
           |_=>cases hI
          have ln:(((ks++[(i:Int)]).length:Nat):Int)=(w:Int)↔(ks++[(i:Int)]).length=w:=by omega
          try simp only [Pu.pwA,Nat.zero_add,qlh (show ks.length<=1000 by omega),sTT,length_map,arm,qdG,Bool.false_or]
          by_cases c:(ks++[(i:Int)]).length=w
          · rw [za0 (ln.mpr c),u9 (show ¬ (ks++[(i:Int)]).length≠w from λz=>z c)];rfl
          · have o2:=ih _ (ks++[(i:Int)]) (.tuple es) hr (by simp at c ⊢;omega) (by simp;omega) hte;rw [u9 (show ¬ (((ks++[(i:Int)]).length:Nat):Int)=(w:Int) from λz=>c (ln.mp z)),za0 (show (ks++[(i:Int)]).length≠w from c)]
            try simp only [Pu.pwA,o2]
            cases brs b w xs j (ks++[(i:Int)]) (.tuple es)<;>first|rfl|exact ⟨_,_,_,rfl⟩
        · rintro ρ ⟨s5,s6,s7,rfl⟩;rw [ha];rfl
      · have e3:decide ((ds.length:Int)=la b ks+1)=false:=u9 (λz=>c3 (hlen.mp z));have e4:decide (ds.length=chX b ks)=false:=u9 c3
        try simp only [Pu.pwA,jC,length_map,e3,e4,lae,sTT,brs]
    · try simp only [Pu.pwA,jC,ty,sb,hbr]
def qpN {w j:Nat} {ch:List Int->Nat} {br:List Int->PyData} {ks:List Int} (h:ks.length=w):(sr w ch br (j+1) ks).1=true:=by
 rw [sr,if_pos h]
def gB:Nat->Nat->Nat
 |_,0=>0
 |t,m+1=>(2 ^ t+1)*(gB (t+1) m+1)
def smp (t:Nat) (r:List Int) (x:Int):Bool:=(decide ((2:Int) ^ t<=x)&&decide (x<2*2 ^ t))&&decide (nm x.toNat r=0)
def LL {t:Nat} {r:List Int} {x:Nat} (h:r.length=t+1):smp t r (x:Int)=isl r x:=by
 rcases MK (xs:=[]) (ks:=r) (n:=x) with e|e
 ·rw [e,h,Nat.add_sub_cancel];unfold smp;rw [Int.toNat_natCast]
 ·subst e;simp at h
def sms (t:Nat) (bs r:List Int):List Int:=bs.filter (smp t r)
def NL {xs:List Nat} {bs r:List Int} {t:Nat} (hbs:∀ n:Int,(bs.any (·==n))=xs.any λx=>(x:Int)==n) (h:r.length=t+1):∀ x∈sms t bs r,qdG xs r (.int x)=true/\∃ y∈xs,x=(y:Int):=λx hx=>by
 obtain ⟨h1,h2⟩:=List.mem_filter.mp hx;have a:(xs.any λy=>(y:Int)==x)=true:=by rw [← hbs];exact List.any_eq_true.mpr ⟨x,h1,by simp⟩
 obtain ⟨y,hy,e⟩:=List.any_eq_true.mp a;have e:=(beq_iff_eq.mp e).symm;subst e;rw [LL h] at h2;exact ⟨by show ((xs.any λz=>(z:Int)==(y:Int))&&isl r (y:Int).toNat)=true;rw [a,Int.toNat_natCast,h2];rfl,y,hy,rfl⟩
def qiz {xs:List Nat} {bs r:List Int} {t:Nat} (hbs:∀ n:Int,(bs.any (·==n))=xs.any λx=>(x:Int)==n) (h:r.length=t+1):TR (brX xs r)=decide (sms t bs r=[]):=by
 rw [qeF];refine Bool.eq_iff_iff.mpr ?_;rw [List.all_eq_true,decide_eq_true_eq];constructor
 ·intro ha;cases e:sms t bs r with
  |nil=>rfl
  |cons x s=>
   obtain ⟨_,y,hy,e2⟩:=NL hbs h x (by rw [e];simp);have hx:x∈sms t bs r:=by rw [e];simp
   have:=(List.mem_filter.mp hx).2;subst e2;rw [LL h] at this;have:=ha y hy;simp_all
 ·intro e x hx;cases c:isl r x with
  |false=>rfl
  |true=>
   have a:(bs.any (·==(x:Int)))=true:=by rw [hbs];exact List.any_eq_true.mpr ⟨x,hx,by simp⟩
   obtain ⟨y,hy,e2⟩:=List.any_eq_true.mp a;have e2:=beq_iff_eq.mp e2;subst e2;have:(x:Int)∈sms t bs r:=List.mem_filter.mpr ⟨hy,by rw [LL h];exact c⟩;rw [e] at this;cases this
def GrP (w b : Nat) (xs : List Nat) (bs : List Int) (S : PyData) (j : Nat) : Prop := ∀ (m : Nat) (ks : List Int) (n : Nat) (Q : QD),ks.length + (m + 1) = w → m + 2 ≤ j → Rw b ks → Rw ks.length ks → n + 2 * gB ks.length (m + 1) ≤ 800000 →
      ((sr w (chX b) (brX xs) j ks).1=true->∀ n',n'<=n+2*gB ks.length (m+1)->Q .none n') ->
      ((sr w (chX b) (brX xs) j ks).1=false->∀ ds n',n'<=n+2*gB ks.length (m+1)->Th 17 32 (m+1) (.tuple ds)->wts ds<=gB ks.length (m+1)->brs b w xs j ks (.tuple ds)=true->Q (.tuple ds) n') ->
      (qM j).W [.tuple [.int (w:Int),.int (b:Int),S],.list (bs.map PyData.int),.list (ks.map PyData.int)] n Q
def rhG (w b:Nat) (S:PyData) (bs ks:List Int) (as:List PyData) (r:Rho):Rho:=.un::.sh (.tuple [.int (w:Int),.int (b:Int),S])::.sh (.list (bs.map PyData.int))::.sh (.list (ks.map PyData.int))::.sh (.int (w:Int))::.sh (.int (b:Int))::.sh S::.sh (.int (2 ^ ks.length))::.ow as::r
def qhm {n:Bool} {sm:List Int}:eqD n (.list (sm.map PyData.int)) (.list [])=some (.bool (if n then !decide (sm=[]) else decide (sm=[]))):=by
 have:=qik n sm [];rw [List.map_nil] at this;exact this
def qoc {w b:Nat} {xs:List Nat} {bs:List Int} {S:PyData} {j m i:Nat} {ks:List Int} {as:List PyData} {s10 s11 s12 s13:Sl} {n:Nat} {PQ:QO} (hb:b<=5) (hw:w<=5) (hbs:∀ n:Int,(bs.any (·==n))=xs.any λx=>(x:Int)==n) (hbl:bs.length<=1000) (hxs:∀ x∈xs,x<32) (la:as.length<=100)
  (ih:GrP w b xs bs S j)
  (hl:ks.length+(m+1)=w) (hj:m+2<=j+1) (hk:Rw b ks) (hi:i<chX b ks) (hr:Rw b (ks++[(i:Int)])) (hr2:Rw (ks++[(i:Int)]).length (ks++[(i:Int)])) (hn:n+2*(gB (ks.length+1) m+1)<=800000)
  (hN:hit w (chX b) (brX xs) j ks i=true->∀ n2,n2<=n+2*(gB (ks.length+1) m+1)->PQ (.rt .none false) n2)
  (hT:hit w (chX b) (brX xs) j ks i=false->∀ e n2 s9 s10 s11 s12 s13,n2<=n+2*(gB (ks.length+1) m+1)->Th 17 32 m e->wt e<=gB (ks.length+1) m->arm xs w (ks++[(i:Int)]) (brs b w xs j) e=true ->
   PQ (.nx (rhG w b S bs ks (as++[e]) [s9,s10,s11,s12,s13])) n2) :
  (ji (qM j)).w (rhG w b S bs ks as [.sh (.int (i:Int)),s10,s11,s12,s13]) n PQ:=by
 have hlm:(ks++[(i:Int)]).length=ks.length+1:=by simp
 have pw:=p2 (t:=ks.length) (by omega);have m2:cI J6 (·*·) (.int 2) (.int (2 ^ ks.length))=some (.int (2*2 ^ ks.length)):=WO (by omega);unfold ji rhG;refine zn λY4 h4=>?_
 try simp only [Pu.pwA,qlh (show ks.length<=1000 by omega)]
 rw [h4];clear h4;refine zn λY5 h5=>?_
 try simp only [Pu.pwA]
 refine ⟨_,MT (ds:=bs.map PyData.int) (fs:=(sms ks.length bs (ks++[(i:Int)])).map PyData.int) (by try simp only [Pu.pwA]) (NW λx hx=>?_) ?_,?_⟩
 ·obtain ⟨y,hy⟩:∃ y:Nat,x=(y:Int):=by
   have a:(bs.any (·==x))=true:=List.any_eq_true.mpr ⟨x,hx,by simp⟩;rw [hbs] at a;exact LK a
  subst hy;have ll:=qpJ (ks:=ks++[(i:Int)]) (x:=y) (by simp;omega)
  try simp only [Pu.pwA,qbQ,m2,ll]
  unfold smp;rw [Int.toNat_natCast];cases decide ((2:Int) ^ ks.length<=(y:Int))<;>cases decide ((y:Int)<2*2 ^ ks.length)<;>cases decide (nm y (ks++[(i:Int)])=0)<;>rfl
 ·have:=List.length_filter_le (smp ks.length (ks++[(i:Int)])) bs;unfold sms;rw [length_map];omega
 try simp only [Pu.pwA]
 rw [h5];clear h5;refine zn λY6 h6=>?_;have sl:=NL (t:=ks.length) hbs hlm;have sn:=qiz (t:=ks.length) hbs hlm;have sml:(sms ks.length bs (ks++[(i:Int)])).length<=1000:=by
  have:=List.length_filter_le (smp ks.length (ks++[(i:Int)])) bs;unfold sms;omega
 generalize sms ks.length bs (ks++[(i:Int)])=sm at *;clear hb hbl hbs pw m2 hi
 try simp only [Pu.pwA,length_map]
 refine ⟨by omega,by omega,λd d0 d1=>?_⟩;have deep:∀ (dp:Bool) (s12:Sl),(dp=true->(ks++[(i:Int)]).length<w)->Y6 (rhG w b S bs ks as [.sh (.int (i:Int)),.sh (.list ((ks++[(i:Int)]).map PyData.int)),.ow (sm.map PyData.int),.sh (.bool dp),s13]) (n+1) PQ:=by
  intro dp s12 hdp;clear d0 d1;rw [h6];clear h6;unfold rhG;refine zn λY7 h7=>?_;have fin:∀ (dv:PyData) (s11 s12:Sl) (n2:Nat),(s11=.ow (sm.map PyData.int)\/s11=.sh (.list (sm.map PyData.int)))->n2<=n+1+2*gB (ks.length+1) m->(dv=.none/\(sm=[]->hit w (chX b) (brX xs) j ks i=true)\/∃ es,dv=.tuple es/\Th 17 32 m dv/\wts es<=gB (ks.length+1) m/\arm xs w (ks++[(i:Int)]) (brs b w xs j) dv=true/\hit w (chX b) (brX xs) j ks i=false) ->
    Y7 (rhG w b S bs ks as [.sh (.int (i:Int)),.sh (.list ((ks++[(i:Int)]).map PyData.int)),s11,s12,.sh dv]) n2 PQ:=by
   intro dv s11 s12 n2 h11 hn2 hdv;rw [h7];clear h7;unfold rhG;refine zn λY8 h8=>?_;rcases hdv with ⟨rfl,hz⟩|⟨es,rfl,te,we,ae,hh⟩
   ·have in2:qdH false (PyData.none) .none=some (.bool true):=rfl;cases sm with
    |nil=>
     have e0:eqD false (.list []) (.list [])=some (.bool true):=by
      have:=qhm (sm:=[]) (n:=false);simpa using this
     rcases h11 with rfl|rfl<;>try simp only [Pu.pwA,in2,e0,List.map_nil]<;>exact hN (hz rfl) _ (by omega)
    |cons x s=>
     have e0:=qhm (sm:=x::s) (n:=false);rw [if_neg y8,u9 (List.cons_ne_nil _ _)] at e0;have nh:hit w (chX b) (brX xs) j ks i=false:=by
      unfold hit;rw [sn,u9 (List.cons_ne_nil _ _)];rfl
     have dr:∀ r:Int,0<=r->r<(((x::s).length:Nat):Int)->∃ y∈x::s,L2.atI ((x::s).map PyData.int) r=some (.int y):=λr r0 r1=>by
      obtain ⟨v,hv,e⟩:=qa9 (ds:=(x::s).map PyData.int) r0 (by simpa using r1);obtain ⟨y,hy,rfl⟩:=mem_map.mp hv;exact ⟨y,hy,e⟩
     have put:∀ (y:Int) (s11 s12:Sl) (n3:Nat),y∈x::s->n3<=n2+1->PQ (.nx (rhG w b S bs ks (as++[.int y]) [.sh (.int (i:Int)),.sh (.list ((ks++[(i:Int)]).map PyData.int)),s11,s12,.sh .none])) n3:=λy s11 s12 n3 hy hn3=>by
      obtain ⟨l1,z,hz,rfl⟩:=sl y hy;refine hT nh _ _ _ _ _ _ _ (by omega) ?_ (by simp [wt]) ?_
      ·rw [qiZ];have:=hxs z hz;omega
      ·unfold arm;rw [l1];rfl
     rcases h11 with rfl|rfl
     all_goals
      try simp only [Pu.pwA,in2,e0]
      rw [h8]
      try simp only [Pu.pwA,in2]
      refine ⟨⟨by simp;omega,by rw [length_map];omega⟩,by omega,λr r0 r1=>?_⟩;obtain ⟨y,hy,e⟩:=dr r r0 (by rw [length_map] at r1;exact r1);exact ⟨_,e,rfl,by omega,put y _ _ _ hy (by omega)⟩
   ·have in1:qdH false (.tuple es) .none=some (.bool false):=rfl
    try simp only [Pu.pwA,in1]
    rw [h8]
    try simp only [Pu.pwA,in1]
    refine ⟨by omega,?_⟩;rcases h11 with rfl|rfl<;>exact hT hh _ _ _ _ _ _ _ (by omega) te (by simpa [wt] using we) ae
  try simp only [Pu.pwA,length_map,qhm]
  have lw:(((ks++[(i:Int)]).length:Nat):Int)<(w:Int)↔(ks++[(i:Int)]).length<w:=by omega
  refine ⟨(decide (sm=[])&&decide ((((ks++[(i:Int)]).length:Nat):Int)<(w:Int)))||dp,by generalize decide ((((ks++[(i:Int)]).length:Nat):Int)<(w:Int))=c1;cases decide (sm=[])<;>cases c1<;>cases dp<;>rfl,?_⟩;by_cases c:((decide (sm=[])&&decide ((((ks++[(i:Int)]).length:Nat):Int)<(w:Int)))||dp)=true
  ·rw [if_pos c];have cw:(ks++[(i:Int)]).length<w:=by
    simp only [Bool.or_eq_true,Bool.and_eq_true,decide_eq_true_eq] at c;rcases c with c|c
    ·exact lw.mp c.2
    ·exact hdp c
   obtain ⟨m',rfl⟩:∃ m',m=m'+1:=⟨m-1,by omega⟩
   rw [← hlm] at hn hN hT fin;refine ih m' (ks++[(i:Int)]) (n+1) _ (by omega) (by omega) hr hr2 (by omega) (λh1 n' hn'=>?_) (λh1 ds n' hn' td wd bd=>?_)
   ·refine fin .none _ _ _ (.inl rfl) (by omega) (.inl ⟨rfl,λhsm=>?_⟩);unfold hit;rw [sn,za0 hsm,h1];rfl
   ·refine fin (.tuple ds) _ _ _ (.inr rfl) (by omega) (.inr ⟨ds,rfl,td,wd,?_,?_⟩)
    ·unfold arm;rw [bd,za0 (show (ks++[(i:Int)]).length≠w by omega)];simp
    ·unfold hit;rw [h1,Bool.and_false]
  ·rw [if_neg c];refine fin .none _ _ _ (.inl rfl) (by omega) (.inl ⟨rfl,λhsm=>?_⟩);have:(ks++[(i:Int)]).length=w:=by
    simp only [Bool.or_eq_true,Bool.and_eq_true,decide_eq_true_eq,not_or,not_and] at c;have:=c.1 hsm;omega
   unfold hit;obtain ⟨j',rfl⟩:∃ j',j=j'+1:=⟨j-1,by omega⟩
   rw [sn,za0 hsm,qpN this];rfl
 have lw:(((ks++[(i:Int)]).length:Nat):Int)<(w:Int)↔(ks++[(i:Int)]).length<w:=by omega
 split
 ·exact deep _ .un λh=>lw.mp (of_decide_eq_true h)
 ·exact deep _ .un λh=>by cases h
def qgE {w j:Nat} {ch:List Int->Nat} {br:List Int->PyData} {ks:List Int} (c:¬ ks.length=w):(sr w ch br (j+1) ks).1=(List.range (ch ks)).any (hit w ch br j ks):=by
 have e:(sr w ch br (j+1) ks)=match (List.range (ch ks)).find? (hit w ch br j ks) with
   |some i=>(true,(sr w ch br j (ks++[(i:Int)])).2)
   |none=>(false,.tuple ((List.range (ch ks)).map (pap w ch br j ks))):=by
  rw [sr,if_neg c];rfl
 rw [e];cases h:(List.range (ch ks)).find? (hit w ch br j ks) with
 |some i=>exact (List.any_eq_true.mpr ⟨i,List.mem_of_find?_eq_some h,List.find?_some h⟩).symm
 |none=>
  refine Eq.symm (Bool.eq_false_iff.mpr λz=>?_);obtain ⟨x,h1,h2⟩:=List.any_eq_true.mp z;exact List.find?_eq_none.mp h x h1 h2
def qla {b t:Nat} {ks:List Int} (hb:b<=5) (h:Rw t ks):chX b ks<=32/\chX b ks<=2 ^ t+1:=⟨u5 (ME h).1 (Nat.pow_le_pow_right (by decide) hb:2 ^ b<=2 ^ 5),(ME h).2⟩
def qow {ks:List Int} {i:Nat} (h:Rw ks.length ks) (hi:i<=2 ^ ks.length):Rw (ks++[(i:Int)]).length (ks++[(i:Int)]):=λy hy=>by
 rw [length_append,List.length_singleton];have e3:(2:Int) ^ (ks.length+1)=2 ^ ks.length*2:=Int.pow_succ ..;have e4:(0:Int)<2 ^ ks.length:=Int.pow_pos (by decide);have e6:((2 ^ ks.length:Nat):Int)=2 ^ ks.length:=by simp
 rcases List.mem_append.mp hy with z|z
 ·have:=h y z;omega
 ·obtain rfl:=List.mem_singleton.mp z;omega
def qqo {n n' i c G T:Nat} (hn':n'<=n+i*(2*G)) (hi:i<c) (hc:∀ i,i<=c->i*G<=T) (hn:n+2*T<=800000):n'+2*G<=n+(i+1)*(2*G)/\n'+2*G<=800000/\(i+1)*(2*G)<=2*T:=by
 have a:=hc (i+1) hi;have e:(i+1)*(2*G)=i*(2*G)+2*G:=Nat.succ_mul ..;have e2:(i+1)*(2*G)=2*((i+1)*G):=Nat.mul_left_comm ..;omega
def qp2 {n n' c G T:Nat} (hn':n'<=n+c*(2*G)) (h:c*G<=T):n'<=n+2*T:=by
 have e2:c*(2*G)=2*(c*G):=Nat.mul_left_comm ..;omega
def qhp {as:List PyData} {e:PyData} {i:Nat} {p:Nat->PyData->Bool} (la:as.length=i) (aa:∀ (k:Nat) e,as[k]?=some e->p k e=true) (ae:p i e=true):∀ (k:Nat) d,(as++[e])[k]?=some d->p k d=true:=λk d hd=>by
 by_cases z:k<as.length
 ·rw [List.getElem?_append_left z] at hd;exact aa k d hd
 ·rw [List.getElem?_append_right (Nat.le_of_not_lt z)] at hd;have:k-as.length=0:=by
   have:=(za2 hd).1;simp at this;omega
  rw [this] at hd;cases hd;obtain rfl:k=i:=by omega
  exact ae
def qhq {w b:Nat} {xs:List Nat} {bs:List Int} {S:PyData} (hb:b<=5) (hw:w<=5) (hbs:∀ n:Int,(bs.any (·==n))=xs.any λx=>(x:Int)==n) (hbl:bs.length<=1000) (hxs:∀ x∈xs,x<32):∀ j,GrP w b xs bs S j:=by
 intro j;induction j with
 |zero=>intro m ks n Q _ h;omega
 |succ j ih=>
  intro m ks n Q hl hj hk hk2 hn hN hT;have l4:ks.length<=4:=by omega
  have lae:=qgG (t:=b) (ks:=ks) (λx hx=>(hk x hx).1) (u5 l4 (by decide)) (u5 (LQ hk) (Nat.le_succ_of_le hb)) (u5 hb (by decide));have cl:=qe7 (b:=b) (ks:=ks);obtain ⟨hc,hc2⟩:=qla hb hk2;have tw:=LA (t:=ks.length) (u5 l4 (by decide));have c17:chX b ks<=17:=u5 hc2 (Nat.succ_le_succ (Nat.pow_le_pow_right (by decide) l4:2 ^ ks.length<=2 ^ 4));rw [SR];refine ⟨rfl,?_⟩;unfold Q1;refine zn λY1 h1=>?_
  try simp only [Pu.pwA]
  rw [h1];refine zn λY2 h2=>?_
  try simp only [Pu.pwA,qeW,length_map,tw]
  rw [h2];refine ⟨rfl,?_⟩;refine zn λY3 h3=>?_
  try simp (disch:=omega) only [Pu.pwA,lae,← cl,qcB]
  have gS:gB ks.length (m+1)=(2 ^ ks.length+1)*(gB (ks.length+1) m+1):=rfl;have gm:∀ i,i<=chX b ks->i*(gB (ks.length+1) m+1)<=gB ks.length (m+1):=λi hi=>by rw [gS];exact Nat.mul_le_mul_right _ (u5 hi hc2)
  clear gS cl lae tw;refine JU (XE 0 ((chX b ks:Nat):Int).toNat) (ji (qM j)).mn (λi ρ n'=>n'<=n+i*(2*(gB (ks.length+1) m+1))/\∃ (as:List PyData) (s9 s10 s11 s12 s13:Sl),ρ=rhG w b S bs ks as [s9,s10,s11,s12,s13] /\
   as.length=i/\(∀ e∈as,Th 17 32 m e)/\wts as<=i*(gB (ks.length+1) m+1)/\(∀ (k:Nat) e,as[k]?=some e->arm xs w (ks++[(k:Int)]) (brs b w xs j) e=true)/\∀ k,k<i->hit w (chX b) (brX xs) j ks k=false) ?_ ?_ ?_
  ·exact ⟨Nat.le_add_right _ _,[],_,_,_,_,_,rfl,rfl,(λ_ h=>nomatch h),Nat.zero_le _,(λk e h=>by simp at h),λk hk=>absurd hk (Nat.not_lt_zero k)⟩
  ·rintro i x ρ n' hx ⟨hn',as,s9,s10,s11,s12,s13,rfl,la,ta,wa,aa,ha⟩;obtain ⟨hi,rfl⟩:=ZN hx;have hi':i<chX b ks:=by clear hn' wa;omega
   refine ⟨_,rfl,?_⟩;obtain ⟨hS2,hS3,gi⟩:=qqo hn' hi' gm hn;rw [show (0:Int)+(i:Int)=(i:Int) from Int.zero_add _];refine qoc (j:=j) (m:=m) (i:=i) (ks:=ks) (as:=as) hb hw hbs hbl hxs (by rw [la];exact u5 (Nat.le_of_lt hi') (u5 hc (by decide))) ih hl hj hk hi' (KM hk hi') (qow hk2 (Nat.le_of_lt_succ (v9 hi' hc2))) hS3 (λhh n2 h2=>?_) (λhh e n2 t9 t10 t11 t12 t13 h2 te we ae=>?_)
   ·have:=hN (by rw [qgE (by omega)];exact List.any_eq_true.mpr ⟨i,mem_range.mpr hi',hh⟩) n2 (u5 h2 (u5 hS2 (Nat.add_le_add_left gi n)));exact ⟨id,n2,v6 _,this⟩
   ·refine ⟨u5 h2 hS2,as++[e],_,_,_,_,_,rfl,by simp [la],λd hd=>?_,?_,qhp la aa ae,λk hk=>?_⟩
    ·rcases List.mem_append.mp hd with z|z
     ·exact ta d z
     ·obtain rfl:=List.mem_singleton.mp z;exact te
    ·rw [Z6,Nat.succ_mul];exact Nat.add_le_add wa (Nat.succ_le_succ we)
    ·by_cases z:k<i
     ·exact ha k z
     ·obtain rfl:k=i:=Nat.le_antisymm (Nat.le_of_lt_succ hk) (Nat.le_of_not_lt z);exact hh
  ·rintro ρ n' ⟨hn',as,s9,s10,s11,s12,s13,rfl,la,ta,wa,aa,ha⟩;rw [V0,Int.toNat_natCast] at hn' la wa ha;have g0:=gm (chX b ks) (v6 _);have hsr:(sr w (chX b) (brX xs) (j+1) ks).1=false:=by
    rw [qgE (by omega)];refine Bool.eq_false_iff.mpr λz=>?_;obtain ⟨x,h1,h2⟩:=List.any_eq_true.mp z;rw [ha x (mem_range.mp h1)] at h2;cases h2
   have fin:=λn2 h=>hT hsr as n2 h (qkN (by rw [la];exact c17) ta) (u5 wa g0) (by
    unfold brs;rw [la,za0 rfl,Bool.true_and,List.all_eq_true];intro p hp;obtain ⟨q,hq⟩:=List.mem_iff_getElem?.mp hp;rw [List.getElem?_zipIdx] at hq;obtain ⟨e,he,rfl⟩:=za1 hq;simp only [Nat.zero_add];exact aa q e he)
   unfold rhG
   try simp only [Pu.pwA]
   rw [h3]
   try simp only [Pu.pwA]
   exact ⟨n',v6 _,fin n' (qp2 hn' g0)⟩
def qnw {k:Nat}:∀ (n:Nat) (ks:List Int),ks.length=n->(∀ m∈ks,0<=m/\m<2 ^ k)->∀ f∈fl ks,f<2 ^ k:=by
 intro n;induction n with
 |zero=>
  intro ks h _ f hf;have:=List.eq_nil_of_length_eq_zero h;subst this;simp [fl] at hf;subst hf;exact Int.pow_pos (by omega)
 |succ n ih=>
  intro ks h hm f hf;obtain ⟨k',m,rfl,hl⟩:=YQ h;have hm':∀ z∈k',0<=z/\z<2 ^ k:=λz hz=>hm z (by simp [hz]);rw [YL] at hf;rcases List.mem_append.mp hf with hf|hf
  ·exact ih k' hl hm' f hf
  ·obtain ⟨g,hg,rfl⟩:=mem_map.mp hf;have m0:=hm m (by simp);exact qgo k g m (qeO n k' hl (λz hz=>(hm' z hz).1) g hg) (ih k' hl hm' g hg) m0.1 m0.2
def qoO {w:Nat} {ss:List (List Int)} (hw:w<=8) (hs:∀ s∈ss,Spn w s):∀ x∈aw ss,0<x/\x<2 ^ w:=by
 intro x hx;obtain ⟨s,h,hm⟩:=List.mem_flatMap.mp hx;obtain ⟨h1,h2,h3⟩:=hs s h;have nn:=qeO s.length s rfl (λm hm=>(h2 m hm).1) x (List.mem_of_mem_drop hm);have ne:=h3 x hm;exact ⟨by omega,by
  have:=qnw (k:=w) s.length s rfl h2 x (List.mem_of_mem_drop hm);exact this⟩
def qdj {ss:List (List Int)} (h:∀ x∈aw ss,0<=x):(axs ss).map (λx:Nat=>PyData.int (x:Int))=(aw ss).map PyData.int:=by
 unfold axs;rw [map_map];refine List.map_congr_left λx hx=>?_;show PyData.int ((x.toNat:Nat):Int)=_;rw [Int.toNat_of_nonneg (h x hx)]
def qpL {w b:Nat} {ss:List (List Int)} (hw:w<=5) (hb:b<=9) (h:Sps ss) (hx:∀ x∈aw ss,0<=x):zR [.int (w:Int),.int (b:Int),spd ss]=some (imd (sr w (chX b) (brX (axs ss)) 6 [])):=
 qqr (xs:=axs ss) hw hb (by rw [qo3 h,qdj hx]) λp hp=>by rw [← hp];exact qcc (λks=>qa7) 6 []
def qii {w b m L B:Nat} {ss:List (List Int)} {d:PyData} (h1:1<=w) (hw:w<=5) (hb:b<=9) (h:Sps ss) (hx:∀ x∈aw ss,0<=x) (ht:Th L B m d):qN [.int (w:Int),.int (b:Int),spd ss,d]=some (.bool (brs b w (axs ss) 6 [] d)):=by
 have A:=qjp (w:=w) (b:=b) (xs:=axs ss) hb (by omega) 6 m [] d (λm hm=>by cases hm) (Nat.zero_le _) (by simp;omega) ht;rw [qdj hx,List.map_nil] at A;rw [za0 (show ([]:List Int).length≠w by simp;omega),Bool.true_and] at A;rw [U8];unfold zP;have nb:noC (.bool (brs b w (axs ss) 6 [] d))=true:=qfz
 try simp only [Pu.pwA,qo3 h,qga,qeC,A,nb]
 try (rw [if_pos nb];try simp only [Pu.pwA])
def qjq {ss:List (List Int)} (hx:∀ x∈aw ss,0<=x) (n:Int):((bd ss).any (·==n))=(axs ss).any λx=>(x:Int)==n:=by
 refine Bool.eq_iff_iff.mpr ?_;rw [List.any_eq_true,List.any_eq_true];constructor
 ·rintro ⟨x,h1,h2⟩;have h3:=qfM.mp h1;exact ⟨x.toNat,List.mem_map_of_mem h3,by rw [Int.toNat_of_nonneg (hx x h3)];exact h2⟩
 ·rintro ⟨x,h1,h2⟩;obtain ⟨y,h3,rfl⟩:=mem_map.mp h1;rw [Int.toNat_of_nonneg (hx y h3)] at h2;exact ⟨y,qfM.mpr h3,h2⟩
def qoy:∀ w,w<=5->gB 0 w<=4898:=by decide
def at2 (c:Bool):∃ v:Int,L2.atI [PyData.int 30,.int 8] (if c=true then 1 else 0)=some (.int v)/\8<=v/\v<=30:=by
 cases c
 ·exact ⟨30,rfl,by omega,by omega⟩
 ·exact ⟨8,rfl,by omega,by omega⟩
def qjV {ss:List (List Int)} (hs:∀ s∈ss,s.length<=3):∃ mn:Nat,mx (0::ss.map λs=>(s.length:Int))=(mn:Int)/\mn<=3:=by
 have h1:mx (0::ss.map λs=>(s.length:Int))∈0::ss.map λs=>(s.length:Int):=EO (by simp);rcases mem_cons.mp h1 with z|z
 ·exact ⟨0,z,Nat.zero_le _⟩
 ·obtain ⟨s,h,e⟩:=mem_map.mp z;exact ⟨s.length,e.symm,hs s h⟩
def b_4 {mn:Nat} (h:mn<=3) (c:Bool):∃ b:Nat,((if (mn:Int)-1 > 0 then (mn:Int)-1 else 0)+if c=true then 1 else 0)=(b:Int)/\b<=4:=
 ⟨((if (mn:Int)-1 > 0 then (mn:Int)-1 else 0)+if c=true then 1 else 0).toNat,by split<;>split<;>omega,by split<;>split<;>omega⟩
def qkb {ss:List (List Int)} (ls:ss.length<=4) (hs:∀ s∈ss,s.length<=3):(bd ss).length<=1000:=by
 have:=qcj (aw ss);have:=SO ls hs;unfold bd;rw [(RI _).length_eq];omega
def qoa {w:Nat} {ss:List (List Int)} (w5:w<=5) (hx:∀ x∈aw ss,0<x/\x<2 ^ w):∀ x∈axs ss,x<32:=λx hx'=>by
 obtain ⟨y,hy,rfl⟩:=mem_map.mp hx';have:=hx y hy;have p:2 ^ w<=2 ^ 5:=Nat.pow_le_pow_right (by decide) w5;have h3:((2 ^ w:Nat):Int)=2 ^ w:=by simp
 omega
def qjg:∀ k:Nat,k<=60->qeP.w [.un,.sh (.int k),.un,.un,.un,.un,.un,.un,.un,.un,.un,.un,.un,.un] 0 okW:=by
 intro k hk;unfold qeP;refine zn λY1 h1=>?_
 try simp only [Pu.pwA]
 refine qn2 (by decide) λw b0 ss w1 w5 b5 ls hs=>?_;have hS:Sps ss:=⟨ls,λs h=>⟨(hs s h).1,λm hm=>((hs s h).2.1 m hm).1⟩⟩
 have hx:=qoO (u5 w5 (by decide)) hs;have x0:∀ x∈aw ss,0<=x:=λx h=>Int.le_of_lt (hx x h).1;have es:spd ss=.list (ss.map rwd):=rfl
 try simp only [Pu.pwA]
 rw [h1];clear h1;refine zn λY2 h2=>?_
 try simp only [Pu.pwA,es]
 have lens:(PyData.list [.int 0]:PyData)=.list (([0]:List Int).map PyData.int):=rfl;obtain ⟨mn,em,m3⟩:=qjV λs h=>(hs s h).1;rw [MT (ds:=ss.map rwd) (fs:=(ss.map λs=>(s.length:Int)).map PyData.int) (by try simp only [Pu.pwA]) (by
  rw [map_map];exact RQ λs hs'=>by try simp only [Pu.pwA,qbQ,rwd,length_map,Function.comp_def]) (by simp;omega)]
 have ct:qaW (.list [.int 0]) (.list ((ss.map λs=>(s.length:Int)).map PyData.int))=some (.list ((0::ss.map λs=>(s.length:Int)).map PyData.int)):=by
  rw [lens,qgc (by simp;omega)];rfl
 have ex:mxD [.list ((0::ss.map λs=>(s.length:Int)).map PyData.int)]=some (.int (mn:Int)):=by rw [qjN (by simp),em]
 try simp only [Pu.pwA,ct,ex]
 rw [h2];clear h2;refine zn λY3 h3=>?_;have fb:=qnK hS;rw [es] at fb
 try simp only [Pu.pwA,fb]
 refine ⟨⟨by omega,by omega⟩,by omega,λe e0 e1=>?_⟩;obtain ⟨b,hb,b4⟩:=b_4 m3 (decide (e=0));have sc1:∀ ds:List PyData,RW (.list ds)=false:=λ_=>rfl;have sc0:∀ i:Int,RW (.int i)=true:=λ_=>rfl;rw [hb]
 try simp only [Pu.pwA,qiS,sc1,sc0]
 rw [h3];clear h3 hb;refine zn λY4 h4=>?_
 try simp only [Pu.pwA]
 have im:=qpL (w:=w) (b:=b) w5 (u5 b4 (by decide)) hS x0;have bm:=qjq x0;have bl:=qkb ls λs h=>(hs s h).1;have xs32:=qoa w5 hx;have b9:b<=9:=u5 b4 (by decide);obtain ⟨m,rfl⟩:∃ m,w=m+1:=⟨w-1,by omega⟩
 have gl:=qoy (m+1) w5;have S1:=λ(n L B:Nat) (d:PyData) (h:Th L B n d)=>qii (b:=b) w1 w5 b9 hS x0 h;have B1:=λ(n L B:Nat) (d:PyData) (h:Th L B n d)=>qmi (w:=m+1) (b:=b) (xs:=axs ss) (bs:=bd ss) (u5 b4 (by decide)) w5 bm 6 n [] d (λm hm=>by cases hm) (by simp) (by simp;omega) h;rw [es] at im;simp only [es,List.map_nil] at S1 B1;have e6:∀ (n b:Bool),eqD n (.bool b) (.bool b)=some (.bool (if n then false else true)):=λn b=>by cases n<;>cases b<;>rfl
 have W:=λ(Q:QD) h1 h2=>qhq (S:=.list (ss.map rwd)) (Nat.le_succ_of_le b4) w5 bm bl xs32 6 m [] 22 Q (by simp) (Nat.succ_le_succ w5) (λm hm=>by cases hm) (λm hm=>by cases hm) (u5 (Nat.add_le_add_left (Nat.mul_le_mul_left 2 gl) 22) (by decide)) h1 h2;simp only [List.map_nil,length_nil] at W;refine W _ (λhs1 n1 hn1=>?_) (λhs1 ds n1 hn1 td wd bdd=>?_)
 ·rw [h4];clear h4;rw [qky (by rfl)];refine zn λY5 h5=>?_;have in2:qdH false (PyData.none) .none=some (.bool true):=rfl;have in3:qdH true (PyData.none) .none=some (.bool false):=rfl;have e2:decide (Str.ofString "image" = Str.ofString "image")=true:=za0 rfl
  try simp only [Pu.pwA,im,imd,hs1,in2,e2,e6]
  rw [h5];clear h5;refine zn λY6 h6=>?_
  try simp only [Pu.pwA,in3]
  rw [h6];clear h6
  try simp only [Pu.pwA,in3]
  obtain ⟨v,ev,v0,v1⟩:=at2 (decide ((4:Int)<((m+1:Nat):Int)));have m0:cI J6 (·*·) (.int v) (.int 0)=some (.int (v*0)):=WO (by omega);rw [Int.mul_zero] at m0
  try simp (disch:=omega) only [Pu.pwA,ev,m0,qcB]
  refine JU (XE 0 (0:Int).toNat) DO.mn (λ_ _ _=>True) trivial ?_ ?_
  ·rintro i x ρ n' hx' _;obtain ⟨hi,rfl⟩:=ZN hx';exact absurd hi (by simp)
  ·intro ρ n' _
   try simp only [Pu.pwA]
 ·rw [h4];clear h4;rw [WS (by rfl)];refine zn λY5 h5=>?_;have in2:qdH false (PyData.tuple ds) .none=some (.bool false):=rfl;have in3:qdH true (PyData.tuple ds) .none=some (.bool true):=rfl;have e2:decide (Str.ofString "none" = Str.ofString "image")=false:=by decide
  have S0:=S1 _ _ _ _ td;rw [bdd] at S0
  try simp only [Pu.pwA,im,imd,hs1,in2,e2,e6]
  rw [h5];clear h5;refine zn λY6 h6=>?_
  try simp only [Pu.pwA,in3,S0]
  rw [if_neg (by decide),h6];clear h6
  try simp only [Pu.pwA,in3]
  obtain ⟨v,ev,v0,v1⟩:=at2 (decide ((4:Int)<((m+1:Nat):Int)));have m0:cI J6 (·*·) (.int v) (.int 1)=some (.int (v*1)):=WO (by omega);rw [Int.mul_one] at m0
  try simp (disch:=omega) only [Pu.pwA,ev,m0,qcB]
  have n1':n1<=9818:=u5 hn1 (Nat.add_le_add_left (Nat.mul_le_mul_left 2 gl) 22);have wg:=u5 wd gl;clear hn1 gl wd bl;refine JU (XE 0 v.toNat) DO.mn (λi ρ n'=>n'<=n1+20*i/\∃ (s9 s10 s11 s12 s13:Sl),ρ=[.un,.sh (.int k),.un,.sh (.int ((m+1:Nat):Int)),.sh (.int (b:Int)),.sh (.list (ss.map rwd)),.sh (.int (mn:Int)),.sh (.list ((bd ss).map PyData.int)),.sh (.tuple ds),s9,s10,s11,s12,s13]) ⟨by omega,_,_,_,_,_,rfl⟩ ?_ ?_
  ·rintro i x ρ n' hx' ⟨hn',s9,s10,s11,s12,s13,rfl⟩;obtain ⟨hi,rfl⟩:=ZN hx';refine ⟨_,rfl,?_⟩;unfold DO;refine zn λY7 h7=>?_
   try simp only [Pu.pwA]
   refine qnZ (N:=4898) td wg (by decide) w5 (by decide) (by decide) (by omega) λr tr wr=>?_;rw [WS (by rfl),h7];clear h7;refine zn λY8 h8=>?_;obtain ⟨tx,ht⟩:=qiO tr (by decide) (u5 (Nat.add_le_add_right w5 2) (by decide)) (u5 wr (by decide));have S2:=S1 _ _ _ _ tr;have B2:=B1 _ _ _ _ tr;have e3:decide (tx=tx)=true:=za0 rfl;have sbo:ju "bool" "bool" = true:=rfl;generalize brs b (m+1) (axs ss) 6 [] r=g at S2 B2
   try simp only [Pu.pwA,LN,ht,B2]
   rw [qdi rfl];refine ⟨_,rfl,?_⟩
   try simp only [Pu.pwA]
   rw [h8];clear h8;refine zn λY9 h9=>?_
   try simp only [Pu.pwA,S2]
   rw [h9];clear h9
   try simp only [Pu.pwA,sbo,e6,e3,LN,ht]
   exact ⟨by omega,_,_,_,_,_,rfl⟩
  ·rintro ρ n' ⟨hn',s9,s10,s11,s12,s13,rfl⟩
   try simp only [Pu.pwA]
end K50
namespace K50
open PySem L2 L3 Bk
def Kf (P:Params):PySem.W.Frag:=[(3,Hd.oM P 40 "law_bankwalk_k50_trees_spoilt_anywhere" 318 [(.str "is_number" 195,.ref 21),(.str "searched" 212,.ref 28),(.str "is_tree" 228,.ref 35),(.str "flips" 236,.ref 40),(.str "led_to" 249,.ref 47),(.str "span_flips" 255,.ref 52),(.str "image_choices" 264,.ref 59),(.str "is_led_to_0" 272,.ref 66),(.str "first_led_to_0" 281,.ref 73),(.str "image_for" 294,.ref 80),(.str "is_lost" 305,.ref 87),(.str "shows_no_image" 317,.ref 94),(.str "_law_mix" 328,.ref 101),(.str "_law_left" 338,.ref 108),(.str "_law_pick" 347,.ref 115),(.str "_law_two" 354,.ref 122),(.str "_law_flips" 366,.ref 129),(.str "_law_spans" 379,.ref 136),(.str "_law_bad" 388,.ref 143),(.str "_law_led" 399,.ref 150),(.str "_law_last" 409,.ref 157),(.str "_law_lot" 418,.ref 164),(.str "_law_bars" 433,.ref 171),(.str "_law_whole" 440,.ref 178),(.str "_law_paths" 446,.ref 183),(.str "_law_part" 455,.ref 190),(.str "_law_put" 465,.ref 197),(.str "_law_otherwise" 482,.ref 204),(.str "_law_spoilt" 495,.ref 211),(.str "_law_grown" 501,.ref 216),(.str "law" 507,.ref 221)]),
 (20,Hd.oC [.str "is_number" 189,.str "is_number" 190,.str "/claim/cut.py" 191,.int (2) 0,.int (1) 0,.int (0) 0,.int (0) 0,.int (3) 0,.ref 15,.bool true,.int (181) 0,.ref 16,.none,.ref 17,.ref 18,.ref 19,.int (193) 0,.int (2) 0,.str "/claim/cut.py" 194]),
 (21,Hd.oF "is_number" jU (.str "bankwalk.basics" 187) (.ref 20)),
 (27,Hd.oC [.str "searched" 198,.str "searched" 199,.str "/claim/cut.py" 200,.int (5) 0,.int (4) 0,.int (0) 0,.int (0) 0,.int (3) 0,.ref 22,.bool true,.int (181) 0,.ref 23,.none,.ref 24,.ref 25,.ref 26,.int (210) 0,.int (5) 0,.str "/claim/cut.py" 211]),
 (28,Hd.oF "searched" ZO (.str "bankwalk.anyhow" 196) (.ref 27)),
 (34,Hd.oC [.str "is_tree" 215,.str "is_tree" 216,.str "/claim/cut.py" 217,.int (19) 0,.int (5) 0,.int (0) 0,.int (0) 0,.int (3) 0,.ref 29,.bool true,.int (181) 0,.ref 30,.none,.ref 31,.ref 32,.ref 33,.int (226) 0,.int (19) 0,.str "/claim/cut.py" 227]),
 (35,Hd.oF "is_tree" JJ (.str "bankwalk.anycheck" 213) (.ref 34)),
 (39,Hd.oC [.str "flips" 231,.str "flips" 232,.str "/claim/cut.py" 233,.int (28) 0,.int (1) 0,.int (0) 0,.int (0) 0,.int (3) 0,.ref 36,.bool true,.int (181) 0,.ref 37,.none,.none,.none,.ref 38,.int (234) 0,.int (28) 0,.str "/claim/cut.py" 235]),
 (40,Hd.oF "flips" DI (.str "bankwalk.flips" 229) (.ref 39)),
 (46,Hd.oC [.str "led_to" 239,.str "led_to" 240,.str "/claim/cut.py" 241,.int (34) 0,.int (2) 0,.int (0) 0,.int (0) 0,.int (3) 0,.ref 41,.bool true,.int (181) 0,.ref 42,.none,.ref 43,.ref 44,.ref 45,.int (247) 0,.int (34) 0,.str "/claim/cut.py" 248]),
 (47,Hd.oF "led_to" V2 za5 (.ref 46)),
 (51,Hd.oC [.str "span_flips" 250,.str "span_flips" 251,.str "/claim/cut.py" 252,.int (40) 0,.int (1) 0,.int (0) 0,.int (0) 0,.int (3) 0,.ref 48,.bool true,.int (181) 0,.ref 49,.none,.none,.none,.ref 50,.int (253) 0,.int (40) 0,.str "/claim/cut.py" 254]),
 (52,Hd.oF "span_flips" jx za5 (.ref 51)),
 (58,Hd.oC [.str "image_choices" 256,.str "image_choices" 257,.str "/claim/cut.py" 258,.int (42) 0,.int (2) 0,.int (0) 0,.int (0) 0,.int (3) 0,.ref 53,.bool true,.int (181) 0,.ref 54,.none,.ref 55,.ref 56,.ref 57,.int (262) 0,.int (42) 0,.str "/claim/cut.py" 263]),
 (59,Hd.oF "image_choices" zM za5 (.ref 58)),
 (65,Hd.oC [.str "is_led_to_0" 265,.str "is_led_to_0" 266,.str "/claim/cut.py" 267,.int (45) 0,.int (2) 0,.int (0) 0,.int (0) 0,.int (3) 0,.ref 60,.bool true,.int (181) 0,.ref 61,.none,.ref 62,.ref 63,.ref 64,.int (270) 0,.int (45) 0,.str "/claim/cut.py" 271]),
 (66,Hd.oF "is_led_to_0" jh za5 (.ref 65)),
 (72,Hd.oC [.str "first_led_to_0" 273,.str "first_led_to_0" 274,.str "/claim/cut.py" 275,.int (47) 0,.int (2) 0,.int (0) 0,.int (0) 0,.int (3) 0,.ref 67,.bool true,.int (181) 0,.ref 68,.none,.ref 69,.ref 70,.ref 71,.int (279) 0,.int (47) 0,.str "/claim/cut.py" 280]),
 (73,Hd.oF "first_led_to_0" zA za5 (.ref 72)),
 (79,Hd.oC [.str "image_for" 282,.str "image_for" 283,.str "/claim/cut.py" 284,.int (52) 0,.int (3) 0,.int (0) 0,.int (0) 0,.int (3) 0,.ref 74,.bool true,.int (181) 0,.ref 75,.none,.ref 76,.ref 77,.ref 78,.int (292) 0,.int (52) 0,.str "/claim/cut.py" 293]),
 (80,Hd.oF "image_for" jX za5 (.ref 79)),
 (86,Hd.oC [.str "is_lost" 297,.str "is_lost" 298,.str "/claim/cut.py" 299,.int (61) 0,.int (3) 0,.int (0) 0,.int (0) 0,.int (3) 0,.ref 81,.bool true,.int (181) 0,.ref 82,.none,.ref 83,.ref 84,.ref 85,.int (303) 0,.int (61) 0,.str "/claim/cut.py" 304]),
 (87,Hd.oF "is_lost" JK za4 (.ref 86)),
 (93,Hd.oC [.str "shows_no_image" 306,.str "shows_no_image" 307,.str "/claim/cut.py" 308,.int (63) 0,.int (4) 0,.int (0) 0,.int (0) 0,.int (3) 0,.ref 88,.bool true,.int (181) 0,.ref 89,.none,.ref 90,.ref 91,.ref 92,.int (315) 0,.int (63) 0,.str "/claim/cut.py" 316]),
 (94,Hd.oF "shows_no_image" zD za4 (.ref 93)),
 (100,Hd.oC [.str "_law_mix" 320,.str "_law_mix" 321,.str "/claim/cut.py" 322,.int (67) 0,.int (2) 0,.int (0) 0,.int (0) 0,.int (3) 0,.ref 95,.bool true,.int (181) 0,.ref 96,.none,.ref 97,.ref 98,.ref 99,.int (326) 0,.int (67) 0,.str "/claim/cut.py" 327]),
 (101,Hd.oF "_law_mix" JV za3 (.ref 100)),
 (107,Hd.oC [.str "_law_left" 329,.str "_law_left" 330,.str "/claim/cut.py" 331,.int (70) 0,.int (2) 0,.int (0) 0,.int (0) 0,.int (3) 0,.ref 102,.bool true,.int (181) 0,.ref 103,.none,.ref 104,.ref 105,.ref 106,.int (336) 0,.int (70) 0,.str "/claim/cut.py" 337]),
 (108,Hd.oF "_law_left" ZI za3 (.ref 107)),
 (114,Hd.oC [.str "_law_pick" 339,.str "_law_pick" 340,.str "/claim/cut.py" 341,.int (74) 0,.int (2) 0,.int (0) 0,.int (0) 0,.int (3) 0,.ref 109,.bool true,.int (181) 0,.ref 110,.none,.ref 111,.ref 112,.ref 113,.int (345) 0,.int (74) 0,.str "/claim/cut.py" 346]),
 (115,Hd.oF "_law_pick" ZQ za3 (.ref 114)),
 (121,Hd.oC [.str "_law_two" 348,.str "_law_two" 349,.str "/claim/cut.py" 350,.int (81) 0,.int (1) 0,.int (0) 0,.int (0) 0,.int (3) 0,.ref 116,.bool true,.int (181) 0,.ref 117,.none,.ref 118,.ref 119,.ref 120,.int (352) 0,.int (81) 0,.str "/claim/cut.py" 353]),
 (122,Hd.oF "_law_two" JM za3 (.ref 121)),
 (128,Hd.oC [.str "_law_flips" 355,.str "_law_flips" 356,.str "/claim/cut.py" 357,.int (83) 0,.int (1) 0,.int (0) 0,.int (0) 0,.int (3) 0,.ref 123,.bool true,.int (181) 0,.ref 124,.none,.ref 125,.ref 126,.ref 127,.int (364) 0,.int (83) 0,.str "/claim/cut.py" 365]),
 (129,Hd.oF "_law_flips" jW za3 (.ref 128)),
 (135,Hd.oC [.str "_law_spans" 367,.str "_law_spans" 368,.str "/claim/cut.py" 369,.int (91) 0,.int (2) 0,.int (0) 0,.int (0) 0,.int (3) 0,.ref 130,.bool true,.int (181) 0,.ref 131,.none,.ref 132,.ref 133,.ref 134,.int (377) 0,.int (91) 0,.str "/claim/cut.py" 378]),
 (136,Hd.oF "_law_spans" j4 za3 (.ref 135)),
 (142,Hd.oC [.str "_law_bad" 380,.str "_law_bad" 381,.str "/claim/cut.py" 382,.int (101) 0,.int (1) 0,.int (0) 0,.int (0) 0,.int (3) 0,.ref 137,.bool true,.int (181) 0,.ref 138,.none,.ref 139,.ref 140,.ref 141,.int (386) 0,.int (101) 0,.str "/claim/cut.py" 387]),
 (143,Hd.oF "_law_bad" JY za3 (.ref 142)),
 (149,Hd.oC [.str "_law_led" 389,.str "_law_led" 390,.str "/claim/cut.py" 391,.int (106) 0,.int (2) 0,.int (0) 0,.int (0) 0,.int (3) 0,.ref 144,.bool true,.int (181) 0,.ref 145,.none,.ref 146,.ref 147,.ref 148,.int (397) 0,.int (106) 0,.str "/claim/cut.py" 398]),
 (150,Hd.oF "_law_led" JX za3 (.ref 149)),
 (156,Hd.oC [.str "_law_last" 400,.str "_law_last" 401,.str "/claim/cut.py" 402,.int (111) 0,.int (2) 0,.int (0) 0,.int (0) 0,.int (3) 0,.ref 151,.bool true,.int (181) 0,.ref 152,.none,.ref 153,.ref 154,.ref 155,.int (407) 0,.int (111) 0,.str "/claim/cut.py" 408]),
 (157,Hd.oF "_law_last" Q8 za3 (.ref 156)),
 (163,Hd.oC [.str "_law_lot" 410,.str "_law_lot" 411,.str "/claim/cut.py" 412,.int (117) 0,.int (2) 0,.int (0) 0,.int (0) 0,.int (3) 0,.ref 158,.bool true,.int (181) 0,.ref 159,.none,.ref 160,.ref 161,.ref 162,.int (416) 0,.int (117) 0,.str "/claim/cut.py" 417]),
 (164,Hd.oF "_law_lot" J1 za3 (.ref 163)),
 (170,Hd.oC [.str "_law_bars" 419,.str "_law_bars" 420,.str "/claim/cut.py" 421,.int (120) 0,.int (5) 0,.int (0) 0,.int (0) 0,.int (3) 0,.ref 165,.bool true,.int (181) 0,.ref 166,.none,.ref 167,.ref 168,.ref 169,.int (431) 0,.int (120) 0,.str "/claim/cut.py" 432]),
 (171,Hd.oF "_law_bars" Q7 za3 (.ref 170)),
 (177,Hd.oC [.str "_law_whole" 434,.str "_law_whole" 435,.str "/claim/cut.py" 436,.int (134) 0,.int (1) 0,.int (0) 0,.int (0) 0,.int (3) 0,.ref 172,.bool true,.int (181) 0,.ref 173,.none,.ref 174,.ref 175,.ref 176,.int (438) 0,.int (134) 0,.str "/claim/cut.py" 439]),
 (178,Hd.oF "_law_whole" j5 za3 (.ref 177)),
 (182,Hd.oC [.str "_law_paths" 441,.str "_law_paths" 442,.str "/claim/cut.py" 443,.int (136) 0,.int (1) 0,.int (0) 0,.int (0) 0,.int (3) 0,.ref 179,.bool true,.int (181) 0,.ref 180,.none,.none,.none,.ref 181,.int (444) 0,.int (136) 0,.str "/claim/cut.py" 445]),
 (183,Hd.oF "_law_paths" j2 za3 (.ref 182)),
 (189,Hd.oC [.str "_law_part" 447,.str "_law_part" 448,.str "/claim/cut.py" 449,.int (142) 0,.int (2) 0,.int (0) 0,.int (0) 0,.int (3) 0,.ref 184,.bool true,.int (181) 0,.ref 185,.none,.ref 186,.ref 187,.ref 188,.int (453) 0,.int (142) 0,.str "/claim/cut.py" 454]),
 (190,Hd.oF "_law_part" Q9 za3 (.ref 189)),
 (196,Hd.oC [.str "_law_put" 456,.str "_law_put" 457,.str "/claim/cut.py" 458,.int (146) 0,.int (3) 0,.int (0) 0,.int (0) 0,.int (3) 0,.ref 191,.bool true,.int (181) 0,.ref 192,.none,.ref 193,.ref 194,.ref 195,.int (463) 0,.int (146) 0,.str "/claim/cut.py" 464]),
 (197,Hd.oF "_law_put" J2 za3 (.ref 196)),
 (203,Hd.oC [.str "_law_otherwise" 466,.str "_law_otherwise" 467,.str "/claim/cut.py" 468,.int (152) 0,.int (2) 0,.int (0) 0,.int (0) 0,.int (3) 0,.ref 198,.bool true,.int (181) 0,.ref 199,.none,.ref 200,.ref 201,.ref 202,.int (480) 0,.int (152) 0,.str "/claim/cut.py" 481]),
 (204,Hd.oF "_law_otherwise" zL za3 (.ref 203)),
 (210,Hd.oC [.str "_law_spoilt" 483,.str "_law_spoilt" 484,.str "/claim/cut.py" 485,.int (173) 0,.int (3) 0,.int (0) 0,.int (0) 0,.int (3) 0,.ref 205,.bool true,.int (181) 0,.ref 206,.none,.ref 207,.ref 208,.ref 209,.int (493) 0,.int (173) 0,.str "/claim/cut.py" 494]),
 (211,Hd.oF "_law_spoilt" jA za3 (.ref 210)),
 (215,Hd.oC [.str "_law_grown" 496,.str "_law_grown" 497,.str "/claim/cut.py" 498,.int (182) 0,.int (4) 0,.int (0) 0,.int (0) 0,.int (3) 0,.ref 212,.bool true,.int (181) 0,.ref 213,.none,.none,.none,.ref 214,.int (499) 0,.int (182) 0,.str "/claim/cut.py" 500]),
 (216,Hd.oF "_law_grown" jQ za3 (.ref 215)),
 (220,Hd.oC [.str "law" 502,.str "law" 503,.str "/claim/cut.py" 504,.int (194) 0,.int (1) 0,.int (0) 0,.int (0) 0,.int (3) 0,.ref 217,.bool true,.int (181) 0,.ref 218,.none,.none,.none,.ref 219,.int (505) 0,.int (194) 0,.str "/claim/cut.py" 506]),
 (221,Hd.oF "law" YB za3 (.ref 220))]
abbrev tsL:List (Addr×Addr×Str):=[(79,75,"image_for.<locals>.<lambda>"),(93,89,"shows_no_image.<locals>.<lambda>")]
abbrev flL:List FuncData:=Hd.qnN "image_for.<locals>.<lambda>" (top 14)++Hd.qnN "shows_no_image.<locals>.<lambda>" (top 17)
def Kg (P:Params):PySem.W.Frag:=Kf P++Hd.qaQ 3 flL tsL
def qlK {l:PySem.W.OpenLaw} {w:World} {h:Heap} {mg:Str->Option Value} {fa:Addr} (X:(Kg w.params).In h) (G:h.Ns mainGlobals mg) (hfa:mg "law" = some (.ref fa)) :
  ∃ fd:FuncData,(∀ (s:Shared) (v:Value),BindsTo s fd ⟨[v],[]⟩ [("_law_script",v)])/\∀ base:Heap,(Kg w.params).In base->base.Ns mainGlobals mg->qeh mg base->FnOk l.prog w (Kg w.params) mg base CX0 12 fa fd ["_law_script"] (lSp (Kg w.params) R1):=by
 have e:=hfa.symm.trans (Hd.qn0 X G "law" (.ref 221) (by kernel_rfl));cases e;have E0:=Hd.e X G "is_number" jU YZ 21 (.str "bankwalk.basics" 187) (.ref 20);have E1:=Hd.e X G "flips" DI LO 40 (.str "bankwalk.flips" 229) (.ref 39);have E2:=Hd.e X G "led_to" V2 CQ 47 za5 (.ref 46);have E3:=Hd.e X G "span_flips" jx JH 52 za5 (.ref 51);have E4:=Hd.e X G "image_choices" zM jG 59 za5 (.ref 58);have E5:=Hd.e X G "is_led_to_0" jh ZD 66 za5 (.ref 65);have E6:=Hd.e X G "first_led_to_0" zA jt 73 za5 (.ref 72);have E7:=Hd.e X G "is_lost" JK WG 87 za4 (.ref 86);have E8:=Hd.e X G "searched" ZO U2 28 (.str "bankwalk.anyhow" 196) (.ref 27);have E9:=Hd.e X G "image_for" jX YD 80 za5 (.ref 79);have E10:=Hd.e X G "is_tree" JJ XB 35 (.str "bankwalk.anycheck" 213) (.ref 34);have E11:=Hd.e X G "shows_no_image" zD jq 94 za4 (.ref 93);have E12:=Hd.e X G "_law_mix" JV WX 101 za3 (.ref 100);have E13:=Hd.e X G "_law_left" ZI UH 108 za3 (.ref 107);have E14:=Hd.e X G "_law_pick" ZQ U1 115 za3 (.ref 114);have E15:=Hd.e X G "_law_two" JM W0 122 za3 (.ref 121);have E16:=Hd.e X G "_law_flips" jW YS 129 za3 (.ref 128);have E17:=Hd.e X G "_law_spans" j4 VD 136 za3 (.ref 135);have E18:=Hd.e X G "_law_bad" JY XA 143 za3 (.ref 142);have E19:=Hd.e X G "_law_led" JX WA 150 za3 (.ref 149);have E20:=Hd.e X G "_law_last" Q8 UP 157 za3 (.ref 156);have E21:=Hd.e X G "_law_lot" J1 WH 164 za3 (.ref 163);have E22:=Hd.e X G "_law_whole" j5 YX 178 za3 (.ref 177);have E23:=Hd.e X G "_law_bars" Q7 UU 171 za3 (.ref 170);have E24:=Hd.e X G "_law_paths" j2 VC 183 za3 (.ref 182);have E25:=Hd.e X G "_law_part" Q9 UZ 190 za3 (.ref 189);have E26:=Hd.e X G "_law_put" J2 WT 197 za3 (.ref 196);have E27:=Hd.e X G "_law_otherwise" zL jL 204 za3 (.ref 203);have E28:=Hd.e X G "_law_spoilt" jA JA 211 za3 (.ref 210);have E29:=Hd.e X G "_law_grown" jQ VF 216 za3 (.ref 215);have F30:=Hd.qnV (K:=Kg w.params) "law" YB 221 za3 (.ref 220) (by kernel_rfl) (by kernel_rfl) (by kernel_rfl);have g0:=Hd.no X G "isinstance";have g1:=Hd.no X G "bool";have g2:=Hd.no X G "int";have g3:=Hd.no X G "enumerate";have g4:=Hd.no X G "max";have g5:=Hd.no X G "min";have g6:=Hd.no X G "len";have g7:=Hd.no X G "range";have g8:=Hd.no X G "tuple";have g9:K7 (Kg w.params) 0=some (Hd.TW "image_for.<locals>.<lambda>" (top 14) 0):=by kernel_rfl
 have g10:K7 (Kg w.params) 1=some (Hd.TW "image_for.<locals>.<lambda>" (top 14) 1):=by kernel_rfl
 have g11:K7 (Kg w.params) 2=some (Hd.TW "shows_no_image.<locals>.<lambda>" (top 17) 0):=by kernel_rfl
 have g12:K7 (Kg w.params) 3=some (Hd.TW "shows_no_image.<locals>.<lambda>" (top 17) 1):=by kernel_rfl
 have g13:=Hd.no X G "abs";have g14:=Hd.no X G "sorted";have g15:=Hd.no X G "set";have g16:=Hd.no X G "list";have g17:=Hd.no X G "str";refine ⟨PySem.W.fnOf "law" "law" (QF YB) (zo YB) (qh YB) .none .none .none za3 none (.ref 220) .none,λs v=>.of_eq rfl,λbase Xb _ B_=>?_⟩;have g18:TabAt (Kg w.params) mg base 79 "image_for.<locals>.<lambda>" := Hd.qml (ts:=tsL) (P:=75) Xb B_ (by kernel_rfl);have g19:TabAt (Kg w.params) mg base 93 "shows_no_image.<locals>.<lambda>" := Hd.qml (ts:=tsL) (P:=89) Xb B_ (by kernel_rfl);have O20:=SV (P:=l.prog) (w:=w) (base:=base) (k:=0) g0 g1 g2 E0 TN;have O21:=qeo (P:=l.prog) (w:=w) (base:=base) (k:=0)  E1 Pv.qed;have O22:=qbU (P:=l.prog) (w:=w) (base:=base) (k:=0) g3 E2 qcI;have O23:=CY O21 E3 RC;have O24:=DB (P:=l.prog) (w:=w) (base:=base) (k:=0) g4 g5 E4 DA;have O25:=XR O22 g6 E5 XI;have O26:=UQ O25 E6 U4;have O27:=qay O25 (O20.mono (by decide)) E7 qaK;have O28:=qaF (P:=l.prog) (w:=w) (base:=base) (k:=0)  E12 N6;have O29:=LF (P:=l.prog) (w:=w) (base:=base) (k:=0) g6 g13 E13 LU;have O30:=LI O28 E14 LM;have O31:=qaG (P:=l.prog) (w:=w) (base:=base) (k:=0)  E15 qar;have O32:=SN g3 g6 g7 O31 E16 S6;have O33:=SF g7 (O31.mono (by decide)) O30 O32 E17 SA;have O34:=qag O32 g14 g15 E18 qah;have O35:=qaB g3 O31 E19 qaf;have O36:=LZ g4 g5 g7 O31 E20 KR;have O37:=qae g2 (O30.mono (by decide)) O33 E21 qaO;have O38:=SY (P:=l.prog) (w:=w) (base:=base) (k:=0) g0 g1 g2 E22 TZ;have O39:=KD (P:=l.prog) (w:=w) (base:=base) (k:=0)  E25 K6;have O40:=EZ g0 g6 g8 O30 (O38.mono (by decide)) g16 g17 E27 ER;have O41:WE l.prog w (Kg w.params) mg base 4 (Pu.phS PhL):=Pu.zH.ok (Pu.zH.cons (qoD (P:=l.prog) (w:=w) (base:=base) (k:=3) g9 (O24.mono (by decide)) qnP) (Pu.zH.cons (qod (P:=l.prog) (w:=w) (base:=base) (k:=3) g10 O26 qn5) (Pu.zH.cons (qoM (P:=l.prog) (w:=w) (base:=base) (k:=3) g11 (O24.mono (by decide)) qoT) (Pu.zH.cons (qob (P:=l.prog) (w:=w) (base:=base) (k:=3) g12 O27 qos) Pu.zH.nil))));have O42:∀ j:Nat,Fn3 l.prog w (Kg w.params) mg base (4+1*j) "searched" (Pu.PSp (qX j) false):=λj=>by
  induction j with
  |zero=>exact (Pu.Fn3.pz (JQ (P:=l.prog) (w:=w) (base:=base) E8.F E8.b E8.m) false).mono (by decide)
  |succ j ih=>
   exact KF (P:=l.prog) (w:=w) (base:=base) (k:=4+1*j+0) g6 (O41.mono (by omega)) ih g7 g8 E8 (KS j)
 have O43:=SX (O42 6) (O23.mono (by decide)) g9 g10 g18 E9 rfl SW;have O44:∀ j:Nat,Fn3 l.prog w (Kg w.params) mg base (4+1*j) "is_tree" (Pu.PSp (zy j) false):=λj=>by
  induction j with
  |zero=>exact (Pu.Fn3.pz (JQ (P:=l.prog) (w:=w) (base:=base) E10.F E10.b E10.m) false).mono (by decide)
  |succ j ih=>
   exact N8 (P:=l.prog) (w:=w) (base:=base) (k:=4+1*j+0) g0 g3 g6 (O41.mono (by omega)) g8 ih E10 (N4 j)
 have O45:=U3 (O23.mono (by decide)) (O44 6) g11 g12 g19 E11 rfl UT;have O46:∀ j:Nat,Fn3 l.prog w (Kg w.params) mg base (2+1*j) "_law_bars" (Pu.PSp (zd j) false):=λj=>by
  induction j with
  |zero=>exact (Pu.Fn3.pz (JQ (P:=l.prog) (w:=w) (base:=base) E23.F E23.b E23.m) false).mono (by decide)
  |succ j ih=>
   exact LP (P:=l.prog) (w:=w) (base:=base) (k:=2+1*j+0) g0 g3 g6 g8 (O31.mono (by omega)) (O36.mono (by omega)) ih (O38.mono (by omega)) (O35.mono (by omega)) E23 (LX j)
 have O47:∀ j:Nat,Fn3 l.prog w (Kg w.params) mg base (0+1*j) "_law_paths" (Pu.PSp (qH j) true):=λj=>by
  induction j with
  |zero=>exact (Pu.Fn3.pz (JQ (P:=l.prog) (w:=w) (base:=base) E24.F E24.b E24.m) true).mono (by decide)
  |succ j ih=>
   exact TU (P:=l.prog) (w:=w) (base:=base) (k:=0+1*j+0) g0 g3 g8 ih g16 E24 (TK j)
 have O48:∀ j:Nat,Fn3 l.prog w (Kg w.params) mg base (0+1*j) "_law_put" (Pu.PSp (zx j) false):=λj=>by
  induction j with
  |zero=>exact (Pu.Fn3.pz (JQ (P:=l.prog) (w:=w) (base:=base) E26.F E26.b E26.m) false).mono (by decide)
  |succ j ih=>
   exact qav (P:=l.prog) (w:=w) (base:=base) (k:=0+1*j+0) g0 g8 g16 ih E26 (qaD j)
 have O49:=RA g2 g6 g7 (O30.mono (by decide)) (O47 9) (O48 9) (O39.mono (by decide)) (O40.mono (by decide)) E28 RF;have O50:=Pu.Fn3.dz (JQ (P:=l.prog) (w:=w) (base:=base) E29.F E29.b E29.m) false;have O51:=zS g6 g7 g8 (O31.mono (by decide)) O30 O36 O35 (O50.mono (by decide)) E29 (zV 0);have O52:=zS g6 g7 g8 (O31.mono (by decide)) (O30.mono (by decide)) (O36.mono (by decide)) (O35.mono (by decide)) O51 E29 (zV 1);have O53:=zS g6 g7 g8 (O31.mono (by decide)) (O30.mono (by decide)) (O36.mono (by decide)) (O35.mono (by decide)) O52 E29 (zV 2);have O54:=zS g6 g7 g8 (O31.mono (by decide)) (O30.mono (by decide)) (O36.mono (by decide)) (O35.mono (by decide)) O53 E29 (zV 3);have O55:=zS g6 g7 g8 (O31.mono (by decide)) (O30.mono (by decide)) (O36.mono (by decide)) (O35.mono (by decide)) O54 E29 (zV 4);have O56:=zS g6 g7 g8 (O31.mono (by decide)) (O30.mono (by decide)) (O36.mono (by decide)) (O35.mono (by decide)) O55 E29 (zV 5);exact qlA (k:=11) g0 g1 g2 g4 g5 g6 g7 (O30.mono (by decide)) ((O46 6).mono (by decide)) g17 (O56.mono (by decide)) (O29.mono (by decide)) (O37.mono (by decide)) (O34.mono (by decide)) O43 O45 (O49.mono (by decide)) F30 (qkB qjg)
abbrev Q : Program := PySem.W.view PySem.Challenge.pw_bankwalk_k50_trees_spoilt_anywhere [1,3,5,7,9,10,11,12,13,14,16,17,19,20,21,22,23,24,25,26,27,28,29,30,31,32,33,34,35,36,37]
set_option maxRecDepth 100000 in
set_option maxHeartbeats 0 in
def left : PySem.W.LeftO PySem.Challenge.pw_bankwalk_k50_trees_spoilt_anywhere Q [] (λs => PySem.W.xlAt Q [] s && PySem.W.recOk [] s) (λs => (([3,20,21,27,28,34,35,39,40,46,47,51,52,58,59,65,66,72,73,79,80,86,87,93,94,100,101,107,108,114,115,121,122,128,129,135,136,142,143,149,150,156,157,163,164,170,171,177,178,182,183,189,190,196,197,203,204,210,211,215,216,220,221] : List Addr).map s.heap.get?,([75,89] : List Addr).map s.heap.get?)) (λw => ((Kf w.params).map λp => some p.2,([75,89] : List Addr).map λ_ => some (PySem.W.tabObj #[]))) 2210 :=
 λw=>by kernel_rfl
end K50
open PySem PySem.W PyProof.Rows
set_option maxRecDepth 100000 in
set_option maxHeartbeats 0 in
def qqe : PySem.Challenge.rw_bankwalk_k50_trees_spoilt_anywhere.row.wellSaid = true := by kernel_rfl
set_option maxRecDepth 100000 in
set_option maxHeartbeats 0 in
def qqm : PySem.Challenge.rw_bankwalk_k50_trees_spoilt_anywhere.wellSaid = true := by
 unfold PySem.W.OpenLaw.wellSaid;rw [qqe]
 kernel_rfl
set_option maxRecDepth 100000 in
set_option maxHeartbeats 0 in
theorem PySem.Challenge.cw_bankwalk_k50_trees_spoilt_anywhere_holds : PySem.Challenge.rw_bankwalk_k50_trees_spoilt_anywhere.Holds :=
 Hd.qoH (a₀ := 3) (fds := K50.flL) (ts := K50.tsL) (tp := [75,89]) (l := PySem.Challenge.rw_bankwalk_k50_trees_spoilt_anywhere) (q := K50.Q) (loose := []) (K := K50.Kf) (as := [3,20,21,27,28,34,35,39,40,46,47,51,52,58,59,65,66,72,73,79,80,86,87,93,94,100,101,107,108,114,115,121,122,128,129,135,136,142,143,149,150,156,157,163,164,170,171,177,178,182,183,189,190,196,197,203,204,210,211,215,216,220,221]) (N := 2210) (k := 12) (x := "_law_script")
  (d:=⟨"law",L2.QF K50.YB,L2.zo K50.YB,L2.qh K50.YB,⟨194,0,211,15⟩⟩) (λ_=>by kernel_rfl) (by kernel_rfl) qqm K50.left (by kernel_rfl) (by kernel_rfl) (by kernel_rfl) (by kernel_rfl) (by kernel_rfl)
  ⟨rfl,rfl,rfl,rfl,rfl,by decide +kernel⟩ (by w_witness2) rfl (by kernel_rfl) ⟨rfl,by decide,by decide,rfl⟩ (λw=>by kernel_rfl) (λw=>by kernel_rfl) (λw=>by kernel_rfl) (λw=>by kernel_rfl) λw mg fa h KX G hmg=>K50.qlK KX G hmg
