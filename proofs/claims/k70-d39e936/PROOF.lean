import PyProof.Rows.All
import Wide.All
import OpenK.AllK
import Wide.FinOn
import Lean
import PyProof.EqAt
import PyProof.EqKinds
import PyProof.TupleCall
import PyProof.NeKinds
import KE.KRevSl
import PyProof.FactsAll.bool_2
import PyProof.Rows.EqBoolInt
import PyProof.Rows.IntBool
import KE.KUnpackStar
import KE.KIntText
import PySem.Challenge.RW_bankwalk_k70_plans_told
-- CHANGE: your row's module here,as the last of these rows
set_option Elab.async false
set_option genSizeOf false
set_option genInjectivity false
noncomputable section
theorem x5:type_of% @PySem.wpAny_bind:=@PySem.wpAny_bind
theorem x6:type_of% @PySem.wpAny_pure:=@PySem.wpAny_pure
theorem x8:type_of% @PySem.wpAny_mono:=@PySem.wpAny_mono
theorem x9:type_of% @PySem.Heap.get?_push_of_some:=@PySem.Heap.get?_push_of_some
theorem y3:type_of% @PySem.Heap.get?_push_size:=@PySem.Heap.get?_push_size
theorem y4:type_of% @PySem.Heap.lt_size:=@PySem.Heap.lt_size
theorem y6:type_of% @Bool.false_ne_true:=@Bool.false_ne_true
theorem y8:type_of% @PySem.sizeLine_eq:=@PySem.sizeLine_eq
theorem y9:type_of% @List.getElem?_eq_getElem.{0}:=@List.getElem?_eq_getElem.{0}
theorem v0:type_of% @Nat.zero_lt_succ:=@Nat.zero_lt_succ
theorem v4:type_of% @Nat.le_refl:=@Nat.le_refl
theorem v5:type_of% @List.mem_cons_of_mem.{0}:=@List.mem_cons_of_mem.{0}
theorem v6:type_of% @List.mem_append_right.{0}:=@List.mem_append_right.{0}
theorem v7:type_of% @Nat.lt_of_lt_of_le:=@Nat.lt_of_lt_of_le
theorem v8:type_of% @List.mem_of_getElem?.{0}:=@List.mem_of_getElem?.{0}
theorem v9:type_of% @Nat.le_trans:=@Nat.le_trans
theorem u7:type_of% @Nat.ne_of_lt:=@Nat.ne_of_lt
theorem u8:type_of% @Nat.lt_add_one:=@Nat.lt_add_one
theorem u9:type_of% @List.mem_cons_self.{0}:=@List.mem_cons_self.{0}
theorem za0:type_of% @List.getElem_mem.{0}:=@List.getElem_mem.{0}
theorem za1:type_of% @decide_eq_false:=@decide_eq_false
theorem za2:type_of% @decide_eq_true:=@decide_eq_true
def za3{α β:Type}{b:β}{f:α->β}{o:Option α}(h:o.map f=some b):=Option.map_eq_some_iff.mp h
def za4{α:Type}{l:List α}{i:Nat}{a:α}(h:l[i]?=some a):=List.getElem?_eq_some_iff.mp h
abbrev za5:PySem.Value:=.str "law_bankwalk_k70_plans_told" 509
abbrev za6:PySem.Value:=.str "bankwalk.dealings" 371
abbrev za7:PySem.Value:=.str "bankwalk.turning" 448
abbrev za8:PySem.Value:=.str "bankwalk.errors" 187
abbrev za9:PySem.Str:="bankwalk.errors"
abbrev Frg:=PySem.W.Frag
open List (getElem_cons_zero length_cons getElem?_cons_succ getElem_cons_succ getElem?_cons_zero length_nil set_cons_zero set_cons_succ length_map not_mem_nil map_cons mem_cons getElem?_set getElem?_map cons_append size_toArray map_map mem_map length_append getD_eq_getElem?_getD mem_range length_range)
def obb{α β:Type _}{o:Option α}{f:α->Option β}{b:β}(h:o.bind f=some b):∃a,o=some a/\f a=some b:=Option.bind_eq_some_iff.mp h
set_option linter.all false
set_option maxRecDepth 100000
namespace L2
open PySem PySem.Spec PyProof.Rows
abbrev Key:=Sum Int Str
def qjx:Key->Value->Bool
 |.inl k,v=>Value.isInt k v
 |.inr x,v=>Value.isStrOf x v
def qrE (w:World):Key->Int
 |.inl k=>hashInt k
 |.inr x=>hashStr w x
def zR:∀ {k:Key} {v:Value},qjx k v=true->(∃ i t,k=Sum.inl i/\v=Value.int i t)\/(∃ x t,k=Sum.inr x/\v=Value.str x t)
 |.inl i,v,h=>by
  obtain ⟨t,e⟩:=Value.isInt_shape (k:=i) (v:=v) h;exact .inl ⟨i,t,rfl,e⟩
 |.inr x,v,h=>by
  obtain ⟨t,e⟩:=Value.isStrOf_shape (x:=x) (v:=v) h;exact .inr ⟨x,t,rfl,e⟩
def qlG (a b:Int):decide ((Sum.inl a:Key)=Sum.inl b)=(a==b):=by
 by_cases e:a=b
 ·subst e;simp
 ·have h:¬ (Sum.inl a:Key)=Sum.inl b:=λq=>e (Sum.inl.inj q);rw [za1 h];exact (beq_eq_false_iff_ne.mpr e).symm
def qiS (a b:Str):decide ((Sum.inr a:Key)=Sum.inr b)=decide (a=b):=by
 by_cases e:a=b
 ·subst e;simp
 ·have h:¬ (Sum.inr a:Key)=Sum.inr b:=λq=>e (Sum.inr.inj q);rw [za1 h,za1 e]
def qjp (a:Int) (b:Str):decide ((Sum.inl a:Key)=Sum.inr b)=false:=za1 (λq=>nomatch q)
def qnC (a:Str) (b:Int):decide ((Sum.inr a:Key)=Sum.inl b)=false:=za1 (λq=>nomatch q)
def qb6 (prog:Program) (w:World):PySem.KeyKind prog w Key where
 is:=qjx
 hash:=qrE w
 inj:=λv a b ha hb=>by
  rcases zR ha with ⟨i,t,rfl,rfl⟩|⟨x,t,rfl,rfl⟩
  ·rcases zR hb with ⟨j,u,rfl,e⟩|⟨y,u,rfl,e⟩
   ·injection e with e1 _;rw [e1]
   ·exact nomatch e
  ·rcases zR hb with ⟨j,u,rfl,e⟩|⟨y,u,rfl,e⟩
   ·exact nomatch e
   ·injection e with e1 _;rw [e1]
 byValue:=λk v h=>by
  rcases zR h with ⟨i,t,rfl,rfl⟩|⟨x,t,rfl,rfl⟩<;>rfl
 pyHash:=λhv h=>by
  rcases zR hv with ⟨i,t,rfl,rfl⟩|⟨x,t,rfl,rfl⟩
  ·exact wpAny_pyHash_int h
  ·exact wpAny_pyHash_str h
 eqBool:=λhu hv h=>by
  rcases zR hu with ⟨i,t,rfl,rfl⟩|⟨x,t,rfl,rfl⟩
  ·rcases zR hv with ⟨j,u,rfl,rfl⟩|⟨y,u,rfl,rfl⟩
   ·rw [qlG] at h;exact wpAny_eqBool_int h
   ·rw [qjp] at h;exact SeqAt.EqAt.int_str i t y u _ _ _ _ h
  ·rcases zR hv with ⟨j,u,rfl,rfl⟩|⟨y,u,rfl,rfl⟩
   ·rw [qnC] at h;exact SeqAt.EqAt.str_int x t j u _ _ _ _ h
   ·rw [qiS] at h;exact wpAny_eqBool_str h
 «strs»:=λk x t v h=>by
  rcases zR h with ⟨i,u,rfl,e⟩|⟨y,u,rfl,e⟩
  ·exact nomatch e
  ·injection e with e1 _;subst e1;cases v<;>rfl
set_option genInjectivity true in
inductive V where
 |non|bl (b:Bool)|int (i:Int)|str (x:Str)|byt (b:Array UInt8)|flt (b:UInt64)|ref (a:Addr)|ty (n:String)
 deriving DecidableEq
def jZ:V->Value->Prop
 |.non,u=>u=Value.none
 |.bl b,u=>u=Value.bool b
 |.int i,u=>∃ t,u=Value.int i t
 |.str x,u=>∃ t,u=Value.str x t
 |.byt b,u=>∃ t,u=Value.bytes b t
 |.flt b,u=>∃ t,u=Value.float b t
 |.ref a,u=>u=Value.ref a
 |.ty n,u=>u=Value.type n
abbrev jj:List V->List Value->Prop:=Paired jZ
def jj.length {xs:List V} {us:List Value} (r:jj xs us):xs.length=us.length:=Paired.length r
def jj.get:∀ {xs:List V} {us:List Value} {i:Nat} {x:V},jj xs us->xs[i]?=some x->∃ u,us[i]?=some u/\jZ x u
 |_,_,_,_,.nil,e=>by simp at e
 |_,_,0,_,.cons r _,e=>by simp at e;subst e;exact ⟨_,rfl,r⟩
 |_,_,i+1,x,.cons _ t,e=>by
  obtain ⟨u,h1,h2⟩:=jj.get (i:=i) (x:=x) t (by simpa using e);exact ⟨u,by simpa using h1,h2⟩
def jj.set {x:V} {u:Value} (r:jZ x u):∀ {xs:List V} {us:List Value} (i:Nat),jj xs us->jj (xs.set i x) (us.set i u)
 |_,_,_,.nil=>.nil
 |_,_,0,.cons _ t=>.cons r t
 |_,_,i+1,.cons q t=>.cons q (jj.set r i t)
def jj.append:∀ {xs ys:List V} {us ws:List Value},jj xs us->jj ys ws->jj (xs++ys) (us++ws)
 |_,_,_,_,.nil,s=>s
 |_,_,_,_,.cons r t,s=>.cons r (jj.append t s)
def jj.take:∀ {xs:List V} {us:List Value} (n:Nat),jj xs us->jj (xs.take n) (us.take n)
 |_,_,0,_=>.nil
 |_,_,_+1,.nil=>.nil
 |_,_,n+1,.cons r t=>.cons r (jj.take n t)
def jj.drop:∀ {xs:List V} {us:List Value} (n:Nat),jj xs us->jj (xs.drop n) (us.drop n)
 |_,_,0,r=>r
 |_,_,_+1,.nil=>.nil
 |_,_,n+1,.cons _ t=>jj.drop n t
def qqC:Option V->Option Value->Prop
 |some v,some u=>jZ v u
 |none,none=>True
 |_,_=>False
def KV {κ:Type}:List (κ×V)->List (κ×Value)->Prop:=Paired λ(p:κ×V) (q:κ×Value)=>p.1=q.1/\jZ p.2 q.2
def kV:Key->V
 |.inl i=>.int i
 |.inr x=>.str x
inductive HO where
 /-- a list -/
 |lst (xs:List V)
 /-- a tuple (never changes) -/
 |tup (xs:List V)
 /-- a dict whose keys are ints and texts;one whose keys are tuples of ints and texts (the empty one is both) -/
 |dK (kvs:List (Key×V))|dT (kvs:List (List Key×V))
 /-- a set of ints: its members,its size -/
 |set (S:Int->Bool) (n:Nat)
 /-- an instance of the class at C,its dict at dx,its attributes -/
 |ins (C dx:Addr) (fs:List (Str×V))
 /-- the dict of the instance at x -/
 |own (x:Addr)
 /-- the dict of an exception -/
 |xd (fs:List (Str×V))
 /-- a bound method,f of x -/
 |met (f x:Addr)
 /-- a range object lo,lo+1,.. below hi -/
 |rng (lo hi:Int)
 /-- a thing that is known to the object (the script;a dict while a loop walks it): read,never written while it is so -/
 |frz (o:Obj) (u:HO)
 /-- a code object's table -/
 |tbl (ps:Array Value)
 /-- any other thing,by what is true of its one object (a def of one's own: SetO a S n:=HO.ext λh=>..) -/
 |ext (φ:Heap->Prop)
abbrev Hp:=Addr->Option HO
def upd (H:Hp) (a:Addr) (o:HO):Hp:=λb=>if b=a then some o else H b
def ze {H:Hp} {a:Addr} {o:HO}:upd H a o a=some o:=by unfold upd;rw [if_pos rfl]
def qz {H:Hp} {a b:Addr} {o:HO} (h:b≠a):upd H a o b=H b:=by unfold upd;rw [if_neg h]
def qG {H:Hp} {a b:Addr} {o:HO} (h:H a=some o) (h':H b=none):a≠b:=by
 intro e;subst e;rw [h] at h';cases h'
def WR (h:Heap) (a:Addr) (items:Array Value):Prop:=∃ o,h.get? a=some o/\o.cls=.type "tuple"/\∃ n,o.data=.seq items n/\o.dict=none
def WR.tup {h:Heap} {a:Addr} {items:Array Value} (x:WR h a items):IsTup h a items:=let ⟨o,a,b,n,d,_⟩:=x;⟨o,a,b,n,d⟩
def WR.new (h:Heap) (items:Array Value):WR (h.push { cls:=.type "tuple",data:=.seq items }) h.objs.size items:=⟨_,y3 _ rfl,rfl,_,rfl,rfl⟩
section
variable (P:Program) (w:World)
def JW (H:Hp) (h:Heap) (a:Addr):HO->Prop
 |.lst xs=>xs.length<=sizeLine/\∃ (its:List Value) (n:Nat),jj xs its/\h.get? a=some { cls:=.type "list",data:=.seq its.toArray n }
 |.tup xs=>xs.length<=sizeLine/\∃ its:List Value,jj xs its/\WR h a its.toArray
 |.dK kvs=>kvs.length<=sizeLine/\(a==sysModules)=false/\∃ vs,KV kvs vs/\h.DictOf (qb6 P w) a vs
 |.dT kvs=>kvs.length<=sizeLine/\(a==sysModules)=false/\∃ xs:List (List Key×Addr×Value),
   Paired (λ(p:List Key×V) (q:List Key×Addr×Value)=>p.1=q.1/\H q.2.1=some (.tup (p.1.map kV))/\jZ p.2 q.2.2) kvs xs /\
   ∃ o es ep,h.get? a=some o/\o.ExactDict/\o.data=.dict es ep/\es.toList=xs.map (entryOfKey (tupleKind (qb6 P w)))/\(xs.map (·.1)).Nodup
 |.set S n=>h.SetOf (intKind P w) a S n
 |.ins C dx fs=>H dx=some (.own a)/\fs.length<=1000/\dx≠a/\h.get? a=some (PySem.W.instObj C dx) /\
   ∃ mA,h.Ns1 dx mA/\(∀ f,qqC (fs.lookup f) (mA f))/\PySem.Within mA (fs.map (·.1))
 |.own _=>∃ o,h.get? a=some o
 |.xd fs=>∃ mA,h.Ns1 a mA/\∀ f,qqC (fs.lookup f) (mA f)
 |.rng lo hi=>∃ t u v,h.get? a=some { cls:=.type "range",data:=.fields #[.int lo t,.int hi u,.int 1 v] }
 |.frz o u=>h.get? a=some o/\JW H h a u
 |.tbl ps=>h.get? a=some { cls:=.none,data:=.fields ps }
 |.met f x=>h.get? a=some (PySem.W.methodObj (.ref f) (.ref x))
 |.ext φ=>φ h/\(∃ o,h.get? a=some o)/\∀ h1 h2:Heap,φ h1->(∀ o,h1.get? a=some o->h2.get? a=some o)->φ h2
def HOk (H:Hp) (h:Heap):Prop:=∀ a o,H a=some o->JW P w H h a o
end
section
variable {P:Program} {w:World} {H H':Hp} {h h':Heap} {a:Addr} {o:HO}
def JW.lt (x:JW P w H h a o):a<h.objs.size:=by
 cases o with
 |lst xs=>obtain ⟨_,_,_,_,e⟩:=x;exact y4 e
 |tup xs=>obtain ⟨_,_,_,p⟩:=x;exact p.tup.lt
 |dK kvs=>obtain ⟨_,_,_,_,o,_,_,e,_⟩:=x;exact y4 e
 |dT kvs=>obtain ⟨_,_,_,_,o,_,_,e,_⟩:=x;exact y4 e
 |set S n=>obtain ⟨o,_,_,_,e,_⟩:=x;exact y4 e
 |ins C dx fs=>obtain ⟨_,_,_,e,_⟩:=x;exact y4 e
 |own y=>obtain ⟨_,e⟩:=x;exact y4 e
 |xd fs=>obtain ⟨_,⟨_,_,_,e,_⟩,_⟩:=x;exact y4 e
 |rng lo hi=>obtain ⟨_,_,_,e⟩:=x;exact y4 e
 |frz ob u=>obtain ⟨e,_⟩:=x;exact y4 e
 |tbl ps=>exact y4 (show h.get? a=some _ from x)
 |met f y=>exact y4 (show h.get? a=some _ from x)
 |ext φ=>obtain ⟨_,⟨_,e⟩,_⟩:=x;exact y4 e
def Paired.mapP {α β:Type} {F G:α->β->Prop}:∀ {l₁:List α} {l₂:List β},Paired F l₁ l₂->(∀ a b,F a b->G a b)->Paired G l₁ l₂
 |_,_,.nil,_=>.nil
 |_,_,.cons r t,f=>.cons (f _ _ r) (Paired.mapP t f)
def JW.stay (x:JW P w H h a o) (k:∀ b u,(b=a\/H b=some (.own a))->h.get? b=some u->h'.get? b=some u)
  (ho:∀ b,H b=some (.own a)->H' b=some (.own a)) (ht:∀ b xs,H b=some (.tup xs)->H' b=some (.tup xs)):JW P w H' h' a o:=by
 induction o with
 |lst xs=>obtain ⟨z,its,n,r,e⟩:=x;exact ⟨z,its,n,r,k _ _ (.inl rfl) e⟩
 |tup xs=>obtain ⟨z,its,r,ob,e,c⟩:=x;exact ⟨z,its,r,ob,k _ _ (.inl rfl) e,c⟩
 |dK kvs=>obtain ⟨z,y,vs,r,ob,es,ep,e,c⟩:=x;exact ⟨z,y,vs,r,ob,es,ep,k _ _ (.inl rfl) e,c⟩
 |dT kvs=>
  obtain ⟨z,y,xs,r,ob,es,ep,e,c⟩:=x;exact ⟨z,y,xs,Paired.mapP r λp q z=>⟨z.1,ht _ _ z.2.1,z.2.2⟩,ob,es,ep,k _ _ (.inl rfl) e,c⟩
 |set S n=>obtain ⟨ob,es,ep,t,e,c⟩:=x;exact ⟨ob,es,ep,t,k _ _ (.inl rfl) e,c⟩
 |ins C dx fs=>
  obtain ⟨d,z,ne,e,mA,⟨od,es,ep,e2,c⟩,r⟩:=x;exact ⟨ho _ d,z,ne,k _ _ (.inl rfl) e,mA,⟨od,es,ep,k _ _ (.inr d) e2,c⟩,r⟩
 |own y=>obtain ⟨ob,e⟩:=x;exact ⟨ob,k _ _ (.inl rfl) e⟩
 |xd fs=>obtain ⟨mA,⟨od,es,ep,e,c⟩,r⟩:=x;exact ⟨mA,⟨od,es,ep,k _ _ (.inl rfl) e,c⟩,r⟩
 |rng lo hi=>obtain ⟨t,u,v,e⟩:=x;exact ⟨t,u,v,k _ _ (.inl rfl) e⟩
 |frz ob u ih=>obtain ⟨e,q⟩:=x;exact ⟨k _ _ (.inl rfl) e,ih q⟩
 |tbl ps=>
  have e:h.get? a=some { cls:=.none,data:=.fields ps }:=x;show h'.get? a=some { cls:=.none,data:=.fields ps };exact k a _ (.inl rfl) e
 |met f y=>
  have e:h.get? a=some (PySem.W.methodObj (.ref f) (.ref y)):=x;show h'.get? a=some (PySem.W.methodObj (.ref f) (.ref y));exact k a _ (.inl rfl) e
 |ext φ=>obtain ⟨p,⟨o,e⟩,st⟩:=x;exact ⟨st _ _ p λo q=>k _ _ (.inl rfl) q,⟨o,k _ _ (.inl rfl) e⟩,st⟩
def HOk.lt (x:HOk P w H h) (e:H a=some o):a<h.objs.size:=(x a o e).lt
def HOk.fresh (x:HOk P w H h) (e:h.objs.size<=a):H a=none:=by
 cases q:H a with
 |none=>rfl
 |some u=>exact absurd (v7 (x.lt q) e) (Nat.lt_irrefl _)
def HOk.kept (x:HOk P w H h) (k:∀ b u,h.get? b=some u->h'.get? b=some u):HOk P w H h':=λa o e=>
 (x a o e).stay (λb u _ q=>k b u q) (λ_ q=>q) λ_ _ q=>q
def HOk.laid (x:HOk P w H h) (k:∀ b u,h.get? b=some u->h'.get? b=some u) (hp:h.objs.size<=a) (new:JW P w (upd H a o) h' a o):HOk P w (upd H a o) h':=λb u e=>by
 have hn:=x.fresh hp;by_cases hb:b=a
 ·subst hb;rw [ze] at e;cases e;exact new
 ·rw [qz hb] at e;exact (x b u e).stay (λc v _ q=>k c v q) (λc q=>by rw [qz (qG q hn)];exact q) λc xs q=>by rw [qz (qG q hn)];exact q
end
def Rd (H:Hp) (a:Addr) (u:HO):Prop:=H a=some u\/∃ o,H a=some (.frz o u)
def Rd.ok {P:Program} {w:World} {H:Hp} {h:Heap} {a:Addr} {u:HO} (r:Rd H a u) (x:HOk P w H h):JW P w H h a u:=by
 rcases r with r|⟨o,r⟩
 ·exact x a u r
 ·obtain ⟨_,q⟩:=x a _ r;exact q
def Mut:Option HO->Prop
 |some (.lst _)=>True
 |some (.dK _)=>True
 |some (.dT _)=>True
 |some (.set _ _)=>True
 |some (.ins _ _ _)=>True
 |some (.ext _)=>True
 |_=>False
section
variable {P:Program} {w:World} {H:Hp} {h h':Heap} {x e:Addr} {o':HO}
def HOk.write (ok:HOk P w H h) (mu:Mut (H x)) (he:e=x\/H e=some (.own x)) (k:∀ b u,b≠e->h.get? b=some u->h'.get? b=some u) (heo:∃ u,h'.get? e=some u)
  (new:JW P w (upd H x o') h' x o'):HOk P w (upd H x o') h':=λb u q=>by
 have nown:∀ c y,H c=some (.own y)->c≠x:=λc y r z=>by subst z;rw [r] at mu;exact mu
 have ntup:∀ c xs,H c=some (.tup xs)->c≠x:=λc xs r z=>by subst z;rw [r] at mu;exact mu
 by_cases hb:b=x
 ·subst hb;rw [ze] at q;cases q;exact new
 ·rw [qz hb] at q;by_cases hbe:b=e
  ·have q':H b=some (.own x):=by
    rcases he with z|z
    ·exact absurd (hbe.trans z) hb
    ·rw [hbe];exact z
   rw [q] at q';cases q';obtain ⟨v,hv⟩:=heo;exact ⟨v,by rw [hbe];exact hv⟩
  ·refine (ok b u q).stay (λc v hc r=>k c v ?_ r) (λc r=>by rw [qz (nown c b r)];exact r) λc xs r=>by rw [qz (ntup c xs r)];exact r
   rcases hc with rfl|hc
   ·exact hbe
   ·rintro rfl;rcases he with z|z
    ·exact nown c b hc z
    ·rw [hc] at z;cases z;exact hb rfl
end
structure Un (fs ex:List Addr) (H H':Hp) (h h':Heap):Prop where
 keep:∀ b o,h.get? b=some o->H b=none->b∉fs->b∉ex->h'.get? b=some o
 slot:∀ b o,h.get? b=some o->H b=none->b∈fs->b∉ex->∃ sl,h'.get? b=some { o with slots:=sl }
 free:∀ b o,h.get? b=some o->H b=none->b∉ex->H' b=none
 there:∀ b o,h.get? b=some o->b∉ex->∃ o',h'.get? b=some o'
 tups:∀ b xs,H b=some (.tup xs)->H' b=some (.tup xs)
 frzs:∀ b o u,H b=some (.frz o u)->H' b=some (.frz o u)
 tbls:∀ b ps,H b=some (.tbl ps)->∃ more,H' b=some (.tbl (ps++more))
section
variable {fs fs' ex ex':List Addr} {H H1 H2:Hp} {h h1 h2 h':Heap} {a x e:Addr} {o:HO}
def Un.any (u:Un fs ex H H1 h h1) {b:Addr} {ob:Obj} (q:h.get? b=some ob) (n:H b=none) (hx:b∉ex):∃ sl,h1.get? b=some { ob with slots:=sl }:=by
 by_cases hb:b∈fs
 ·exact u.slot b ob q n hb hx
 ·exact ⟨ob.slots,u.keep b ob q n hb hx⟩
def Un.kept (k:∀ b u,h.get? b=some u->h'.get? b=some u):Un fs ex H H h h':=
 ⟨λb ob q _ _ _=>k b ob q,λb ob q _ _ _=>⟨ob.slots,k b ob q⟩,λ_ _ _ n _=>n,λb ob q _=>⟨ob,k b ob q⟩,λ_ _ q=>q,λ_ _ _ q=>q,λ_ ps q=>⟨#[],by rw [q];simp⟩⟩
def Un.refl:Un fs ex H H h h:=Un.kept λ_ _ q=>q
def Un.laid (k:∀ b u,h.get? b=some u->h'.get? b=some u) (hp:h.objs.size<=a) (hn:H a=none):Un fs ex H (upd H a o) h h' where
 keep:=λb u q _ _ _=>k b u q
 slot:=λb u q _ _ _=>⟨u.slots,k b u q⟩
 free:=λb u q n _=>by rw [qz (u7 (v7 (y4 q) hp))];exact n
 there:=λb u q _=>⟨u,k b u q⟩
 tups:=λb xs q=>by rw [qz (qG q hn)];exact q
 frzs:=λb u xs q=>by rw [qz (qG q hn)];exact q
 tbls:=λb ps q=>⟨#[],by rw [qz (qG q hn),q];simp⟩
def Un.write (mu:Mut (H x)) (he:e=x\/H e=some (.own x)) (k:∀ b u,b≠e->h.get? b=some u->h'.get? b=some u) (heo:∃ u,h'.get? e=some u):Un fs ex H (upd H x o) h h':=by
 have hx:∀ b,H b=none->b≠x:=λb n z=>by subst z;rw [n] at mu;exact mu
 have hb:∀ b,H b=none->b≠e:=λb n z=>by
  subst z;rcases he with r|r
  ·exact hx b n r
  ·rw [n] at r;cases r
 have hm:∀ b u,H b=some u->¬ Mut (some u)->b≠x:=λb u q nm z=>by subst z;rw [q] at mu;exact nm mu
 refine ⟨λb u q n _ _=>k b u (hb b n) q,λb u q n _ _=>⟨u.slots,k b u (hb b n) q⟩,λb u q n _=>by rw [qz (hx b n)];exact n,λb u q _=>?_,
  λb xs q=>by rw [qz (hm b _ q λz=>z)];exact q,λb u xs q=>by rw [qz (hm b _ q λz=>z)];exact q,λb ps q=>⟨#[],by rw [qz (hm b _ q λz=>z),q];simp⟩⟩
 by_cases hbe:b=e
 ·subst hbe;exact heo
 ·exact ⟨u,k b u hbe q⟩
end
def trk (h:Heap) (H:Hp):List Addr:=(List.range h.objs.size).filter λa=>(H a).isSome
def qdb (h:Heap) (H:Hp):Heap:=PySem.W.hideAll h (trk h H)
def qa2 (h:Heap) (H:Hp):(qdb h H).objs.size=h.objs.size:=PySem.W.hideAll_size _ _
def qdu {h:Heap} {H:Hp} {b:Addr} {o:Obj} (e:h.get? b=some o) (n:H b=none):(qdb h H).get? b=some o:=
 PySem.W.hideAll_get _ e λhm=>by
  have q:(H b).isSome=true:=(List.mem_filter.mp hm).2;rw [n] at q;simp at q
def qhD {h:Heap} {H:Hp} {b:Addr} {o:Obj} (e:(qdb h H).get? b=some o):h.get? b=some o/\H b=none:=by
 have e':h.get? b=some o:=PySem.W.of_hideAll (trk h H) e;refine ⟨e',?_⟩;cases q:H b with
 |none=>rfl
 |some x=>
  have hm:b∈trk h H:=List.mem_filter.mpr ⟨mem_range.mpr (y4 e'),by simp [q]⟩;have z:(qdb h H).get? b=none:=PySem.W.hideAll_none (trk h H) hm;rw [z] at e;cases e
def qhj (g h:Heap) (L:Addr):List (Addr×Obj):=(List.range h.objs.size).filterMap λa=>if a=L\/(g.get? a).isSome=true then none else (h.get? a).map λo=>(a,o)
def QS (g h:Heap) (L d:Addr):List (Addr×Obj):=(qhj g h L).filter λp=>decide (p.1≠d)
structure Mod (K:Frg) (mg:Str->Option Value) (base:Heap):Prop where
 kin:K.In base
 glob:base.Ns mainGlobals mg
 blt:∃ mb,base.Ns builtinsNs mb/\∀ x:Str,x≠"__name__" -> mb x=bootBuiltins x
 nolimit:base.NoLimit
structure Cx where
 prog:Program
 w:World
 K:PySem.W.Frag
 mg:Str->Option Value
 base:Heap
 A:Around
 N:List Str
 s₀:Shared
 H₀:Hp
 env:Env
 outer:List Env
 stack:List Env
 ex:List Addr
 fn:Str->Bool
 calm:Bool
 pn:List (Addr×Obj)
 xe:Value->Shared->Prop
def frs (l:List Env):List Addr:=l.filterMap (·.frame)
abbrev Cx.fs (X:Cx):List Addr:=frs X.outer
def Vis (sc:Scope) (x:Str):Prop:=sc.names.lookup x=some .local\/sc.names.lookup x=some .cell\/sc.names.lookup x=some .free
def Loc (sc:Scope) (x:Str):Prop:=sc.names.lookup x=some .local\/sc.names.lookup x=some .cell
def qqZ (env:Env) (h:Heap) (m:Str->Option Value) (x:Str) (u:Value):Prop:=
 (env.kindOf x=some .local/\m x=some u)\/((env.kindOf x=some .cell\/env.kindOf x=some .free)/\∃ c,env.cells.lookup x=some c/\h.IsCell c (some u))
structure Cx.Ok (X:Cx):Prop where
 mod:Mod X.K X.mg X.base
 kind:X.env.scope.kind=.function
 glob:X.env.globals=mainGlobals
 blt:X.env.builtins=builtinsNs
 above:X.s₀.heap.objs.size<=X.env.locals
 inj:∀ x y c,X.env.cells.lookup x=some c->X.env.cells.lookup y=some c->x=y
 has:∀ x,(X.env.kindOf x=some .cell\/X.env.kindOf x=some .free)->∃ c,X.env.cells.lookup x=some c
 cab:∀ x c,X.fn x=true->X.env.cells.lookup x=some c->X.s₀.heap.objs.size<=c
 hd:X.calm=true->X.A.handled=none
 frames:X.A.frames=some X.stack
 stk:X.stack=X.outer\/(X.stack=X.env::X.outer/\X.env.frame=some X.env.locals)
 exf:∀ b∈X.ex,b≠X.env.locals/\∀ x c,X.env.cells.lookup x=some c->c≠b
 bs:∀ b o,X.base.get? b=some o->X.s₀.heap.get? b=some o/\X.H₀ b=none
 bsz:X.base.objs.size<=X.s₀.heap.objs.size
 noex:∀ b o,X.base.get? b=some o->b∉X.ex
 exfs:∀ b∈X.ex,b∉X.fs
 funs:X.s₀.heap.FunFrames X.base X.outer
 frf:∀ b∈X.fs,X.H₀ b=none
structure Inv (X:Cx) (pins:List (Addr×Obj)) (σ:List (Option V)) (H:Hp) (s:Shared):Prop where
 ok:X.Ok
 os:s.os=X.s₀.os
 bare:AllBare s.gens
 base:Un X.fs X.ex X.H₀ H X.s₀.heap s.heap
 loc:∃ m,s.heap.Ns X.env.locals m/\∀ (i:Nat) (x:Str) (v:V),X.N[i]?=some x->σ[i]?=some (some v)->Vis X.env.scope x->∃ u,jZ v u/\qqZ X.env s.heap m x u
 cell:∀ x c,X.env.cells.lookup x=some c->∃ v,s.heap.IsCell c v
 free:H X.env.locals=none
 freeC:∀ x c,X.env.cells.lookup x=some c->H c=none
 pin:∀ p∈X.pn++pins,s.heap.get? p.1=some p.2/\H p.1=none/\p.1≠X.env.locals/\p.1∉X.fs/\∀ v,p.2.data≠.cell v
 hok:HOk X.prog X.w H s.heap
 len:σ.length=X.N.length
section
variable {X:Cx} {pins:List (Addr×Obj)} {σ:List (Option V)} {H H':Hp} {s:Shared} {h':Heap}
def Cx.Ok.nofr (ok:X.Ok) {b:Addr} {o:Obj} (e:X.base.get? b=some o):b∉X.fs:=λhb=>by
 have:=(ok.funs.mem hb).1;rw [e] at this;cases this
def Inv.bs (I:Inv X pins σ H s):∀ b o,X.base.get? b=some o->s.heap.get? b=some o/\H b=none:=λb o e=>
 ⟨I.base.keep b o (I.ok.bs b o e).1 (I.ok.bs b o e).2 (I.ok.nofr e) (I.ok.noex b o e),I.base.free b o (I.ok.bs b o e).1 (I.ok.bs b o e).2 (I.ok.noex b o e)⟩
def Inv.bk (I:Inv X pins σ H s):∀ b o,X.base.get? b=some o->s.heap.get? b=some o:=λb o e=>(I.bs b o e).1
def Inv.mod (I:Inv X pins σ H s):Mod X.K X.mg X.base:=I.ok.mod
def Inv.kIn (I:Inv X pins σ H s):X.K.In s.heap:=I.ok.mod.kin.keeps I.bk
def Inv.nolimit (I:Inv X pins σ H s):s.heap.NoLimit:=I.ok.mod.nolimit.keeps I.bk
def Inv.fr (I:Inv X pins σ H s):∃ m,Fr X.base X.env.locals s.heap m:=
 let ⟨m,hn,_⟩:=I.loc
 ⟨m,hn,I.bk,v9 I.ok.bsz I.ok.above⟩
def Inv.lt (I:Inv X pins σ H s):X.env.locals<s.heap.objs.size:=let ⟨_,hn,_⟩:=I.loc;hn.lt
def Inv.sz (I:Inv X pins σ H s):X.s₀.heap.objs.size<=s.heap.objs.size:=v9 I.ok.above (Nat.le_of_lt I.lt)
def Inv.nofs (I:Inv X pins σ H s) {a:Addr} (h:s.heap.objs.size<=a):a∉X.fs:=λhb=>by
 obtain ⟨_,o,ho,_⟩:=I.ok.funs.mem hb;exact absurd (v7 (y4 ho) (v9 I.sz h)) (Nat.lt_irrefl _)
def Inv.cne (I:Inv X pins σ H s):∀ x c,X.env.cells.lookup x=some c->c≠X.env.locals:=λx c e z=>by
 obtain ⟨v,o,ho,hd⟩:=I.cell x c e;obtain ⟨m,⟨o',es,ep,ho',hd',_⟩,_⟩:=I.loc;rw [z,ho'] at ho;cases ho;rw [hd'] at hd;cases hd
def Inv.funs (I:Inv X pins σ H s):s.heap.FunFrames X.base X.outer:=by
 have all:∀ (l:List Env),(∀ b∈frs l,b∈X.fs)->X.s₀.heap.FunFrames X.base l->s.heap.FunFrames X.base l:=by
  intro l;induction l with
  |nil=>intro _ _;trivial
  |cons env r ih=>
   intro hs hl;obtain ⟨hk,⟨L,o,hf,hn,ho,hd⟩,hr⟩:=hl;have hL:L∈X.fs:=hs L (by unfold frs;rw [List.filterMap_cons,hf];exact u9);obtain ⟨sl,e⟩:=I.base.slot L o ho (I.ok.frf L hL) hL λz=>I.ok.exfs L z hL;exact ⟨hk,⟨L,_,hf,hn,e,hd⟩,ih (λb hb=>hs b (by unfold frs;rw [List.filterMap_cons,hf];exact v5 _ hb)) hr⟩
 exact all X.outer (λ_ hb=>hb) I.ok.funs
def Inv.stack (I:Inv X pins σ H s):s.heap.FunFrames X.base X.stack:=by
 rcases I.ok.stk with e|⟨e,hf⟩
 ·rw [e];exact I.funs
 ·rw [e];obtain ⟨m,hn,_⟩:=I.loc;refine .cons (by rw [I.ok.kind];decide) hf hn ?_ I.funs;exact Heap.get?_none_of_le (v9 I.ok.bsz I.ok.above)
def Inv.stkSub (I:Inv X pins σ H s):∀ b∈frs X.stack,b∈X.env.locals::X.fs:=λb hb=>by
 rcases I.ok.stk with e|⟨e,hf⟩
 ·rw [e] at hb;exact v5 _ hb
 ·rw [e] at hb;unfold frs at hb;rw [List.filterMap_cons,hf] at hb;exact hb
def Inv.stkFree (I:Inv X pins σ H s):∀ b∈frs X.stack,H b=none:=λb hb=>by
 rcases mem_cons.mp (I.stkSub b hb) with e|hb
 ·rw [e];exact I.free
 ·obtain ⟨_,o,ho,_⟩:=I.ok.funs.mem hb;exact I.base.free b o ho (I.ok.frf b hb) λz=>I.ok.exfs b z hb
def Inv.step {g':Array GenState} {t':Nat} {d':Drawn} {ch:List Addr} (I:Inv X pins σ H s)
  (hch:∀ b∈ch,(b∈X.ex\/X.s₀.heap.objs.size<=b)/\b≠X.env.locals/\(∀ x c,X.env.cells.lookup x=some c->c≠b)/\∀ p∈X.pn++pins,p.1≠b)
  (keep:∀ b o,b≠X.env.locals->b∉X.fs->b∉ch->s.heap.get? b=some o->H b=none->h'.get? b=some o)
  (slot:∀ b o,b≠X.env.locals->b∈X.fs->b∉ch->s.heap.get? b=some o->H b=none->∃ sl,h'.get? b=some { o with slots:=sl }) (free:∀ b o,b∉ch->s.heap.get? b=some o->H b=none->H' b=none)
  (there:∀ b o,b∉ch->s.heap.get? b=some o->∃ o',h'.get? b=some o')
  (tups:∀ b xs,H b=some (.tup xs)->H' b=some (.tup xs)) (frzs:∀ b o u,H b=some (.frz o u)->H' b=some (.frz o u)) (tbls:∀ b ps,H b=some (.tbl ps)->∃ more,H' b=some (.tbl (ps++more)))
  (ns:∀ m,s.heap.Ns X.env.locals m->h'.Ns X.env.locals m) (hok:HOk X.prog X.w H' h') (hg:AllBare g') :
  Inv X pins σ H' { s with heap:=h',gens:=g',drawn:=d',toks:=t' }:=by
 have neL:∀ b o,X.s₀.heap.get? b=some o->b≠X.env.locals:=λb o e=>u7 (v7 (y4 e) I.ok.above);have neC:∀ b o,X.s₀.heap.get? b=some o->b∉X.ex->b∉ch:=λb o e hx hb=>by
  rcases (hch b hb).1 with z|z
  ·exact hx z
  ·exact absurd (v7 (y4 e) z) (Nat.lt_irrefl _)
 have cellK:∀ x c,X.env.cells.lookup x=some c->∀ v,s.heap.IsCell c v->h'.IsCell c v:=λx c e v ⟨o,ho,hd⟩=>by
  have nch:c∉ch:=λz=>(hch c z).2.2.1 x c e rfl;by_cases hc:c∈X.fs
  ·obtain ⟨sl,q⟩:=slot c o (I.cne x c e) hc nch ho (I.freeC x c e);exact ⟨_,q,hd⟩
  ·exact ⟨o,keep c o (I.cne x c e) hc nch ho (I.freeC x c e),hd⟩
 refine ⟨I.ok,I.os,hg,⟨λb o e n hb hx=>?_,λb o e n hb hx=>?_,λb o e n hx=>?_,λb o e hx=>?_,λb xs e=>tups b xs (I.base.tups b xs e),λb o xs e=>frzs b o xs (I.base.frzs b o xs e),λb ps e=>?_⟩,?_,λx c e=>?_,?_,λx c e=>?_,λp hp=>?_,hok,I.len⟩
 ·exact keep b o (neL b o e) hb (neC b o e hx) (I.base.keep b o e n hb hx) (I.base.free b o e n hx)
 ·obtain ⟨sl,e1⟩:=I.base.slot b o e n hb hx;obtain ⟨sl',e2⟩:=slot b _ (neL b o e) hb (neC b o e hx) e1 (I.base.free b o e n hx);exact ⟨sl',e2⟩
 ·obtain ⟨o',e1⟩:=I.base.there b o e hx;exact free b o' (neC b o e hx) e1 (I.base.free b o e n hx)
 ·obtain ⟨o',e1⟩:=I.base.there b o e hx;exact there b o' (neC b o e hx) e1
 ·obtain ⟨m1,e1⟩:=I.base.tbls b ps e;obtain ⟨m2,e2⟩:=tbls b _ e1;exact ⟨m1++m2,by rw [e2,Array.append_assoc]⟩
 ·obtain ⟨m,hn,hl⟩:=I.loc;refine ⟨m,ns m hn,λi x v e1 e2 e3=>?_⟩;obtain ⟨u,r,l⟩:=hl i x v e1 e2 e3;refine ⟨u,r,?_⟩;rcases l with l|⟨k,c,e,z⟩
  ·exact .inl l
  ·exact .inr ⟨k,c,e,cellK x c e _ z⟩
 ·obtain ⟨v,z⟩:=I.cell x c e;exact ⟨v,cellK x c e v z⟩
 ·obtain ⟨m,⟨o,_,_,ho,_⟩,_⟩:=I.loc;exact free _ o (λz=>(hch _ z).2.1 rfl) ho I.free
 ·obtain ⟨v,o,ho,hd⟩:=I.cell x c e;exact free c o (λz=>(hch c z).2.2.1 x c e rfl) ho (I.freeC x c e)
 ·obtain ⟨e,n,ne,nf,d⟩:=I.pin p hp;have nch:p.1∉ch:=λz=>(hch p.1 z).2.2.2 p hp rfl;exact ⟨keep p.1 p.2 ne nf nch e n,free p.1 p.2 nch e n,ne,nf,d⟩
def Inv.un {t':Nat} (I:Inv X pins σ H s) (u:Un X.fs [] H H' s.heap h') (hok:HOk X.prog X.w H' h'):Inv X pins σ H' { s with heap:=h',toks:=t' }:=by
 obtain ⟨m,⟨o,es,ep,ho,r⟩,_⟩:=id I.loc;obtain ⟨sl,hL⟩:=u.any ho I.free (by simp);exact I.step (g':=s.gens) (d':=s.drawn) (ch:=[]) (λ_ z=>nomatch z) (λb o _ hb _ e n=>u.keep b o e n hb (by simp)) (λb o _ hb _ e n=>u.slot b o e n hb (by simp)) (λb o _ e n=>u.free b o e n (by simp)) (λb o _ e=>u.there b o e (by simp)) u.tups u.frzs u.tbls (λm' hm=>by
  obtain ⟨o',es',ep',ho',r'⟩:=hm;rw [ho] at ho';cases ho';exact ⟨_,es',ep',hL,r'⟩) hok I.bare
def Inv.call {g':Array GenState} {t':Nat} {d':Drawn} {ch:List Addr} (I:Inv X pins σ H s) (u:Un (frs X.stack) ch H H' s.heap h') (hok:HOk X.prog X.w H' h') (hg:AllBare g')
  (hch:∀ b∈ch,(b∈X.ex\/X.s₀.heap.objs.size<=b)/\b≠X.env.locals/\(∀ x c,X.env.cells.lookup x=some c->c≠b)/\∀ p∈X.pn++pins,p.1≠b) :
  Inv X pins σ H' { s with heap:=h',gens:=g',drawn:=d',toks:=t' }:=by
 obtain ⟨m,⟨o,es,ep,ho,r⟩,_⟩:=id I.loc;obtain ⟨sl,hL⟩:=u.any ho I.free λz=>(hch _ z).2.1 rfl;exact I.step (ch:=ch) hch (λb o hL hb hc e n=>u.keep b o e n (λz=>(mem_cons.mp (I.stkSub b z)).elim hL hb) hc) (λb o _ _ hc e n=>u.any e n hc) (λb o hc e n=>u.free b o e n hc) (λb o hc e=>u.there b o e hc) u.tups u.frzs u.tbls (λm' hm=>by
  obtain ⟨o',es',ep',ho',r'⟩:=hm;rw [ho] at ho';cases ho';exact ⟨_,es',ep',hL,r'⟩) hok hg
def Inv.turned {t':Nat} {it:Addr} (I:Inv X pins σ H s) (k:∀ b o,b≠it->s.heap.get? b=some o->h'.get? b=some o) (hn:H it=none) (hL:it≠X.env.locals)
  (h1:it∈X.ex\/X.s₀.heap.objs.size<=it) (h2:∀ x c,X.env.cells.lookup x=some c->c≠it) (h3:∀ p∈X.pn++pins,p.1≠it):Inv X pins σ H { s with heap:=h',toks:=t' }:=by
 have nit:∀ b u,H b=some u->b≠it:=λb u e z=>by rw [z,hn] at e;cases e
 refine I.step (g':=s.gens) (d':=s.drawn) (ch:=[it]) (λb hb=>?_) (λb o _ _ hc e _=>k b o (λz=>hc (by simp [z])) e) (λb o _ _ hc e _=>⟨o.slots,k b o (λz=>hc (by simp [z])) e⟩) (λ_ _ _ _ n=>n)
  (λb o hc e=>⟨o,k b o (λz=>hc (by simp [z])) e⟩) (λ_ _ e=>e) (λ_ _ _ e=>e) (λb ps e=>⟨#[],by rw [e];simp⟩) (λm hm=>?_) (λb u e=>?_) I.bare
 ·have e:b=it:=by simpa using hb
  subst e;exact ⟨h1,hL,h2,h3⟩
 ·obtain ⟨o,es,ep,ho,r⟩:=hm;exact ⟨o,es,ep,k _ o (Ne.symm hL) ho,r⟩
 ·refine (I.hok b u e).stay (λc v hc q=>k c v ?_ q) (λ_ q=>q) λ_ _ q=>q;rcases hc with z|z
  ·rw [z];exact nit b u e
  ·exact nit c _ z
def Inv.tok (I:Inv X pins σ H s) (t:Nat):Inv X pins σ H { s with toks:=t }:=I.un (h':=s.heap) (t':=t) Un.refl I.hok
def Inv.kept {t':Nat} (I:Inv X pins σ H s) (k:∀ b u,s.heap.get? b=some u->h'.get? b=some u):Inv X pins σ H { s with heap:=h',toks:=t' }:=I.un (Un.kept k) (I.hok.kept k)
def Inv.laid {a:Addr} {o:HO} {t':Nat} (I:Inv X pins σ H s) (k:∀ b u,s.heap.get? b=some u->h'.get? b=some u) (hp:s.heap.objs.size<=a) (new:JW X.prog X.w (upd H a o) h' a o) :
  Inv X pins σ (upd H a o) { s with heap:=h',toks:=t' }:=I.un (Un.laid k hp (I.hok.fresh hp)) (I.hok.laid k hp new)
def Inv.write {x e:Addr} {o:HO} {t':Nat} (I:Inv X pins σ H s) (mu:Mut (H x)) (he:e=x\/H e=some (.own x)) (k:∀ b u,b≠e->s.heap.get? b=some u->h'.get? b=some u) (heo:∃ u,h'.get? e=some u)
  (new:JW X.prog X.w (upd H x o) h' x o):Inv X pins σ (upd H x o) { s with heap:=h',toks:=t' }:=I.un (Un.write mu he k heo) (I.hok.write mu he k heo new)
def Inv.pins_of {pins':List (Addr×Obj)} (I:Inv X pins σ H s) (h:∀ p∈pins',s.heap.get? p.1=some p.2/\H p.1=none/\p.1≠X.env.locals/\p.1∉X.fs/\∀ v,p.2.data≠.cell v):Inv X pins' σ H s:=
 ⟨I.ok,I.os,I.bare,I.base,I.loc,I.cell,I.free,I.freeC,λp hp=>(List.mem_append.mp hp).elim (λz=>I.pin p (List.mem_append_left _ z)) (h p),I.hok,I.len⟩
def M6 {N:List Str} (hN:N.Nodup) {i j:Nat} {x:Str} (a:N[i]?=some x) (b:N[j]?=some x):i=j:=by
 obtain ⟨h1,e1⟩:=za4 a;obtain ⟨h2,e2⟩:=za4 b;exact (List.getElem_inj hN).mp (e1.trans e2.symm)
def K4 {M:Model} {A:Around} {E:Value->Shared->Prop} {i:Nat} {x:Str} {v:V} {u:Value} {Q:Unit->Shared->Prop} (I:Inv X pins σ H s) (hN:X.N.Nodup) (hi:X.N[i]?=some x) (hx:Loc X.env.scope x) (r:jZ v u)
  (h:∀ s',Inv X pins (σ.set i (some v)) H s'->(∃ a,Heap.SameBut a s.heap s'.heap/\(a=X.env.locals\/X.env.cells.lookup x=some a))->Q () s') (hf:X.fn x=true\/X.env.scope.names.lookup x=some .local:=by first|exact .inl rfl|exact .inr rfl|assumption):wpAny M A (storeName X.env x u) Q E s:=by
 obtain ⟨m,hn,hl⟩:=id I.loc;have hcls:(X.env.scope.kind==.class||(X.env.scope.kind==.module&&X.env.locals != X.env.globals))=false:=by rw [I.ok.kind];rfl
 have hiσ:i<σ.length:=by rw [I.len];exact (za4 hi).1
 have cne:=I.cne;have tracked:∀ {a:Addr} {h':Heap},(∃ o,s.heap.get? a=some o/\H a=none)->Heap.SameBut a s.heap h'->HOk X.prog X.w H h':=λ{a h'} ha hs b ob e=>by
  obtain ⟨_,_,hfree⟩:=ha;refine (I.hok b ob e).stay (λc w' hc q=>(hs.2 c ?_).trans q) (λ_ q=>q) λ_ _ q=>q;rintro rfl;rcases hc with rfl|hc
  ·rw [hfree] at e;cases e
  ·rw [hfree] at hc;cases hc
 rcases hx with hk|hk
 ·refine wpAny_storeName_local hk hn (λh' hn' hs=>?_) hcls;obtain ⟨oL,_,_,hoL,_⟩:=id hn;refine h _ ⟨I.ok,I.os,I.bare,⟨λb o e n hb hx=>?_,λb o e n hb hx=>?_,I.base.free,λb o e hx=>?_,I.base.tups,I.base.frzs,I.base.tbls⟩,⟨_,hn',λj y v' e1 e2 e3=>?_⟩,λy c e=>?_,I.free,I.freeC,λp hp=>?_,tracked ⟨oL,hoL,I.free⟩ hs,by simpa using I.len⟩ ⟨_,hs,.inl rfl⟩
  ·exact (hs.2 b (u7 (v7 (y4 e) I.ok.above))).trans (I.base.keep b o e n hb hx)
  ·obtain ⟨sl,e1⟩:=I.base.slot b o e n hb hx;exact ⟨sl,(hs.2 b (u7 (v7 (y4 e) I.ok.above))).trans e1⟩
  ·obtain ⟨o',e1⟩:=I.base.there b o e hx;exact ⟨o',(hs.2 b (u7 (v7 (y4 e) I.ok.above))).trans e1⟩
  ·by_cases hj:j=i
   ·subst hj;rw [hi] at e1;cases e1;rw [List.getElem?_set_self hiσ] at e2;cases e2;exact ⟨u,r,.inl ⟨hk,by simp⟩⟩
   ·rw [List.getElem?_set_ne (Ne.symm hj)] at e2;obtain ⟨u',r',q⟩:=hl j y v' e1 e2 e3;refine ⟨u',r',?_⟩;rcases q with ⟨k,e⟩|⟨k,c,e,z⟩
    ·refine .inl ⟨k,?_⟩;have:y≠x:=λe=>hj (M6 hN e1 (e▸hi));simp [this,e]
    ·exact .inr ⟨k,c,e,z.sameBut hs (cne y c e)⟩
  ·obtain ⟨w',z⟩:=I.cell y c e;exact ⟨w',z.sameBut hs (cne y c e)⟩
  ·obtain ⟨e,n,ne,nf,d⟩:=I.pin p hp;exact ⟨(hs.2 p.1 ne).trans e,n,ne,nf,d⟩
 ·have hfn:X.fn x=true:=by
   rcases hf with z|z
   ·exact z
   ·rw [z] at hk;cases hk
  obtain ⟨c,hc⟩:=I.ok.has x (.inl hk);obtain ⟨w',z⟩:=I.cell x c hc;refine wpAny_storeName_cell I.ok.kind hk hc z (λh' hc' hs=>?_);obtain ⟨oc,hoc,hocd⟩:=id z;refine h { s with heap:=h' } ⟨I.ok,I.os,I.bare,⟨λb o e n hb hx=>?_,λb o e n hb hx=>?_,I.base.free,λb o e hx=>?_,I.base.tups,I.base.frzs,I.base.tbls⟩,⟨m,hn.sameBut hs (Ne.symm (cne x c hc)),λj y v' e1 e2 e3=>?_⟩,λy c' e=>?_,I.free,I.freeC,λp hp=>?_,tracked ⟨oc,hoc,I.freeC x c hc⟩ hs,by simpa using I.len⟩ ⟨c,hs,.inr hc⟩
  ·exact (hs.2 b (u7 (v7 (y4 e) (I.ok.cab x c hfn hc)))).trans (I.base.keep b o e n hb hx)
  ·obtain ⟨sl,e1⟩:=I.base.slot b o e n hb hx;exact ⟨sl,(hs.2 b (u7 (v7 (y4 e) (I.ok.cab x c hfn hc)))).trans e1⟩
  ·obtain ⟨o',e1⟩:=I.base.there b o e hx;exact ⟨o',(hs.2 b (u7 (v7 (y4 e) (I.ok.cab x c hfn hc)))).trans e1⟩
  ·by_cases hj:j=i
   ·subst hj;rw [hi] at e1;cases e1;rw [List.getElem?_set_self hiσ] at e2;cases e2;exact ⟨u,r,.inr ⟨.inl hk,c,hc,hc'⟩⟩
   ·rw [List.getElem?_set_ne (Ne.symm hj)] at e2;obtain ⟨u',r',q⟩:=hl j y v' e1 e2 e3;refine ⟨u',r',?_⟩;rcases q with q|⟨k,c',e,z'⟩
    ·exact .inl q
    ·refine .inr ⟨k,c',e,z'.sameBut hs ?_⟩;rintro rfl;exact hj (M6 hN e1 (I.ok.inj _ _ _ e hc▸hi))
  ·by_cases hcc:c'=c
   ·subst hcc;exact ⟨_,hc'⟩
   ·obtain ⟨w2,z2⟩:=I.cell y c' e;exact ⟨w2,z2.sameBut hs hcc⟩
  ·obtain ⟨e,n,ne,nf,d⟩:=I.pin p hp;refine ⟨(hs.2 p.1 ?_).trans e,n,ne,nf,d⟩;intro q;rw [q,hoc] at e;have q':oc=p.2:=Option.some.inj e;exact d w' (by rw [← q'];exact hocd)
def UE {M:Model} {A:Around} {E:Value->Shared->Prop} {i:Nat} {x:Str} {v:V} {u:Value} {Q:Unit->Shared->Prop} (I:Inv X pins σ H s) (hN:X.N.Nodup) (hi:X.N[i]?=some x) (hx:Loc X.env.scope x) (r:jZ v u)
  (h:∀ s',Inv X pins (σ.set i (some v)) H s'->Q () s') (hf:X.fn x=true\/X.env.scope.names.lookup x=some .local:=by first|exact .inl rfl|exact .inr rfl|assumption):wpAny M A (storeName X.env x u) Q E s:=
 K4 I hN hi hx r (λs' I' _=>h s' I') hf
def Inv.call' {s':Shared} {ch:List Addr} (I:Inv X pins σ H s) (ho:s'.os=s.os) (u:Un (frs X.stack) ch H H' s.heap s'.heap) (hok:HOk X.prog X.w H' s'.heap) (hg:AllBare s'.gens)
  (hch:∀ b∈ch,(b∈X.ex\/X.s₀.heap.objs.size<=b)/\b≠X.env.locals/\(∀ x c,X.env.cells.lookup x=some c->c≠b)/\∀ p∈X.pn++pins,p.1≠b):Inv X pins σ H' s':=by
 obtain ⟨h',g',d',t',o'⟩:=s';have e:o'=s.os:=ho;subst e;exact I.call (g':=g') (t':=t') (d':=d') u hok hg hch
end
abbrev XK:=Value->Option Addr->Hp->Prop
abbrev St:=List (Option V)
abbrev VK:=V->Hp->Prop
abbrev TE:=St->Hp->VK->Prop
abbrev TT:=St->Hp->(Bool->Hp->Prop)->Prop
abbrev TA:=St->Hp->(List V->Hp->Prop)->Prop
structure Ends where
 nx:St->Hp->Prop
 rt:VK
 bk:St->Hp->Prop:=λ_ _=>False
 ct:St->Hp->Prop:=λ_ _=>False
abbrev TS:=Ends->St->Hp->Prop
def EP (X:Cx) (pins:List (Addr×Obj)) (σ:St) (Q:VK) (u:Value) (s':Shared):Prop:=∃ v H',Inv X pins σ H' s'/\jZ v u/\Q v H'
def TP (X:Cx) (pins:List (Addr×Obj)) (σ:St) (Q:Bool->Hp->Prop) (b:Bool) (s':Shared):Prop:=∃ H',Inv X pins σ H' s'/\Q b H'
def AP (X:Cx) (pins:List (Addr×Obj)) (σ:St) (Q:List V->Hp->Prop) (us:List Value) (s':Shared):Prop:=∃ vs H',Inv X pins σ H' s'/\jj vs us/\Q vs H'
def SP (X:Cx) (pins:List (Addr×Obj)) (D:Ends) (f:Flow) (s':Shared):Prop:=
 match f with
 |.next=>∃ σ' H',Inv X pins σ' H' s'/\D.nx σ' H'
 |.brk=>∃ σ' H',Inv X pins σ' H' s'/\D.bk σ' H'
 |.cont=>∃ σ' H',Inv X pins σ' H' s'/\D.ct σ' H'
 |.ret u=>∃ v σ' H',Inv X pins σ' H' s'/\jZ v u/\D.rt v H'
def PE (X:Cx) (e:Expr) (t:TE):Prop:=
 ∀ (pins:List (Addr×Obj)) (s:Shared) (σ:St) (H:Hp) (Q:VK),Inv X pins σ H s->t σ H Q->wpAny (model X.prog X.w) X.A (eval e X.env) (EP X pins σ Q) X.xe s
def PT (X:Cx) (e:Expr) (t:TT):Prop:=
 ∀ (pins:List (Addr×Obj)) (s:Shared) (σ:St) (H:Hp) (Q:Bool->Hp->Prop),Inv X pins σ H s->t σ H Q->wpAny (model X.prog X.w) X.A (isTrue e X.env (eval e X.env)) (TP X pins σ Q) X.xe s
def PW (X:Cx) (e:Expr) (t:TT):Prop:=
 ∀ (whole:Sem Value) (pins:List (Addr×Obj)) (s:Shared) (σ:St) (H:Hp) (Q:Bool->Hp->Prop),Inv X pins σ H s->t σ H Q->wpAny (model X.prog X.w) X.A (isTrue e X.env whole) (TP X pins σ Q) X.xe s
def PW.pt {X:Cx} {e:Expr} {t:TT} (h:PW X e t):PT X e t:=h _
def PA (X:Cx) (es:List Expr) (t:TA):Prop:=
 ∀ (pos:Pos) (pins:List (Addr×Obj)) (s:Shared) (σ:St) (H:Hp) (Q:List V->Hp->Prop),Inv X pins σ H s->t σ H Q->wpAny (model X.prog X.w) X.A (spliced (backTo pos (starEach es X.env))) (AP X pins σ Q) X.xe s
def PS (X:Cx) (st:Stmt) (t:TS):Prop:=
 ∀ (pins:List (Addr×Obj)) (s:Shared) (σ:St) (H:Hp) (D:Ends),Inv X pins σ H s->t D σ H->wpAny (model X.prog X.w) X.A (exec st X.env) (SP X pins D) X.xe s
def PSs (X:Cx) (st:List Stmt) (t:TS):Prop:=
 ∀ (pins:List (Addr×Obj)) (s:Shared) (σ:St) (H:Hp) (D:Ends),Inv X pins σ H s->t D σ H->wpAny (model X.prog X.w) X.A (execs st X.env) (SP X pins D) X.xe s
def thn {α:Type} {t:Sem α} {Q Q':α->Shared->Prop} {M:Model} {A:Around} {E:Value->Shared->Prop} {s:Shared} (h:wpAny M A t Q E s) (hQ:∀ a s,Q a s->Q' a s):wpAny M A t Q' E s:=x8 h hQ λ_ _ x=>x
section
variable {X:Cx}
def qrM (i:Nat):TE:=λσ H Q=>∃ v,σ[i]?=some (some v)/\Q v H
def tC (v:V):TE:=λ_ H Q=>Q v H
def qmc {i:Nat} {x:Str} {pos:Pos} (hN:X.N[i]?=some x) (hv:Vis X.env.scope x) (hd:(x==("__debug__" : Str))=false:=by decide) (hcd:(x==("__classdict__" : Str))=false:=by decide):PE X (.Name x pos) (qrM i):=by
 intro pins s σ H Q I h;obtain ⟨v,e,h⟩:=h;obtain ⟨m,hn,hl⟩:=I.loc;obtain ⟨u,r,l⟩:=hl i x v hN e hv;have fin:EP X pins σ Q u s:=⟨v,H,I,r,h⟩
 rcases l with ⟨hk,hm⟩|⟨hk,c,hc,hcell⟩
 ·exact wpAny_Name (wpAny_loadName_local I.ok.kind hk hn hm fin) hd
 ·rcases hk with hk|hk
  ·exact wpAny_Name (wpAny_loadName_cell I.ok.kind hk hc hcell fin) hd
  ·exact wpAny_Name (wpAny_loadName_free I.ok.kind hk hc hcell fin hcd) hd
def qly {i j pos}:PE X (.Constant (.int i) j pos) (tC (.int i)):=λ_ _ _ H _ I h=>wpAny_Constant_int ⟨.int i,H,I.tok _,⟨_,rfl⟩,h⟩
def qoD {b j pos}:PE X (.Constant (.bool b) j pos) (tC (.bl b)):=λ_ _ _ H _ I h=>Constant_bool ⟨.bl b,H,I,rfl,h⟩
def qnJ {j pos}:PE X (.Constant .none j pos) (tC .non):=λ_ _ _ H _ I h=>Constant_none ⟨.non,H,I,rfl,h⟩
def qj6 {x j pos}:PE X (.Constant (.str x) j pos) (tC (.str x)):=λ_ _ _ H _ I h=>Calls.Constant_str ⟨.str x,H,I.tok _,⟨_,rfl⟩,h⟩
def Gl (X:Cx) (x:Str):Prop:=X.env.kindOf x=some .globalImplicit
def CB {E:Value->Shared->Prop} {pins:List (Addr×Obj)} {s:Shared} {σ:St} {H:Hp} {x:Str} {u:Value} {pos:Pos} {Q:Value->Shared->Prop} (I:Inv X pins σ H s) (hg:Gl X x) (hm:X.mg x=some u) (h:Q u s)
  (hd:(x==("__debug__" : Str))=false:=by decide):wpAny (model X.prog X.w) X.A (eval (.Name x pos) X.env) Q E s:=
 Calls.Name_function_global I.ok.kind hg (Calls.loadGlobal_global (by rw [I.ok.glob];exact I.mod.glob.keeps I.bk) hm h) hd
def CK {E:Value->Shared->Prop} {pins:List (Addr×Obj)} {s:Shared} {σ:St} {H:Hp} {x:Str} {u:Value} {pos:Pos} {Q:Value->Shared->Prop} (I:Inv X pins σ H s) (hg:Gl X x) (hm:X.mg x=none) (hv:bootBuiltins x=some u) (h:Q u s)
  (hn:x≠"__name__" := by decide) (hd:(x==("__debug__" : Str))=false:=by decide):wpAny (model X.prog X.w) X.A (eval (.Name x pos) X.env) Q E s:=by
 obtain ⟨mb,h1,h2⟩:=I.mod.blt;exact Calls.Name_function_global I.ok.kind hg (Calls.loadGlobal_builtin (by rw [I.ok.glob];exact I.mod.glob.keeps I.bk) hm (by rw [I.ok.blt];exact h1.keeps I.bk) ((h2 x hn).trans hv) h) hd
def qg7 {x:Str} {v:V} {u:Value} {pos:Pos} (hg:Gl X x) (hm:X.mg x=some u) (r:jZ v u) (hd:(x==("__debug__" : Str))=false:=by decide):PE X (.Name x pos) (tC v):=
 λ_ _ _ H _ I h=>CB I hg hm ⟨v,H,I,r,h⟩ hd
def T1 {x:Str} {v:V} {u:Value} {pos:Pos} (hg:Gl X x) (hm:X.mg x=none) (hv:bootBuiltins x=some u) (r:jZ v u) (hn:x≠"__name__" := by decide) (hd:(x==("__debug__" : Str))=false:=by decide):PE X (.Name x pos) (tC v):=
 λ_ _ _ H _ I h=>CK I hg hm hv ⟨v,H,I,r,h⟩ hn hd
variable {a b:Expr} {ta tb:TE} {pos:Pos}
def tB (t:TE):TT:=λσ H Q=>t σ H λx H1=>∃ c,x=.bl c/\Q c H1
def qkl {e:Expr} {t:TE} (h:PE X e t) (he:∀ whole,isTrue e X.env whole=(do let v←whole;standAt e.pos;holding [v] (truthy v)):=by intro _;rfl):PT X e (tB t):=by
 intro pins s σ H Q I hw;refine isTrue_plain (thn (h pins s σ H _ I hw) λv s1 ⟨x,H1,I1,r1,q1⟩=>?_) (he _);obtain ⟨d,rfl,q⟩:=q1;cases r1;exact wpAny_truthy_bool ⟨H1,I1,q⟩
variable {tA tB':TT} {QS:List Expr}
def tOr (t u:TT):TT:=λσ H Q=>t σ H λc H1=>if c=true then Q true H1 else u σ H1 Q
def qq9 (t:TT):TT:=λσ H Q=>t σ H λc H1=>Q (!c) H1
def qkZ (ha:PT X a tA):PW X (.BoolOp .Or [a] pos) tA:=by
 intro wh pins s σ H Q I h;refine isTrue_or (thn (ha pins s σ H Q I h) λc s1 e=>?_);cases c with
 |false=>exact isTrue_or_nil e
 |true=>exact e
def qpz (ha:PT X a tA) (hb:PW X (.BoolOp .Or (b::QS) pos) tB'):PW X (.BoolOp .Or (a::b::QS) pos) (tOr tA tB'):=by
 intro wh pins s σ H Q I h;refine isTrue_or (thn (ha pins s σ H _ I h) λc s1 ⟨H1,I1,q1⟩=>?_);cases c with
 |true=>exact ⟨H1,I1,q1⟩
 |false=>exact hb wh pins s1 σ H1 Q I1 q1
def qmr (ha:PT X a tA):PT X (.UnaryOp .Not a pos) (qq9 tA):=by
 intro pins s σ H Q I h;exact isTrue_not (ha pins s σ H (λc H1=>Q (!c) H1) I h)
def qph (ta tb:TE):TE:=λσ H Q=>ta σ H λx H1=>∃ c,x=.bl c/\if c=true then tb σ H1 Q else Q (.bl false) H1
def qrm (ta tb:TE):TE:=λσ H Q=>ta σ H λx H1=>∃ c,x=.bl c/\if c=true then Q (.bl true) H1 else tb σ H1 Q
def qor (ta:TE):TE:=λσ H Q=>ta σ H λx H1=>∃ c,x=.bl c/\Q (.bl (!c)) H1
def ql3 {op} {t:TE} (h:PE X a t):PE X (.BoolOp op [a] pos) t:=λpins s σ H Q I hw=>BoolOp_one (h pins s σ H Q I hw)
def qjS (ha:PE X a ta) (hb:PE X (.BoolOp .And (b::QS) pos) tb):PE X (.BoolOp .And (a::b::QS) pos) (qph ta tb):=by
 intro pins s σ H Q I h;refine BoolOp_and (thn (ha pins s σ H _ I h) λv s1 ⟨x,H1,I1,r1,q1⟩=>?_);obtain ⟨c,rfl,q1⟩:=q1;cases r1;refine wpAny_truthy_bool ?_;cases c with
 |true=>exact hb pins s1 σ H1 Q I1 q1
 |false=>exact ⟨.bl false,H1,I1,rfl,q1⟩
def qpf (ha:PE X a ta) (hb:PE X (.BoolOp .Or (b::QS) pos) tb):PE X (.BoolOp .Or (a::b::QS) pos) (qrm ta tb):=by
 intro pins s σ H Q I h;refine BoolOp_or (thn (ha pins s σ H _ I h) λv s1 ⟨x,H1,I1,r1,q1⟩=>?_);obtain ⟨c,rfl,q1⟩:=q1;cases r1;refine wpAny_truthy_bool ?_;cases c with
 |false=>exact hb pins s1 σ H1 Q I1 q1
 |true=>exact ⟨.bl true,H1,I1,rfl,q1⟩
def ql9 (ha:PE X a ta):PE X (.UnaryOp .Not a pos) (qor ta):=by
 intro pins s σ H Q I h;refine UnaryOp_ (thn (ha pins s σ H _ I h) λv s1 ⟨x,H1,I1,r1,q1⟩=>?_);obtain ⟨c,rfl,q1⟩:=q1;cases r1;exact not_of (wpAny_truthy_bool ⟨.bl (!c),H1,I1,rfl,q1⟩)
def tIf (t:TT) (ta tb:TE):TE:=λσ H Q=>t σ H λc H1=>if c=true then ta σ H1 Q else tb σ H1 Q
def qdC {c:Expr} (hc:PT X c tA) (ha:PE X a ta) (hb:PE X b tb):PE X (.IfExp c a b pos) (tIf tA ta tb):=by
 intro pins s σ H Q I h;refine wpAny_IfExp (thn (hc pins s σ H _ I h) λd s1 ⟨H1,I1,q1⟩=>?_);cases d with
 |true=>exact ha pins s1 σ H1 Q I1 q1
 |false=>exact hb pins s1 σ H1 Q I1 q1
end
def SqL (K:Frg) (H:Hp) (a:Addr) (xs:List V):Prop:=
 Rd H a (.lst xs) ∨
  ∃ (o:Obj) (its:Array Value) (n:Nat),K.lookup a=some o/\o.cls=.type "list"/\o.dict=none/\o.data=.seq its n/\its.size<=sizeLine/\jj xs its.toList
def SqT (K:Frg) (H:Hp) (a:Addr) (xs:List V):Prop:=
 Rd H a (.tup xs) ∨
  ∃ (o:Obj) (its:Array Value) (n:Nat),K.lookup a=some o/\o.cls=.type "tuple"/\o.data=.seq its n/\its.size<=sizeLine/\jj xs its.toList/\o.dict=none
def qq8:Value->Option V
 |.none=>some .non
 |.bool b=>some (.bl b)
 |.int i _=>some (.int i)
 |.str x _=>some (.str x)
 |.bytes b _=>some (.byt b)
 |.float b _=>some (.flt b)
 |.ref a=>some (.ref a)
 |.type n=>some (.ty n)
 |_=>none
def jZ.abs {x:V} {u:Value} (r:jZ x u):qq8 u=some x:=by
 cases x with
 |non=>cases r;rfl
 |bl _=>cases r;rfl
 |int _=>obtain ⟨t,rfl⟩:=r;rfl
 |str _=>obtain ⟨t,rfl⟩:=r;rfl
 |byt _=>obtain ⟨t,rfl⟩:=r;rfl
 |flt _=>obtain ⟨t,rfl⟩:=r;rfl
 |ref _=>cases r;rfl
 |ty _=>cases r;rfl
def jZ.inj {x y:V} {u:Value} (r:jZ x u) (q:jZ y u):x=y:=Option.some.inj (r.abs.symm.trans q.abs)
def jj.inj:∀ {xs ys:List V} {us:List Value},jj xs us->jj ys us->xs=ys
 |_,_,_,.nil,.nil=>rfl
 |_,_,_,.cons r t,.cons r' t'=>by rw [r.inj r',jj.inj t t']
section
variable {X:Cx} {pins:List (Addr×Obj)} {σ:St} {H:Hp} {s:Shared} {a:Addr} {xs ys:List V}
def SqL.of {K:Frg} (h:H a=some (.lst xs)):SqL K H a xs:=.inl (.inl h)
def SqT.of {K:Frg} (h:H a=some (.tup xs)):SqT K H a xs:=.inl (.inl h)
def Inv.list (I:Inv X pins σ H s) (h:SqL X.K H a xs):∃ its:List Value,jj xs its/\PlainL s.heap a its.toArray/\xs.length<=sizeLine:=by
 rcases h with h|⟨o,its,n,hk,hc,hd,hs,hz,r⟩
 ·obtain ⟨z,its,n,r,e⟩:=h.ok I.hok;exact ⟨its,r,⟨_,n,e,rfl,rfl,rfl⟩,z⟩
 ·refine ⟨its.toList,r,⟨o,n,I.kIn a o hk,hc,hd,by simpa using hs⟩,?_⟩;have e:=r.length;simp only [Array.length_toList] at e;omega
def Inv.tuple (I:Inv X pins σ H s) (h:SqT X.K H a xs):∃ its:List Value,jj xs its/\IsTup s.heap a its.toArray/\xs.length<=sizeLine:=by
 rcases h with h|⟨o,its,n,hk,hc,hs,hz,r,_⟩
 ·obtain ⟨z,its,r,p⟩:=h.ok I.hok;exact ⟨its,r,p.tup,z⟩
 ·refine ⟨its.toList,r,⟨o,I.kIn a o hk,hc,n,by simpa using hs⟩,?_⟩;have e:=r.length;simp only [Array.length_toList] at e;omega
def Inv.list_inj (I:Inv X pins σ H s) (h:SqL X.K H a xs) (h':SqL X.K H a ys):xs=ys:=by
 obtain ⟨its,r,⟨o,n,e,_,_,d⟩,_⟩:=I.list h;obtain ⟨its',r',⟨o',n',e',_,_,d'⟩,_⟩:=I.list h';rw [e] at e';cases e';rw [d] at d';injection d' with d1 _;have:its=its':=by simpa using congrArg Array.toList d1
 subst this;exact r.inj r'
def Inv.tuple_inj (I:Inv X pins σ H s) (h:SqT X.K H a xs) (h':SqT X.K H a ys):xs=ys:=by
 obtain ⟨its,r,⟨o,e,_,n,d⟩,_⟩:=I.tuple h;obtain ⟨its',r',⟨o',e',_,n',d'⟩,_⟩:=I.tuple h';rw [e] at e';cases e';rw [d] at d';injection d' with d1 _;have:its=its':=by simpa using congrArg Array.toList d1
 subst this;exact r.inj r'
end
abbrev Cx.wish (X:Cx) (E:Value->Shared->Prop):Cx:={ X with xe:=E }
abbrev Cx.nox (X:Cx):Cx:=X.wish λ_ _=>False
def Cx.Ok.wish {X:Cx} (ok:X.Ok) (E:Value->Shared->Prop):(X.wish E).Ok:=
 ⟨ok.mod,ok.kind,ok.glob,ok.blt,ok.above,ok.inj,ok.has,ok.cab,ok.hd,ok.frames,ok.stk,ok.exf,ok.bs,ok.bsz,ok.noex,ok.exfs,ok.funs,ok.frf⟩
def Cx.Ok.unwish {X:Cx} {E:Value->Shared->Prop} (ok:(X.wish E).Ok):X.Ok:=
 ⟨ok.mod,ok.kind,ok.glob,ok.blt,ok.above,ok.inj,ok.has,ok.cab,ok.hd,ok.frames,ok.stk,ok.exf,ok.bs,ok.bsz,ok.noex,ok.exfs,ok.funs,ok.frf⟩
section
variable {X:Cx} {pins:List (Addr×Obj)} {σ:St} {H:Hp} {s:Shared} {E:Value->Shared->Prop}
def Inv.wish (I:Inv X pins σ H s) (E:Value->Shared->Prop):Inv (X.wish E) pins σ H s:=⟨I.ok.wish E,I.os,I.bare,I.base,I.loc,I.cell,I.free,I.freeC,I.pin,I.hok,I.len⟩
def Inv.unwish (I:Inv (X.wish E) pins σ H s):Inv X pins σ H s:=⟨I.ok.unwish,I.os,I.bare,I.base,I.loc,I.cell,I.free,I.freeC,I.pin,I.hok,I.len⟩
def SP.unwish {D:Ends} {f:Flow} {s':Shared} (h:SP (X.wish E) pins D f s'):SP X pins D f s':=by
 cases f with
 |next=>obtain ⟨σ',H',I,q⟩:=h;exact ⟨σ',H',I.unwish,q⟩
 |brk=>obtain ⟨σ',H',I,q⟩:=h;exact ⟨σ',H',I.unwish,q⟩
 |cont=>obtain ⟨σ',H',I,q⟩:=h;exact ⟨σ',H',I.unwish,q⟩
 |ret u=>obtain ⟨v,σ',H',I,r,q⟩:=h;exact ⟨v,σ',H',I.unwish,r,q⟩
def PSs.nox {st:List Stmt} {t:TS} (h:PSs X.nox st t):PSs X st t:=λpins s σ H D I hw=>
 x8 (h pins s σ H D (I.wish _) hw) (λ_ _ q=>q.unwish) λ_ _ z=>False.elim z
end
section
variable {X:Cx} {st:Stmt} {QS:List Stmt} {t u:TS} {e:Expr} {te:TE} {pos:Pos}
def qp1:TS:=λD σ H=>D.nx σ H
def qrd (t u:TS):TS:=λD σ H=>t { D with nx:=u D } σ H
def qgN:PSs X [] qp1:=λ_ _ σ H _ I h=>wpAny_execs_nil ⟨σ,H,I,h⟩
def qea (h1:PS X st t) (h2:PSs X QS u):PSs X (st::QS) (qrd t u):=by
 intro pins s σ H D I h;refine wpAny_execs_cons (thn (h1 pins s σ H { D with nx:=u D } I h) λf s1 q=>?_);cases f with
 |next=>
  obtain ⟨σ',H',I',q⟩:=q;exact h2 pins s1 σ' H' D I' q
 |ret v=>exact q
 |brk=>exact q
 |cont=>exact q
def qb0 (h1:PS X st t):PSs X [st] t:=by
 intro pins s σ H D I h;refine wpAny_execs_cons (thn (h1 pins s σ H D I h) λf s1 q=>?_);cases f with
 |next=>exact wpAny_execs_nil q
 |ret v=>exact q
 |brk=>exact q
 |cont=>exact q
def Inv.quiet {pins:List (Addr×Obj)} {σ:St} {H:Hp} {s:Shared} (I:Inv X pins σ H s):interactive X.env=false:=by simp [interactive,I.ok.kind]
def qpE (te:TE):TS:=λD σ H=>te σ H λ_ H1=>D.nx σ H1
def qib (he:PE X e te) (hs:swapsWith e none pos.line X.env=pure false:=by rfl):PS X (.Expr e pos) (qpE te):=by
 intro pins s σ H D I h;exact wpAny_Expr_any (thn (he pins s σ H _ I h) λv s1 ⟨x,H1,I1,r1,q1⟩=>⟨σ,H1,I1,q1⟩) I.quiet hs
def qrx (te:TE):TS:=λD σ H=>te σ H D.rt
def qna (he:PE X e te):PS X (.Return (some e) pos) (qrx te):=by
 intro pins s σ H D I h;exact wpAny_Return_some (thn (he pins s σ H _ I h) λv s1 ⟨x,H1,I1,r1,q1⟩=>⟨x,σ,H1,I1,r1,q1⟩)
def qrl (c:TT) (t u:TS):TS:=λD σ H=>c σ H λb H1=>if b=true then t D σ H1 else u D σ H1
def qos {c:Expr} {a b:List Stmt} {tc:TT} (hc:PT X c tc) (ha:PSs X a t) (hb:PSs X b u):PS X (.If c a b pos) (qrl tc t u):=by
 intro pins s σ H D I h;refine wpAny_If (thn (hc pins s σ H _ I h) λd s1 ⟨H1,I1,q1⟩=>?_);cases d with
 |true=>exact ha pins s1 σ H1 D I1 q1
 |false=>exact hb pins s1 σ H1 D I1 q1
end
abbrev TG:=V->St->Hp->(St->Hp->Prop)->Prop
abbrev TGs:=List V->St->Hp->(St->Hp->Prop)->Prop
def PG (X:Cx) (target:Expr) (t:TG):Prop:=
 ∀ (pins:List (Addr×Obj)) (s:Shared) (σ:St) (H:Hp) (v:V) (u:Value) (Q:St->Hp->Prop),Inv X pins σ H s->jZ v u->t v σ H Q ->
  wpAny (model X.prog X.w) X.A (assign target X.env u) (λ_ s'=>∃ σ' H',Inv X pins σ' H' s'/\Q σ' H') X.xe s
def PGs (X:Cx) (ts:List Expr) (t:TGs):Prop:=
 ∀ (pins:List (Addr×Obj)) (s:Shared) (σ:St) (H:Hp) (vs:List V) (us:List Value) (Q:St->Hp->Prop),Inv X pins σ H s->jj vs us->t vs σ H Q ->
  wpAny (model X.prog X.w) X.A (assignInOrder ((assignEach ts X.env).map (·.2)) us) (λ_ s'=>∃ σ' H',Inv X pins σ' H' s'/\Q σ' H') X.xe s
abbrev qoF:=V->V->V->Hp->(Hp->Prop)->Prop
def qqU (X:Cx) (t:qoF):Prop:=
 ∀ (pins:List (Addr×Obj)) (s:Shared) (σ:St) (H:Hp) (o i v:V) (ov iv u:Value) (Q:Hp->Prop),Inv X pins σ H s->jZ o ov->jZ i iv->jZ v u->t o i v H Q ->
  wpAny (model X.prog X.w) X.A (setItem ov iv u) (λ_ s'=>∃ H',Inv X pins σ H' s'/\Q H') X.xe s
abbrev TIp:=V->V->Hp->VK->Prop
def PIp (X:Cx) (op:Operator) (t:TIp):Prop:=
 ∀ (pins:List (Addr×Obj)) (s:Shared) (σ:St) (H:Hp) (x y:V) (v u:Value) (Q:VK),Inv X pins σ H s->jZ x v->jZ y u->t x y H Q ->
  wpAny (model X.prog X.w) X.A (inplaceOp op v u) (EP X pins σ Q) X.xe s
section
variable {X:Cx} {pos:Pos}
def qh1 (i:Nat):TG:=λv σ H Q=>Q (σ.set i (some v)) H
def qhA {i:Nat} {x:Str} (hN:X.N.Nodup) (hi:X.N[i]?=some x) (hx:Loc X.env.scope x) (hf:X.fn x=true\/X.env.scope.names.lookup x=some .local:=by first|exact .inl rfl|exact .inr rfl|assumption):PG X (.Name x pos) (qh1 i):=by
 intro pins s σ H v u Q I r h;exact wpAny_assign_Name (UE I hN hi hx r (λs' I'=>⟨_,H,I',h⟩) hf)
def qaV:TGs:=λvs σ H Q=>vs=[]/\Q σ H
def Q5 (t:TG) (u:TGs):TGs:=λvs σ H Q=>∃ v r,vs=v::r/\t v σ H λσ' H'=>u r σ' H' Q
def qgM:PGs X [] qaV:=by
 intro pins s σ H vs us Q I r h;obtain ⟨e,h⟩:=h;subst e;cases r;exact assignInOrder_nil ⟨σ,H,I,h⟩
def qd1 {e:Expr} {es:List Expr} {t:TG} {u:TGs} (h1:PG X e t) (h2:PGs X es u)
  (hs:(assignEach (e::es) X.env).map (·.2)=assign e X.env::(assignEach es X.env).map (·.2):=by rfl):PGs X (e::es) (Q5 t u):=by
 intro pins s σ H vs us Q I r h;obtain ⟨v,vr,e1,h⟩:=h;subst e1;cases r with
 |cons r rr=>
  rw [hs];refine assignInOrder_cons (thn (h1 pins s σ H _ _ _ I r h) λ_ s1 ⟨σ1,H1,I1,q1⟩=>?_);exact h2 pins s1 σ1 H1 _ _ Q I1 rr q1
def qaR (K:Frg) (n:Nat) (t:TGs):TG:=λv σ H Q=>∃ a xs,v=.ref a/\SqT K H a xs/\xs.length=n/\t xs σ H Q
def qlv {es:List Expr} {k:Nat} {t:TGs} {n:Nat} (hc:X.calm=true) (h:PGs X es t)
  (hn:(assignEach es X.env).length=n:=by rfl) (hst:(assignEach es X.env).findIdx? (·.1)=none:=by rfl):PG X (.Tuple es k pos) (qaR X.K n t):=by
 intro pins s σ H v u Q I r hw;obtain ⟨a,xs,e1,hq,hl,hw⟩:=hw;subst e1;cases r;obtain ⟨its,rv,ht,hz⟩:=I.tuple hq;refine assign_Tuple_tuple (I.ok.hd hc) ht (by simp [hn,← hl,rv.length]) hst λh' hx=>?_;have I1:Inv X pins σ H { s with heap:=h' }:=I.kept (t':=s.toks) λb o e=>hx b o (u7 (y4 e)) e;exact h pins _ σ H xs _ Q I1 (by simpa using rv) hw
def qrf (to ti:TE) (t:qoF):TG:=λv σ H Q=>to σ H λo H1=>ti σ H1 λi H2=>t o i v H2 λH3=>Q σ H3
def qmb {o i:Expr} {to ti:TE} {t:qoF} (ho:PE X o to) (hi:PE X i ti) (hs:qqU X t)
  (ha:∀ v,assign (.Subscript o i pos) X.env v=(do
   let ov←holding [v] (eval o X.env)
   let iv←holding [v,ov] (eval i X.env)
   standAt pos
   holding [v,ov,iv] (setItem ov iv v)
   release [v,ov,iv] []):=by intro _;rfl):PG X (.Subscript o i pos) (qrf to ti t):=by
 intro pins s σ H v u Q I r h;rw [ha];refine x5 (wpAny_holding (thn (ho pins s σ H _ I h) λov s1 ⟨x,H1,I1,r1,q1⟩=>?_));refine x5 (wpAny_holding (thn (hi pins s1 σ H1 _ I1 q1) λiv s2 ⟨y,H2,I2,r2,q2⟩=>?_));refine x5 (wpAny_standAt (x5 (wpAny_holding (thn (hs pins s2 σ H2 x y v ov iv u _ I2 r1 r2 r q2) λ_ s3 ⟨H3,I3,q3⟩=>?_))));exact wpAny_release ⟨σ,H3,I3,q3⟩
def qoG (te:TE) (g:TG):TS:=λD σ H=>te σ H λx H1=>g x σ H1 D.nx
def qjd {tg e:Expr} {te:TE} {g:TG} (he:PE X e te) (hg:PG X tg g) (hs:swapsWithSole [tg] e pos.line X.env=pure false:=by rfl) (hw:swappedStores [tg] e X.env=pure none:=by rfl)
  (h1:(assignEach [tg] X.env).map (·.2)=[assign tg X.env]:=by rfl):PS X (.Assign [tg] e pos) (qoG te g):=by
 intro pins s σ H D I h;refine wpAny_Assign_stores (thn (he pins s σ H _ I h) λv s1 ⟨x,H1,I1,r1,q1⟩=>?_) hs hw;rw [h1];exact thn (hg pins s1 σ H1 x v _ I1 r1 q1) λ_ s2 q=>q
def qgr {i:Nat} {x:Str} {e:Expr} {te:TE} {pos':Pos} (hN:X.N.Nodup) (hi:X.N[i]?=some x) (hx:Loc X.env.scope x) (he:PE X e te) (hs:swapsWith e (some (.Name x pos')) pos.line X.env=pure false:=by rfl) (hf:X.fn x=true\/X.env.scope.names.lookup x=some .local:=by first|exact .inl rfl|exact .inr rfl|assumption) :
  PS X (.Assign [.Name x pos'] e pos) (qoG te (qh1 i)):=by
 intro pins s σ H D I h;refine wpAny_Assign_Name (thn (he pins s σ H _ I h) λv s1 ⟨y,H1,I1,r1,q1⟩=>?_) hs;exact UE I1 hN hi hx r1 (λs2 I2=>⟨_,H1,I2,q1⟩) hf
def qrw (i j:Nat) (ta:TA):TS:=λD σ H=>ta σ H λvs H1=>∃ v w,vs=[v,w]/\D.nx ((σ.set i (some v)).set j (some w)) H1
def qmv {i j:Nat} {x y:Str} {a b:Expr} {ta:TA} {px py pt:Pos} {kt k2 pt2} (hc:X.calm=true) (hN:X.N.Nodup) (hi:X.N[i]?=some x) (hj:X.N[j]?=some y) (hij:i≠j)
  (hx:X.env.scope.names.lookup x=some .local) (hy:X.env.scope.names.lookup y=some .local) (ha:PA X [a,b] ta)
  (hw:swappedStores [.Tuple [.Name x px,.Name y py] kt pt] (.Tuple [a,b] k2 pt2) X.env=pure (some [x,y]))
  (hs:swapsWithSole [.Tuple [.Name x px,.Name y py] kt pt] (.Tuple [a,b] k2 pt2) pos.line X.env=pure false:=by rfl) :
  PS X (.Assign [.Tuple [.Name x px,.Name y py] kt pt] (.Tuple [a,b] k2 pt2) pos) (qrw i j ta):=by
 intro pins s σ H D I h;rw [exec_Assign_arm];refine x5 (wpAny_standAt ?_);rw [hs];refine x5 (x6 ?_);rw [if_neg (by decide)];refine x5 (Tuple_ (thn (ha _ pins s σ H _ I h) λus s1 ⟨vs,H1,I1,r1,q1⟩=>?_));obtain ⟨v,w,e1,q1⟩:=q1;subst e1;obtain ⟨u1,u2,rfl,rv,rw'⟩:∃ u1 u2,us=[u1,u2]/\jZ v u1/\jZ w u2:=by
  cases r1 with
  |cons p q=>
   cases q with
   |cons p' q'=>
    cases q';exact ⟨_,_,rfl,p,p'⟩
 refine wpAny_newObj_type ?_ (by show 2<=sizeLine;decide);have I2:Inv X pins σ H1 { s1 with heap:=s1.heap.push { cls:=.type "tuple",data:=.seq [u1,u2].toArray } }:=I1.kept (t':=s1.toks) λb o e=>x9 _ e;rw [hw];refine x5 (x6 ?_);show wpAny (model X.prog X.w) X.A (do rule "assign.swapped-stores";let items←unpackItems (.ref s1.heap.objs.size) 2 none;assignInOrder [λv=>bindName X.env y v,λv=>bindName X.env x v] items.reverse;pure Flow.next) _ _ _;refine x5 (wpAny_rule (x5 (unpackItems_tuple (items:=#[u1,u2]) (I.ok.hd hc) (IsTup.new s1.heap _) λh' hx'=>?_)));have I3:=I2.kept (h':=h') (t':=s1.toks) λb o e=>hx' b o (u7 (y4 e)) e;show wpAny _ _ (assignInOrder [λv=>bindName X.env y v,λv=>bindName X.env x v] [u2,u1] >>= λ_=>pure Flow.next) _ _ _;refine x5 (assignInOrder_cons (wpAny_bindName (UE I3 hN hj (.inl hy) rw' (λs2 I4=>?_) (.inr hy))));refine assignInOrder_cons (wpAny_bindName (UE I4 hN hi (.inl hx) rv (λs3 I5=>assignInOrder_nil (x6 ?_)) (.inr hx)));rw [List.set_comm _ _ (Ne.symm hij)] at I5;exact ⟨_,H1,I5,q1⟩
def qq7 (i:Nat) (te:TE) (ti:TIp):TS:=λD σ H=>∃ x,σ[i]?=some (some x)/\te σ H λy H1=>ti x y H1 λz H2=>D.nx (σ.set i (some z)) H2
def qmj {i:Nat} {x:Str} {e:Expr} {te:TE} {op:Operator} {ti:TIp} {pos':Pos} (hN:X.N.Nodup) (hi:X.N[i]?=some x) (hx:Loc X.env.scope x) (he:PE X e te) (ho:PIp X op ti) (hf:X.fn x=true\/X.env.scope.names.lookup x=some .local:=by first|exact .inl rfl|exact .inr rfl|assumption) :
  PS X (.AugAssign (.Name x pos') op e pos) (qq7 i te ti):=by
 intro pins s σ H D I h;obtain ⟨v,e1,h⟩:=h;obtain ⟨m,hn,hl⟩:=I.loc;have vis:Vis X.env.scope x:=by rcases hx with k|k;exact .inl k;exact .inr (.inl k)
 obtain ⟨u,r,l⟩:=hl i x v hi e1 vis;refine wpAny_AugAssign_Name ?_;have go:wpAny (model X.prog X.w) X.A (eval e X.env) (λw s₂=>wpAny (model X.prog X.w) X.A (inplaceOp op u w) (λr s₃=>wpAny (model X.prog X.w) X.A (storeName X.env x r) (λ_=>SP X pins D .next) X.xe s₃) X.xe s₂) X.xe s:=by
  refine thn (he pins s σ H _ I h) λw s1 ⟨y,H1,I1,r1,q1⟩=>?_;refine thn (ho pins s1 σ H1 v y u w _ I1 r r1 q1) λz s2 ⟨zv,H2,I2,r2,q2⟩=>?_;exact UE I2 hN hi hx r2 (λs3 I3=>⟨_,H2,I3,q2⟩) hf
 rcases l with ⟨hk,hm⟩|⟨hk,c,hc,hcell⟩
 ·exact wpAny_loadName_local I.ok.kind hk hn hm go
 ·rcases hk with hk|hk
  ·exact wpAny_loadName_cell I.ok.kind hk hc hcell go
  ·rcases hx with k|k
   ·have:X.env.scope.names.lookup x=some .free:=hk;rw [k] at this;cases this
   ·have:X.env.scope.names.lookup x=some .free:=hk;rw [k] at this;cases this
def ipI (f:Int->Int->Int):TIp:=λx y H Q=>∃ i j,x=.int i/\y=.int j/\Q (.int (f i j)) H
def qki:PIp X .Add (ipI λi j=>i+j):=by
 intro pins s σ H x y v u Q I r1 r2 h;obtain ⟨i,j,e1,e2,q⟩:=h;subst e1;subst e2;obtain ⟨t,rfl⟩:=r1;obtain ⟨t',rfl⟩:=r2;exact iadd_int ⟨.int _,H,I.tok _,⟨_,rfl⟩,q⟩
end
section
variable {X:Cx} {pos:Pos}
def qm2 (c:TT) (tb:TS):TS:=λD σ H=>∃ W:Nat->St->Hp->Prop,(∃ m,W m σ H)/\∀ m σ H,W m σ H ->
 c σ H λb H1=>if b=true then ∃ N:St->Hp->Prop,(∀ σ' H',N σ' H'->∃ m',m'<m/\W m' σ' H')/\tb { D with nx:=N,ct:=N,bk:=D.nx } σ H1 else D.nx σ H1
def qdw {c:Expr} {body:List Stmt} {tc:TT} {tb:TS} (hp:PassesOwn (model X.prog X.w) X.A X.env X.xe) (hc:PT X c tc) (hb:PSs X body tb):PS X (.While c body [] pos) (qm2 tc tb):=by
 intro pins s σ H D I h;obtain ⟨W,⟨m0,w0⟩,turn⟩:=h;refine wpAny_While (codeAny_whileLoop (λn s'=>∃ σ' H',Inv X pins σ' H' s'/\W n σ' H') ?_ m0 ⟨σ,H,I,w0⟩);rintro n s1 ⟨σ1,H1,I1,w1⟩;refine wpAny_passesOwn hp (thn (hc pins s1 σ1 H1 _ I1 (turn n σ1 H1 w1)) λb s2 ⟨H2,I2,q2⟩=>?_);cases b with
 |true=>
  obtain ⟨N,hN,q2⟩:=q2;rw [if_pos rfl];refine wpAny_passesOwn hp (thn (hb pins s2 σ1 H2 _ I2 q2) λf s3 q3=>?_);cases f with
  |next=>
   obtain ⟨σ3,H3,I3,n3⟩:=q3;obtain ⟨m',hm,w3⟩:=hN σ3 H3 n3;exact ⟨m',hm,σ3,H3,I3,w3⟩
  |cont=>
   obtain ⟨σ3,H3,I3,n3⟩:=q3;obtain ⟨m',hm,w3⟩:=hN σ3 H3 n3;exact ⟨m',hm,σ3,H3,I3,w3⟩
  |brk=>exact q3
  |ret v=>exact q3
 |false=>
  rw [if_neg y6];exact wpAny_execs_nil ⟨σ1,H2,I2,q2⟩
end
structure It where
 go:Nat->Hp->Prop
 yld:Nat->Hp->V->Hp->Prop
 stop:Nat->Hp->Prop
def KY (X:Cx) (pins:List (Addr×Obj)) (H:Hp) (b:Addr):Prop:=
 H b=none/\b≠X.env.locals/\b∉X.fs/\(b∈X.ex\/X.s₀.heap.objs.size<=b)/\(∀ x c,X.env.cells.lookup x=some c->c≠b)/\∀ p∈X.pn++pins,p.1≠b
def Inv.fpOk {X:Cx} {pins:List (Addr×Obj)} {σ:St} {H H':Hp} {s:Shared} {b:Addr} (I:Inv X pins σ H s) (hb:s.heap.objs.size<=b) (hn:H' b=none):KY X pins H' b:=by
 refine ⟨hn,Nat.ne_of_gt (v7 I.lt hb),I.nofs hb,.inr (v9 I.sz hb),λx c e z=>?_,λp hp z=>?_⟩
 ·obtain ⟨v,q⟩:=I.cell x c e;exact absurd (v7 q.lt (by rw [z];exact hb)) (Nat.lt_irrefl _)
 ·exact absurd (v7 (y4 (I.pin p hp).1) (by rw [z];exact hb)) (Nat.lt_irrefl _)
structure Turn (P:Program) (w:World) (K:Frg) (tg:Expr) (J:It) (fp:List Addr) (it:Addr) (tn:Nat->Heap->Prop):Prop where
 mem:it∈fp
 obj:∀ i h,tn i h->∀ b∈fp,∃ o,h.get? b=some o/\∀ v,o.data≠.cell v
 keep:∀ i h h',tn i h->(∀ b∈fp,∀ o,h.get? b=some o->h'.get? b=some o)->tn i h'
 item:∀ (X:Cx),X.prog=P->X.w=w->X.K=K->X.calm=true->∀ (i:Nat) (pins:List (Addr×Obj)) (s:Shared) (σ:St) (H:Hp) (E:Value->Shared->Prop),Inv X pins σ H s->(∀ b∈fp,KY X pins H b)->tn i s.heap->J.go i H ->
  wpAny (model P w) X.A (pyNext (.ref it)) (λr s1=>∃ u,r=some u /\
   wpAny (model P w) X.A (letOwnedTupleGo tg (.ref it) u) (λ_ s2=>∃ x H',Inv X pins σ H' s2/\jZ x u/\J.yld i H x H'/\tn (i+1) s2.heap/\∀ b∈fp,H' b=none) E s1) E s
 done:∀ (X:Cx),X.prog=P->X.w=w->X.K=K->X.calm=true->∀ (i:Nat) (pins:List (Addr×Obj)) (s:Shared) (σ:St) (H:Hp) (E:Value->Shared->Prop),Inv X pins σ H s->(∀ b∈fp,KY X pins H b)->tn i s.heap->J.stop i H ->
  wpAny (model P w) X.A (pyNext (.ref it)) (λr s1=>r=none/\Inv X pins σ H s1) E s
 self:∀ (A:Around) (i:Nat) (s:Shared) (Q:Value->Shared->Prop) (E:Value->Shared->Prop),tn i s.heap->Q (.ref it) s->wpAny (model P w) A (pyIter (.ref it)) Q E s
abbrev TI:=St->Hp->(It->Hp->Prop)->Prop
def PIE (X:Cx) (pins:List (Addr×Obj)) (σ:St) (tg:Expr) (R:It->Hp->Prop) (itv:Value) (s2:Shared):Prop:=
 ∃ (it:Addr) (fp:List Addr) (tn:Nat->Heap->Prop) (J:It) (H':Hp),itv=.ref it/\Inv X pins σ H' s2/\Turn X.prog X.w X.K tg J fp it tn/\tn 0 s2.heap/\(∀ b∈fp,KY X pins H' b)/\R J H'
def PI (X:Cx) (tg iter:Expr) (wi:TI):Prop:=
 ∀ (pins:List (Addr×Obj)) (s:Shared) (σ:St) (H:Hp) (R:It->Hp->Prop),Inv X pins σ H s->wi σ H R ->
  wpAny (model X.prog X.w) X.A (eval iter X.env) (λv s1=>wpAny (model X.prog X.w) X.A (pyIter v) (PIE X pins σ tg R) X.xe s1) X.xe s
def qhn {M:Model} {A:Around} {E:Value->Shared->Prop} {s:Shared} {tg:Expr} {it:Addr} {u:Value} {o:Obj} {n:String} {vs:Array Value} {Q:Unit->Shared->Prop} (ho:s.heap.get? it=some o) (hc:o.cls=.type n) (hd:o.data=.fields vs)
    (hn:["enumerate","zip","dict_itemiterator","dict_reverseitemiterator","odict_iterator","itertools.zip_longest","itertools.pairwise"].contains n=false) (hQ:Q () s):wpAny M A (letOwnedTupleGo tg (.ref it) u) Q E s:=by
  unfold letOwnedTupleGo;cases tg<;>first
    |exact x6 hQ
    | (cases u<;>first
        |exact x6 hQ
        | (refine x5 (wpAny_load ho ?_)
           rw [hc,hd];show wpAny M A (if (["enumerate","zip","dict_itemiterator","dict_reverseitemiterator","odict_iterator","itertools.zip_longest","itertools.pairwise"].contains n&&vs[0]?==some (rawInt _))=true then _ else _) Q E s;rw [if_neg (by intro h;rw [hn,Bool.false_and] at h;cases h)];exact x6 hQ))
def Itl (K:Frg) (a:Addr):It:=
 ⟨λi H=>∃ xs x,SqL K H a xs/\xs[i]?=some x,λi H x H'=>H'=H/\∀ xs,SqL K H a xs->xs[i]?=some x,λi H=>∃ xs,SqL K H a xs/\xs.length<=i⟩
def Itt (K:Frg) (a:Addr):It:=
 ⟨λi H=>∃ xs x,SqT K H a xs/\xs[i]?=some x,λi H x H'=>H'=H/\∀ xs,SqT K H a xs->xs[i]?=some x,λi H=>∃ xs,SqT K H a xs/\xs.length<=i⟩
def Itr (lo:Int) (n:Nat):It:=⟨λi _=>i<n,λi H x H'=>H'=H/\x=.int (lo+i),λi _=>n<=i⟩
def qcX {P:Program} {w:World} {K:Frg} {tg:Expr} (a it:Addr):Turn P w K tg (Itl K a) [it] it (λi h=>h.IsListIter it a i) where
 mem:=by simp
 obj:=λi h st b hb=>by
  have e:b=it:=by simpa using hb
  subst e;obtain ⟨o,e,c,d⟩:=st;exact ⟨o,e,λv z=>by rw [d] at z;cases z⟩
 keep:=λi h h' st k=>st.at λo e=>k it (by simp) o e
 item:=by
  intro X hP hw hK hc i pins s σ H E I hf st hg;subst hP hw hK;obtain ⟨xs,x,hq,hx⟩:=hg;obtain ⟨its,rv,p,hz⟩:=I.list hq;obtain ⟨u,hu,ru⟩:=rv.get hx;obtain ⟨f0,f1,f2,f3,f4,f5⟩:=hf it (by simp);refine wpAny_pyNext_list_item st p.isList (x:=u) (by simpa using hu) λh' st' sb=>?_;have I1:Inv X pins σ H { s with heap:=h' }:=I.turned (t':=s.toks) (λb o hb e=>(sb.2 b hb).trans e) f0 f1 f3 f4 f5;obtain ⟨o,e,c,d⟩:=id st';exact ⟨u,rfl,qhn (s:={ s with heap:=h' }) e c d (by decide) ⟨x,H,I1,ru,⟨rfl,λys hy=>by rw [I.list_inj hy hq];exact hx⟩,st',λb hb=>(hf b hb).1⟩⟩
 done:=by
  intro X hP hw hK hc i pins s σ H E I hf st hg;subst hP hw hK;obtain ⟨xs,hq,hx⟩:=hg;obtain ⟨its,rv,p,hz⟩:=I.list hq;obtain ⟨f0,f1,f2,f3,f4,f5⟩:=hf it (by simp);have hl:=rv.length;exact wpAny_pyNext_list_end (I.ok.hd hc) st p.isList (by simp;omega) λh' eb=>⟨rfl,I.turned (t':=s.toks) (λb o hb e=>eb b o hb e) f0 f1 f3 f4 f5⟩
 self:=λ_ _ _ _ _ st h=>wpAny_pyIter_listiter st h
def qaI {P:Program} {w:World} {K:Frg} {tg:Expr} (a it:Addr):Turn P w K tg (Itt K a) [it] it (λi h=>h.IsTupleIter it a i) where
 mem:=by simp
 obj:=λi h st b hb=>by
  have e:b=it:=by simpa using hb
  subst e;obtain ⟨o,e,c,d⟩:=st;exact ⟨o,e,λv z=>by rw [d] at z;cases z⟩
 keep:=λi h h' st k=>st.at λo e=>k it (by simp) o e
 item:=by
  intro X hP hw hK hc i pins s σ H E I hf st hg;subst hP hw hK;obtain ⟨xs,x,hq,hx⟩:=hg;obtain ⟨its,rv,p,hz⟩:=I.tuple hq;obtain ⟨u,hu,ru⟩:=rv.get hx;obtain ⟨f0,f1,f2,f3,f4,f5⟩:=hf it (by simp);refine wpAny_pyNext_tuple_item st (show s.heap.IsTuple a its.toArray from p) (x:=u) (by simpa using hu) λh' st' sb=>?_;have I1:Inv X pins σ H { s with heap:=h' }:=I.turned (t':=s.toks) (λb o hb e=>(sb.2 b hb).trans e) f0 f1 f3 f4 f5;obtain ⟨o,e,c,d⟩:=id st';exact ⟨u,rfl,qhn (s:={ s with heap:=h' }) e c d (by decide) ⟨x,H,I1,ru,⟨rfl,λys hy=>by rw [I.tuple_inj hy hq];exact hx⟩,st',λb hb=>(hf b hb).1⟩⟩
 done:=by
  intro X hP hw hK hc i pins s σ H E I hf st hg;subst hP hw hK;obtain ⟨xs,hq,hx⟩:=hg;obtain ⟨its,rv,p,hz⟩:=I.tuple hq;obtain ⟨f0,f1,f2,f3,f4,f5⟩:=hf it (by simp);have hl:=rv.length;exact wpAny_pyNext_tuple_end (I.ok.hd hc) st (show s.heap.IsTuple a its.toArray from p) (by simp;omega) λh' eb=>⟨rfl,I.turned (t':=s.toks) (λb o hb e=>eb b o hb e) f0 f1 f3 f4 f5⟩
 self:=λ_ _ _ _ _ st h=>wpAny_pyIter_tupleiter st h
def qaO {P:Program} {w:World} {K:Frg} {tg:Expr} (it:Addr) (lo:Int) (n:Nat):Turn P w K tg (Itr lo n) [it] it (λi h=>IsRangeIter h it (lo+(i:Nat)*1) ((n:Int)-(i:Nat)) 1) where
 mem:=by simp
 obj:=λi h st b hb=>by
  have e:b=it:=by simpa using hb
  subst e;exact ⟨_,st,λv z=>by
   have z':Data.fields _=Data.cell v:=z;cases z'⟩
 keep:=λi h h' st k=>k it (by simp) _ st
 item:=by
  intro X hP hw hK hc i pins s σ H E I hf st hg;subst hP hw hK;obtain ⟨f0,f1,f2,f3,f4,f5⟩:=hf it (by simp);have W:=Walks.range (prog:=X.prog) (w:=X.w) (I.ok.hd hc) it lo 1 n;refine W.item i s _ _ hg st λv h' tk hv st' kk=>?_;obtain ⟨t,rfl⟩:=hv;have I1:Inv X pins σ H { s with heap:=h',toks:=tk }:=I.turned (λb o hb e=>kk b o (by simpa using hb) e) f0 f1 f3 f4 f5;refine ⟨_,rfl,qhn (s:={ s with heap:=h',toks:=tk }) (n:="range_iterator") st' rfl rfl (by decide) ⟨.int (lo+i),H,I1,⟨t,?_⟩,⟨rfl,rfl⟩,st',λb hb=>(hf b hb).1⟩⟩;rw [Int.mul_one]
 done:=by
  intro X hP hw hK hc i pins s σ H E I hf st hg;subst hP hw hK;obtain ⟨f0,f1,f2,f3,f4,f5⟩:=hf it (by simp);exact wpAny_pyNext_range_end (I.ok.hd hc) st (by have:n<=i:=hg;omega) λh' eb=>⟨rfl,I.turned (t':=s.toks) (λb o hb e=>eb b o hb e) f0 f1 f3 f4 f5⟩
 self:=λ_ _ _ _ _ st h=>wpAny_pyIter_rangeiter st h
section
variable {X:Cx} {tg:Expr}
def qac {pins:List (Addr×Obj)} {σ:St} {H:Hp} {s:Shared} {R:It->Hp->Prop} {E:Value->Shared->Prop} {lo hi:Int} {t u v:Tok} {tk:Nat} (I:Inv X pins σ H s) (h1:-(2 ^ 62)<=lo) (h2:lo<2 ^ 62) (h3:-(2 ^ 62)<=hi) (h4:hi<2 ^ 62)
  (q:R (Itr lo (hi-lo).toNat) H):wpAny (model X.prog X.w) X.A (pyIter (.ref s.heap.objs.size)) (PIE X pins σ tg R) E { s with heap:=s.heap.push { cls:=.type "range",data:=.fields #[.int lo t,.int hi u,.int 1 v] },toks:=tk }:=by
 refine wpAny_pyIter_range (IsRange.new ..) (small_one h1 h2 h3 h4) ?_;have I1:Inv X pins σ H { s with heap:=s.heap.push { cls:=.type "range",data:=.fields #[.int lo t,.int hi u,.int 1 v] },toks:=tk }:=I.kept λb o e=>x9 _ e;refine ⟨(s.heap.push { cls:=.type "range",data:=.fields #[.int lo t,.int hi u,.int 1 v] }).objs.size,[(s.heap.push { cls:=.type "range",data:=.fields #[.int lo t,.int hi u,.int 1 v] }).objs.size],_,_,H,rfl,
  I1.kept (t':=tk) λb o e=>x9 _ e,qaO _ lo (hi-lo).toNat,?_,λb hb=>?_,q⟩
 ·have e1:lo+((0:Nat):Int)*1=lo:=by simp
  have e2:(((hi-lo).toNat:Nat):Int)-((0:Nat):Int)=Builtin.Range.rangeSize lo hi 1:=by rw [rangeSize_one];split<;>omega
  show IsRangeIter _ _ (lo+((0:Nat):Int)*1) ((((hi-lo).toNat:Nat):Int)-((0:Nat):Int)) 1;rw [e1,e2];exact y3 _ rfl
 ·have e:b=(s.heap.push { cls:=.type "range",data:=.fields #[.int lo t,.int hi u,.int 1 v] }).objs.size:=by simpa using hb
  subst e;exact I1.fpOk (v4 _) (I1.hok.fresh (v4 _))
def qp5 (ta:TA):TI:=λσ H R=>ta σ H λvs H1=>∃ j:Int,vs=[.int j]/\-(2 ^ 62)<=j/\j<2 ^ 62/\R (Itr 0 j.toNat) H1
def qp9 (ta:TA):TI:=λσ H R=>ta σ H λvs H1=>∃ i j:Int,vs=[.int i,.int j]/\(-(2 ^ 62)<=i/\i<2 ^ 62/\-(2 ^ 62)<=j/\j<2 ^ 62)/\R (Itr i (j-i).toNat) H1
def qbp {a:Expr} {ta:TA} {p pos:Pos} (hg:Gl X "range") (hm:X.mg "range" = none) (ha:PA X [a] ta) (hs:starEach [a] X.env=[(false,eval a X.env)]:=by rfl):PI X tg (.Call (.Name "range" p) [a] [] pos) (qp5 ta):=by
 intro pins s σ H R I h;refine Call_ (CK I hg hm boot_range (PyProof.Rows.callWith_type1 (thn (ha pos pins s σ H _ I h) λus s1 ⟨vs,H1,I1,r1,q1⟩=>?_) hs rfl));obtain ⟨j,e,q1,q2,q⟩:=q1;subst e;cases r1 with
 |cons r rr=>
  cases rr;obtain ⟨t,rfl⟩:=r;exact call_range_1 (qac I1 (by omega) (by omega) q1 q2 (by simpa using q))
def qct {a b:Expr} {ta:TA} {p pos:Pos} (hg:Gl X "range") (hm:X.mg "range" = none) (ha:PA X [a,b] ta) (hs:starEach [a,b] X.env=[(false,eval a X.env),(false,eval b X.env)]:=by rfl) (hs2:starEach [b] X.env=[(false,eval b X.env)]:=by rfl) :
  PI X tg (.Call (.Name "range" p) [a,b] [] pos) (qp9 ta):=by
 intro pins s σ H R I h;refine Call_ (CK I hg hm boot_range (PyProof.Rows.callWith_type1 (thn (ha pos pins s σ H _ I h) λus s1 ⟨vs,H1,I1,r1,q1⟩=>?_) (by rw [hs,hs2]) (by rw [hs2];rfl)));obtain ⟨i,j,e,⟨q1,q2,q3,q4⟩,q⟩:=q1;subst e;cases r1 with
 |cons r rr=>
  cases rr with
  |cons r' rr=>
   cases rr;obtain ⟨t,rfl⟩:=r;obtain ⟨t',rfl⟩:=r';exact call_range_2 (qac I1 q1 q2 q3 q4 q)
def qre (wi:TI) (g:TG) (tb:TS):TS:=λD σ H=>wi σ H λJ H1=>∃ W:Nat->Nat->St->Hp->Prop,(∃ m,W 0 m σ H1)/\∀ i m σ H,W i m σ H ->
 (J.stop i H/\D.nx σ H)\/(J.go i H/\∃ N:St->Hp->Prop,(∀ σ' H',N σ' H'->∃ m',m'<m/\W (i+1) m' σ' H')/\∀ x H',J.yld i H x H'->g x σ H' λσ2 H2=>tb { D with nx:=N,ct:=N,bk:=D.nx } σ2 H2)
def WO (fp:List Addr) (h:Heap):List (Addr×Obj):=fp.filterMap λb=>(h.get? b).map λo=>(b,o)
def zZ {fp:List Addr} {h:Heap} {b:Addr} {o:Obj} (hb:b∈fp) (e:h.get? b=some o):(b,o)∈WO fp h:=List.mem_filterMap.mpr ⟨b,hb,by rw [e];rfl⟩
def qbt {fp:List Addr} {h:Heap} {p:Addr×Obj} (hp:p∈WO fp h):p.1∈fp/\h.get? p.1=some p.2:=by
 obtain ⟨b,hb,e⟩:=List.mem_filterMap.mp hp;cases q:h.get? b with
 |none=>rw [q] at e;cases e
 |some o=>
  rw [q] at e;have e':(b,o)=p:=Option.some.inj e;subst e';exact ⟨hb,q⟩
def Inv.pinned {pins:List (Addr×Obj)} {σ:St} {H:Hp} {s:Shared} {fp:List Addr} (I:Inv X pins σ H s) (hf:∀ b∈fp,KY X pins H b) (ho:∀ b∈fp,∃ o,s.heap.get? b=some o/\∀ v,o.data≠.cell v):Inv X (pins++WO fp s.heap) σ H s:=
 I.pins_of λp hp=>(List.mem_append.mp hp).elim (λz=>I.pin p (v6 _ z)) λz=>by
  obtain ⟨hb,e⟩:=qbt z;obtain ⟨f0,f1,f2,_⟩:=hf p.1 hb;obtain ⟨o,e',d⟩:=ho p.1 hb;rw [e] at e';cases e';exact ⟨e,f0,f1,f2,d⟩
def Inv.unpinned {pins pl:List (Addr×Obj)} {σ:St} {H:Hp} {s:Shared} (I:Inv X (pins++pl) σ H s):Inv X pins σ H s:=I.pins_of λp hp=>I.pin p (v6 _ (List.mem_append_left _ hp))
def qkO {iter:Expr} {body:List Stmt} {wi:TI} {g:TG} {tb:TS} {pos:Pos} (hp:PassesOwn (model X.prog X.w) X.A X.env X.xe) (hc:X.calm=true) (hi:PI X tg iter wi) (hg:PG X tg g) (hb:PSs X body tb)
  (hs:∀ x,foldedSetIterable iter X.env x=pure x:=by intro _;rfl):PS X (.For tg iter body [] pos) (qre wi g tb):=by
 intro pins s σ H D I h;refine wpAny_For (thn (hi pins s σ H _ I h) λv s1 h1=>thn h1 λitv s2 h2=>?_) hs;obtain ⟨it,fp,tn,J,H2,e,I2,T,st2,f2,W,⟨m0,w0⟩,turn⟩:=h2;subst e
 -- what stays true of the iterator's objects through the loop
 have stat:∀ {H':Hp},(∀ b∈fp,H' b=none)->∀ b∈fp,KY X pins H' b:=λhn b hb=>⟨hn b hb,(f2 b hb).2⟩
 refine codeAny_forLoop_any (λn s'=>∃ i σ' H',Inv X pins σ' H' s'/\tn i s'.heap/\(∀ b∈fp,H' b=none)/\W i n σ' H') ?_ m0 ⟨0,σ,H2,I2,st2,λb hb=>(f2 b hb).1,w0⟩;rintro n s3 ⟨i,σ3,H3,I3,st3,fr3,w3⟩;rcases turn i n σ3 H3 w3 with ⟨stop,qn⟩|⟨go,N,hN,step⟩
 ·refine wpAny_passesOwn hp (thn (T.done X rfl rfl rfl hc i pins s3 σ3 H3 X.xe I3 (stat fr3) st3 stop) λr s4 ⟨hr,I4⟩=>?_);subst hr;exact wpAny_execs_nil ⟨σ3,H3,I4,qn⟩
 ·refine wpAny_passesOwn hp (thn (T.item X rfl rfl rfl hc i pins s3 σ3 H3 X.xe I3 (stat fr3) st3 go) λr s4 ⟨u,hr,h4⟩=>?_);subst hr;refine wpAny_passesOwn hp (thn h4 λ_ s5 ⟨x,H5,I5,r5,y5,st5,fr5⟩=>?_);have I5':=I5.pinned (stat fr5) (T.obj _ _ st5);refine wpAny_passesOwn hp (thn (hg _ s5 σ3 H5 x u _ I5' r5 (step x H5 y5)) λ_ s6 ⟨σ6,H6,I6,q6⟩=>?_);refine wpAny_passesOwn hp (thn (hb _ s6 σ6 H6 _ I6 q6) λf s7 q7=>?_);have again:∀ {σ7:St} {H7:Hp},Inv X (pins++WO fp s5.heap) σ7 H7 s7->N σ7 H7->∃ m,m<n/\∃ i σ' H',Inv X pins σ' H' s7/\tn i s7.heap/\(∀ b∈fp,H' b=none)/\W i m σ' H':=λ{σ7 H7} I7 n7=>by
   obtain ⟨m',hm,w7⟩:=hN σ7 H7 n7;refine ⟨m',hm,i+1,σ7,H7,I7.unpinned,T.keep _ _ _ st5 λb hb o e=>(I7.pin (b,o) (v6 _ (v6 _ (zZ hb e)))).1,λb hb=>?_,w7⟩;obtain ⟨o,e,d⟩:=T.obj _ _ st5 b hb;exact (I7.pin (b,o) (v6 _ (v6 _ (zZ hb e)))).2.1
  cases f with
  |next=>obtain ⟨σ7,H7,I7,n7⟩:=q7;exact again I7 n7
  |cont=>obtain ⟨σ7,H7,I7,n7⟩:=q7;exact again I7 n7
  |brk=>obtain ⟨σ7,H7,I7,q7⟩:=q7;exact ⟨σ7,H7,I7.unpinned,q7⟩
  |ret v=>obtain ⟨x7,σ7,H7,I7,r7,q7⟩:=q7;exact ⟨x7,σ7,H7,I7.unpinned,r7,q7⟩
end
abbrev R2:=V->V->Hp->VK->Prop
def OpR (X:Cx) (f:Value->Value->Sem Value) (r:R2):Prop:=
 ∀ (pins:List (Addr×Obj)) (s:Shared) (σ:St) (H:Hp) (x y:V) (v u:Value) (Q:VK),Inv X pins σ H s->jZ x v->jZ y u->r x y H Q ->
  wpAny (model X.prog X.w) X.A (f v u) (EP X pins σ Q) X.xe s
def UnR (X:Cx) (f:Value->Sem Value) (r:V->Hp->VK->Prop):Prop:=
 ∀ (pins:List (Addr×Obj)) (s:Shared) (σ:St) (H:Hp) (x:V) (v:Value) (Q:VK),Inv X pins σ H s->jZ x v->r x H Q ->
  wpAny (model X.prog X.w) X.A (f v) (EP X pins σ Q) X.xe s
def VH (X:Cx) (f:Value) (r:List V->Hp->VK->Prop):Prop:=
 ∀ (pins:List (Addr×Obj)) (s:Shared) (σ:St) (H:Hp) (xs:List V) (us:List Value) (Q:VK),Inv X pins σ H s->jj xs us->r xs H Q ->
  wpAny (model X.prog X.w) X.A (call f us) (EP X pins σ Q) X.xe s
def tOp (r:R2) (ta tb:TE):TE:=λσ H Q=>ta σ H λx H1=>tb σ H1 λy H2=>r x y H2 Q
def tUn (r:V->Hp->VK->Prop) (ta:TE):TE:=λσ H Q=>ta σ H λx H1=>r x H1 Q
def rI (C:Int->Int->Prop) (g:Int->Int->V):R2:=λx y H Q=>∃ i j,x=.int i/\y=.int j/\C i j/\Q (g i j) H
def rI0 (g:Int->Int->V):R2:=λx y H Q=>∃ i j,x=.int i/\y=.int j/\Q (g i j) H
def rU (g:Int->V):V->Hp->VK->Prop:=λx H Q=>∃ i,x=.int i/\Q (g i) H
section
variable {X:Cx} {a b c:Expr} {ta tb tc:TE} {pos:Pos}
def qoe (ha:PE X a ta) (hb:PE X b tb) {pins:List (Addr×Obj)} {s:Shared} {σ:St} {H:Hp} {R:V->V->Hp->Prop} (I:Inv X pins σ H s)
  (h:ta σ H λx H1=>tb σ H1 λy H2=>R x y H2) {Q:Value->Shared->Prop} {f:Value->Value->Sem Value}
  (hf:∀ v u s2 x y H2,Inv X pins σ H2 s2->jZ x v->jZ y u->R x y H2->wpAny (model X.prog X.w) X.A (f v u) Q X.xe s2) :
  wpAny (model X.prog X.w) X.A (eval a X.env) (λv s₁=>wpAny (model X.prog X.w) X.A (eval b X.env) (λu s₂=>wpAny (model X.prog X.w) X.A (f v u) Q X.xe s₂) X.xe s₁) X.xe s:=by
 refine thn (ha pins s σ H _ I h) λv s1 ⟨x,H1,I1,r1,q1⟩=>?_;refine thn (hb pins s1 σ H1 _ I1 q1) λu s2 ⟨y,H2,I2,r2,q2⟩=>?_;exact hf v u s2 x y H2 I2 r1 r2 q2
def qoV {op:Operator} {r:R2} (ho:OpR X (binaryOp op) r) (ha:PE X a ta) (hb:PE X b tb):PE X (.BinOp a op b pos) (tOp r ta tb):=by
 intro pins s σ H Q I h;exact wpAny_BinOp (qoe ha hb I h λv u s2 x y H2 I2 rx ry q=>ho pins s2 σ H2 x y v u Q I2 rx ry q)
def qok {op:UnaryOp} {r:V->Hp->VK->Prop} (ho:UnR X (unaryOp op) r) (ha:PE X a ta):PE X (.UnaryOp op a pos) (tUn r ta):=by
 intro pins s σ H Q I h;exact UnaryOp_ (thn (ha pins s σ H _ I h) λv s1 ⟨x,H1,I1,r1,q1⟩=>ho pins s1 σ H1 x v Q I1 r1 q1)
def opI {f:Value->Value->Sem Value} {C:Int->Int->Prop} {g:Int->Int->Int}
  (rule:∀ (i j:Int) (t u:Tok) (s:Shared) (Q:Value->Shared->Prop) (E:Value->Shared->Prop),C i j->Q (.int (g i j) s.toks) { s with toks:=s.toks+1 }->wpAny (model X.prog X.w) X.A (f (.int i t) (.int j u)) Q E s) :
  OpR X f (rI C λi j=>.int (g i j)):=by
 intro pins s σ H x y v u Q I rx ry h;obtain ⟨i,j,rfl,rfl,hc,q⟩:=h;obtain ⟨t,rfl⟩:=rx;obtain ⟨t',rfl⟩:=ry;exact rule i j t t' s _ _ hc ⟨.int (g i j),H,I.tok _,⟨_,rfl⟩,q⟩
def qqh {f:Value->Value->Sem Value} {g:Int->Int->Int}
  (rule:∀ (i j:Int) (t u:Tok) (s:Shared) (Q:Value->Shared->Prop) (E:Value->Shared->Prop),Q (.int (g i j) s.toks) { s with toks:=s.toks+1 }->wpAny (model X.prog X.w) X.A (f (.int i t) (.int j u)) Q E s) :
  OpR X f (rI0 λi j=>.int (g i j)):=by
 intro pins s σ H x y v u Q I rx ry h;obtain ⟨i,j,rfl,rfl,q⟩:=h;obtain ⟨t,rfl⟩:=rx;obtain ⟨t',rfl⟩:=ry;exact rule i j t t' s _ _ ⟨.int (g i j),H,I.tok _,⟨_,rfl⟩,q⟩
def qpF {f:Value->Value->Sem Value} {g:Int->Int->Bool}
  (rule:∀ (i j:Int) (t u:Tok) (s:Shared) (Q:Value->Shared->Prop) (E:Value->Shared->Prop),Q (.bool (g i j)) s->wpAny (model X.prog X.w) X.A (f (.int i t) (.int j u)) Q E s) :
  OpR X f (rI0 λi j=>.bl (g i j)):=by
 intro pins s σ H x y v u Q I rx ry h;obtain ⟨i,j,rfl,rfl,q⟩:=h;obtain ⟨t,rfl⟩:=rx;obtain ⟨t',rfl⟩:=ry;exact rule i j t t' s _ _ ⟨.bl (g i j),H,I,rfl,q⟩
def MM (i j:Int):Prop:=0<j/\j<1073741824
def qam (i j:Int):Prop:=0<=j/\j<=1000000/\i.natAbs<2 ^ 64
def UM (i j:Int):Prop:=(-(2 ^ 64)<i/\i<2 ^ 64)\/(-(2 ^ 64)<j/\j<2 ^ 64)
def UM.ok {i j:Int} (h:UM i j):IntMulOk i j:=by
 rcases h with ⟨h1,h2⟩|⟨h1,h2⟩
 ·exact .of_left (intBits_le_64 h1 h2)
 ·exact .of_right (intBits_le_64 h1 h2)
def qal (k:Nat):(0:Int)<=2 ^ k:=by
 rw [two_pow_cast];exact Int.natCast_nonneg _
def qko:OpR X (binaryOp .Add) (rI0 λi j=>.int (i+j)):=qqh λ_ _ _ _ _ _ _ q=>add_int q
def qlN:OpR X (binaryOp .Mult) (rI UM λi j=>.int (i*j)):=opI λ_ _ _ _ _ _ _ hc q=>mul_int q hc.ok
def qh0:OpR X (binaryOp .FloorDiv) (rI MM λi j=>.int (i/j)):=opI λi j _ _ _ _ _ hc q=>by
 have h1:(0:Int)<j:=hc.1;have h2:j<1073741824:=hc.2;exact floordiv_int (by omega) (by rw [Int.fdiv_eq_ediv_of_nonneg i (by omega)];exact q) (.inl (PyProof.noPylong_small (by omega)))
def qjP:OpR X (binaryOp .Mod) (rI (λ_ j=>0<j) λi j=>.int (i%j)):=opI λi j _ _ _ _ _ hc q=>by
 have h1:(0:Int)<j:=hc;exact mod_int' (by omega) (by rw [Int.fmod_eq_emod_of_nonneg i (by omega)];exact q)
def qky:OpR X (binaryOp .Pow) (rI qam λi j=>.int (i ^ j.toNat)):=opI λ_ _ _ _ _ _ _ hc q=>pow_int_small hc.1 hc.2.1 hc.2.2 q
def qjg:OpR X (binaryOp .LShift) (rI qam λi j=>.int (i*2 ^ j.toNat)):=opI λ_ _ _ _ _ _ _ hc q=>lshift_int_small hc.1 hc.2.1 hc.2.2 q
def qmH:OpR X (binaryOp .RShift) (rI (λ_ j=>0<=j) λi j=>.int (i/2 ^ j.toNat)):=opI λi j _ _ _ _ _ hc q=>
 rshift_int hc (by rw [Int.fdiv_eq_ediv_of_nonneg i (qal _)];exact q)
def qkV:OpR X (binaryOp .BitAnd) (rI0 λi j=>.int (Builtin.bitAnd i j)):=qqh λ_ _ _ _ _ _ _ q=>and_int q
def unI {f:Value->Sem Value} {g:Int->Int}
  (rule:∀ (i:Int) (t:Tok) (s:Shared) (Q:Value->Shared->Prop) (E:Value->Shared->Prop),Q (.int (g i) s.toks) { s with toks:=s.toks+1 }->wpAny (model X.prog X.w) X.A (f (.int i t)) Q E s) :
  UnR X f (rU λi=>.int (g i)):=by
 intro pins s σ H x v Q I rx h;obtain ⟨i,rfl,q⟩:=h;obtain ⟨t,rfl⟩:=rx;exact rule i t s _ _ ⟨.int (g i),H,I.tok _,⟨_,rfl⟩,q⟩
def qiY:UnR X (unaryOp .USub) (rU λi=>.int (-i)):=unI λ_ _ _ _ _ q=>neg_int q
end
def qpL:V->V->Bool
 |.non,.non=>true|.non,.int _=>true|.int _,.non=>true|.non,.bl _=>true|.bl _,.non=>true|.non,.str _=>true|.str _,.non=>true
 |.int _,.int _=>true|.bl _,.bl _=>true|.str _,.str _=>true|.byt _,.byt _=>true
 |.int _,.str _=>true|.str _,.int _=>true|.bl _,.str _=>true|.str _,.bl _=>true
 |_,_=>false
def rEq:R2:=λx y H Q=>qpL x y=true/\Q (.bl (decide (x=y))) H
def rNe:R2:=λx y H Q=>qpL x y=true/\Q (.bl (!decide (x=y))) H
def qbb {i j:Int}:decide (V.int i=V.int j)=(i==j):=by
 rw [Bool.eq_iff_iff];simp
def qft {i j:Bool}:decide (V.bl i=V.bl j)=(i==j):=by
 rw [Bool.eq_iff_iff];simp
def qb8 {i j:Str}:decide (V.str i=V.str j)=(i==j):=by
 rw [Bool.eq_iff_iff];simp
def qbH {i j:Array UInt8}:decide (V.byt i=V.byt j)=(i.toList==j.toList):=by
 rw [Bool.eq_iff_iff];cases i;cases j;simp
section
variable {X:Cx} {a b c:Expr} {ta tb tc:TE} {pos:Pos}
def zp {pins:List (Addr×Obj)} {σ:St} {H:Hp} {s:Shared} {Q:VK} {k k':Bool} (I:Inv X pins σ H s) (q:Q (.bl k) H) (e:k=k'):EP X pins σ Q (.bool k') s:=by
 subst e;exact ⟨.bl k,H,I,rfl,q⟩
def qo0:OpR X (compareOp .Eq) rEq:=by
 intro pins s σ H x y v u Q I rx ry h;obtain ⟨hs,q⟩:=h;cases x with
 |non=>
  cases rx;cases y with
  |non=>cases ry;exact PySem.EqNone.eq_none_none (zp I q (by simp))
  |bl j=>cases ry;exact PySem.EqNone.eq_none_bool (zp I q (by simp))
  |int j=>obtain ⟨t',rfl⟩:=ry;exact PySem.EqNone.eq_none_int (zp I q (by simp))
  |str j=>obtain ⟨t',rfl⟩:=ry;exact PySem.EqNone.eq_none_str (zp I q (by simp))
  |_=>exact absurd (show false=true from hs) y6
 |bl i=>
  cases rx;cases y with
  |non=>cases ry;exact PySem.EqNone.eq_bool_none (zp I q (by simp))
  |bl j=>cases ry;exact eq_bool (zp I q qft)
  |str j=>obtain ⟨t',rfl⟩:=ry;exact PySem.EqMixed.eq_bool_str (zp I q (by simp))
  |_=>exact absurd (show false=true from hs) y6
 |int i=>
  obtain ⟨t,rfl⟩:=rx;cases y with
  |non=>cases ry;exact PySem.EqNone.eq_int_none (zp I q (by simp))
  |int j=>obtain ⟨t',rfl⟩:=ry;exact eq_int (zp I q qbb)
  |str j=>obtain ⟨t',rfl⟩:=ry;exact PySem.EqMixed.eq_int_str (zp I q (by simp))
  |_=>exact absurd (show false=true from hs) y6
 |str i=>
  obtain ⟨t,rfl⟩:=rx;cases y with
  |non=>cases ry;exact PySem.EqNone.eq_str_none (zp I q (by simp))
  |bl j=>cases ry;exact PySem.EqMixed.eq_str_bool (zp I q (by simp))
  |int j=>obtain ⟨t',rfl⟩:=ry;exact PySem.EqMixed.eq_str_int (zp I q (by simp))
  |str j=>obtain ⟨t',rfl⟩:=ry;exact eq_str (zp I q qb8)
  |_=>exact absurd (show false=true from hs) y6
 |byt i=>
  obtain ⟨t,rfl⟩:=rx;cases y with
  |byt j=>obtain ⟨t',rfl⟩:=ry;exact PySem.W.eq_bytes (zp I q qbH)
  |_=>exact absurd (show false=true from hs) y6
 |_=>cases y<;>exact absurd (show false=true from hs) y6
def qoZ:OpR X (compareOp .NotEq) rNe:=by
 intro pins s σ H x y v u Q I rx ry h;obtain ⟨hs,q⟩:=h;cases x with
 |non=>
  cases rx;cases y with
  |non=>cases ry;exact PySem.EqNone.ne_none_none (zp I q (by simp))
  |bl j=>cases ry;exact PySem.EqNone.ne_none_bool (zp I q (by simp))
  |int j=>obtain ⟨t',rfl⟩:=ry;exact PySem.EqNone.ne_none_int (zp I q (by simp))
  |str j=>obtain ⟨t',rfl⟩:=ry;exact PySem.EqNone.ne_none_str (zp I q (by simp))
  |_=>exact absurd (show false=true from hs) y6
 |bl i=>
  cases rx;cases y with
  |non=>cases ry;exact PySem.EqNone.ne_bool_none (zp I q (by simp))
  |bl j=>cases ry;exact ne_bool (zp I q (congrArg not qft))
  |str j=>obtain ⟨t',rfl⟩:=ry;exact PySem.EqMixed.ne_bool_str (zp I q (by simp))
  |_=>exact absurd (show false=true from hs) y6
 |int i=>
  obtain ⟨t,rfl⟩:=rx;cases y with
  |non=>cases ry;exact PySem.EqNone.ne_int_none (zp I q (by simp))
  |int j=>obtain ⟨t',rfl⟩:=ry;exact ne_int (zp I q (congrArg not qbb))
  |str j=>obtain ⟨t',rfl⟩:=ry;exact PySem.EqMixed.ne_int_str (zp I q (by simp))
  |_=>exact absurd (show false=true from hs) y6
 |str i=>
  obtain ⟨t,rfl⟩:=rx;cases y with
  |non=>cases ry;exact PySem.EqNone.ne_str_none (zp I q (by simp))
  |bl j=>cases ry;exact PySem.EqMixed.ne_str_bool (zp I q (by simp))
  |int j=>obtain ⟨t',rfl⟩:=ry;exact PySem.EqMixed.ne_str_int (zp I q (by simp))
  |str j=>obtain ⟨t',rfl⟩:=ry;exact ne_str (zp I q (congrArg not qb8))
  |_=>exact absurd (show false=true from hs) y6
 |byt i=>
  obtain ⟨t,rfl⟩:=rx;cases y with
  |byt j=>obtain ⟨t',rfl⟩:=ry;exact PySem.W.ne_bytes (zp I q (congrArg not qbH))
  |_=>exact absurd (show false=true from hs) y6
 |_=>cases y<;>exact absurd (show false=true from hs) y6
def qbF:OpR X (compareOp .Lt) (rI0 λi j=>.bl (decide (i<j))):=qpF λ_ _ _ _ _ _ _ q=>lt_int q
def qaj:OpR X (compareOp .Gt) (rI0 λi j=>.bl (decide (j<i))):=qpF λ_ _ _ _ _ _ _ q=>gt_int q
def qpy:OpR X (compareOp .GtE) (rI0 λi j=>.bl (decide (j<=i))):=qpF λ_ _ _ _ _ _ _ q=>ge_int q
def qae:OpR X (compareOp .Is) (λx y H Q=>y=.non/\Q (.bl (decide (x=.non))) H):=by
 intro pins s σ H x y v u Q I rx ry h;obtain ⟨rfl,q⟩:=h;cases ry;refine is_none_gen (zp I q ?_);cases x<;>first
  | (cases rx;rfl)
  | (obtain ⟨t,rfl⟩:=rx;rfl)
def OpR.or {f:Value->Value->Sem Value} {r r':R2} (h:OpR X f r) (h':OpR X f r'):OpR X f (λx y H Q=>r x y H Q\/r' x y H Q):=by
 intro pins s σ H x y v u Q I rx ry q;rcases q with q|q
 ·exact h pins s σ H x y v u Q I rx ry q
 ·exact h' pins s σ H x y v u Q I rx ry q
def qD (b:Expr) {op:CmpOp} (h:op≠.In:=by decide) (h2:op≠.NotIn:=by decide):behindInMarks op b=false:=by
 have e1:(op==CmpOp.In)=false:=by cases op<;>first|rfl|exact absurd rfl h
 have e2:(op==CmpOp.NotIn)=false:=by cases op<;>first|rfl|exact absurd rfl h2
 cases b<;>simp [behindInMarks,e1,e2]
def qhC {op:CmpOp} {r:R2} (ho:OpR X (compareOp op) r) (ha:PE X a ta) (hb:PE X b tb) (hm:behindInMarks op b=false):PE X (.Compare a [op] [b] pos) (tOp r ta tb):=by
 intro pins s σ H Q I h;exact wpAny_Compare1 (qoe ha hb I h λv u s2 x y H2 I2 rx ry q=>ho pins s2 σ H2 x y v u Q I2 rx ry q) hm
def qmA (t:TE):TT:=λσ H Q=>t σ H λx H'=>∃ k,x=.bl k/\Q k H'
def qig {op:CmpOp} {r:R2} (ho:OpR X (compareOp op) r) (ha:PE X a ta) (hb:PE X b tb) (hm:behindInMarks op b=false):PT X (.Compare a [op] [b] pos) (qmA (tOp r ta tb)):=by
 intro pins s σ H Q I h;refine wpAny_isTrue_Compare1 (thn (ha pins s σ H _ I h) λv s1 ⟨x,H1,I1,r1,q1⟩=>thn (hb pins s1 σ H1 _ I1 q1) λu s2 ⟨y,H2,I2,r2,q2⟩=>
  thn (ho pins s2 σ H2 x y v u _ I2 r1 r2 q2) λc s3 ⟨z,H3,I3,r3,k,e,q3⟩=>?_) hm
 subst e;cases r3;exact wpAny_truthy_bool ⟨H3,I3,q3⟩
def KS:(sizeLine:Nat)<2 ^ 63:=by rw [y8];decide
def C6 {x:V} {us:List Value} (r:jj [x] us):∃ u,us=[u]/\jZ x u:=by
 cases r with
 |cons r1 r2=>cases r2;exact ⟨_,rfl,r1⟩
def LY {x y:V} {us:List Value} (r:jj [x,y] us):∃ u w',us=[u,w']/\jZ x u/\jZ y w':=by
 cases r with
 |cons r1 r2=>
  cases r2 with
  |cons r3 r4=>cases r4;exact ⟨_,_,rfl,r1,r3⟩
def NZ:VH X (.builtin "abs") (λxs H Q=>∃ i,xs=[.int i]/\Q (.int (if i<0 then -i else i)) H):=by
 intro pins s σ H xs us Q I r h;obtain ⟨i,rfl,q⟩:=h;obtain ⟨u,rfl,t,rfl⟩:=C6 r;exact call_abs_int λu tk=>⟨.int (if i<0 then -i else i),H,I.tok _,⟨_,rfl⟩,q⟩
def qcS (hc:X.calm=true):VH X (.builtin "min") (λxs H Q=>∃ i j,xs=[.int i,.int j]/\Q (.int (if j<i then j else i)) H):=by
 intro pins s σ H xs us Q I r h;obtain ⟨i,j,rfl,q⟩:=h;obtain ⟨u,w',rfl,⟨t,rfl⟩,⟨t',rfl⟩⟩:=LY r;refine min_two_ints (I.ok.hd hc) λh' tk k=>⟨_,H,I.kept k,?_,q⟩
 by_cases hj:j<i
 ·rw [if_pos hj,if_pos hj];exact ⟨_,rfl⟩
 ·rw [if_neg hj,if_neg hj];exact ⟨_,rfl⟩
def qqG (K:Frg) (x:V) (H:Hp) (n:Nat):Prop:=
 match x with
 |.str y=>y.length<=sizeLine/\n=y.length
 |.byt y=>y.size<=sizeLine/\n=y.size
 |.ref p=>(∃ xs,SqL K H p xs/\n=xs.length)\/∃ xs,SqT K H p xs/\n=xs.length
 |_=>False
def zB:VH X (.builtin "len") (λxs H Q=>∃ x n,xs=[x]/\qqG X.K x H n/\Q (.int n) H):=by
 intro pins s σ H xs us Q I r h;obtain ⟨x,n,rfl,e,q⟩:=h;obtain ⟨u,rfl,rx⟩:=C6 r;have hl:=KS;have hs:sizeLine=16777216:=y8;cases x with
 |str y=>
  obtain ⟨t,rfl⟩:=rx;obtain ⟨hy,e'⟩:y.length<=sizeLine/\n=y.length:=e;subst e';exact len_str (by omega) ⟨.int _,H,I.tok _,⟨_,rfl⟩,q⟩
 |byt y=>
  obtain ⟨t,rfl⟩:=rx;obtain ⟨hy,e'⟩:y.size<=sizeLine/\n=y.size:=e;subst e';exact PySem.W.len_bytes (by omega) ⟨.int _,H,I.tok _,⟨_,rfl⟩,q⟩
 |ref p=>
  cases rx;have e':(∃ xs,SqL X.K H p xs/\n=xs.length)\/∃ xs,SqT X.K H p xs/\n=xs.length:=e;rcases e' with ⟨xs,hx,e'⟩|⟨xs,hx,e'⟩
  ·subst e';obtain ⟨its,r',pl,hz⟩:=I.list hx;have hlen:=r'.length;exact Calls.call_len_list pl.isList (by simp only [size_toArray];omega) ⟨.int xs.length,H,I.tok _,⟨_,by simp only [size_toArray];rw [hlen]⟩,q⟩
  ·subst e';obtain ⟨its,r',pl,hz⟩:=I.tuple hx;have hlen:=r'.length;exact len_tuple pl (by simp only [size_toArray];omega) ⟨.int xs.length,H,I.tok _,⟨_,by simp only [size_toArray];rw [hlen]⟩,q⟩
 |_=>exact (show False from e).elim
end
section
variable {prog:Program} {w:World} {A:Around} {E:Value->Shared->Prop} {s:Shared} {K:Frg} {x dx C f:Addr} {mA:Str->Option Value} {name:Str} {v:Value}
end
section
variable {P:Program} {w:World} {H H':Hp} {h h':Heap} {a C dx:Addr} {fs fs':List (Str×V)}
end
section
variable {X:Cx} {pins:List (Addr×Obj)} {σ:St} {H:Hp} {s:Shared} {a C dx:Addr} {fs:List (Str×V)} {f:Str} {v:V} {A:Around} {E:Value->Shared->Prop}
end
section
variable {X:Cx} {o e value:Expr} {f:Str} {pos pos' tpos:Pos} {ta tv:TE}
end
section
variable {X:Cx} {pins:List (Addr×Obj)} {σ:St} {H:Hp} {s:Shared} {A:Around} {E:Value->Shared->Prop} {Q:Value->Shared->Prop} {c:Value} {b:Bool}
end
structure Room (k:Nat) (A:Around):Prop where
 hd:A.handled=none
 dp:A.depth+3*k+5<recursionLimit
 un:A.units+16*k+200<cLine
 gd:A.guards=some []
def Room.mono {j k:Nat} {A:Around} (r:Room k A) (h:j<=k):Room j A:=⟨r.hd,by have:=r.dp;omega,by have:=r.un;omega,r.gd⟩
def Room.deeper {k:Nat} {A:Around} (r:Room (k+1) A) (env:Env):Room k (A.deeper env):=
 ⟨r.hd,by have:=r.dp;show A.depth+1+3*k+5<_;omega,by have:=r.un;show A.units+3+16*k+200<_;omega,r.gd⟩
def Room.in1 {k:Nat} {A:Around} (r:Room (k+1) A):Room k A.in1:=
 ⟨r.hd,by have:=r.dp;show A.depth+3*k+5<_;omega,by have:=r.un;show A.units+1+16*k+200<_;omega,r.gd⟩
def Room.depth {k:Nat} {A:Around} (r:Room k A):A.depth<recursionLimit:=by have:=r.dp;omega
def Room.units {k:Nat} {A:Around} (r:Room k A):A.units+64<cLine:=by have:=r.un;omega
def qrh:TA:=λ_ H Q=>Q [] H
def qpb (ta:TE) (tr:TA):TA:=λσ H Q=>ta σ H λx H1=>tr σ H1 λxs H2=>Q (x::xs) H2
section
variable {X:Cx} {e:Expr} {es:List Expr} {te:TE} {t:TA} {pos:Pos}
def DI:PA X [] qrh:=λ_ _ _ _ H Q I h=>Calls.spliced_nil ⟨[],H,I,.nil,h⟩
def jV (ha:PE X e te) (hr:PA X es t) (hs:starEach (e::es) X.env=(false,eval e X.env)::starEach es X.env:=by rfl):PA X (e::es) (qpb te t):=by
 intro pos pins s σ H Q I h;rw [hs];show wpAny _ _ (spliced ((false,eval e X.env)::backTo pos (starEach es X.env))) _ _ s;refine Calls.spliced_cons (thn (ha pins s σ H _ I h) λu s1 ⟨x,H1,I1,r1,q1⟩=>?_);exact thn (hr pos pins s1 σ H1 _ I1 q1) λus s2 ⟨xs,H2,I2,r2,q2⟩=>⟨x::xs,H2,I2,.cons r1 r2,q2⟩
def qrF (t:TA):TE:=λσ H Q=>t σ H λxs H1=>xs.length<=sizeLine/\∀ p,H1 p=none->Q (.ref p) (upd H1 p (.tup xs))
def qrG (t:TA):TE:=λσ H Q=>t σ H λxs H1=>xs.length<=sizeLine/\∀ p,H1 p=none->Q (.ref p) (upd H1 p (.lst xs))
def qcR {x1} (h:PA X es t):PE X (.Tuple es x1 pos) (qrF t):=by
 intro pins s σ H Q I hq;refine wpAny_Tuple_spliced (thn (h pos pins s σ H _ I hq) λus s1 ⟨xs,H1,I1,r,z,q⟩=>⟨by rw [← r.length];exact z,?_⟩);have hf:H1 s1.heap.objs.size=none:=I1.hok.fresh (v4 _);refine ⟨.ref s1.heap.objs.size,upd H1 s1.heap.objs.size (.tup xs),I1.laid (t':=s1.toks) (λb u e=>x9 _ e) (v4 _) ?_,rfl,q _ hf⟩;exact ⟨z,us,r,⟨_,y3 _ rfl,rfl,_,rfl,rfl⟩⟩
def qlW (h:PA X es t):PE X (.List es pos) (qrG t):=by
 intro pins s σ H Q I hq;refine wpAny_List_spliced (thn (h pos pins s σ H _ I hq) λus s1 ⟨xs,H1,I1,r,z,q⟩=>⟨by rw [← r.length];exact z,?_⟩);have hf:H1 s1.heap.objs.size=none:=I1.hok.fresh (v4 _);refine ⟨.ref s1.heap.objs.size,upd H1 s1.heap.objs.size (.lst xs),I1.laid (t':=s1.toks) (λb u e=>x9 _ e) (v4 _) ?_,rfl,q _ hf⟩;exact ⟨z,us,0,r,y3 _ rfl⟩
end
abbrev Sp:=List V->Hp->VK->XK->Prop
abbrev CXT:=List Env->Hp->Shared->XK->Value->Shared->Prop
structure Env0 (P:Program) (w:World) (K:Frg) (mg:Str->Option Value) (base:Heap) (A:Around) (outer:List Env) (s:Shared) (H:Hp):Prop where
 frames:A.frames=some outer
 mod:Mod K mg base
 bs:∀ b o,base.get? b=some o->s.heap.get? b=some o/\H b=none
 bsz:base.objs.size<=s.heap.objs.size
 funs:s.heap.FunFrames base outer
 frf:∀ b∈frs outer,H b=none
 hok:HOk P w H s.heap
 bare:AllBare s.gens
def CE (outer:List Env) (P:Program) (w:World) (H:Hp) (s:Shared) (Q:VK) (u:Value) (s':Shared):Prop:=
 ∃ v H',s'.os=s.os/\AllBare s'.gens/\Un (frs outer) [] H H' s.heap s'.heap/\HOk P w H' s'.heap/\jZ v u/\Q v H'
def CR (CX:CXT) (outer:List Env) (P:Program) (w:World) (H:Hp) (s:Shared) (Q:VK) (E:XK) (r:Result) (s':Shared):Prop:=
 match r with
 |.ok (.ret u)=>CE outer P w H s Q u s'
 |.ok _=>False
 |.error e=>CX outer H s E e s'
structure FnOk (P:Program) (w:World) (K:Frg) (mg:Str->Option Value) (base:Heap) (CX:CXT) (k:Nat) (f:Addr) (fd:FuncData) (ps:List Str) (sp:Sp):Prop where
 len:∀ vs H Q E,sp vs H Q E->vs.length=ps.length
 run:∀ (A:Around) (outer:List Env) (s:Shared) (H:Hp) (args:Args) (us:List Value) (vs:List V) (Q:VK) (E:XK),Room k A->Env0 P w K mg base A outer s H->BindsTo s fd args (ps.zip us)->jj vs us->sp vs H Q E ->
  codeAny (model P w) A (.call (.ref f) args) (CR CX outer P w H s Q E) s
def FnOk.mono {P:Program} {w:World} {K:Frg} {mg:Str->Option Value} {base:Heap} {CX:CXT} {j k:Nat} {f:Addr} {fd:FuncData} {ps:List Str} {sp:Sp} (F:FnOk P w K mg base CX j f fd ps sp) (h:j<=k) :
  FnOk P w K mg base CX k f fd ps sp:=⟨F.len,λA outer s H args us vs Q E hr=>F.run A outer s H args us vs Q E (hr.mono h)⟩
def FnOk.imp {P:Program} {w:World} {K:Frg} {mg:Str->Option Value} {base:Heap} {CX:CXT} {k:Nat} {f:Addr} {fd:FuncData} {ps:List Str} {sp sp':Sp} (F:FnOk P w K mg base CX k f fd ps sp)
  (h:∀ vs H Q E,sp' vs H Q E->sp vs H Q E):FnOk P w K mg base CX k f fd ps sp':=
 ⟨λvs H Q E q=>F.len vs H Q E (h _ _ _ _ q),λA outer s H args us vs Q E hr he hb hv hs=>F.run A outer s H args us vs Q E hr he hb hv (h _ _ _ _ hs)⟩
def Env0.in1 {P:Program} {w:World} {K:Frg} {mg:Str->Option Value} {base:Heap} {A:Around} {outer:List Env} {s:Shared} {H:Hp} (e:Env0 P w K mg base A outer s H) :
  Env0 P w K mg base A.in1 outer s H:=⟨e.frames,e.mod,e.bs,e.bsz,e.funs,e.frf,e.hok,e.bare⟩
section
variable {X:Cx} {pins:List (Addr×Obj)} {σ:St} {H:Hp} {s s':Shared}
def Inv.env0 (I:Inv X pins σ H s):Env0 X.prog X.w X.K X.mg X.base X.A X.stack s H:=
 ⟨I.ok.frames,I.ok.mod,I.bs,v9 I.ok.bsz I.sz,I.stack,I.stkFree,I.hok,I.bare⟩
def Inv.after {Q:VK} {u:Value} (I:Inv X pins σ H s) (h:CE X.stack X.prog X.w H s Q u s'):EP X pins σ Q u s':=by
 obtain ⟨v,H',os,bare,un,hok,r,q⟩:=h;obtain ⟨hh,g,d,t,os'⟩:=s';obtain rfl:os'=s.os:=os;exact ⟨v,H',I.call (h':=hh) (g':=g) (d':=d) (t':=t) (ch:=[]) un hok bare (λb z=>absurd z (by simp)),r,q⟩
end
def qpq (sp:Sp) (dvs:List V) (E:XK) (t:TA):TE:=λσ H Q=>t σ H λvs H1=>sp (vs++dvs) H1 Q E
def WY (K:Frg) (fd:FuncData) (ps:List Str) (ds:List Value):Prop:=
 ∀ (s:Shared) (us:List Value),K.In s.heap->(us++ds).length=ps.length->BindsTo s fd ⟨us,[]⟩ (ps.zip (us++ds))
def WY.all {K:Frg} {fd:FuncData} {ps:List Str} (h:∀ us:List Value,us.length=ps.length->bindArgs fd ⟨us,[]⟩=pure (ps.zip us)):WY K fd ps []:=λs us _ hl=>by
 rw [List.append_nil] at hl ⊢;exact .of_eq (h us hl)
def N9 (CX:CXT) (X:Cx) (E:XK):Prop:=∀ (pins:List (Addr×Obj)) (σ:St) (H:Hp) (s:Shared) (e:Value) (s':Shared),Inv X pins σ H s->CX X.stack H s E e s'->X.xe e s'
section
variable {X:Cx} {CX:CXT} {k:Nat} {f C:Addr} {fd:FuncData} {ps:List Str} {sp:Sp} {dvs:List V} {ds:List Value} {E:XK} {x m:Str} {p pos apos:Pos} {e o:Expr} {es:List Expr} {ta:TE} {t:TA}
def qkA {pins:List (Addr×Obj)} {σ:St} {H:Hp} {s:Shared} {Q:VK} {us:List Value} {vs:List V} (F:FnOk X.prog X.w X.K X.mg X.base CX k f fd ps sp) (hr:Room k X.A) (hb:WY X.K fd ps ds) (hd:jj dvs ds) (hx:N9 CX X E)
  (I:Inv X pins σ H s) (r:jj vs us) (h:sp (vs++dvs) H Q E):wpAny (model X.prog X.w) X.A (call (.ref f) us) (EP X pins σ Q) X.xe s:=by
 have r2:jj (vs++dvs) (us++ds):=r.append hd;have hl:(us++ds).length=ps.length:=by rw [← r2.length];exact F.len _ _ _ _ h
 refine wpAny_call (codeAny_mono (F.run X.A X.stack s H ⟨us,[]⟩ (us++ds) (vs++dvs) Q E hr I.env0 (hb s us I.kIn hl) r2 h) λr s' hq=>?_);cases r with
 |error e=>exact hx pins σ H s e s' I hq
 |ok fl=>
  cases fl with
  |ret u=>exact I.after hq
  |next=>exact False.elim hq
  |brk=>exact False.elim hq
  |cont=>exact False.elim hq
def qbL (F:FnOk X.prog X.w X.K X.mg X.base CX k f fd ps sp) (hr:Room k X.A) (hg:Gl X x) (hm:X.mg x=some (.ref f)) (hk:PySem.W.keepIn X.K (.ref f)=true) (hb:WY X.K fd ps ds) (hd:jj dvs ds) (hx:N9 CX X E)
  (ha:PA X (e::es) t) (hdb:(x==("__debug__" : Str))=false:=by decide) (he:starEach (e::es) X.env=(false,eval e X.env)::starEach es X.env:=by rfl) (hpl:(backTo pos (starEach es X.env)).any (·.1)=false:=by rfl) :
  PE X (.Call (.Name x p) (e::es) [] pos) (qpq sp dvs E t):=by
 intro pins s σ H Q I h;refine wpAny_Call_Name_kw (CB I hg hm ?_ hdb);refine PySem.W.callWith_K (h₀:=X.base) I.ok.mod.kin hk (thn (ha pos pins s σ H _ I h) λus s1 ⟨vs,H1,I1,r,q⟩=>⟨I1.kIn,?_⟩) he hpl;exact qkA F hr hb hd hx I1 r q
end
section
variable {X:Cx} {CX:CXT} {k:Nat} {f C:Addr} {fd:FuncData} {ps ks:List Str} {sp:Sp} {E:XK} {x m:Str} {p pos apos kpos:Pos} {e o:Expr} {es:List Expr} {kws:List Keyword} {te ta:TE} {t tk:TA} {nm:Option Str}
variable {g:List Value->List Value->List Value} {gV:List V->List V->List V}
end
structure FnScope (N P:List Str) (sc:Scope):Prop where
 kind:sc.kind=.function
 co:sc.isCoroutine=false
 gen:sc.isGenerator=false
 nd:N.Nodup
 pre:N.take P.length=P
 par:∀ x∈P,sc.names.lookup x=some .local\/sc.names.lookup x=some .cell
 nofree:∀ y∈sc.names,y.2≠.free
def KU {kindOf:Str->Option NameKind} {x:Str}:∀ {binds:List (Str×Value)} {m:Str->Option Value},(∀ v,(x,v)∉binds)->bindL kindOf binds m x=m x
 |[],_,_=>rfl
 | (n,v)::r,m,h=>by
  unfold bindL;rw [KU λw hw=>h w (v5 _ hw)];split
  ·have:x≠n:=by rintro rfl;exact h v u9
   simp [this]
  ·rfl
def KD {kindOf:Str->Option NameKind} {x:Str}:∀ {binds:List (Str×Value)} {m:Str->Option Value},(∀ v,(x,v)∉binds)->bindC kindOf binds m x=m x
 |[],_,_=>rfl
 | (n,v)::r,m,h=>by
  unfold bindC;rw [KD λw hw=>h w (v5 _ hw)];split
  ·rfl
  ·have:x≠n:=by rintro rfl;exact h v u9
   simp [this]
def KT {kindOf:Str->Option NameKind} {x:Str} {v:Value}:∀ {P:List Str} {vs:List Value} {i:Nat} {m:Str->Option Value},P.Nodup->P[i]?=some x->vs[i]?=some v->kindOf x=some .local ->
  bindL kindOf (P.zip vs) m x=some v
 |[],_,_,_,_,h,_,_=>by simp at h
 |_::_,[],_,_,_,_,h,_=>by simp at h
 |p::P,w::vs,0,m,nd,h1,h2,hk=>by
  simp at h1 h2;subst h1;subst h2;show bindL kindOf ((p,w)::P.zip vs) m p=_;unfold bindL;rw [KU λv hv=>(List.nodup_cons.mp nd).1 (List.of_mem_zip hv).1,if_pos hk];simp
 |p::P,w::vs,i+1,m,nd,h1,h2,hk=>by
  show bindL kindOf ((p,w)::P.zip vs) m x=_;unfold bindL;exact KT (i:=i) (List.nodup_cons.mp nd).2 (by simpa using h1) (by simpa using h2) hk
def KI {kindOf:Str->Option NameKind} {x:Str} {v:Value}:∀ {P:List Str} {vs:List Value} {i:Nat} {m:Str->Option Value},P.Nodup->P[i]?=some x->vs[i]?=some v->kindOf x≠some .local ->
  bindC kindOf (P.zip vs) m x=some v
 |[],_,_,_,_,h,_,_=>by simp at h
 |_::_,[],_,_,_,_,h,_=>by simp at h
 |p::P,w::vs,0,m,nd,h1,h2,hk=>by
  simp at h1 h2;subst h1;subst h2;show bindC kindOf ((p,w)::P.zip vs) m p=_;unfold bindC;rw [KD λv hv=>(List.nodup_cons.mp nd).1 (List.of_mem_zip hv).1,if_neg hk];simp
 |p::P,w::vs,i+1,m,nd,h1,h2,hk=>by
  show bindC kindOf ((p,w)::P.zip vs) m x=_;unfold bindC;exact KI (i:=i) (List.nodup_cons.mp nd).2 (by simpa using h1) (by simpa using h2) hk
def CY (N:List Str) (vs:List V):St:=vs.map some++List.replicate (N.length-vs.length) none
def VE (CX:CXT) (P:Program) (w:World) (K:Frg) (mg:Str->Option Value) (base:Heap) (N:List Str) (qual:Str) (scope:Scope) (f:Addr) (cd:Value) (A:Around) (outer:List Env) (s:Shared) (H:Hp) (E:XK):Cx where
 prog:=P
 w:=w
 K:=K
 mg:=mg
 base:=base
 A:=A.deeper (envOfC qual scope s.heap.objs.size f cd)
 N:=N
 s₀:=s
 H₀:=H
 env:=envOfC qual scope s.heap.objs.size f cd
 outer:=outer
 stack:=envOfC qual scope s.heap.objs.size f cd::outer
 ex:=[]
 calm:=true
 fn:=λ_=>true
 pn:=[]
 xe:=λe s'=>wpAny (model P w) (A.deeper (envOfC qual scope s.heap.objs.size f cd)) (leaving (envOfC qual scope s.heap.objs.size f cd) e) (λ_ s''=>CX outer H s E e s'') (λe' s''=>CX outer H s E e' s'') s'
def NY {sc:Scope} {n:Nat} {x:Str} (h:sc.names.lookup x=some .cell):∃ c,(cellsFrom n sc.names []).lookup x=some c:=by
 have q:=PySem.W.cellsFrom_some sc.names n [] (.inl h);exact Option.isSome_iff_exists.mp q
def qbS {CX:CXT} {P:Program} {w:World} {K:Frg} {mg:Str->Option Value} {base:Heap} {N ps:List Str} {qual:Str} {scope:Scope} {f:Addr} {cd:Value} {A:Around} {outer:List Env} {s s1:Shared} {H:Hp} {E:XK} {us:List Value} {vs:List V}
  (S:FnScope N ps scope) (hd:A.handled=none) (e0:Env0 P w K mg base A outer s H) (hl:vs.length=ps.length) (r:jj vs us)
  (x:InCallC s s.heap.objs.size (bindL (envOfC qual scope s.heap.objs.size f cd).kindOf (ps.zip us) λ_=>none) (cellsFrom (s.heap.objs.size+1) scope.names []) (bindC (envOfC qual scope s.heap.objs.size f cd).kindOf (ps.zip us) λ_=>none) s1) :
  Inv (VE CX P w K mg base N qual scope f cd A outer s H E) [] (CY N vs) H s1:=by
 have hpl:ps.length<=N.length:=by have:=congrArg List.length S.pre;rw [List.length_take] at this;omega
 obtain ⟨h1,tk,rfl,hk⟩:=x.done;have noA:∀ b:Addr,b∉(VE CX P w K mg base N qual scope f cd A outer s H E).ex:=λb z=>absurd (show b∈([]:List Addr) from z) (by simp);refine ⟨⟨e0.mod,S.kind,rfl,rfl,v4 _,λy z c h1 h2=>?_,λy hy=>?_,λy c _ h=>?_,λ_=>hd,Around.frames_deeper e0.frames,.inr ⟨rfl,rfl⟩,λb z=>absurd z (noA b),e0.bs,e0.bsz,λb _ _=>noA b,λb z=>absurd z (noA b),e0.funs,e0.frf⟩,
  rfl,e0.bare,Un.kept hk,⟨_,x.toInCall.ns,λi y v h1 h2 h3=>?_⟩,λy c h=>⟨_,x.cell y c h⟩,e0.hok.fresh (v4 _),λy c h=>?_,λp hp=>absurd (show p∈([]:List (Addr×Obj)) from hp) (by simp),e0.hok.kept hk,?_⟩
 ·exact name_of_addr x.apart (PySem.mem_of_lookup h1) (PySem.mem_of_lookup h2)
 ·have hy:scope.names.lookup y=some .cell\/scope.names.lookup y=some .free:=hy;rcases hy with hy|hy
  ·exact NY hy
  ·exact absurd rfl (S.nofree _ (PySem.mem_of_lookup hy))
 ·exact Nat.le_of_lt (x.above y c (PySem.mem_of_lookup h))
 ·have hi:i<vs.length:=by
   unfold CY at h2;by_cases hi:i<vs.length
   ·exact hi
   ·rw [List.getElem?_append_right (by simpa using hi)] at h2;rw [List.getElem?_replicate] at h2;split at h2<;>cases h2
  have ha:vs[i]?=some v:=by
   unfold CY at h2;rw [List.getElem?_append_left (by simpa using hi),getElem?_map] at h2;cases e:vs[i]? with
   |none=>rw [e] at h2;cases h2
   |some a=>rw [e] at h2;cases h2;rfl
  obtain ⟨u,hu,rv⟩:=r.get ha;have hp:ps[i]?=some y:=by
   rw [← S.pre,List.getElem?_take_of_lt (by omega)];exact h1
  have ndP:ps.Nodup:=by rw [← S.pre];exact S.nd.sublist (List.take_sublist _ _)
  refine ⟨u,rv,?_⟩;rcases S.par y (v8 hp) with k|k
  ·exact .inl ⟨k,KT ndP hp hu k⟩
  ·obtain ⟨c,e⟩:=NY (n:=s.heap.objs.size+1) k;refine .inr ⟨.inl k,c,e,?_⟩;have q:=x.cell y c e;rw [KI ndP hp hu (by show scope.names.lookup y≠_;rw [k];decide)] at q;exact q
 ·exact e0.hok.fresh (Nat.le_of_lt (x.above y c (PySem.mem_of_lookup h)))
 ·unfold CY;show _=N.length;rw [length_append,length_map,List.length_replicate];omega
def qkM {CX:CXT} {P:Program} {w:World} {K:Frg} {mg:Str->Option Value} {base:Heap} {k:Nat} {f:Addr} {name qual:Str} {params:Arguments} {body:List Stmt} {scope:Scope} {dV kV doc pm cdv ct oc:Value} {an od:Option Addr}
  {osl:Array (Option Value)} {N ps:List Str} {sp:Sp} (lk:K.lookup f=some ⟨oc,od,.func (PySem.W.fnOf name qual params body scope dV kV doc pm an cdv ct),osl⟩) (hcd:PySem.W.codeIn K cdv qual=true) (S:FnScope N ps scope)
  (len:∀ vs H Q E,sp vs H Q E->vs.length=ps.length)
  (hbody:∀ (A:Around) (outer:List Env) (s:Shared) (H:Hp) (vs:List V) (Q:VK) (E:XK),Room k (A.deeper (envOfC qual scope s.heap.objs.size f cdv))->sp vs H Q E ->
   ∃ t,PSs (VE CX P w K mg base N qual scope f cdv A outer s H E) body t/\t { nx:=λ_ H'=>Q .non H',rt:=Q } (CY N vs) H) :
  FnOk P w K mg base CX (k+1) f (PySem.W.fnOf name qual params body scope dV kV doc pm an cdv ct) ps sp:=by
 refine ⟨len,λA outer s H args us vs Q E hr e0 hb r hsp=>?_⟩;have hl:=len _ _ _ _ hsp;have KX:K.In s.heap:=e0.mod.kin.keeps λb o e=>(e0.bs b o e).1;have lim:s.heap.NoLimit:=e0.mod.nolimit.keeps λb o e=>(e0.bs b o e).1;have hkind:∀ y∈ps.zip us,scope.names.lookup y.1=some .local\/(scope.names.lookup y.1=some .cell/\((cellsFrom (s.heap.objs.size+1) scope.names []).lookup y.1).isSome=true):=λ⟨n,v⟩ hy=>by
  rcases S.par n (List.of_mem_zip hy).1 with q|q
  ·exact .inl q
  ·exact .inr ⟨q,PySem.W.cellsFrom_some _ _ _ (.inl q)⟩
 refine codeAny_call_function hr.depth (KX _ _ lk) rfl S.co S.gen rfl (PySem.W.codeRec_of KX hcd) (hb _ _ _ _ ?_);refine wpAny_newFunctionEnv_cells S.kind hkind λenv he s1 x=>?_;subst he;refine ⟨lim.keeps x.toInCall.keep,codeAny_func ?_⟩;obtain ⟨t,ht,hq⟩:=hbody A outer s H vs Q E (hr.deeper _) hsp;have I:Inv (VE CX P w K mg base N qual scope f cdv A outer s H E) [] (CY N vs) H s1:=qbS S hr.hd e0 hl r x;refine x8 (ht [] s1 (CY N vs) H _ I hq) (λfl s' hs=>?_) λe s' hs=>hs;have fin:∀ {σ':St} {H':Hp} {v:V} {u:Value},Inv (VE CX P w K mg base N qual scope f cdv A outer s H E) [] σ' H' s'->jZ v u->Q v H'->CE outer P w H s Q u s':=
  λ{σ' H' v u} J rv q=>⟨v,H',J.os,J.bare,J.base,J.hok,rv,q⟩
 cases fl with
 |ret u=>
  obtain ⟨v,σ',H',J,rv,q⟩:=hs;exact fin J rv q
 |next=>
  obtain ⟨σ',H',J,q⟩:=hs;exact fin (v:=V.non) (u:=Value.none) J rfl q
 |brk=>
  obtain ⟨_,_,_,q⟩:=hs;exact False.elim q
 |cont=>
  obtain ⟨_,_,_,q⟩:=hs;exact False.elim q
section
variable {X:Cx} {x:Str} {p pos:Pos} {e:Expr} {es:List Expr} {t:TA} {id T:String} {r:List V->Hp->VK->Prop}
def tCB (r:List V->Hp->VK->Prop) (t:TA):TE:=λσ H Q=>t σ H λvs H1=>r vs H1 Q
def UH (hc:VH X (.builtin id) r) (hg:Gl X x) (hm:X.mg x=none) (hv:bootBuiltins x=some (.builtin id)) (ha:PA X (e::es) t) (hn:x≠"__name__" := by decide) (hdb:(x==("__debug__" : Str))=false:=by decide)
  (he:starEach (e::es) X.env=(false,eval e X.env)::starEach es X.env:=by rfl) (hpl:(backTo pos (starEach es X.env)).any (·.1)=false:=by rfl):PE X (.Call (.Name x p) (e::es) [] pos) (tCB r t):=by
 intro pins s σ H Q I h;refine wpAny_Call_Name_kw (CK I hg hm hv ?_ hn hdb);exact PyProof.Rows.callWith_builtin1 (thn (ha pos pins s σ H _ I h) λus s1 ⟨vs,H1,I1,r1,q1⟩=>hc pins s1 σ H1 vs us Q I1 r1 q1) he hpl
def LB (hc:VH X (.type T) r) (hg:Gl X x) (hm:X.mg x=none) (hv:bootBuiltins x=some (.type T)) (ha:PA X (e::es) t) (hn:x≠"__name__" := by decide) (hdb:(x==("__debug__" : Str))=false:=by decide)
  (he:starEach (e::es) X.env=(false,eval e X.env)::starEach es X.env:=by rfl) (hpl:(backTo pos (starEach es X.env)).any (·.1)=false:=by rfl):PE X (.Call (.Name x p) (e::es) [] pos) (tCB r t):=by
 intro pins s σ H Q I h;refine wpAny_Call_Name_kw (CK I hg hm hv ?_ hn hdb);exact PyProof.Rows.callWith_type1 (thn (ha pos pins s σ H _ I h) λus s1 ⟨vs,H1,I1,r1,q1⟩=>hc pins s1 σ H1 vs us Q I1 r1 q1) he hpl
end
end L2
namespace HT
open PySem PyProof.Rows
section
open PySem.SeqAt
open PySem.MeetsSeq PySem.MeetsSeq2 PySem.MeetsSeq3
end
section
variable {prog:Program} {w:World} {A:Around} {E:Value->Shared->Prop} {s:Shared}
def qhO {t b:Addr} {vs ws:List Value} {Q:Value->Shared->Prop} (ht:IsTup s.heap t vs.toArray) (hb:IsTup s.heap b ws.toArray) (hv:vs≠[])
  (h1:ws=[]->Q (.ref t) s) (h2:ws≠[]->Q (.ref s.heap.objs.size) { s with heap:=s.heap.push { cls:=.type "tuple",data:=.seq (vs++ws).toArray } })
  (hsz:vs.length+ws.length<=sizeLine):wpAny (model prog w) A (binaryOp .Add (.ref t) (.ref b)) Q E s:=by
 obtain ⟨⟨cls,dd,data,sl⟩,ho,hc,n,hd⟩:=id ht;obtain ⟨⟨cls2,dd2,data2,sl2⟩,ho2,hc2,n2,hd2⟩:=id hb;simp only at hc hd hc2 hd2;subst hc hd hc2 hd2;have e:vs.toArray++ws.toArray=(vs++ws).toArray:=by simp
 by_cases hw:ws=[]
 ·exact concat_meets ⟨_,ho,rfl⟩ ⟨_,ho2,rfl⟩ noFill_tuple_add seq_tuple_add PySem.F.slot_tuple_add PySem.F.entry_tuple_add (PySem.F.args_tuple_add_2 _ _)
   (tuple_addW1 t b vs.toArray ws.toArray n n2 dd dd2 sl sl2 (by simpa using hv) (by simp [hw])) ⟨ho,ho2,h1 hw⟩
 ·refine concat_meets ⟨_,ho,rfl⟩ ⟨_,ho2,rfl⟩ noFill_tuple_add seq_tuple_add PySem.F.slot_tuple_add PySem.F.entry_tuple_add (PySem.F.args_tuple_add_2 _ _)
   (tuple_addW2 t b vs.toArray ws.toArray n n2 dd dd2 sl sl2 (by simpa using hv) (by simpa using hw) (by rw [size_toArray,size_toArray];exact hsz)) ⟨ho,ho2,?_⟩
  rw [e];exact h2 hw
def sIx (n d:Nat):Option Int->Nat
 |none=>d
 |some v=>if v<0 then (v+(n:Int)).toNat else min v.toNat n
def qnk (n d:Nat) (hd:d<=n) (o:Option Int):sIx n d o<=n:=by
 cases o with
 |none=>exact hd
 |some v=>
  show (if v<0 then (v+(n:Int)).toNat else min v.toNat n)<=n;by_cases hv:v<0
  ·rw [if_pos hv];omega
  ·rw [if_neg hv];exact Nat.min_le_right _ _
def qbh (v:Int) (n d:Nat):(if v<0 then max (v+(n:Int)) 0 else min v (n:Int))=((sIx n d (some v):Nat):Int):=by
 show (if v<0 then max (v+(n:Int)) 0 else min v (n:Int))=(((if v<0 then (v+(n:Int)).toNat else min v.toNat n):Nat):Int);by_cases hv:v<0
 ·simp only [if_pos hv];omega
 ·simp only [if_neg hv];omega
def qah (lo hi:Option Int) (n:Nat):Builtin.Slice.sliceAdjust lo hi 1 (n:Int)=(((sIx n 0 lo:Nat):Int),((sIx n n hi:Nat):Int)):=by
 have h1:¬ ((1:Int)<0):=by omega
 unfold Builtin.Slice.sliceAdjust;simp only [h1,if_false];refine Prod.ext ?_ ?_
 ·cases lo with
  |none=>rfl
  |some v=>exact qbh v n 0
 ·cases hi with
  |none=>rfl
  |some v=>exact qbh v n n
def qaw (i j:Nat):Builtin.Slice.slicePlaces (i:Int) (j:Int) 1=j-i:=by
 unfold Builtin.Slice.slicePlaces;have h1:(1:Int) > 0:=by omega
 simp only [h1,if_true,Int.ediv_one];split<;>omega
def RT {v:Value} {o:Option Int} {Q:Option Int->Shared->Prop} (p:IsPart v o) (h:Q o s):wpAny (model prog w) A (Builtin.Slice.slicePartIndex v) Q E s:=by
 cases p with
 |none=>exact slicePart_none h
 |int i t=>exact slicePart_int h
def W2 {sl:Addr} {vl vu:Value} {lo hi:Option Int} {n:Nat} {Q:Int×Int×Nat->Shared->Prop} (hs:s.heap.IsSliceOf sl vl vu .none) (pl:IsPart vl lo) (pu:IsPart vu hi)
  (h:Q (((sIx n 0 lo:Nat):Int),1,sIx n n hi-sIx n 0 lo) s):wpAny (model prog w) A (Builtin.Slice.sliceApplied (.ref sl) (pure (n:Int))) Q E s:=by
 obtain ⟨os,hos,hcs,hds⟩:=id hs;unfold Builtin.Slice.sliceApplied Builtin.Slice.sliceFields;refine x5 (x5 (wpAny_field hos hds (x:=vl) rfl (x5 (wpAny_field hos hds (x:=vu) rfl (x5 (wpAny_field hos hds (x:=.none) rfl (x6 ?_)))))));refine x5 (slicePart_none ?_);show wpAny _ _ (if ((1:Int)==0)=true then _ else _) _ _ s;rw [if_neg (by decide)];refine x5 (RT pl (x5 (RT pu (x5 (x6 ?_)))));show wpAny _ _ (match Builtin.Slice.sliceAdjust lo hi 1 (n:Int) with|(lo,hi)=>pure (lo,(1:Int),Builtin.Slice.slicePlaces lo hi 1)) _ _ s;rw [qah lo hi n];show wpAny _ _ (pure (((sIx n 0 lo:Nat):Int),(1:Int),Builtin.Slice.slicePlaces ((sIx n 0 lo:Nat):Int) ((sIx n n hi:Nat):Int) 1)) _ _ s;rw [qaw];exact x6 h
def qdi (xs:Array Value) (i k:Nat):((List.range k).filterMap λ(m:Nat)=>xs[((i:Int)+(m:Int)*1).toNat]?).toArray=((xs.toList.drop i).take k).toArray:=by
 have e:(λ(m:Nat)=>xs[((i:Int)+(m:Int)*1).toNat]?)=λm=>xs[i+m]?:=by
  funext m;have:((i:Int)+(m:Int)*1).toNat=i+m:=by omega
  rw [this]
 rw [e];have:=pick_run xs i k;rw [List.filterMap_map] at this;have e2:((λx=>xs[x]?)∘λx=>i+x)=λm=>xs[i+m]?:=rfl;rw [e2] at this;rw [this]
def DY {t sl:Addr} {items:Array Value} {vl vu:Value} {lo hi:Option Int} {Q:Value->Shared->Prop} (ht:IsTup s.heap t items) (hs:s.heap.IsSliceOf sl vl vu .none) (pl:IsPart vl lo) (pu:IsPart vu hi)
  (hw:¬ (sIx items.size 0 lo=0/\sIx items.size items.size hi=items.size))
  (h:Q (.ref s.heap.objs.size) { s with heap:=s.heap.push { cls:=.type "tuple",data:=.seq ((items.toList.drop (sIx items.size 0 lo)).take (sIx items.size items.size hi-sIx items.size 0 lo)).toArray } })
  (hsz:items.size<=sizeLine):wpAny (model prog w) A (getItem (.ref t) (.ref sl)) Q E s:=by
 have htake:sizeOk (.seq ((items.toList.drop (sIx items.size 0 lo)).take (sIx items.size items.size hi-sIx items.size 0 lo)).toArray):=by
  show ((items.toList.drop (sIx items.size 0 lo)).take (sIx items.size items.size hi-sIx items.size 0 lo)).toArray.size<=sizeLine;rw [size_toArray,List.length_take,List.length_drop,Array.length_toList];omega
 have hj:sIx items.size items.size hi<=items.size:=qnk _ _ (v4 _) hi;obtain ⟨os,hos,hcs,hds⟩:=id hs;have hTs:s.TypeIs (.ref sl) "slice" := ⟨os,hos,hcs⟩
 unfold getItem
 try with_reducible refine wpAny_holding ?_
 first|refine x5 (x6 ?_)|skip
 refine x5 (wpAny_sequenceKey ht.typeIs (by decide) ?_);refine x5 (wpAny_callSpecial?_slot (name:=Str.ofString "__getitem__") ht.typeIs PyProof.Rows.slot_tuple_getitem
  (wpAny_call_entry PyProof.Rows.slot_tuple_getitem ht.typeIs entry_tuple_getitem ?_ (args_tuple_getitem _ _)))
 show wpAny _ _ (Builtin.Tuple.tupleItemsOf (.ref t) >>= _) _ _ s;refine x5 (tupleItemsOf_ ht ?_);refine x5 (wpAny_typeOf hTs ?_);rw [if_pos (by decide)];refine x5 (W2 hs pl pu ?_);have hno:¬ ((((sIx items.size 0 lo:Nat):Int)==0&&(1:Int)==1&&(sIx items.size items.size hi-sIx items.size 0 lo)==items.size)=true):=by
  intro q;rw [Bool.and_eq_true,Bool.and_eq_true] at q;have q1:((sIx items.size 0 lo:Nat):Int)=0:=eq_of_beq q.1.1;have q2:sIx items.size items.size hi-sIx items.size 0 lo=items.size:=eq_of_beq q.2;exact hw ⟨by omega,by omega⟩
 show wpAny _ _ (if (((sIx items.size 0 lo:Nat):Int)==0&&(1:Int)==1&&(sIx items.size items.size hi-sIx items.size 0 lo)==items.size)=true then _ else _) _ _ s;rw [if_neg hno,qdi]
 first
  |exact x5 (m:=Builtin.Tuple.tupleExact _) (wpAny_newObj_type (x6 ⟨_,rfl,x6 h⟩) htake)
  |exact x5 (m:=Builtin.Tuple.tupleExact _) (wpAny_newObj_type (x5 (x6 (x6 ⟨_,rfl,x6 h⟩))) htake)
  |exact x5 (x5 (m:=Builtin.Tuple.tupleExact _) (wpAny_newObj_type (x6 (x6 ⟨_,rfl,x6 h⟩)) htake))
  |exact x5 (x5 (m:=Builtin.Tuple.tupleExact _) (wpAny_newObj_type (x6 ⟨_,rfl,x6 h⟩) htake))
end
end HT
namespace L2
open PySem PySem.Spec PyProof.Rows
abbrev TO:=St->Hp->(Option Int->Hp->Prop)->Prop
def PO (X:Cx) (e:Option Expr) (t:TO):Prop:=
 ∀ (pins:List (Addr×Obj)) (s:Shared) (σ:St) (H:Hp) (Q:Option Int->Hp->Prop),Inv X pins σ H s->t σ H Q ->
  wpAny (model X.prog X.w) X.A (evalPart e X.env) (λu s'=>∃ o H',Inv X pins σ H' s'/\IsPart u o/\Q o H') X.xe s
def qpU (t:TE):TO:=λσ H Q=>t σ H λx H1=>∃ i,x=.int i/\Q (some i) H1
section
variable {X:Cx} {e:Expr} {te:TE} {lo hi:Option Expr} {tl th:TO} {pos p2:Pos}
def qhs (h:PE X e te):PO X (some e) (qpU te):=by
 intro pins s σ H Q I hw;rw [evalPart_some];refine thn (h pins s σ H _ I hw) λu s1 ⟨x,H1,I1,r1,q1⟩=>?_;obtain ⟨i,rfl,q⟩:=q1;obtain ⟨t,rfl⟩:=r1;exact ⟨some i,H1,I1,.int i t,q⟩
def SlR (X:Cx) (r:V->Option Int->Option Int->Hp->VK->Prop):Prop:=
 ∀ (pins:List (Addr×Obj)) (s:Shared) (σ:St) (H:Hp) (x:V) (v vl vu:Value) (lo hi:Option Int) (sl:Addr) (Q:VK),Inv X pins σ H s->jZ x v->s.heap.IsSliceOf sl vl vu .none->IsPart vl lo->IsPart vu hi->r x lo hi H Q ->
  ∃ T id,typeLookup (.type T) "__getitem__" = pure (some (.builtin id))/\s.TypeIs v T/\wpAny (model X.prog X.w) X.A (getItem v (.ref sl)) (EP X pins σ Q) X.xe s
def SlR.or {r r':V->Option Int->Option Int->Hp->VK->Prop} (h:SlR X r) (h':SlR X r'):SlR X (λx lo hi H Q=>r x lo hi H Q\/r' x lo hi H Q):=by
 intro pins s σ H x v vl vu lo hi sl Q I rx hs pl pu q;rcases q with q|q
 ·exact h pins s σ H x v vl vu lo hi sl Q I rx hs pl pu q
 ·exact h' pins s σ H x v vl vu lo hi sl Q I rx hs pl pu q
def tSl (r:V->Option Int->Option Int->Hp->VK->Prop) (te:TE) (tl th:TO):TE:=λσ H Q=>te σ H λx H1=>tl σ H1 λl H2=>th σ H2 λu H3=>r x l u H3 Q
def qdY {r:V->Option Int->Option Int->Hp->VK->Prop} (hr:SlR X r) (he:PE X e te) (hl:PO X lo tl) (hu:PO X hi th):PE X (.Subscript e (.Slice lo hi none p2) pos) (tSl r te tl th):=by
 intro pins s σ H Q I h;refine Subscript_ (thn (he pins s σ H _ I h) λv s1 ⟨x,H1,I1,r1,q1⟩=>?_);refine wpAny_Slice (thn (hl pins s1 σ H1 _ I1 q1) λvl s2 ⟨l,H2,I2,pl,q2⟩=>thn (hu pins s2 σ H2 _ I2 q2) λvu s3 ⟨u,H3,I3,pu,q3⟩=>?_);rw [evalPart_none];refine x6 ?_;have I4:Inv X pins σ H3 { s3 with heap:=s3.heap.push { cls:=.type "slice",data:=.fields #[vl,vu,.none] } }:=I3.kept (t':=s3.toks) λb ob q=>x9 _ q;obtain ⟨T,id,hT,ht,hg⟩:=hr pins { s3 with heap:=s3.heap.push { cls:=.type "slice",data:=.fields #[vl,vu,.none] } } σ H3 x v vl vu l u s3.heap.objs.size Q I4 r1 (Heap.IsSliceOf.new ..) pl pu q3;show wpAny (model X.prog X.w) X.A (subscriptTail e (.Slice lo hi none p2) v (.ref s3.heap.objs.size)) (EP X pins σ Q) X.xe { s3 with heap:=s3.heap.push { cls:=.type "slice",data:=.fields #[vl,vu,.none] } };exact tail_any (ops:=[.ref s3.heap.objs.size,v]) ht hT hg (by with_unfolding_all rfl)
def qgG (xs:List V) (lo hi:Option Int):List V:=(xs.drop (HT.sIx xs.length 0 lo)).take (HT.sIx xs.length xs.length hi-HT.sIx xs.length 0 lo)
def CW (xs:List V) (lo hi:Option Int):(qgG xs lo hi).length<=xs.length:=by
 unfold qgG;rw [List.length_take,List.length_drop];omega
def qrj (K:Frg):V->Option Int->Option Int->Hp->VK->Prop:=λx lo hi H Q=>∃ a xs,x=.ref a/\SqT K H a xs /\
 ¬ (HT.sIx xs.length 0 lo=0/\HT.sIx xs.length xs.length hi=xs.length)/\∀ p,H p=none->Q (.ref p) (upd H p (.tup (qgG xs lo hi)))
def qkE:SlR X (qrj X.K):=by
 intro pins s σ H x v vl vu lo hi sl Q I rx hs pl pu h;obtain ⟨a,xs,rfl,hx,hw,q⟩:=h;cases rx;obtain ⟨its,r,ht,hz⟩:=I.tuple hx;have hlen:its.toArray.size=xs.length:=by rw [size_toArray];exact r.length.symm
 refine ⟨"tuple",_,PyProof.Rows.slot_tuple_getitem.lookup,ht.typeIs,?_⟩;refine HT.DY ht hs pl pu (by rw [hlen];exact hw) ?_ (by rw [hlen];exact hz);rw [hlen];refine ⟨.ref s.heap.objs.size,_,I.laid (t':=s.toks) (o:=.tup (qgG xs lo hi)) (λb ob q=>x9 _ q) (v4 _) ?_,rfl,q _ (I.hok.fresh (v4 _))⟩;exact ⟨v9 (CW xs lo hi) hz,_,(r.drop (HT.sIx xs.length 0 lo)).take (HT.sIx xs.length xs.length hi-HT.sIx xs.length 0 lo),WR.new _ _⟩
def qi5 (K:Frg):R2:=λx y H Q=>∃ a b xs ys,x=.ref a/\y=.ref b/\SqT K H a xs/\SqT K H b ys/\xs≠[]/\xs.length+ys.length<=sizeLine /\
 (ys=[]->Q (.ref a) H)/\(ys≠[]->∀ p,H p=none->Q (.ref p) (upd H p (.tup (xs++ys))))
def jj.nil_iff {xs:List V} {us:List Value} (r:jj xs us):us=[]↔xs=[]:=by
 cases r with
 |nil=>simp
 |cons _ _=>simp
def qgQ:OpR X (binaryOp .Add) (qi5 X.K):=by
 intro pins s σ H x y v u Q I rx ry h;obtain ⟨a,b,xs,ys,rfl,rfl,ha,hb,hx,hz,q1,q2⟩:=h;cases rx;cases ry;obtain ⟨its,r1,p1,_⟩:=I.tuple ha;obtain ⟨its2,r2,p2,_⟩:=I.tuple hb;refine HT.qhO p1 p2 (λz=>hx (r1.nil_iff.mp z)) (λz=>⟨.ref a,H,I,rfl,q1 (r2.nil_iff.mp z)⟩) (λz=>?_) (by rw [← r1.length,← r2.length];exact hz);refine ⟨.ref s.heap.objs.size,_,I.laid (t':=s.toks) (o:=.tup (xs++ys)) (λb ob q=>x9 _ q) (v4 _) ?_,rfl,q2 (λw=>z (r2.nil_iff.mpr w)) _ (I.hok.fresh (v4 _))⟩;exact ⟨by rw [length_append];exact hz,_,r1.append r2,WR.new _ _⟩
end
def ixN (n:Nat) (i:Int):Option Nat:=if 0<=i then (if i<n then some i.toNat else none) else if -(n:Int)<=i then some (i+n).toNat else none
def atI {α:Type} (xs:List α) (i:Int):Option α:=(ixN xs.length i).bind λj=>xs[j]?
def qbI {n:Nat} {i:Int} {j:Nat} (h:ixN n i=some j):seqIndex? i n=some j/\j<n/\-(n:Int)<=i/\i<n:=by
 unfold ixN at h;by_cases h0:0<=i
 ·rw [if_pos h0] at h;by_cases h1:i<n
  ·rw [if_pos h1] at h;have e:i.toNat=j:=Option.some.inj h;exact ⟨by rw [seqIndex_of h0 h1,e],by omega,by omega,h1⟩
  ·rw [if_neg h1] at h;cases h
 ·rw [if_neg h0] at h;by_cases h1:-(n:Int)<=i
  ·rw [if_pos h1] at h;have e:(i+n).toNat=j:=Option.some.inj h;exact ⟨by rw [seqIndex_neg (by omega) h1,e],by omega,h1,by omega⟩
  ·rw [if_neg h1] at h;cases h
def MR {α:Type} {xs:List α} {i:Int} {v:α} (h:atI xs i=some v):∃ j,seqIndex? i xs.length=some j/\xs[j]?=some v/\j<xs.length/\-(xs.length:Int)<=i/\i<xs.length:=by
 unfold atI at h;cases e:ixN xs.length i with
 |none=>rw [e] at h;cases h
 |some j=>
  rw [e] at h;obtain ⟨h1,h2,h3,h4⟩:=qbI e;exact ⟨j,h1,h,h2,h3,h4⟩
def qg1 {α:Type} {xs:List α} {j:Nat} {v:α} (h:xs[j]?=some v):atI xs (j:Int)=some v:=by
 have hj:j<xs.length:=(za4 h).1;have e:ixN xs.length (j:Int)=some j:=by
  unfold ixN;rw [if_pos (by omega),if_pos (by omega)];simp
 unfold atI;rw [e];exact h
def MK (b:Expr):Prop:=∀ o i,subscripted b false o i=operate [o,i] (getItem o i)
def IxR (X:Cx) (r:R2):Prop:=
 ∀ (value slice:Expr) (pins:List (Addr×Obj)) (s:Shared) (σ:St) (H:Hp) (x y:V) (v u:Value) (Q:VK),Inv X pins σ H s->jZ x v->jZ y u->r x y H Q ->
  subscripted slice false v u=operate [v,u] (getItem v u)->wpAny (model X.prog X.w) X.A (subscriptTail value slice v u) (EP X pins σ Q) X.xe s
def MtR (X:Cx) (id:String) (r:V->List V->Hp->VK->Prop):Prop:=
 ∀ (pins:List (Addr×Obj)) (s:Shared) (σ:St) (H:Hp) (x:V) (xs:List V) (v:Value) (us:List Value) (Q:VK),Inv X pins σ H s->jZ x v->jj xs us->r x xs H Q ->
  wpAny (model X.prog X.w) X.A (call (.builtin id) (v::us)) (EP X pins σ Q) X.xe s
section
variable {X:Cx} {a b:Expr} {ta tb:TE} {pos:Pos}
def IxR.or {r r':R2} (h:IxR X r) (h':IxR X r'):IxR X (λx y H Q=>r x y H Q\/r' x y H Q):=by
 intro value slice pins s σ H x y v u Q I rx ry q hs;rcases q with q|q
 ·exact h value slice pins s σ H x y v u Q I rx ry q hs
 ·exact h' value slice pins s σ H x y v u Q I rx ry q hs
def qpr {r:R2} (hr:IxR X r) (ha:PE X a ta) (hb:PE X b tb) (hs:MK b):PE X (.Subscript a b pos) (tOp r ta tb):=by
 intro pins s σ H Q I h;exact Subscript_ (qoe ha hb I h λv u s2 x y H2 I2 rx ry q=>hr a b pins s2 σ H2 x y v u Q I2 rx ry q (hs _ _))
def qqw (K:Frg):R2:=λx y H Q=>∃ p xs i v,x=.ref p/\y=.int i/\SqL K H p xs/\atI xs i=some v/\Q v H
def qqX (K:Frg):R2:=λx y H Q=>∃ p xs i v,x=.ref p/\y=.int i/\SqT K H p xs/\atI xs i=some v/\Q v H
def qqJ:R2:=λx y H Q=>∃ z i c,x=.str z/\y=.int i/\z.length<=sizeLine/\atI z.cps.toList i=some c/\Q (.str ⟨#[c]⟩) H
def qg8:IxR X (qqw X.K):=by
 intro value slice pins s σ H x y v u Q I rx ry h hs;obtain ⟨p,xs,i,z,rfl,rfl,hq,he,q⟩:=h;cases rx;obtain ⟨t,rfl⟩:=ry;obtain ⟨its,r,pl,hz⟩:=I.list hq;obtain ⟨j,h1,h2,h3,h4,h5⟩:=MR he;obtain ⟨w,ew,rw'⟩:=r.get h2;have hl:=r.length;have hn:=KS;have fin:EP X pins σ Q w s:=⟨z,H,I,rw',q⟩
 by_cases h0:0<=i
 ·have hj:i.toNat=j:=by
   rw [seqIndex_of h0 h5] at h1;exact Option.some.inj h1
  exact item_listR pl.isList h0 (by omega) (by rw [hj];simpa using ew) fin hs
 ·have hj:(i+(its.toArray.size:Int)).toNat=j:=by
   rw [seqIndex_neg (by omega) h4] at h1;rw [size_toArray,← hl];exact Option.some.inj h1
  exact subscriptTail_builtinR (x:=w) pl.isList.typeIs slot_list_getitem.lookup
   (wpAny_getItem_list_neg (Q:=λr s'=>r=w/\EP X pins σ Q r s') pl.isList (by omega) (by rw [size_toArray]<;>omega) (by omega) (by rw [hj];simpa using ew) ⟨rfl,fin⟩) hs
def qnl:IxR X (qqX X.K):=by
 intro value slice pins s σ H x y v u Q I rx ry h hs;obtain ⟨p,xs,i,z,rfl,rfl,hq,he,q⟩:=h;cases rx;obtain ⟨t,rfl⟩:=ry;obtain ⟨its,r,pl,hz⟩:=I.tuple hq;obtain ⟨j,h1,h2,h3,h4,h5⟩:=MR he;obtain ⟨w,ew,rw'⟩:=r.get h2;have hl:=r.length;have hn:=KS;have fin:EP X pins σ Q w s:=⟨z,H,I,rw',q⟩
 exact subscriptTail_builtinR (x:=w) pl.typeIs slot_tuple_getitem.lookup
  (getItem_tuple (j:=j) (Q:=λr s'=>r=w/\EP X pins σ Q r s') pl (by omega) (by omega) (by rw [size_toArray,← hl];exact h1) (by simpa using ew) ⟨rfl,fin⟩) hs
def qk6:IxR X qqJ:=by
 intro value slice pins s σ H x y v u Q I rx ry h hs;obtain ⟨z,i,c,rfl,rfl,hz,he,q⟩:=h;obtain ⟨t,rfl⟩:=rx;obtain ⟨t',rfl⟩:=ry;obtain ⟨j,h1,h2,h3,h4,h5⟩:=MR he;have hl:z.cps.toList.length=z.length:=by simp [Str.length]
 rw [hl] at h1 h4 h5;have hn:=KS;exact tail_any (typeIs_str s z t) slot_str_getitem.lookup (getItem_str (c:=c) (by
  have e1:decide (i < -(2 ^ 63:Int))=false:=za1 (by omega);have e2:decide (i ≥ 2 ^ 63)=false:=za1 (by omega);rw [e1,e2,Bool.or_false]) (by rw [h1];simpa using h2) ⟨.str ⟨#[c]⟩,H,I.tok _,⟨_,rfl⟩,q⟩) hs
def rIx (K:Frg):R2:=λx y H Q=>qqw K x y H Q\/qqX K x y H Q\/qqJ x y H Q
def qmp:IxR X (rIx X.K):=qg8.or (qnl.or qk6)
def qaA (its:List Value) (n j:Nat) (u:Value):Obj.mapSeq (·.setIfInBounds j u) { cls:=.type "list",data:=.seq its.toArray n }={ cls:=.type "list",data:=.seq (its.set j u).toArray n }:=by
 simp [Obj.mapSeq]
def Inv.lst {pins:List (Addr×Obj)} {σ:St} {H:Hp} {s:Shared} {p:Addr} {xs:List V} (I:Inv X pins σ H s) (h:H p=some (.lst xs)) :
  ∃ (its:List Value) (n:Nat),jj xs its/\s.heap.get? p=some { cls:=.type "list",data:=.seq its.toArray n }/\xs.length<=sizeLine:=by
 obtain ⟨z,its,n,r,e⟩:=I.hok p _ h;exact ⟨its,n,r,e,z⟩
def Inv.lstUpd {pins:List (Addr×Obj)} {σ:St} {H:Hp} {s:Shared} {p:Addr} {xs ys:List V} {its its':List Value} {n n':Nat} {f:Obj->Obj} (I:Inv X pins σ H s) (h:H p=some (.lst xs))
  (ho:s.heap.get? p=some { cls:=.type "list",data:=.seq its.toArray n }) (hf:f { cls:=.type "list",data:=.seq its.toArray n }={ cls:=.type "list",data:=.seq its'.toArray n' }) (r:jj ys its') (hz:ys.length<=sizeLine) (t:Nat) :
  Inv X pins σ (upd H p (.lst ys)) { s with heap:=s.heap.update p f,toks:=t }:=by
 have e:(s.heap.update p f).get? p=some { cls:=.type "list",data:=.seq its'.toArray n' }:=by
  rw [Heap.get?_update_self f ho (by rw [hf]<;>rfl),hf]
 refine I.write (x:=p) (e:=p) (by rw [h];trivial) (.inl rfl) (λb u hb q=>(Heap.get?_update_other _ _ (Ne.symm hb)).trans q) ⟨_,e⟩ ?_;exact ⟨hz,its',n',r,e⟩
def qoH:V->V->V->Hp->(Hp->Prop)->Prop:=λo i v H Q=>∃ p xs k j,o=.ref p/\i=.int k/\H p=some (.lst xs)/\ixN xs.length k=some j/\Q (upd H p (.lst (xs.set j v)))
def qdJ:qqU X qoH:=by
 intro pins s σ H o i v ov iv u Q I ro ri rv h;obtain ⟨p,xs,k,j,rfl,rfl,hp,hj,q⟩:=h;cases ro;obtain ⟨t,rfl⟩:=ri;obtain ⟨its,n,r,ho,hz⟩:=I.lst hp;obtain ⟨h1,h2,h3,h4⟩:=qbI hj;have hl:=r.length;have hn:=KS;have I':Inv X pins σ (upd H p (.lst (xs.set j v))) { s with heap:=s.heap.update p (Obj.mapSeq (·.setIfInBounds j u)) }:=
  I.lstUpd hp ho (qaA its n j u) (r.set rv j) (by rw [List.length_set];exact hz) s.toks
 by_cases h0:0<=k
 ·have hk:k.toNat=j:=by
   rw [seqIndex_of h0 h4] at h1;exact Option.some.inj h1
  exact PySem.W.ki_setAt ho h0 (by omega) (by rw [size_toArray,← hl];exact h4) (by rw [hk];exact ⟨_,I',q⟩)
 ·have hk:(k+(its.toArray.size:Int)).toNat=j:=by
   rw [seqIndex_neg (by omega) h3] at h1;rw [size_toArray,← hl];exact Option.some.inj h1
  exact PySem.W.ki_setBack ho (by omega) (by rw [size_toArray,← hl];exact h3) (by omega) (by rw [hk];exact ⟨_,I',q⟩)
def LD (lo hi:Option Int) (n:Nat):(sliceBounds lo hi none n).1=((HT.sIx n 0 lo:Nat):Int)/\(sliceBounds lo hi none n).2.1=((HT.sIx n n hi:Nat):Int)/\(sliceBounds lo hi none n).2.2=1:=by
 refine ⟨?_,?_,rfl⟩
 ·cases lo with
  |none=>simp [sliceBounds,HT.sIx]
  |some i=>
   simp only [sliceBounds,HT.sIx,Option.getD_none,show (1:Int) > 0 by decide,if_true];by_cases h:i<0
   ·simp only [h,if_true]<;>omega
   ·simp only [h,if_false]<;>omega
 ·cases hi with
  |none=>simp [sliceBounds,HT.sIx]
  |some i=>
   simp only [sliceBounds,HT.sIx,Option.getD_none,show (1:Int) > 0 by decide,if_true];by_cases h:i<0
   ·simp only [h,if_true]<;>omega
   ·simp only [h,if_false]<;>omega
def TC (its:List Value) (lo hi:Option Int):slicePick its.toArray lo hi none=((its.drop (HT.sIx its.length 0 lo)).take (HT.sIx its.length its.length hi-HT.sIx its.length 0 lo)).toArray:=by
 obtain ⟨h1,h2,h3⟩:=LD lo hi its.toArray.size;unfold slicePick;rw [h1,h2,h3];simp only [sliceRange_one,pick_run,size_toArray]<;>rfl
def qrt (K:Frg):V->Option Int->Option Int->Hp->VK->Prop:=λx lo hi H Q=>∃ a xs,x=.ref a/\SqL K H a xs/\∀ p,H p=none->Q (.ref p) (upd H p (.lst (qgG xs lo hi)))
def qgL:SlR X (qrt X.K):=by
 intro pins s σ H x v vl vu lo hi sl Q I rx hs pl pu h;obtain ⟨a,xs,rfl,hx,q⟩:=h;cases rx;obtain ⟨its,r,ht,hz⟩:=I.list hx;have hlen:=r.length;refine ⟨"list",_,slot_list_getitem.lookup,ht.isList.typeIs,?_⟩;refine wpAny_getItem_list_slice ht.isList hs pl pu .none (by simp) ?_ (by rw [size_toArray]<;>omega);rw [TC,← hlen];refine ⟨.ref s.heap.objs.size,_,I.laid (t':=s.toks) (o:=.lst (qgG xs lo hi)) (λb ob q=>x9 _ q) (v4 _) ?_,rfl,q _ (I.hok.fresh (v4 _))⟩;exact ⟨v9 (CW xs lo hi) hz,_,0,(r.drop (HT.sIx xs.length 0 lo)).take (HT.sIx xs.length xs.length hi-HT.sIx xs.length 0 lo),y3 _ rfl⟩
def RC:V->Bool
 |.non=>true
 |.bl _=>true
 |.int _=>true
 |.str _=>true
 |_=>false
def eqV:V->V->Bool
 |.non,.non=>true
 |.bl a,.bl b=>a==b
 |.bl a,.int b=>(if a then 1 else 0)==b
 |.int a,.bl b=>a==(if b then 1 else 0)
 |.int a,.int b=>a==b
 |.str a,.str b=>a==b
 |_,_=>false
def qjH {A:Around} {s:Shared} {y x:V} {u v:Value} (ry:jZ y u) (rx:jZ x v) (fy:RC y=true) (fx:RC x=true):SeqAt.EqAt A s u v (eqV y x):=by
 cases y with
 |non=>
  cases ry;cases x with
  |non=>cases rx;exact SeqAt.EqAt.same _
  |bl b=>cases rx;exact SeqAt.EqAt.none_bool b
  |int b=>obtain ⟨t,rfl⟩:=rx;exact SeqAt.EqAt.none_int b t
  |str b=>obtain ⟨t,rfl⟩:=rx;exact SeqAt.EqAt.none_str b t
  |_=>exact absurd (show false=true from fx) y6
 |bl a=>
  cases ry;cases x with
  |non=>cases rx;exact SeqAt.EqAt.bool_none a
  |bl b=>cases rx;exact SeqAt.EqAt.bool_bool a b
  |int b=>obtain ⟨t,rfl⟩:=rx;exact SeqAt.EqAt.bool_int a b t
  |str b=>obtain ⟨t,rfl⟩:=rx;exact SeqAt.EqAt.bool_str a b t
  |_=>exact absurd (show false=true from fx) y6
 |int a=>
  obtain ⟨t',rfl⟩:=ry;cases x with
  |non=>cases rx;exact SeqAt.EqAt.int_none a t'
  |bl b=>cases rx;exact SeqAt.EqAt.int_bool a t' b
  |int b=>obtain ⟨t,rfl⟩:=rx;exact SeqAt.EqAt.int_int a t' b t
  |str b=>obtain ⟨t,rfl⟩:=rx;exact SeqAt.EqAt.int_str a t' b t
  |_=>exact absurd (show false=true from fx) y6
 |str a=>
  obtain ⟨t',rfl⟩:=ry;cases x with
  |non=>cases rx;exact SeqAt.EqAt.str_none a t'
  |bl b=>cases rx;exact SeqAt.EqAt.str_bool a t' b
  |int b=>obtain ⟨t,rfl⟩:=rx;exact SeqAt.EqAt.str_int a t' b t
  |str b=>obtain ⟨t,rfl⟩:=rx;exact SeqAt.EqAt.str_str a t' b t
  |_=>exact absurd (show false=true from fx) y6
 |_=>exact absurd (show false=true from fy) y6
def eqU (x:V) (u:Value):Bool:=match u with
 |.none=>eqV .non x
 |.bool b=>eqV (.bl b) x
 |.int i _=>eqV (.int i) x
 |.str z _=>eqV (.str z) x
 |_=>false
def qfe {x y:V} {u:Value} (r:jZ y u) (f:RC y=true):eqU x u=eqV y x:=by
 cases y with
 |non=>cases r;rfl
 |bl b=>cases r;rfl
 |int i=>obtain ⟨t,rfl⟩:=r;rfl
 |str z=>obtain ⟨t,rfl⟩:=r;rfl
 |_=>exact absurd (show false=true from f) y6
def ML {x:V}:∀ {xs:List V} {us:List Value},jj xs us->xs.all RC=true->us.any (eqU x)=xs.any λy=>eqV y x
 |_,_,.nil,_=>rfl
 |y::xs,u::us,.cons r t,f=>by
  rw [List.all_cons,Bool.and_eq_true] at f;rw [List.any_cons,List.any_cons,qfe r f.1,ML t f.2]
def T4 {A:Around} {s:Shared} {x:V} {v:Value} (rx:jZ x v) (fx:RC x=true):∀ {xs:List V} {us:List Value},jj xs us->xs.all RC=true->∀ u∈us,SeqAt.EqAt A s u v (eqU x u)
 |_,_,.nil,_=>λu hu=>by cases hu
 |y::xs,u::us,.cons r t,f=>λu' hu=>by
  rw [List.all_cons,Bool.and_eq_true] at f;rcases mem_cons.mp hu with rfl|hu
  ·rw [qfe r f.1];exact qjH r rx f.1 fx
  ·exact T4 rx fx t f.2 u' hu
def inV (x:V) (xs:List V):Bool:=xs.any λy=>eqV y x
def rIn (K:Frg) (neg:Bool):R2:=λx y H Q=>∃ p xs,y=.ref p/\(SqL K H p xs\/SqT K H p xs)/\RC x=true/\xs.all RC=true/\Q (.bl (if neg then !inV x xs else inV x xs)) H
def qcW:OpR X (compareOp .In) (rIn X.K false):=by
 intro pins s σ H x y v u Q I rx ry h;obtain ⟨p,xs,rfl,hq,fx,fs,q⟩:=h;cases ry;rcases hq with hq|hq
 ·obtain ⟨its,r,pl,hz⟩:=I.list hq;refine SeqAt.in_listAt (eqU x) pl.isList (λw hw=>T4 rx fx r fs w (by simpa using hw)) ⟨.bl _,H,I,rfl,?_⟩;rw [show its.toArray.any (eqU x)=its.any (eqU x) by simp,ML r fs];exact q
 ·obtain ⟨its,r,pl,hz⟩:=I.tuple hq;refine SeqAt.in_tupleAt (eqU x) pl (λw hw=>T4 rx fx r fs w (by simpa using hw)) ⟨.bl _,H,I,rfl,?_⟩;rw [show its.toArray.any (eqU x)=its.any (eqU x) by simp,ML r fs];exact q
def zf:VH X (.type "tuple") (λxs H Q=>∃ p ys,xs=[.ref p]/\((SqL X.K H p ys/\∀ l,H l=none->Q (.ref l) (upd H l (.tup ys)))\/(SqT X.K H p ys/\Q (.ref p) H))):=by
 intro pins s σ H xs us Q I r h;obtain ⟨p,ys,rfl,h⟩:=h;obtain ⟨u,rfl,rx⟩:=C6 r;cases rx;rcases h with ⟨hq,q⟩|⟨hq,q⟩
 ·obtain ⟨its,r',pl,hz⟩:=I.list hq;have hlen:=r'.length;refine call_tuple_list pl.isList (λh' kp=>?_) (by simp only [size_toArray]<;>omega);have I1:Inv X pins σ H { s with heap:=h' }:=I.kept (t':=s.toks) kp;have I2:Inv X pins σ (upd H h'.objs.size (.tup ys)) { s with heap:=h'.push { cls:=.type "tuple",data:=.seq its.toArray } }:=
   I1.laid (t':=s.toks) (λb o e=>x9 _ e) (v4 _) (show JW X.prog X.w _ _ _ (.tup ys) from ⟨hz,its,r',WR.new _ _⟩)
  exact ⟨.ref h'.objs.size,_,I2,rfl,q _ (I1.hok.fresh (v4 _))⟩
 ·obtain ⟨its,r',pl,hz⟩:=I.tuple hq;exact call_tuple_same pl ⟨.ref p,H,I,rfl,q⟩
def tyV (K:Frg) (T:String) (x:V) (H:Hp):Prop:=match x with
 |.str _=>T="str"
 |.int _=>T="int"
 |.ref p=>(T="list"/\∃ xs,SqL K H p xs)\/(T="tuple"/\∃ o,K.lookup p=some o/\o.cls=.type "tuple"/\o.dict=none) ∨
   (T="dict"/\((∃ kvs,H p=some (.dK kvs))\/∃ kvs,H p=some (.dT kvs)))\/(T="set"/\∃ S n,H p=some (.set S n))
 |_=>False
def qeO {pins:List (Addr×Obj)} {σ:St} {H:Hp} {s:Shared} {T:String} {x:V} {v:Value} (I:Inv X pins σ H s) (r:jZ x v) (ty:tyV X.K T x H) :
  s.TypeIs v T/\∀ a,v=.ref a->∃ ob,s.heap.get? a=some ob/\ob.dict=none:=by
 cases x with
 |str z=>
  obtain ⟨t,rfl⟩:=r;cases (show T="str" from ty);exact ⟨typeIs_str s z t,λ_ e=>nomatch e⟩
 |int i=>
  obtain ⟨t,rfl⟩:=r;cases (show T="int" from ty);exact ⟨typeIs_int s i t,λ_ e=>nomatch e⟩
 |ref p=>
  cases r;rcases ty with ⟨rfl,xs,hq⟩|⟨rfl,o,hk,hc,hd⟩|⟨rfl,hk⟩|⟨rfl,S,n,hk⟩
  ·obtain ⟨its,_,pl,_⟩:=I.list hq;refine ⟨pl.isList.typeIs,λa e=>?_⟩;cases e;obtain ⟨o,n,e,c,hd,_⟩:=pl;exact ⟨o,e,hd⟩
  ·refine ⟨⟨o,I.kIn p o hk,hc⟩,λa e=>?_⟩;cases e;exact ⟨o,I.kIn _ o hk,hd⟩
  ·have z:∃ o,s.heap.get? p=some o/\o.ExactDict:=by
    rcases hk with ⟨kvs,hk⟩|⟨kvs,hk⟩
    ·obtain ⟨_,_,_,_,o,_,_,e,ex,_⟩:=I.hok p _ hk;exact ⟨o,e,ex⟩
    ·obtain ⟨_,_,_,_,o,_,_,e,ex,_⟩:=I.hok p _ hk;exact ⟨o,e,ex⟩
   obtain ⟨o,e,ex⟩:=z;refine ⟨⟨o,e,ex.1⟩,λa e2=>?_⟩;cases e2;exact ⟨o,e,ex.2.1⟩
  ·obtain ⟨o,_,_,_,e,ex,_⟩:=I.hok p _ hk;refine ⟨⟨o,e,ex.1⟩,λa e2=>?_⟩;cases e2;exact ⟨o,e,ex.2.1⟩
 |_=>exact False.elim ty
def qq2 (K:Frg) (T:String) (r:V->List V->Hp->VK->Prop) (to:TE):TE:=λσ H Q=>to σ H λx H1=>tyV K T x H1/\r x [] H1 Q
def tBM (K:Frg) (T:String) (r:V->List V->Hp->VK->Prop) (to:TE) (t:TA):TE:=λσ H Q=>to σ H λx H1=>tyV K T x H1/\t σ H1 λxs H2=>r x xs H2 Q
variable {o e:Expr} {es:List Expr} {to:TE} {t:TA} {name:Str} {apos cpos:Pos} {T id:String} {r:V->List V->Hp->VK->Prop}
def qj1 (pa:PlainAttrs T) (slot:Slot T name id) (hty:typeOf (.builtin id)=pure (.type "method_descriptor")) (hm:MtR X id r) (ho:PE X o to)
  (hbase:attributeBase o name X.env (eval o X.env)=eval o X.env:=by rfl) (hline:(apos.endLine==cpos.line)=true:=by rfl):PE X (.Call (.Attribute o name apos) [] [] cpos) (qq2 X.K T r to):=by
 intro pins s σ H Q I h;refine wpAny_Call_method0_late hbase hline (thn (ho pins s σ H _ I h) λv s1 ⟨x,H1,I1,r1,ty,q1⟩=>?_);obtain ⟨h1,h2⟩:=qeO I1 r1 ty;exact ⟨T,id,pa,slot,hty,h1,h2,Calls.callWith_builtin rfl (PySem.evalArgs_none (hm pins s1 σ H1 x [] v [] Q I1 r1 .nil q1))⟩
def qoc (pa:PlainAttrs T) (slot:Slot T name id) (hty:typeOf (.builtin id)=pure (.type "method_descriptor")) (hm:MtR X id r) (ho:PE X o to) (ha:PA X (e::es) t)
  (hbase:attributeBase o name X.env (eval o X.env)=eval o X.env:=by rfl)
  (hfew:((backTo cpos (starEach (e::es) X.env)).all (λx=>!x.1)&&(backToKw cpos (keywordEach [] X.env)).all (λx=>x.1.isSome)
   && decide ((e::es).length+([]:List Keyword).length+(if ([]:List Keyword).isEmpty then 0 else 1)<30))=true:=by rfl)
  (hline:(apos.endLine==cpos.line)=true:=by rfl) (hs:starEach (e::es) X.env=(false,eval e X.env)::starEach es X.env:=by rfl) (hplain:(backTo cpos (starEach es X.env)).any (·.1)=false:=by rfl) :
  PE X (.Call (.Attribute o name apos) (e::es) [] cpos) (tBM X.K T r to t):=by
 intro pins s σ H Q I h;refine wpAny_Call_method_late hbase hfew hline rfl (thn (ho pins s σ H _ I h) λv s1 ⟨x,H1,I1,r1,ty,q1⟩=>?_);obtain ⟨h1,h2⟩:=qeO I1 r1 ty;refine ⟨T,id,pa,slot,hty,h1,h2,?_⟩;have hA:=ha cpos pins s1 σ H1 _ I1 q1;rw [hs] at hA ⊢;refine Calls.callWith_builtin (by show (false||(backTo cpos (starEach es X.env)).any (·.1))=false;rw [hplain]<;>rfl) (Calls.evalArgs_plain ?_);exact thn hA λus s2 ⟨vs,H2,I2,r2,q2⟩=>hm pins s2 σ H2 x vs v us Q I2 r1 r2 q2
end
def MtM (X:Cx) (id:String) (r:V->List V->Hp->VK->Prop):Prop:=
 ∀ (pins:List (Addr×Obj)) (s:Shared) (σ:St) (H:Hp) (x:V) (xs:List V) (v:Value) (us:List Value) (Q:VK),Inv X pins σ H s->jZ x v->jj xs us->r x xs H Q ->
  wpAny (model X.prog X.w) X.A (call (.builtin id) (v::us)) (EP X pins σ Q) X.xe s
def jj.one:∀ {x:V} {us:List Value},jj [x] us->∃ u,us=[u]/\jZ x u
 |_,_,.cons r .nil=>⟨_,rfl,r⟩
def jj.zero:∀ {us:List Value},jj [] us->us=[]
 |_,.nil=>rfl
def jj.reverse {xs:List V} {us:List Value} (h:jj xs us):jj xs.reverse us.reverse:=by
 induction h with
 |nil=>exact .nil
 |cons r t ih=>rw [List.reverse_cons,List.reverse_cons];exact jj.append ih (.cons r .nil)
section
variable {X:Cx} {pins:List (Addr×Obj)} {σ:St} {H:Hp} {s:Shared} {l b:Addr} {xs ys zs:List V}
def Inv.lset {its its':List Value} {n:Nat} {f:Array Value->Array Value} {t':Nat} (I:Inv X pins σ H s) (hH:H l=some (.lst xs))
  (e:s.heap.get? l=some { cls:=.type "list",data:=.seq its.toArray n }) (hf:f its.toArray=its'.toArray) (hv:jj ys its') (hz:ys.length<=sizeLine) :
  Inv X pins σ (upd H l (.lst ys)) { s with heap:=s.heap.update l (Obj.mapSeq f),toks:=t' }:=by
 have q:=PySem.IsL.update e f;rw [hf] at q;refine I.write (x:=l) (e:=l) (by rw [hH];exact trivial) (.inl rfl) (λb' u hb hu=>(Heap.get?_update_other s.heap (Obj.mapSeq f) (Ne.symm hb)).trans hu) ⟨_,q⟩ ?_;exact ⟨hz,its',_,hv,q⟩
def Inv.lnew {its:List Value} {t':Nat} (I:Inv X pins σ H s) (hv:jj ys its) (hz:ys.length<=sizeLine) :
  Inv X pins σ (upd H s.heap.objs.size (.lst ys)) { s with heap:=s.heap.push { cls:=.type "list",data:=.seq its.toArray },toks:=t' }:=
 I.laid (λ_ _ q=>x9 _ q) (v4 _) ⟨hz,its,0,hv,y3 _ rfl⟩
def Inv.fresh (I:Inv X pins σ H s):H s.heap.objs.size=none:=I.hok.fresh (v4 _)
def Inv.lstM (I:Inv X pins σ H s) (hH:H l=some (.lst xs)):xs.length<=sizeLine/\∃ (its:List Value) (n:Nat),jj xs its/\xs.length=its.length/\s.heap.get? l=some { cls:=.type "list",data:=.seq its.toArray n }:=by
 obtain ⟨z,its,n,r,e⟩:=I.hok l _ hH;exact ⟨z,its,n,r,r.length,e⟩
def qd9 {n:Nat} (h:n<=sizeLine):Builtin.List.listTooLong n=false:=by
 unfold Builtin.List.listTooLong;exact za1 (by omega)
end
section
variable {X:Cx}
def qcD:V->List V->Hp->VK->Prop:=λx vs H Q=>∃ l xs y,x=.ref l/\vs=[y]/\H l=some (.lst xs)/\xs.length<sizeLine/\Q .non (upd H l (.lst (xs++[y])))
def DG:MtM X "list.append" qcD:=by
 intro pins s σ H x vs v us Q I rx rv h;obtain ⟨l,xs,y,rfl,rfl,hH,hz,q⟩:=h;cases rx;obtain ⟨u,rfl,ru⟩:=rv.one;obtain ⟨z,its,n,r,hl,e⟩:=I.lstM hH;refine call_meets F.slot_list_append ⟨_,e,rfl⟩ F.entry_list_append (F.args_list_append_2 _ _) (PySem.list_append l its.toArray n u (by rw [size_toArray];omega)) ⟨e,?_⟩;refine ⟨.non,_,I.lset (its':=its++[u]) hH e (by simp) (r.append (.cons ru .nil)) ?_,rfl,q⟩;rw [length_append,List.length_singleton];omega
def qcK:V->List V->Hp->VK->Prop:=λx vs H Q=>∃ l b xs zs,x=.ref l/\vs=[.ref b]/\H l=some (.lst xs)/\H b=some (.lst zs)/\xs.length+zs.length<=sizeLine/\Q .non (upd H l (.lst (xs++zs)))
def qbQ:MtM X "list.extend" qcK:=by
 intro pins s σ H x vs v us Q I rx rv h;obtain ⟨l,b,xs,zs,rfl,rfl,hH,hB,hz,q⟩:=h;cases rx;obtain ⟨u,rfl,ru⟩:=rv.one;cases ru;obtain ⟨z,its,n,r,hl,e⟩:=I.lstM hH;obtain ⟨z2,its2,n2,r2,hl2,e2⟩:=I.lstM hB;have hsz:its.toArray.size+its2.toArray.size<=sizeLine:=by rw [size_toArray,size_toArray];omega
 have hlong:¬ (!its.toArray.isEmpty&&Builtin.List.listTooLong (its.toArray.size+its2.toArray.size))=true:=by
  rw [qd9 hsz,Bool.and_false];exact y6
 refine call_meets F.slot_list_extend ⟨_,e,rfl⟩ F.entry_list_extend (F.args_list_extend_2 _ _)
  (AutoSeq1.list_extend_list_list_0 l its.toArray n b its2.toArray n2 hlong (by rw [size_toArray];omega) (by omega)) ⟨e,e2,?_⟩
 refine ⟨.non,_,I.lset (its':=its++its2) hH e (by simp) (r.append r2) ?_,rfl,q⟩;rw [length_append];omega
def NQ:V->List V->Hp->VK->Prop:=λx vs H Q=>∃ l xs,x=.ref l/\vs=[]/\H l=some (.lst xs)/\Q .non (upd H l (.lst xs.reverse))
def qav:MtM X "list.reverse" NQ:=by
 intro pins s σ H x vs v us Q I rx rv h;obtain ⟨l,xs,rfl,rfl,hH,q⟩:=h;cases rx;have hus:=rv.zero;subst hus;obtain ⟨z,its,n,r,hl,e⟩:=I.lstM hH;refine call_meets F.slot_list_reverse ⟨_,e,rfl⟩ F.entry_list_reverse (F.args_list_reverse_1 _) (AutoSeq1.list_reverse_list_0 l its.toArray n (by rw [size_toArray];omega)) ⟨e,?_⟩;refine ⟨.non,_,I.lset (its':=its.reverse) hH e (by simp) r.reverse ?_,rfl,q⟩;rw [List.length_reverse];omega
def qqz:R2:=λx y H Q=>∃ l b xs zs,x=.ref l/\y=.ref b/\H l=some (.lst xs)/\H b=some (.lst zs)/\xs.length+zs.length<=sizeLine/\∀ p,H p=none->Q (.ref p) (upd H p (.lst (xs++zs)))
def qlC:OpR X (binaryOp .Add) qqz:=by
 intro pins s σ H x y v u Q I rx ry h;obtain ⟨l,b,xs,zs,rfl,rfl,hH,hB,hz,q⟩:=h;cases rx;cases ry;obtain ⟨z,its,n,r,hl,e⟩:=I.lstM hH;obtain ⟨z2,its2,n2,r2,hl2,e2⟩:=I.lstM hB;refine PySem.P.add_list e e2 ?_ (by rw [size_toArray,size_toArray];omega);have ea:its.toArray++its2.toArray=(its++its2).toArray:=by simp
 rw [ea];exact ⟨.ref _,_,I.lnew (t':=s.toks) (r.append r2) (by rw [length_append];omega),rfl,q _ I.fresh⟩
end
section
variable {prog:Program} {w:World} {A:Around} {E:Value->Shared->Prop} {s:Shared}
end
section
variable {X:Cx}
end
end L2
namespace Att
open PySem PySem.W PySem.Calls PyProof.Rows
def CQ {P:Params} {h:Heap}:∀ (ns:List Int) (vs:List Value),WellAll P h vs (ns.map WData.int)->IntsAre vs ns:=by
 intro ns;induction ns with
 |nil=>
  intro vs w;rw [List.map_nil] at w;cases w;exact .nil
 |cons n ns ih=>
  intro vs w;rw [map_cons] at w;cases w with
  |cons a b=>
   cases a;exact .cons _ _ (ih _ b)
def qbD {l:OpenLaw} {n:Nat} (hn:l.most=some n) {P:Params} {h:Heap} {args:List WData} {vals:List Value}
  (hpre:l.row.toRowW.claim.pre args=true) (hwl:WellAll P h vals args) :
  ∃ a vs ns,vals=[Value.ref a]/\args=[WData.list (ns.map WData.int)]/\h.get? a=some { cls:=.type "list",data:=.seq vs.toArray }/\IntsAre vs ns/\ns.length<=n:=by
 have hsh:WShape.hasAll [] args [.list .int]=true:=(pre_splitW hpre).1;have hc:l.pre.holds [] { args:=args }=true:=(pre_splitW hpre).2;obtain ⟨d,r,rfl,h1,h2⟩:=hasAllW_cons hsh;obtain rfl:=hasAllW_nil h2;obtain ⟨xs,rfl,h3⟩:=hasW_list h1;obtain ⟨ns,rfl⟩:=items_int h3;have hlen:ns.length<=n:=by
  unfold OpenLaw.pre at hc;have h4:(WTm.not (.lt (.lit (.int (n:Int))) (.len (.arg 0)))).holds [] { args:=[.list (ns.map .int)] }=true:=by
   have h4:=(holds_andW hc).1;rw [hn] at h4;exact h4
  have h5:=condW_of h4 (w_not (w_lt w_lit (w_len_list (w_arg rfl))));rw [length_map] at h5;refine Nat.le_of_not_lt λq=>?_;have q':(n:Int)<((ns.length:Nat):Int):=by omega
  first
   | (rw [za2 q'] at h5;exact absurd h5 (by decide))
   | (simp at h5;omega)
 cases hwl with
 |cons w1 w2=>
  cases w2;cases w1 with
  |list ho hall=>exact ⟨_,_,ns,rfl,rfl,ho,CQ ns _ hall,hlen⟩
def qbv (l:OpenLaw) (args:List WData):l.row.toRowW.claim.post args (.bool true) args=true:=
 postW_of (r:=l.row.toRowW) (X:=(true==true))
  (show WShape.has [] (.bool true) .bool=true by first|rfl|decide|simp [WShape.has,WShape.arms,WShape.armsAll])
  (show (WTm.eq .res (.lit (.bool true))).value [] { args:=args,res:=some (.bool true),after:=args }=some (.bool (true==true)) from w_eq_bool (w_res rfl) w_lit) rfl
def MT {l:OpenLaw} {n:Nat} {q:Program} {loose:List Str} {XP:(Str->Option Value)->Heap->Prop} {YP:World->Heap->Prop} {d:DefRec}
  (hn:l.most=some n) (hdf:d.params.defaults=[])
  (call:∀ (w:World) (s₀ s₁:Shared) (mg mb:Str->Option Value) (fa:Addr) (o:Obj) (pm cd doc:Value) (a:Addr) (vs:List Value) (ns:List Int),
   Ground q loose [] XP w s₀ mg mb s₁.heap->YP w s₁.heap ->
   s₁.heap.get? fa=some o->o.data=.func (docDef d.name d.params d.body d.scope pm cd doc)->s₁.heap.CodeRec cd d.name->mg d.name=some (.ref fa) ->
   s₁.heap.get? a=some { cls:=.type "list",data:=.seq vs.toArray }->IntsAre vs ns->ns.length<=n->s₁.gens=#[] ->
   codeAny (model l.prog w) callerA (.call (.ref fa) ⟨[.ref a],[]⟩) (λr s'=>r=.ok (.ret (.bool true))/\OldK s₁.heap s'.heap/\s'.os=s₁.os/\AllBare s'.gens) s₁) :
  WalkO q loose XP YP l.row.toRowW d [] (λf vs=>PySem.call f vs):=by
 intro w s₀ s₁ mg mb G Y fa o pm cd doc dV kV ho hd hcd hD hmg hg args vals as hpre hlay hrd hwl hlo;obtain rfl:dV=.none:=Dflts.none hD hdf;obtain rfl:kV=.none:=Dflts.noKw hD;obtain ⟨a,vs,ns,rfl,rfl,hobj,hints,hlen⟩:=qbD hn hpre hwl;refine enter_call (codeAny_mono (call w s₀ s₁ mg mb fa o pm cd doc a vs ns G Y ho (fd_plain hd) hcd hmg hobj hints hlen hg) λr s' hq=>?_);obtain ⟨rfl,h2,h3,h4⟩:=hq;exact ⟨.inl ⟨.bool true,.bool true,[],rfl,λ_=>rfl,.bool true,qbv l _,λ_=>⟨List.Pairwise.nil,λ_ hm=>(nomatch hm)⟩⟩,h2,h3,h4⟩
section
variable {prog:Program} {w:World} {A:Around} {E:Value->Shared->Prop} {s:Shared} {K:Frag}
end
end Att
namespace L2
open PySem PySem.Spec PyProof.Rows
def KO:∀ {vs:List Value} {ns:List Int},IntsAre vs ns->jj (ns.map V.int) vs
 |_,_,.nil=>.nil
 |_,_,.cons n t h=>.cons ⟨t,rfl⟩ (KO h)
def qnV (H:Hp):Prop:=∀ b,H b=none\/∃ o xs,H b=some (.frz o (.lst xs))
def qc9 {P:Program} {w:World} {K:Frg} {mg mb:Str->Option Value} {CX:CXT} {k:Nat} {fa a:Addr} {fd:FuncData} {x:Str} {sp:Sp} {s₁:Shared} {vs:List Value} {ns:List Int}
  (KX:K.In s₁.heap) (hns:s₁.heap.Ns mainGlobals mg) (hb:s₁.heap.Ns builtinsNs mb) (hbb:∀ x:Str,x≠"__name__" -> mb x=bootBuiltins x) (hlim:s₁.heap.NoLimit) (hg:s₁.gens=#[])
  (ha:s₁.heap.get? a=some { cls:=.type "list",data:=.seq vs.toArray }) (hi:IntsAre vs ns) (hl:ns.length<=sizeLine) (hr:Room k callerA)
  (F:∀ base:Heap,K.In base->base.Ns mainGlobals mg->FnOk P w K mg base CX k fa fd [x] sp) (hbind:∀ (s:Shared) (u:Value),BindsTo s fd ⟨[u],[]⟩ [(x,u)])
  (hsp:∀ H:Hp,qnV H->SqL K H a (ns.map V.int)->sp [.ref a] H (λv _=>v=.bl true) λ_ _ _=>False)
  (hCX:∀ H e s',CX [] H s₁ (λ_ _ _=>False) e s'->False) :
  codeAny (model P w) callerA (.call (.ref fa) ⟨[.ref a],[]⟩) (λr s'=>r=.ok (.ret (.bool true))/\OldK s₁.heap s'.heap/\s'.os=s₁.os/\AllBare s'.gens) s₁:=by
 have rv:=KO hi;have lenV:=hi.length
 -- from an abstract heap in which nothing but the script may be tracked
 have core:∀ H:Hp,qnV H->SqL K H a (ns.map V.int)->HOk P w H s₁.heap->(∀ b,H b≠none->b=a)->(H a≠none->K.lookup a=none) ->
   codeAny (model P w) callerA (.call (.ref fa) ⟨[.ref a],[]⟩) (λr s'=>r=.ok (.ret (.bool true))/\OldK s₁.heap s'.heap/\s'.os=s₁.os/\AllBare s'.gens) s₁:=by
  intro H hO hS hok hA hK;have base_of:∀ {b:Addr} {o:Obj},s₁.heap.get? b=some o->H b=none->(qdb s₁.heap H).get? b=some o:=λe n=>qdu e n;have noA:∀ {b:Addr} {o:Obj} {es:Array DictEntry} {ep:Nat},s₁.heap.get? b=some o->o.data=.dict es ep->H b=none:=λ{b o es ep} e d=>by
   cases q:H b with
   |none=>rfl
   |some u=>
    have e':b=a:=hA b (by rw [q];simp);subst e';rw [ha] at e;cases e;have d':Data.seq vs.toArray _=Data.dict es ep:=d;cases d'
  have nsK:∀ {b:Addr} {m:Str->Option Value},s₁.heap.Ns b m->(qdb s₁.heap H).Ns b m:=λ{b m} ⟨o,es,ep,e,d,r⟩=>⟨o,es,ep,base_of e (noA e d),d,r⟩
  have hKb:K.In (qdb s₁.heap H):=λb o e=>base_of (KX b o e) (by
   cases q:H b with
   |none=>rfl
   |some u=>
    have e':b=a:=hA b (by rw [q];simp);subst e';rw [hK (by rw [q];simp)] at e;cases e)
  have hM:Mod K mg (qdb s₁.heap H):=⟨hKb,nsK hns,⟨mb,nsK hb,hbb⟩,let ⟨mc,h1,h2⟩:=hlim;⟨mc,nsK h1,h2⟩⟩
  have e0:Env0 P w K mg (qdb s₁.heap H) callerA [] s₁ H:=⟨rfl,hM,λb o e=>qhD e,Nat.le_of_eq (qa2 _ _),trivial,λb hb=>absurd (show b∈([]:List Addr) from hb) (by simp),hok,.of_eq hg⟩
  refine codeAny_mono ((F _ hKb (nsK hns)).run callerA [] s₁ H ⟨[.ref a],[]⟩ [.ref a] [.ref a] _ _ hr e0 (hbind s₁ (.ref a)) (.cons rfl .nil) (hsp H hO hS)) λr s' h=>?_;cases r with
  |error e=>exact (hCX H e s' h).elim
  |ok fl=>
   cases fl with
   |next=>exact False.elim h
   |brk=>exact False.elim h
   |cont=>exact False.elim h
   |ret u=>
    obtain ⟨v,H',os,bare,un,hok',r',q⟩:=h;have q':v=.bl true:=q;subst q';obtain rfl:u=Value.bool true:=r';refine ⟨rfl,OldK.of_keep λb o e=>?_,os,bare⟩;cases q:H b with
    |none=>exact un.keep b o e q (by intro z;exact absurd (show b∈([]:List Addr) from z) (by simp)) (by simp)
    |some u=>
     rcases hO b with z|⟨ob,xs,z⟩
     ·rw [q] at z;cases z
     ·have z2:=un.frzs b ob _ z;obtain ⟨e1,_⟩:=hok b _ z;obtain ⟨e2,_⟩:=hok' b _ z2;rw [e] at e1;cases e1;exact e2
 cases hk:K.lookup a with
 |some o=>
  -- the script is one of the module's own objects
  have e:=KX a o hk;rw [ha] at e;cases e;refine core (λ_=>none) (λ_=>.inl rfl) (.inr ⟨_,vs.toArray,_,hk,rfl,rfl,rfl,by rw [size_toArray,lenV];exact hl,by simpa using rv⟩) (λb u z=>by have z':(none:Option HO)=some u:=z;cases z') (λb z=>absurd rfl z) λz=>absurd rfl z
 |none=>
  refine core (λb=>if b=a then some (.frz { cls:=.type "list",data:=.seq vs.toArray } (.lst (ns.map V.int))) else none) (λb=>?_) (.inl (.inr ⟨{ cls:=.type "list",data:=.seq vs.toArray },if_pos rfl⟩)) (λb u z=>?_) (λb z=>?_) λ_=>hk
  ·by_cases hb:b=a
   ·exact .inr ⟨_,_,if_pos hb⟩
   ·exact .inl (if_neg hb)
  ·by_cases hb:b=a
   ·have z':=(if_pos hb).symm.trans z;cases z';subst hb;exact ⟨ha,by rw [length_map];exact hl,vs,_,rv,ha⟩
   ·have z':=(if_neg hb).symm.trans z;cases z'
  ·by_cases hb:b=a
   ·exact hb
   ·exact absurd (if_neg hb) z
def qhP {l:PySem.W.OpenLaw} {n k:Nat} {q:Program} {loose:List Str} {XP:(Str->Option Value)->Heap->Prop} {YP:World->Heap->Prop} {d:DefRec} {K:Params->PySem.W.Frag} {CX:World->CXT} {sp:World->Sp} {x:Str}
  (hn:l.most=some n) (hn2:n<=sizeLine) (hdf:d.params.defaults=[]) (hr:Room k callerA)
  (hY:∀ (w:World) (h:Heap),YP w h->(K w.params).In h)
  (F:∀ (w:World) (mg:Str->Option Value) (fa:Addr) (h:Heap),(K w.params).In h->h.Ns mainGlobals mg->mg d.name=some (.ref fa) ->
   ∃ fd:FuncData,(∀ (s:Shared) (u:Value),BindsTo s fd ⟨[u],[]⟩ [(x,u)]) /\
    ∀ base:Heap,(K w.params).In base->base.Ns mainGlobals mg->FnOk l.prog w (K w.params) mg base (CX w) k fa fd [x] (sp w))
  (hsp:∀ (w:World) (H:Hp) (a:Addr) (ns:List Int),ns.length<=n->qnV H->SqL (K w.params) H a (ns.map V.int)->sp w [.ref a] H (λv _=>v=.bl true) λ_ _ _=>False)
  (hCX:∀ (w:World) (H:Hp) (s:Shared) (e:Value) (s':Shared),CX w [] H s (λ_ _ _=>False) e s'->False) :
  PySem.W.WalkO q loose XP YP l.row.toRowW d [] (λf vs=>PySem.call f vs):=by
 refine Att.MT hn hdf λw s₀ s₁ mg mb fa o pm cd doc a vs ns G Y ho hd hcd hmg hobj hints hlen hg=>?_;have KX:=hY w _ Y;obtain ⟨fd,hb,hF⟩:=F w mg fa _ KX G.T.g hmg;exact qc9 KX G.T.g G.T.b G.T.builtins G.T.nolimit hg hobj hints (v9 hlen hn2) hr hF hb (λH hO hS=>hsp w H a ns hlen hO hS) λH e s'=>hCX w H s₁ e s'
def zi (s:Stmt):Arguments:=match s with
 |.FunctionDef _ a _ _ _ _ _ _ _ _=>a
 |_=>{ posonlyargs:=[],args:=[],vararg:=none,kwonlyargs:=[],kw_defaults:=[],kwarg:=none,defaults:=[] }
def qO (s:Stmt):List Stmt:=match s with
 |.FunctionDef _ _ b _ _ _ _ _ _ _=>b
 |_=>[]
def qi (s:Stmt):Scope:=match s with
 |.FunctionDef _ _ _ _ _ _ sc _ _ _=>sc
 |_=>{ kind:=.function,names:=[],isGenerator:=false,isCoroutine:=false }
abbrev CX0:CXT:=λ_ _ _ _ _ _=>False
abbrev E0:XK:=λ_ _ _=>False
def qox {X:Cx}:N9 CX0 X E0:=λ_ _ _ _ _ _ _ h=>h.elim
structure Fun (K:Frg) (x qual:Str) (st:Stmt) (f:Addr) (fd:FuncData):Prop where
 ex:∃ (oc:Value) (od:Option Addr) (kV doc pm:Value) (an:Option Addr) (cdv ct:Value) (osl:Array (Option Value)),
  fd=PySem.W.fnOf x qual (zi st) (qO st) (qi st) .none kV doc pm an cdv ct/\K.lookup f=some ⟨oc,od,.func fd,osl⟩/\PySem.W.codeIn K cdv qual=true
 kp:PySem.W.keepIn K (.ref f)=true
section
variable {P:Program} {w:World} {K:Frg} {mg:Str->Option Value} {base:Heap}
def Fun.ok {x qual:Str} {st:Stmt} {f:Addr} {fd:FuncData} {N ps:List Str} {k:Nat} {sp:Sp} (F:Fun K x qual st f fd) (S:FnScope N ps (qi st)) (len:∀ vs H Q E,sp vs H Q E->vs.length=ps.length)
  (hbody:∀ (cdv:Value) (A:Around) (outer:List Env) (s:Shared) (H:Hp) (vs:List V) (Q:VK) (E:XK),Room k (A.deeper (envOfC qual (qi st) s.heap.objs.size f cdv))->sp vs H Q E ->
   ∃ t,PSs (VE CX0 P w K mg base N qual (qi st) f cdv A outer s H E).nox (qO st) t/\t { nx:=λ_ H'=>Q .non H',rt:=Q } (CY N vs) H):FnOk P w K mg base CX0 (k+1) f fd ps sp:=by
 obtain ⟨oc,od,kV,doc,pm,an,cdv,ct,osl,rfl,lk,hcd⟩:=F.ex;refine qkM lk hcd S len λA outer s H vs Q E hr hsp=>?_;obtain ⟨t,h,q⟩:=hbody cdv A outer s H vs Q E hr hsp;exact ⟨t,h.nox,q⟩
def Fun.binds {x qual:Str} {st:Stmt} {f:Addr} {fd:FuncData} {ps:List Str} (F:Fun K x qual st f fd)
  (h:∀ (kV doc pm:Value) (an:Option Addr) (cdv ct:Value) (us:List Value),us.length=ps.length->bindArgs (PySem.W.fnOf x qual (zi st) (qO st) (qi st) .none kV doc pm an cdv ct) ⟨us,[]⟩=pure (ps.zip us)):WY K fd ps []:=by
 obtain ⟨oc,od,kV,doc,pm,an,cdv,ct,osl,rfl,lk,hcd⟩:=F.ex;exact .all (h kV doc pm an cdv ct)
def J3 {x qual:Str} {st:Stmt} {f:Addr} {oc:Value} {od an:Option Addr} {osl:Array (Option Value)} {kV doc pm cdv ct:Value} (l:K.lookup f=some ⟨oc,od,.func (PySem.W.fnOf x qual (zi st) (qO st) (qi st) .none kV doc pm an cdv ct),osl⟩)
  (c:PySem.W.codeIn K cdv qual=true) (k:PySem.W.keepIn K (.ref f)=true):Fun K x qual st f (PySem.W.fnOf x qual (zi st) (qO st) (qi st) .none kV doc pm an cdv ct):=⟨⟨oc,od,kV,doc,pm,an,cdv,ct,osl,rfl,l,c⟩,k⟩
end
section
variable {X:Cx}
end
def qn1 {A B:Prop} (h:B):if false=true then A else B:=by
 rw [if_neg y6];exact h
def qnO {A B:Prop} (h:A):if true=true then A else B:=by
 rw [if_pos rfl];exact h
end L2
set_option maxHeartbeats 4000000
namespace L3
open PySem PySem.Spec PyProof.Rows L2
set_option genInjectivity true in
inductive T where
 |non|bl (b:Bool)|int (i:Int)|str (x:Str)|tup (xs:List T)|ref (a:Addr)
inductive O where
 |lst (xs:List T)
 |frz (xs:List T)
 |dct (kvs:List (Int×T))
 |exn (C:Addr)
 |tab (ks:List Str) (xs:List T)
abbrev Gp:=Addr->Option O
def gu (G:Gp) (a:Addr) (o:O):Gp:=λb=>if b=a then some o else G b
def qv {G:Gp} {a:Addr} {o:O}:gu G a o a=some o:=by unfold gu;rw [if_pos rfl]
def zD {G:Gp} {a b:Addr} {o:O} (h:b≠a):gu G a o b=G b:=by unfold gu;rw [if_neg h]
mutual
inductive Rp (K:Frg) (H:Hp):T->V->Prop
 |non:Rp K H .non .non
 |bl (b:Bool):Rp K H (.bl b) (.bl b)
 |int (i:Int):Rp K H (.int i) (.int i)
 |str (x:Str):Rp K H (.str x) (.str x)
 |ref (a:Addr):Rp K H (.ref a) (.ref a)
 |tup {xs:List T} {a:Addr} {vs:List V}:SqT K H a vs->Rps K H xs vs->Rp K H (.tup xs) (.ref a)
inductive Rps (K:Frg) (H:Hp):List T->List V->Prop
 |nil:Rps K H [] []
 |cons {x:T} {v:V} {xs:List T} {vs:List V}:Rp K H x v->Rps K H xs vs->Rps K H (x::xs) (v::vs)
end
def IsX (a C:Addr) (h:Heap):Prop:=∃ o vs,h.get? a=some o/\o.cls=.ref C/\o.data=.fields vs
def OR (K:Frg) (H:Hp) (a:Addr):O->Prop
 |.lst xs=>∃ vs,H a=some (.lst vs)/\Rps K H xs vs
 |.frz xs=>∃ vs,(∃ o,H a=some (.frz o (.lst vs)))/\Rps K H xs vs
 |.dct kvs=>∃ vs,H a=some (.dK ((kvs.map λp=>(Sum.inl p.1:Key)).zip vs))/\Rps K H (kvs.map λp=>p.2) vs
 |.exn C=>H a=some (.ext (IsX a C))
 |.tab ks xs=>∃ vs,H a=some (.dK ((ks.map λk=>(Sum.inr k:Key)).zip vs))/\Rps K H xs vs
def HR (K:Frg) (G:Gp) (H:Hp):Prop:=∀ a o,G a=some o->OR K H a o
def Kp (G:Gp) (H:Hp) (G':Gp) (H':Hp):Prop:=∀ a o,H a=some o->G a=none->H' a=some o/\G' a=none
def Kp.refl {G:Gp} {H:Hp}:Kp G H G H:=λ_ _ h g=>⟨h,g⟩
def Kp.trans {G G1 G2:Gp} {H H1 H2:Hp} (a:Kp G H G1 H1) (b:Kp G1 H1 G2 H2):Kp G H G2 H2:=λx o h g=>
 let ⟨h1,g1⟩:=a x o h g;b x o h1 g1
section
variable {K:Frg} {G G':Gp} {H H':Hp}
def HR.noneT (hr:HR K G H) {a:Addr} {vs:List V} (h:Rd H a (.tup vs)):G a=none:=by
 cases e:G a with
 |none=>rfl
 |some o=>
  have q:=hr a o e;cases o with
  |lst xs=>
   obtain ⟨us,q1,_⟩:=q;rcases h with h|⟨ob,h⟩<;>(rw [q1] at h;cases h)
  |frz xs=>
   obtain ⟨us,⟨o1,q1⟩,_⟩:=q;rcases h with h|⟨ob,h⟩<;>(rw [q1] at h;cases h)
  |dct kvs=>
   obtain ⟨us,q1,_⟩:=q;rcases h with h|⟨ob,h⟩<;>(rw [q1] at h;cases h)
  |exn C=>
   have q1:H a=some (.ext (IsX a C)):=q;rcases h with h|⟨ob,h⟩<;>(rw [q1] at h;cases h)
  |tab ks xs=>
   obtain ⟨us,q1,_⟩:=q;rcases h with h|⟨ob,h⟩<;>(rw [q1] at h;cases h)
def R9 (hr:HR K G H) (k:Kp G H G' H') {a:Addr} {vs:List V} (h:SqT K H a vs):SqT K H' a vs:=by
 rcases h with h|h
 ·have g:=hr.noneT h;rcases h with h|⟨o,h⟩
  ·exact .inl (.inl (k a _ h g).1)
  ·exact .inl (.inr ⟨o,(k a _ h g).1⟩)
 ·exact .inr h
mutual
def Rp.keep (hr:HR K G H) (k:Kp G H G' H'):∀ {x:T} {v:V},Rp K H x v->Rp K H' x v
 |_,_,.non=>.non
 |_,_,.bl b=>.bl b
 |_,_,.int i=>.int i
 |_,_,.str x=>.str x
 |_,_,.ref a=>.ref a
 |_,_,.tup h hs=>.tup (R9 hr k h) (Rps.keep hr k hs)
def Rps.keep (hr:HR K G H) (k:Kp G H G' H'):∀ {x:List T} {v:List V},Rps K H x v->Rps K H' x v
 |_,_,.nil=>.nil
 |_,_,.cons a b=>.cons (Rp.keep hr k a) (Rps.keep hr k b)
end
def Rps.length:∀ {xs:List T} {vs:List V},Rps K H xs vs->xs.length=vs.length
 |_,_,.nil=>rfl
 |_,_,.cons _ b=>by simp [Rps.length b]
def Rps.get:∀ {xs:List T} {vs:List V} {i:Nat} {x:T},Rps K H xs vs->xs[i]?=some x->∃ v,vs[i]?=some v/\Rp K H x v
 |_,_,_,_,.nil,e=>by simp at e
 |_,_,0,_,.cons r _,e=>by simp at e;subst e;exact ⟨_,rfl,r⟩
 |_,_,i+1,x,.cons _ t,e=>by
  obtain ⟨u,h1,h2⟩:=Rps.get (i:=i) (x:=x) t (by simpa using e);exact ⟨u,by simpa using h1,h2⟩
def Rps.append:∀ {xs ys:List T} {vs us:List V},Rps K H xs vs->Rps K H ys us->Rps K H (xs++ys) (vs++us)
 |_,_,_,_,.nil,s=>s
 |_,_,_,_,.cons r t,s=>.cons r (Rps.append t s)
def Rps.take:∀ {xs:List T} {vs:List V} (n:Nat),Rps K H xs vs->Rps K H (xs.take n) (vs.take n)
 |_,_,0,_=>.nil
 |_,_,_+1,.nil=>.nil
 |_,_,n+1,.cons r t=>.cons r (Rps.take n t)
def Rps.drop:∀ {xs:List T} {vs:List V} (n:Nat),Rps K H xs vs->Rps K H (xs.drop n) (vs.drop n)
 |_,_,0,r=>r
 |_,_,_+1,.nil=>.nil
 |_,_,n+1,.cons _ t=>Rps.drop n t
def Rps.set {x:T} {v:V} (r:Rp K H x v):∀ {xs:List T} {vs:List V} (i:Nat),Rps K H xs vs->Rps K H (xs.set i x) (vs.set i v)
 |_,_,_,.nil=>.nil
 |_,_,0,.cons _ t=>.cons r t
 |_,_,i+1,.cons q t=>.cons q (Rps.set r i t)
def Rps.ints:∀ (ns:List Int),Rps K H (ns.map T.int) (ns.map V.int)
 |[]=>.nil
 |n::r=>.cons (.int n) (Rps.ints r)
def Kp.laid {p:Addr} {ho:HO} (hp:H p=none):Kp G H G (upd H p ho):=λa o h g=>⟨by rw [qz (qG h hp)];exact h,g⟩
def HR.free (hr:HR K G H) {p:Addr} (hp:H p=none):G p=none:=by
 cases e:G p with
 |none=>rfl
 |some o=>
  have q:=hr p o e;cases o with
  |lst xs=>obtain ⟨us,q1,_⟩:=q;rw [hp] at q1;cases q1
  |frz xs=>obtain ⟨us,⟨o1,q1⟩,_⟩:=q;rw [hp] at q1;cases q1
  |dct kvs=>obtain ⟨us,q1,_⟩:=q;rw [hp] at q1;cases q1
  |exn C=>have q1:H p=some (.ext (IsX p C)):=q;rw [hp] at q1;cases q1
  |tab ks xs=>obtain ⟨us,q1,_⟩:=q;rw [hp] at q1;cases q1
def OR.keep (hr:HR K G H) (k:Kp G H G' H') {a:Addr} {o:O} (h:OR K H a o) (e:∀ u,H a=some u->H' a=some u):OR K H' a o:=by
 cases o with
 |lst xs=>obtain ⟨vs,h1,h2⟩:=h;exact ⟨vs,e _ h1,h2.keep hr k⟩
 |frz xs=>obtain ⟨vs,⟨o,h1⟩,h2⟩:=h;exact ⟨vs,⟨o,e _ h1⟩,h2.keep hr k⟩
 |dct kvs=>obtain ⟨vs,h1,h2⟩:=h;exact ⟨vs,e _ h1,h2.keep hr k⟩
 |exn C=>exact e _ h
 |tab ks xs=>obtain ⟨vs,h1,h2⟩:=h;exact ⟨vs,e _ h1,h2.keep hr k⟩
def HR.laid (hr:HR K G H) {p:Addr} {ho:HO} (hp:H p=none):HR K G (upd H p ho):=λa o e=>
 (hr a o e).keep hr (Kp.laid hp) λu h=>by rw [qz (qG h hp)];exact h
def Kp.newL {p:Addr} {ho:HO} {o':O} (hp:H p=none):Kp G H (gu G p o') (upd H p ho):=λa o h g=>
 ⟨by rw [qz (qG h hp)];exact h,by rw [zD (qG h hp)];exact g⟩
def HR.newL (hr:HR K G H) {p:Addr} {xs:List T} {vs:List V} (hp:H p=none) (r:Rps K H xs vs):HR K (gu G p (.lst xs)) (upd H p (.lst vs)):=λa o e=>by
 by_cases ha:a=p
 ·subst ha;rw [qv] at e;cases e;exact ⟨vs,ze,r.keep hr (Kp.laid hp)⟩
 ·rw [zD ha] at e;exact (hr a o e).keep hr (Kp.laid hp) λu h=>by rw [qz ha];exact h
def Kp.wr {p:Addr} {ho:HO} {o o':O} (g:G p=some o):Kp G H (gu G p o') (upd H p ho):=λa ob h ga=>by
 have ha:a≠p:=by intro e;subst e;rw [g] at ga;cases ga
 exact ⟨by rw [qz ha];exact h,by rw [zD ha];exact ga⟩
def HR.wr (hr:HR K G H) {p:Addr} {ys xs:List T} {vs:List V} (g:G p=some (.lst ys)) (r:Rps K H xs vs):HR K (gu G p (.lst xs)) (upd H p (.lst vs)):=λa o e=>by
 have k:Kp G H (gu G p (.lst xs)) (upd H p (.lst vs)):=Kp.wr g;by_cases ha:a=p
 ·subst ha;rw [qv] at e;cases e;exact ⟨vs,ze,r.keep hr k⟩
 ·rw [zD ha] at e;exact (hr a o e).keep hr k λu h=>by rw [qz ha];exact h
end
abbrev St3:=List (Option T)
structure Rel (K:Frg) (τ:St3) (G:Gp) (σ:L2.St) (H:Hp):Prop where
 hp:HR K G H
 len:τ.length=σ.length
 st:∀ (i:Nat) (t:T),τ[i]?=some (some t)->∃ v,σ[i]?=some (some v)/\Rp K H t v
def Rel.next {K:Frg} {τ:St3} {G G':Gp} {σ:L2.St} {H H':Hp} (r:Rel K τ G σ H) (hr:HR K G' H') (k:Kp G H G' H'):Rel K τ G' σ H':=
 ⟨hr,r.len,λi t e=>let ⟨v,h1,h2⟩:=r.st i t e;⟨v,h1,h2.keep r.hp k⟩⟩
def Rel.set {K:Frg} {τ:St3} {G:Gp} {σ:L2.St} {H:Hp} {t:T} {v:V} (r:Rel K τ G σ H) (i:Nat) (h:Rp K H t v):Rel K (τ.set i (some t)) G (σ.set i (some v)) H:=by
 refine ⟨r.hp,by simp [r.len],λj u e=>?_⟩;by_cases hij:i=j
 ·subst hij;rw [List.getElem?_set_self'] at e;have hl:i<τ.length:=by
   cases q:τ[i]? with
   |none=>rw [q] at e;cases e
   |some z=>exact (za4 q).1
  rw [y9 hl] at e;have e':t=u:=by simpa using e
  subst e';exact ⟨v,by rw [List.getElem?_set_self (by rw [← r.len];exact hl)],h⟩
 ·rw [List.getElem?_set_ne hij] at e;obtain ⟨w,h1,h2⟩:=r.st j u e;exact ⟨w,by rw [List.getElem?_set_ne hij];exact h1,h2⟩
abbrev Q3:=T->Gp->Prop
abbrev TE3:=St3->Gp->Q3->Prop
abbrev TT3:=St3->Gp->(Bool->Gp->Prop)->Prop
abbrev TA3:=St3->Gp->(List T->Gp->Prop)->Prop
def Aft (K:Frg) (G:Gp) (H:Hp) (q:Q3) (Q:VK):Prop:=∀ x G',q x G'->∀ v H',Rp K H' x v->HR K G' H'->Kp G H G' H'->Q v H'
def qn4 (K:Frg) (G:Gp) (H:Hp) (q:Bool->Gp->Prop) (Q:Bool->Hp->Prop):Prop:=∀ x G',q x G'->∀ H',HR K G' H'->Kp G H G' H'->Q x H'
def qrD (K:Frg) (G:Gp) (H:Hp) (q:List T->Gp->Prop) (Q:List V->Hp->Prop):Prop:=∀ x G',q x G'->∀ v H',Rps K H' x v->HR K G' H'->Kp G H G' H'->Q v H'
def lE (K:Frg) (t:TE3):TE:=λσ H Q=>∃ τ G q,Rel K τ G σ H/\t τ G q/\Aft K G H q Q
def lT (K:Frg) (t:TT3):TT:=λσ H Q=>∃ τ G q,Rel K τ G σ H/\t τ G q/\qn4 K G H q Q
def lA (K:Frg) (t:TA3):TA:=λσ H Q=>∃ τ G q,Rel K τ G σ H/\t τ G q/\qrD K G H q Q
abbrev E3 (X:Cx) (e:Expr) (t:TE3):Prop:=PE X e (lE X.K t)
abbrev C3 (X:Cx) (e:Expr) (t:TT3):Prop:=PT X e (lT X.K t)
abbrev W3 (X:Cx) (e:Expr) (t:TT3):Prop:=PW X e (lT X.K t)
abbrev A3 (X:Cx) (es:List Expr) (t:TA3):Prop:=PA X es (lA X.K t)
def Aft.back {K:Frg} {G G1:Gp} {H H1:Hp} {q:Q3} {Q:VK} (a:Aft K G H q Q) (k:Kp G H G1 H1):Aft K G1 H1 q Q:=λx G' h v H' r hr k'=>a x G' h v H' r hr (k.trans k')
def qn4.back {K:Frg} {G G1:Gp} {H H1:Hp} {q:Bool->Gp->Prop} {Q:Bool->Hp->Prop} (a:qn4 K G H q Q) (k:Kp G H G1 H1):qn4 K G1 H1 q Q:=λx G' h H' hr k'=>a x G' h H' hr (k.trans k')
def WU {X:Cx} {e:Expr} {t t':TE} (h:PE X e t) (w:∀ σ H Q,t' σ H Q->t σ H Q):PE X e t':=λpins s σ H Q I q=>h pins s σ H Q I (w σ H Q q)
def qoQ {X:Cx} {e:Expr} {t t':TT} (h:PT X e t) (w:∀ σ H Q,t' σ H Q->t σ H Q):PT X e t':=λpins s σ H Q I q=>h pins s σ H Q I (w σ H Q q)
def qrv {X:Cx} {e:Expr} {t t':TT} (h:PW X e t) (w:∀ σ H Q,t' σ H Q->t σ H Q):PW X e t':=λwh pins s σ H Q I q=>h wh pins s σ H Q I (w σ H Q q)
def qoi {X:Cx} {e:List Expr} {t t':TA} (h:PA X e t) (w:∀ σ H Q,t' σ H Q->t σ H Q):PA X e t':=λpos pins s σ H Q I q=>h pos pins s σ H Q I (w σ H Q q)
def z9 {K:Frg} {ta:TE3} {τ:St3} {G:Gp} {σ:L2.St} {H:Hp} {q:Q3} {Q:VK} (r:Rel K τ G σ H) (h:ta τ G q)
  (n:∀ x G1,q x G1->∀ v H1,Rp K H1 x v->HR K G1 H1->Kp G H G1 H1->Rel K τ G1 σ H1->Q v H1):lE K ta σ H Q:=
 ⟨τ,G,q,r,h,λx G1 hq v H1 rx hr k=>n x G1 hq v H1 rx hr k (r.next hr k)⟩
def KB {K:Frg} {ta:TT3} {τ:St3} {G:Gp} {σ:L2.St} {H:Hp} {q:Bool->Gp->Prop} {Q:Bool->Hp->Prop} (r:Rel K τ G σ H) (h:ta τ G q)
  (n:∀ x G1,q x G1->∀ H1,HR K G1 H1->Kp G H G1 H1->Rel K τ G1 σ H1->Q x H1):lT K ta σ H Q:=
 ⟨τ,G,q,r,h,λx G1 hq H1 hr k=>n x G1 hq H1 hr k (r.next hr k)⟩
def JK {K:Frg} {ta:TA3} {τ:St3} {G:Gp} {σ:L2.St} {H:Hp} {q:List T->Gp->Prop} {Q:List V->Hp->Prop} (r:Rel K τ G σ H) (h:ta τ G q)
  (n:∀ x G1,q x G1->∀ v H1,Rps K H1 x v->HR K G1 H1->Kp G H G1 H1->Rel K τ G1 σ H1->Q v H1):lA K ta σ H Q:=
 ⟨τ,G,q,r,h,λx G1 hq v H1 rx hr k=>n x G1 hq v H1 rx hr k (r.next hr k)⟩
section
variable {X:Cx} {a b c:Expr} {ta tb tc:TE3} {pos:Pos}
def v3 (i:Nat):TE3:=λτ G q=>match τ[i]? with|some (some t)=>q t G|_=>False
def qpW (i:Nat) {x:Str} {pos:Pos} (hN:X.N[i]?=some x:=by rfl) (hv:Vis X.env.scope x:=by first|exact Or.inl rfl|exact Or.inr (Or.inl rfl)|exact Or.inr (Or.inr rfl)) (hd:(x==("__debug__" : Str))=false:=by decide)
  (hcd:(x==("__classdict__" : Str))=false:=by decide):E3 X (.Name x pos) (v3 i):=by
 refine WU (qmc (i:=i) hN hv hd hcd) λσ H Q ⟨τ,G,q,r,h,af⟩=>?_;unfold v3 at h;split at h
 ·rename_i t e;obtain ⟨v,e2,rv⟩:=r.st i t e;exact ⟨v,e2,af t G h v H rv r.hp Kp.refl⟩
 ·exact h.elim
def c3 (t:T):TE3:=λ_ G q=>q t G
def e_c {t:T} {v:V} {e:Expr} (h:PE X e (tC v)) (hr:∀ H,Rp X.K H t v):E3 X e (c3 t):=WU h λσ H Q ⟨τ,G,q,r,h,af⟩=>af t G h v H (hr H) r.hp Kp.refl
def qob {i:Int} {j pos}:E3 X (.Constant (.int i) j pos) (c3 (.int i)):=e_c qly λ_=>.int i
def qrs {b:Bool} {j pos}:E3 X (.Constant (.bool b) j pos) (c3 (.bl b)):=e_c qoD λ_=>.bl b
def qot {j pos}:E3 X (.Constant .none j pos) (c3 .non):=e_c qnJ λ_=>.non
def qo6 {x:Str} {j pos}:E3 X (.Constant (.str x) j pos) (c3 (.str x)):=e_c qj6 λ_=>.str x
def n3:TE3:=λ_ _ _=>False
abbrev R3:=T->T->Gp->Q3->Prop
def MY (K:Frg) (r3:R3) (r:R2):Prop:=∀ x y v u G H q Q,HR K G H->Rp K H x v->Rp K H y u->r3 x y G q->Aft K G H q Q->r v u H Q
def o3 (r:R3) (ta tb:TE3):TE3:=λτ G q=>ta τ G λx G1=>tb τ G1 λy G2=>r x y G2 q
def qdU {K:Frg} {r3:R3} {r:R2} (hr:MY K r3 r) {σ:L2.St} {H:Hp} {Q:VK} (h:lE K (o3 r3 ta tb) σ H Q):tOp r (lE K ta) (lE K tb) σ H Q:=by
 obtain ⟨τ,G,q,rl,h,af⟩:=h;refine z9 rl h λx G1 h1 v H1 rx hr1 k1 rl1=>z9 rl1 h1 λy G2 h2 u H2 ry hr2 k2 rl2=>?_;exact hr x y v u G2 H2 q Q hr2 (rx.keep hr1 k2) ry h2 (af.back (k1.trans k2))
def qfi {op:Operator} {r3:R3} {r:R2} (ho:OpR X (binaryOp op) r) (hr:MY X.K r3 r) (ha:E3 X a ta) (hb:E3 X b tb):E3 X (.BinOp a op b pos) (o3 r3 ta tb):=
 WU (qoV ho ha hb) λ_ _ _ h=>qdU hr h
def qoL {op:CmpOp} {r3:R3} {r:R2} (ho:OpR X (compareOp op) r) (hr:MY X.K r3 r) (ha:E3 X a ta) (hb:E3 X b tb) (hm:behindInMarks op b=false):E3 X (.Compare a [op] [b] pos) (o3 r3 ta tb):=
 WU (qhC ho ha hb hm) λ_ _ _ h=>qdU hr h
def tb3 (t:TE3):TT3:=λτ G q=>t τ G λx G'=>match x with|.bl k=>q k G'|_=>False
def qjr {K:Frg} {t:TE3} {t2:TE} (hw:∀ σ H Q,lE K t σ H Q->t2 σ H Q) {σ:L2.St} {H:Hp} {Q:Bool->Hp->Prop} (h:lT K (tb3 t) σ H Q):qmA t2 σ H Q:=by
 obtain ⟨τ,G,q,rl,h,af⟩:=h;refine hw _ _ _ (z9 rl h λx G1 h1 v H1 rx hr1 k1 rl1=>?_);cases x with
 |bl k=>cases rx;exact ⟨k,rfl,af k G1 h1 H1 hr1 k1⟩
 |_=>exact h1.elim
def qpN {op:CmpOp} {r3:R3} {r:R2} (ho:OpR X (compareOp op) r) (hr:MY X.K r3 r) (ha:E3 X a ta) (hb:E3 X b tb) (hm:behindInMarks op b=false):C3 X (.Compare a [op] [b] pos) (tb3 (o3 r3 ta tb)):=
 qoQ (qig ho ha hb hm) λ_ _ _ h=>qjr (λ_ _ _=>qdU hr) h
def ch3 (r r':R3) (ta tb tc:TE3):TE3:=λτ G q=>ta τ G λx G1=>tb τ G1 λy G2=>r x y G2 λz G3=>match z with
 |.bl k=>if k=true then tc τ G3 λw G4=>r' y w G4 q else q (.bl false) G3
 |_=>False
def qqy (K:Frg) (r3:T->Gp->Q3->Prop) (r:V->Hp->VK->Prop):Prop:=∀ x v G H q Q,HR K G H->Rp K H x v->r3 x G q->Aft K G H q Q->r v H Q
def u3 (r:T->Gp->Q3->Prop) (ta:TE3):TE3:=λτ G q=>ta τ G λx G1=>r x G1 q
def qro {op:UnaryOp} {r3:T->Gp->Q3->Prop} {r:V->Hp->VK->Prop} (ho:UnR X (unaryOp op) r) (hr:qqy X.K r3 r) (ha:E3 X a ta):E3 X (.UnaryOp op a pos) (u3 r3 ta):=
 WU (qok ho ha) λ_ _ _ ⟨τ,G,q,rl,h,af⟩=>z9 rl h λx G1 h1 v H1 rx hr1 k1 rl1=>hr x v G1 H1 q _ hr1 rx h1 (af.back k1)
def Z7:T->Gp->Q3->Prop:=λx G q=>match x with|.int i=>q (.int (-i)) G|_=>False
def qgU {K:Frg}:qqy K Z7 (rU λi=>.int (-i)):=λx v G H q Q hr rx h af=>by
 cases x with
 |int i=>cases rx;exact ⟨i,rfl,af _ G h _ H (.int _) hr Kp.refl⟩
 |_=>exact h.elim
def iI (f:Int->Int->Int):R3:=λx y G q=>match x,y with|.int i,.int j=>q (.int (f i j)) G|_,_=>False
def iC (C:Int->Int->Prop) (f:Int->Int->Int):R3:=λx y G q=>match x,y with|.int i,.int j=>C i j/\q (.int (f i j)) G|_,_=>False
def iB (f:Int->Int->Bool):R3:=λx y G q=>match x,y with|.int i,.int j=>q (.bl (f i j)) G|_,_=>False
def qmn {K:Frg} {f:Int->Int->Int}:MY K (iI f) (rI0 λi j=>.int (f i j)):=λx y v u G H q Q hr rx ry h af=>by
 cases x<;>try exact h.elim
 cases y<;>try exact h.elim
 cases rx;cases ry;exact ⟨_,_,rfl,rfl,af _ G h _ H (.int _) hr Kp.refl⟩
def R0 {K:Frg} {C:Int->Int->Prop} {f:Int->Int->Int}:MY K (iC C f) (rI C λi j=>.int (f i j)):=λx y v u G H q Q hr rx ry h af=>by
 cases x<;>try exact h.elim
 cases y<;>try exact h.elim
 cases rx;cases ry;exact ⟨_,_,rfl,rfl,h.1,af _ G h.2 _ H (.int _) hr Kp.refl⟩
def Y0 {K:Frg} {f:Int->Int->Bool}:MY K (iB f) (rI0 λi j=>.bl (f i j)):=λx y v u G H q Q hr rx ry h af=>by
 cases x<;>try exact h.elim
 cases y<;>try exact h.elim
 cases rx;cases ry;exact ⟨_,_,rfl,rfl,af _ G h _ H (.bl _) hr Kp.refl⟩
def qp4 (ha:E3 X a ta) (hb:E3 X b tb):E3 X (.BinOp a .Mult b pos) (o3 (iC UM (·*·)) ta tb):=qfi qlN R0 ha hb
def qo9 (ha:E3 X a ta) (hb:E3 X b tb):E3 X (.BinOp a .Mod b pos) (o3 (iC (λ_ j=>0<j) (·%·)) ta tb):=qfi qjP R0 ha hb
def qoA (ha:E3 X a ta) (hb:E3 X b tb):E3 X (.BinOp a .FloorDiv b pos) (o3 (iC MM (·/·)) ta tb):=qfi qh0 R0 ha hb
def qoY (ha:E3 X a ta) (hb:E3 X b tb):E3 X (.BinOp a .Pow b pos) (o3 (iC qam (λi j=>i ^ j.toNat)) ta tb):=qfi qky R0 ha hb
def qjE (ha:E3 X a ta) (hb:E3 X b tb):E3 X (.BinOp a .BitAnd b pos) (o3 (iI Builtin.bitAnd) ta tb):=qfi qkV qmn ha hb
def qpR (ha:E3 X a ta) (hb:E3 X b tb):E3 X (.BinOp a .LShift b pos) (o3 (iC qam (λi j=>i*2 ^ j.toNat)) ta tb):=qfi qjg R0 ha hb
def qpM (ha:E3 X a ta) (hb:E3 X b tb):E3 X (.BinOp a .RShift b pos) (o3 (iC (λ_ j=>0<=j) (λi j=>i/2 ^ j.toNat)) ta tb):=qfi qmH R0 ha hb
def qpI (ha:E3 X a ta):E3 X (.UnaryOp .USub a pos) (u3 Z7 ta):=qro qiY qgU ha
def qU:T->T->Option Bool
 |.non,.non=>some true|.non,.int _=>some false|.int _,.non=>some false|.non,.bl _=>some false|.bl _,.non=>some false|.non,.str _=>some false|.str _,.non=>some false
 |.int i,.int j=>some (decide (i=j))|.bl i,.bl j=>some (decide (i=j))|.str i,.str j=>some (decide (i=j))
 |.int _,.str _=>some false|.str _,.int _=>some false|.bl _,.str _=>some false|.str _,.bl _=>some false
 |_,_=>none
def NM {K:Frg} {H:Hp} {x y:T} {v u:V} {k:Bool} (rx:Rp K H x v) (ry:Rp K H y u) (h:qU x y=some k):qpL v u=true/\decide (v=u)=k:=by
 cases rx<;>cases ry<;>simp [qU] at h<;>subst h<;>refine ⟨rfl,?_⟩<;>simp
def J5 (neg:Bool):R3:=λx y G q=>match y with|.non=>q (.bl (match x with|.non=>!neg|_=>neg)) G|_=>False
def qmk {K:Frg} {H:Hp} {x:T} {v:V} (rx:Rp K H x v):decide (v=.non)=(match x with|.non=>true|_=>false):=by
 cases rx<;>simp
def SO {K:Frg}:MY K (J5 false) (λx y H Q=>y=.non/\Q (.bl (decide (x=.non))) H):=λx y v u G H q Q hr rx ry h af=>by
 cases y<;>try exact h.elim
 cases ry;refine ⟨rfl,?_⟩;rw [qmk rx];refine af _ G h _ H ?_ hr Kp.refl;cases x<;>exact .bl _
variable {tA tB:TT3} {QS:List Expr}
def UF (t u:TT3):TT3:=λτ G q=>t τ G λk G1=>if k=true then u τ G1 q else q false G1
def or3 (t u:TT3):TT3:=λτ G q=>t τ G λk G1=>if k=true then q true G1 else u τ G1 q
def JS (t:TT3):TT3:=λτ G q=>t τ G λk G1=>q (!k) G1
def qpt (ha:C3 X a tA):W3 X (.BoolOp .Or [a] pos) tA:=qkZ ha
def qrL (ha:C3 X a tA) (hb:W3 X (.BoolOp .Or (b::QS) pos) tB):W3 X (.BoolOp .Or (a::b::QS) pos) (or3 tA tB):=
 qrv (qpz ha hb) λ_ _ _ ⟨τ,G,q,rl,h,af⟩=>KB rl h λk G1 h1 H1 hr1 k1 rl1=>by
  cases k with
  |true=>rw [if_pos rfl] at h1 ⊢;exact af _ G1 h1 H1 hr1 k1
  |false=>rw [if_neg y6] at h1 ⊢;exact ⟨τ,G1,q,rl1,h1,af.back k1⟩
def qo4 (ha:C3 X a tA):C3 X (.UnaryOp .Not a pos) (JS tA):=
 qoQ (qmr ha) λ_ _ _ ⟨τ,G,q,rl,h,af⟩=>KB rl h λk G1 h1 H1 hr1 k1 rl1=>af _ G1 h1 H1 hr1 k1
def qpx {e:Expr} {t:TE3} (h:E3 X e t) (he:∀ whole,isTrue e X.env whole=(do let v←whole;standAt e.pos;holding [v] (truthy v)):=by intro _;rfl):C3 X e (tb3 t):=
 qoQ (qkl h he) λ_ _ _ h=>qjr (λ_ _ _ h=>h) h
def zy (ta tb:TE3):TE3:=λτ G q=>ta τ G λx G1=>match x with|.bl k=>if k=true then tb τ G1 q else q (.bl false) G1|_=>False
def VF (ta tb:TE3):TE3:=λτ G q=>ta τ G λx G1=>match x with|.bl k=>if k=true then q (.bl true) G1 else tb τ G1 q|_=>False
def ja (ta:TE3):TE3:=λτ G q=>ta τ G λx G1=>match x with|.bl k=>q (.bl (!k)) G1|_=>False
def qpS {op} (h:E3 X a ta):E3 X (.BoolOp op [a] pos) ta:=ql3 h
def qpH (ha:E3 X a ta) (hb:E3 X (.BoolOp .And (b::QS) pos) tb):E3 X (.BoolOp .And (a::b::QS) pos) (zy ta tb):=
 WU (qjS ha hb) λ_ _ _ ⟨τ,G,q,rl,h,af⟩=>z9 rl h λx G1 h1 v H1 rx hr1 k1 rl1=>by
  cases x with
  |bl k=>
   cases rx;refine ⟨k,rfl,?_⟩;cases k with
   |true=>rw [if_pos rfl];exact ⟨τ,G1,q,rl1,(show tb τ G1 q from by simpa using h1),af.back k1⟩
   |false=>rw [if_neg y6];exact af _ G1 (by simpa using h1) _ H1 (.bl false) hr1 k1
  |_=>exact h1.elim
def qrg (ha:E3 X a ta) (hb:E3 X (.BoolOp .Or (b::QS) pos) tb):E3 X (.BoolOp .Or (a::b::QS) pos) (VF ta tb):=
 WU (qpf ha hb) λ_ _ _ ⟨τ,G,q,rl,h,af⟩=>z9 rl h λx G1 h1 v H1 rx hr1 k1 rl1=>by
  cases x with
  |bl k=>
   cases rx;refine ⟨k,rfl,?_⟩;cases k with
   |true=>rw [if_pos rfl];exact af _ G1 (by simpa using h1) _ H1 (.bl true) hr1 k1
   |false=>rw [if_neg y6];exact ⟨τ,G1,q,rl1,(show tb τ G1 q from by simpa using h1),af.back k1⟩
  |_=>exact h1.elim
def qoT (ha:E3 X a ta):E3 X (.UnaryOp .Not a pos) (ja ta):=
 WU (ql9 ha) λ_ _ _ ⟨τ,G,q,rl,h,af⟩=>z9 rl h λx G1 h1 v H1 rx hr1 k1 rl1=>by
  cases x with
  |bl k=>cases rx;exact ⟨k,rfl,af _ G1 h1 _ H1 (.bl _) hr1 k1⟩
  |_=>exact h1.elim
def if3 (t:TT3) (ta tb:TE3):TE3:=λτ G q=>t τ G λk G1=>if k=true then ta τ G1 q else tb τ G1 q
def qq1 {c:Expr} (hc:C3 X c tA) (ha:E3 X a ta) (hb:E3 X b tb):E3 X (.IfExp c a b pos) (if3 tA ta tb):=
 WU (qdC hc ha hb) λ_ _ _ ⟨τ,G,q,rl,h,af⟩=>KB rl h λk G1 h1 H1 hr1 k1 rl1=>by
  cases k with
  |true=>rw [if_pos rfl] at h1 ⊢;exact ⟨τ,G1,q,rl1,h1,af.back k1⟩
  |false=>rw [if_neg y6] at h1 ⊢;exact ⟨τ,G1,q,rl1,h1,af.back k1⟩
variable {e:Expr} {es:List Expr} {te:TE3} {t:TA3}
def qk:TA3:=λ_ G q=>q [] G
def qc (ta:TE3) (tr:TA3):TA3:=λτ G q=>ta τ G λx G1=>tr τ G1 λxs G2=>q (x::xs) G2
def qpC:A3 X [] qk:=qoi DI λ_ H _ ⟨τ,G,q,rl,h,af⟩=>af _ G h _ H .nil rl.hp Kp.refl
def qiL (ha:E3 X e te) (hr:A3 X es t) (hs:starEach (e::es) X.env=(false,eval e X.env)::starEach es X.env:=by rfl):A3 X (e::es) (qc te t):=
 qoi (jV ha hr hs) λ_ _ _ ⟨τ,G,q,rl,h,af⟩=>z9 rl h λx G1 h1 v H1 rx hr1 k1 rl1=>JK rl1 h1 λxs G2 h2 vs H2 rs hr2 k2 rl2=>
  af _ G2 h2 _ H2 (.cons (rx.keep hr1 k2) rs) hr2 (k1.trans k2)
def q0 (t:TA3):TE3:=λτ G q=>t τ G λxs G1=>xs.length<=sizeLine/\q (.tup xs) G1
def zF (t:TA3):TE3:=λτ G q=>t τ G λxs G1=>xs.length<=sizeLine/\∀ p,G1 p=none->q (.ref p) (gu G1 p (.lst xs))
def qoU {x1} (h:A3 X es t):E3 X (.Tuple es x1 pos) (q0 t):=
 WU (qcR h) λ_ _ _ ⟨τ,G,q,rl,h,af⟩=>JK rl h λxs G1 h1 vs H1 rs hr1 k1 rl1=>⟨by rw [← rs.length];exact h1.1,λp hp=>
  af _ G1 h1.2 _ _ (.tup (SqT.of ze) (rs.keep hr1 (Kp.laid hp))) (hr1.laid hp) (k1.trans (Kp.laid hp))⟩
def qoS (h:A3 X es t):E3 X (.List es pos) (zF t):=
 WU (qlW h) λ_ _ _ ⟨τ,G,q,rl,h,af⟩=>JK rl h λxs G1 h1 vs H1 rs hr1 k1 rl1=>⟨by rw [← rs.length];exact h1.1,λp hp=>
  af _ _ (h1.2 p (hr1.free hp)) _ _ (.ref p) (hr1.newL hp rs) (k1.trans (Kp.newL hp))⟩
def qaT (K:Frg) (r3:List T->Gp->Q3->Prop) (r:List V->Hp->VK->Prop):Prop:=∀ xs vs G H q Q,HR K G H->Rps K H xs vs->r3 xs G q->Aft K G H q Q->r vs H Q
def cb3 (r:List T->Gp->Q3->Prop) (t:TA3):TE3:=λτ G q=>t τ G λxs G1=>r xs G1 q
def qmt {K:Frg} {r3:List T->Gp->Q3->Prop} {r:List V->Hp->VK->Prop} (hr:qaT K r3 r) {σ:L2.St} {H:Hp} {Q:VK} (h:lE K (cb3 r3 t) σ H Q):tCB r (lA K t) σ H Q:=by
 obtain ⟨τ,G,q,rl,h,af⟩:=h;exact JK rl h λxs G1 h1 vs H1 rs hr1 k1 rl1=>hr xs vs G1 H1 q Q hr1 rs h1 (af.back k1)
def qgR {x:Str} {p:Pos} {id:String} {r3:List T->Gp->Q3->Prop} {r:List V->Hp->VK->Prop} (hc:VH X (.builtin id) r) (hr:qaT X.K r3 r) (hg:Gl X x) (hm:X.mg x=none) (hv:bootBuiltins x=some (.builtin id)) (ha:A3 X (e::es) t) (hn:x≠"__name__" := by decide) (hdb:(x==("__debug__" : Str))=false:=by decide)
  (he:starEach (e::es) X.env=(false,eval e X.env)::starEach es X.env:=by rfl) (hpl:(backTo pos (starEach es X.env)).any (·.1)=false:=by rfl):E3 X (.Call (.Name x p) (e::es) [] pos) (cb3 r3 t):=
 WU (UH hc hg hm hv ha hn hdb he hpl) λ_ _ _ h=>qmt hr h
def qda {x:Str} {p:Pos} {ty:String} {r3:List T->Gp->Q3->Prop} {r:List V->Hp->VK->Prop} (hc:VH X (.type ty) r) (hr:qaT X.K r3 r) (hg:Gl X x) (hm:X.mg x=none) (hv:bootBuiltins x=some (.type ty)) (ha:A3 X (e::es) t) (hn:x≠"__name__" := by decide) (hdb:(x==("__debug__" : Str))=false:=by decide)
  (he:starEach (e::es) X.env=(false,eval e X.env)::starEach es X.env:=by rfl) (hpl:(backTo pos (starEach es X.env)).any (·.1)=false:=by rfl):E3 X (.Call (.Name x p) (e::es) [] pos) (cb3 r3 t):=
 WU (LB hc hg hm hv ha hn hdb he hpl) λ_ _ _ h=>qmt hr h
end
def getL (G:Gp) (p:Addr):Option (List T):=match G p with|some (.lst xs)=>some xs|some (.frz xs)=>some xs|_=>none
section
variable {K:Frg} {G G':Gp} {H H':Hp}
def jA (hr:HR K G H) {p:Addr} {xs:List T} (h:getL G p=some xs):∃ vs,SqL K H p vs/\Rps K H xs vs:=by
 unfold getL at h;split at h
 ·rename_i ys e;cases h;obtain ⟨vs,h1,h2⟩:=hr p _ e;exact ⟨vs,SqL.of h1,h2⟩
 ·rename_i ys e;cases h;obtain ⟨vs,⟨o,h1⟩,h2⟩:=hr p _ e;exact ⟨vs,.inl (.inr ⟨o,h1⟩),h2⟩
 ·cases h
def HR.lst (hr:HR K G H) {p:Addr} {xs:List T} (h:G p=some (.lst xs)):∃ vs,H p=some (.lst vs)/\Rps K H xs vs:=hr p _ h
def Rps.atI {xs:List T} {vs:List V} {i:Int} {x:T} (r:Rps K H xs vs) (h:atI xs i=some x):∃ v,L2.atI vs i=some v/\Rp K H x v:=by
 unfold L2.atI at h ⊢;rw [← r.length];cases e:ixN xs.length i with
 |none=>rw [e] at h;cases h
 |some j=>
  rw [e] at h;exact r.get (by simpa using h)
end
def ix3:R3:=λx y G q=>match x,y with
 |.tup xs,.int i=>(match atI xs i with|some z=>q z G|none=>False)
 |.ref p,.int i=>(match getL G p with|some xs=>(match atI xs i with|some z=>q z G|none=>False)|none=>False)
 |_,_=>False
section
variable {X:Cx} {a b c e:Expr} {es:List Expr} {ta tb tc te:TE3} {t:TA3} {pos:Pos}
def qk3 {K:Frg}:MY K ix3 (rIx K):=λx y v u G H q Q hr rx ry h af=>by
 cases x<;>try exact h.elim
 case tup xs=>
  cases y<;>try exact h.elim
  case int i=>
   unfold ix3 at h;simp only at h;split at h
   ·rename_i z e;cases ry;cases rx with
    |tup hs rs=>
     obtain ⟨w,e2,rw'⟩:=rs.atI e;exact .inr (.inl ⟨_,_,i,w,rfl,rfl,hs,e2,af z G h w H rw' hr Kp.refl⟩)
   ·exact h.elim
 case ref p=>
  cases y<;>try exact h.elim
  case int i=>
   unfold ix3 at h;simp only at h;split at h
   ·rename_i xs e0;split at h
    ·rename_i z e;cases ry;cases rx;obtain ⟨vs,hs,rs⟩:=jA hr e0;obtain ⟨w,e2,rw'⟩:=rs.atI e;exact .inl ⟨p,vs,i,w,rfl,rfl,hs,e2,af z G h w H rw' hr Kp.refl⟩
    ·exact h.elim
   ·exact h.elim
def qrc (ha:E3 X a ta) (hb:E3 X b tb) (hs:MK b:=by intro _ _;rfl):E3 X (.Subscript a b pos) (o3 ix3 ta tb):=WU (qpr qmp ha hb hs) λ_ _ _ h=>qdU qk3 h
def YX {α:Type} (xs:List α) (lo hi:Option Int):List α:=(xs.drop (HT.sIx xs.length 0 lo)).take (HT.sIx xs.length xs.length hi-HT.sIx xs.length 0 lo)
def Rps.cut {K:Frg} {H:Hp} {xs:List T} {vs:List V} (r:Rps K H xs vs) (lo hi:Option Int):Rps K H (YX xs lo hi) (qgG vs lo hi):=by
 unfold YX qgG;rw [r.length];exact (r.drop _).take _
abbrev TO3:=St3->Gp->(Option Int->Gp->Prop)->Prop
def lO (K:Frg) (t:TO3):TO:=λσ H Q=>∃ τ G q,Rel K τ G σ H/\t τ G q/\∀ x G',q x G'->∀ H',HR K G' H'->Kp G H G' H'->Q x H'
abbrev P3 (X:Cx) (e:Option Expr) (t:TO3):Prop:=PO X e (lO X.K t)
def np3:TO3:=λ_ G q=>q none G
def sp3 (t:TE3):TO3:=λτ G q=>t τ G λx G1=>match x with|.int i=>q (some i) G1|_=>False
def qq4 {X:Cx} {e:Option Expr} {t t':TO} (h:PO X e t) (w:∀ σ H Q,t' σ H Q->t σ H Q):PO X e t':=λpins s σ H Q I q=>h pins s σ H Q I (w σ H Q q)
def qlt (h:E3 X e te):P3 X (some e) (sp3 te):=qq4 (qhs h) λ_ _ _ ⟨τ,G,q,rl,h,af⟩=>z9 rl h λx G1 h1 v H1 rx hr1 k1 rl1=>by
 cases x<;>try exact h1.elim
 cases rx;exact ⟨_,rfl,af _ G1 h1 H1 hr1 k1⟩
def sl3:T->Option Int->Option Int->Gp->Q3->Prop:=λx lo hi G q=>match x with
 |.tup xs=>¬ (HT.sIx xs.length 0 lo=0/\HT.sIx xs.length xs.length hi=xs.length)/\q (.tup (YX xs lo hi)) G
 |.ref p=>(match getL G p with|some xs=>∀ a,G a=none->q (.ref a) (gu G a (.lst (YX xs lo hi)))|none=>False)
 |_=>False
def VD (te:TE3) (tl th:TO3):TE3:=λτ G q=>te τ G λx G1=>tl τ G1 λl G2=>th τ G2 λu G3=>sl3 x l u G3 q
def qim {lo hi:Option Expr} {tl th:TO3} {p2:Pos} (he:E3 X e te) (hl:P3 X lo tl) (hu:P3 X hi th):E3 X (.Subscript e (.Slice lo hi none p2) pos) (VD te tl th):=
 WU (qdY (qkE.or qgL) he hl hu) λ_ _ _ ⟨τ,G,q,rl,h,af⟩=>z9 rl h λx G1 h1 v H1 rx hr1 k1 rl1=>
  ⟨τ,G1,_,rl1,h1,λl G2 h2 H2 hr2 k2=>⟨τ,G2,_,rl1.next hr2 k2,h2,λu G3 h3 H3 hr3 k3=>by
   have kk:=(k1.trans k2).trans k3;have rx3:=(rx.keep hr1 k2).keep hr2 k3;cases x<;>try exact h3.elim
   case tup xs=>
    cases rx3 with
    |tup hs rs=>
     refine .inl ⟨_,_,rfl,hs,by rw [← rs.length];exact h3.1,λp hp=>?_⟩;exact af _ G3 h3.2 _ _ (.tup (SqT.of ze) ((rs.cut _ _).keep hr3 (Kp.laid hp))) (hr3.laid hp) (kk.trans (Kp.laid hp))
   case ref p=>
    unfold sl3 at h3;simp only at h3;split at h3
    ·rename_i xs e0;cases rx3;obtain ⟨vs,hs,rs⟩:=jA hr3 e0;refine .inr ⟨p,vs,rfl,hs,λa ha=>?_⟩;exact af _ _ (h3 a (hr3.free ha)) _ _ (.ref a) (hr3.newL ha (rs.cut _ _)) (kk.trans (Kp.newL ha))
    ·exact h3.elim⟩⟩
def qcB {K:Frg} {H:Hp} {xs:List T} {vs:List V} (r:Rps K H xs vs):vs=[]↔xs=[]:=by
 cases r<;>simp
def zh:R3:=λx y G q=>match x,y with
 |.tup xs,.tup ys=>xs≠[]/\xs.length+ys.length<=sizeLine/\q (.tup (xs++ys)) G
 |.ref a,.ref b=>(match G a,G b with|some (.lst xs),some (.lst ys)=>xs.length+ys.length<=sizeLine/\∀ p,G p=none->q (.ref p) (gu G p (.lst (xs++ys)))|_,_=>False)
 |.int i,.int j=>q (.int (i+j)) G
 |_,_=>False
def qhM {K:Frg}:MY K zh (λx y H Q=>(rI0 (λi j=>.int (i+j)) x y H Q\/qi5 K x y H Q)\/qqz x y H Q):=λx y v u G H q Q hr rx ry h af=>by
 cases x<;>try exact h.elim
 case int i=>
  cases y<;>try exact h.elim
  cases rx;cases ry;exact .inl (.inl ⟨_,_,rfl,rfl,af _ G h _ H (.int _) hr Kp.refl⟩)
 case tup xs=>
  cases y<;>try exact h.elim
  case tup ys=>
   obtain ⟨h1,h2,h3⟩:=h;cases rx with
   |tup hs rs=>
    cases ry with
    |tup hs' rs'=>
     refine .inl (.inr ⟨_,_,_,_,rfl,rfl,hs,hs',λz=>h1 ((qcB rs).mp z),by rw [← rs.length,← rs'.length];exact h2,λz=>?_,λz p hp=>?_⟩)
     ·have e:=(qcB rs').mp z;subst e;rw [List.append_nil] at h3;exact af _ G h3 _ H (.tup hs rs) hr Kp.refl
     ·exact af _ G h3 _ _ (.tup (SqT.of ze) ((rs.append rs').keep hr (Kp.laid hp))) (hr.laid hp) (Kp.laid hp)
 case ref a=>
  cases y<;>try exact h.elim
  case ref b=>
   unfold zh at h;simp only at h;split at h
   ·rename_i xs ys e1 e2;cases rx;cases ry;obtain ⟨vs,g1,r1⟩:=hr.lst e1;obtain ⟨us,g2,r2⟩:=hr.lst e2;refine .inr ⟨a,b,vs,us,rfl,rfl,g1,g2,by rw [← r1.length,← r2.length];exact h.1,λp hp=>?_⟩;exact af _ _ (h.2 p (hr.free hp)) _ _ (.ref p) (hr.newL hp (r1.append r2)) (Kp.newL hp)
   ·exact h.elim
def qlA (ha:E3 X a ta) (hb:E3 X b tb):E3 X (.BinOp a .Add b pos) (o3 zh ta tb):=qfi ((qko.or qgQ).or qlC) qhM ha hb
def zr:T->Bool
 |.non=>true|.bl _=>true|.int _=>true|.str _=>true|_=>false
def eqF:T->T->Bool
 |.non,.non=>true
 |.bl a,.bl b=>a==b
 |.bl a,.int b=>(if a then 1 else 0)==b
 |.int a,.bl b=>a==(if b then 1 else 0)
 |.int a,.int b=>a==b
 |.str a,.str b=>a==b
 |_,_=>false
def MJ {K:Frg} {H:Hp} {x:T} {v:V} (r:Rp K H x v) (h:zr x=true):RC v=true:=by
 cases r<;>first|rfl|(cases h)
def SC {K:Frg} {H:Hp}:∀ {x:List T} {v:List V},Rps K H x v->x.all zr=true->v.all RC=true
 |_,_,.nil,_=>rfl
 |_,_,.cons a b,h=>by
  rw [List.all_cons,Bool.and_eq_true] at h ⊢;exact ⟨MJ a h.1,SC b h.2⟩
def qmC {K:Frg} {H:Hp} {x y:T} {v u:V} (r:Rp K H x v) (s:Rp K H y u) (h:zr x=true) (h':zr y=true):eqV v u=eqF x y:=by
 cases r<;>first|(cases h;done)|(cases s<;>first|rfl|(cases h';done))
def qcH {K:Frg} {H:Hp} {x:T} {v:V} (r:Rp K H x v) (h:zr x=true):∀ {ys:List T} {us:List V},Rps K H ys us->ys.all zr=true->inV v us=ys.any λy=>eqF y x
 |_,_,.nil,_=>rfl
 |_,_,.cons a b,h'=>by
  rw [List.all_cons,Bool.and_eq_true] at h';unfold inV;rw [List.any_cons,List.any_cons,qmC a r h'.1 h];congr 1;exact qcH r h b h'.2
def in3 (neg:Bool):R3:=λx y G q=>zr x=true/\match y with
 |.tup ys=>ys.all zr=true/\q (.bl (if neg then !(ys.any λy=>eqF y x) else (ys.any λy=>eqF y x))) G
 |.ref p=>(match getL G p with|some ys=>ys.all zr=true/\q (.bl (if neg then !(ys.any λy=>eqF y x) else (ys.any λy=>eqF y x))) G|none=>False)
 |_=>False
def qkK {K:Frg} {neg:Bool}:MY K (in3 neg) (rIn K neg):=λx y v u G H q Q hr rx ry h af=>by
 obtain ⟨hf,h⟩:=h;cases y<;>try exact h.elim
 case tup ys=>
  cases ry with
  |tup hs rs=>
   refine ⟨_,_,rfl,.inr hs,MJ rx hf,SC rs h.1,?_⟩;rw [qcH rx hf rs h.1];exact af _ G h.2 _ H (.bl _) hr Kp.refl
 case ref p=>
  simp only at h;split at h
  ·rename_i ys e;cases ry;obtain ⟨us,hs,rs⟩:=jA hr e;refine ⟨_,_,rfl,.inl hs,MJ rx hf,SC rs h.1,?_⟩;rw [qcH rx hf rs h.1];exact af _ G h.2 _ H (.bl _) hr Kp.refl
  ·exact h.elim
def jW:List T->Gp->Q3->Prop:=λxs G q=>match xs with
 |[.tup ys]=>q (.int ys.length) G
 |[.str y]=>y.length<=sizeLine/\q (.int y.length) G
 |[.ref p]=>(match getL G p with|some ys=>q (.int ys.length) G|none=>False)
 |_=>False
def qaD {K:Frg} {H:Hp} {x:T} {vs:List V} (r:Rps K H [x] vs):∃ v,vs=[v]/\Rp K H x v:=by
 cases r with
 |cons a b=>cases b;exact ⟨_,rfl,a⟩
def qn3 {K:Frg} {H:Hp} {x y:T} {vs:List V} (r:Rps K H [x,y] vs):∃ v u,vs=[v,u]/\Rp K H x v/\Rp K H y u:=by
 cases r with
 |cons a b=>cases b with|cons c d=>cases d;exact ⟨_,_,rfl,a,c⟩
def jo {K:Frg}:qaT K jW (λxs H Q=>∃ x n,xs=[x]/\qqG K x H n/\Q (.int n) H):=λxs vs G H q Q hr rs h af=>by
 unfold jW at h;split at h
 ·obtain ⟨v,rfl,r⟩:=qaD rs;cases r with
  |tup hs r2=>exact ⟨_,_,rfl,.inr ⟨_,hs,rfl⟩,by rw [← r2.length];exact af _ G h _ H (.int _) hr Kp.refl⟩
 ·obtain ⟨v,rfl,r⟩:=qaD rs;cases r;exact ⟨_,_,rfl,⟨h.1,rfl⟩,af _ G h.2 _ H (.int _) hr Kp.refl⟩
 ·obtain ⟨v,rfl,r⟩:=qaD rs;split at h
  ·rename_i ys e;cases r;obtain ⟨us,hs,r2⟩:=jA hr e;exact ⟨_,_,rfl,.inl ⟨_,hs,rfl⟩,by rw [← r2.length];exact af _ G h _ H (.int _) hr Kp.refl⟩
  ·exact h.elim
 ·exact h.elim
def YZ:List T->Gp->Q3->Prop:=λxs G q=>match xs with|[.int i]=>q (.int (if i<0 then -i else i)) G|_=>False
def qcp {K:Frg}:qaT K YZ (λxs H Q=>∃ i,xs=[.int i]/\Q (.int (if i<0 then -i else i)) H):=λxs vs G H q Q hr rs h af=>by
 unfold YZ at h;split at h
 ·obtain ⟨v,rfl,r⟩:=qaD rs;cases r;exact ⟨_,rfl,af _ G h _ H (.int _) hr Kp.refl⟩
 ·exact h.elim
def VG:List T->Gp->Q3->Prop:=λxs G q=>match xs with|[.int i,.int j]=>q (.int (if j<i then j else i)) G|_=>False
def qhK {K:Frg}:qaT K VG (λxs H Q=>∃ i j,xs=[.int i,.int j]/\Q (.int (if j<i then j else i)) H):=λxs vs G H q Q hr rs h af=>by
 unfold VG at h;split at h
 ·obtain ⟨v,u,rfl,r,r'⟩:=qn3 rs;cases r;cases r';exact ⟨_,_,rfl,af _ G h _ H (.int _) hr Kp.refl⟩
 ·exact h.elim
def UR:List T->Gp->Q3->Prop:=λxs G q=>match xs with|[.int i,.int j]=>q (.int (if j > i then j else i)) G|_=>False
def UO:List T->Gp->Q3->Prop:=λxs G q=>match xs with|[.int i]=>q (.int i) G|[.bl k]=>q (.int (if k then 1 else 0)) G|_=>False
def qF:List T->Gp->Q3->Prop:=λxs G q=>match xs with
 |[.tup ys]=>q (.tup ys) G
 |[.ref p]=>(match getL G p with|some ys=>q (.tup ys) G|none=>False)
 |_=>False
def jq {K:Frg}:qaT K qF (λxs H Q=>∃ p ys,xs=[.ref p]/\((SqL K H p ys/\∀ l,H l=none->Q (.ref l) (upd H l (.tup ys)))\/(SqT K H p ys/\Q (.ref p) H))):=λxs vs G H q Q hr rs h af=>by
 unfold qF at h;split at h
 ·obtain ⟨v,rfl,r⟩:=qaD rs;cases r with
  |tup hs r2=>exact ⟨_,_,rfl,.inr ⟨hs,af _ G h _ H (.tup hs r2) hr Kp.refl⟩⟩
 ·obtain ⟨v,rfl,r⟩:=qaD rs;split at h
  ·rename_i ys e;cases r;obtain ⟨us,hs,r2⟩:=jA hr e;exact ⟨_,_,rfl,.inl ⟨hs,λl hl=>af _ G h _ _ (.tup (SqT.of ze) (r2.keep hr (Kp.laid hl))) (hr.laid hl) (Kp.laid hl)⟩⟩
  ·exact h.elim
 ·exact h.elim
def jm:List T->Gp->Q3->Prop:=λxs G q=>match xs with
 |[.tup ys]=>∀ p,G p=none->q (.ref p) (gu G p (.lst ys))
 |[.ref p]=>(match getL G p with|some ys=>∀ p,G p=none->q (.ref p) (gu G p (.lst ys))|none=>False)
 |_=>False
def J6:T->List T->Gp->Q3->Prop:=λx xs G q=>match x,xs with
 |.ref l,[.ref b]=>(match G l,G b with|some (.lst ys),some (.lst zs)=>ys.length+zs.length<=sizeLine/\q .non (gu G l (.lst (ys++zs)))|_,_=>False)
 |_,_=>False
def QC:T->List T->Gp->Q3->Prop:=λx xs G q=>match x,xs with
 |.ref l,[y]=>(match G l with|some (.lst ys)=>ys.length<sizeLine/\q .non (gu G l (.lst (ys++[y])))|_=>False)
 |_,_=>False
def qmz (K:Frg) (r3:T->List T->Gp->Q3->Prop) (r:V->List V->Hp->VK->Prop):Prop:=∀ x xs v vs G H q Q,HR K G H->Rp K H x v->Rps K H xs vs->r3 x xs G q->Aft K G H q Q->r v vs H Q
def qhb {K:Frg}:qmz K J6 qcK:=λx xs v vs G H q Q hr rx rs h af=>by
 unfold J6 at h;split at h
 ·rename_i l b;split at h
  ·rename_i ys zs e1 e2;cases rx;obtain ⟨u,rfl,r⟩:=qaD rs;cases r;obtain ⟨vs,g1,r1⟩:=hr.lst e1;obtain ⟨us,g2,r2⟩:=hr.lst e2;exact ⟨l,b,vs,us,rfl,rfl,g1,g2,by rw [← r1.length,← r2.length];exact h.1,af _ _ h.2 _ _ .non (hr.wr e1 (r1.append r2)) (Kp.wr e1)⟩
  ·exact h.elim
 ·exact h.elim
def qhg {K:Frg}:qmz K QC qcD:=λx xs v vs G H q Q hr rx rs h af=>by
 unfold QC at h;split at h
 ·rename_i l y;split at h
  ·rename_i ys e1;cases rx;obtain ⟨u,rfl,r⟩:=qaD rs;obtain ⟨vs,g1,r1⟩:=hr.lst e1;exact ⟨l,vs,u,rfl,rfl,g1,by rw [← r1.length];exact h.1,af _ _ h.2 _ _ .non (hr.wr e1 (r1.append (.cons r .nil))) (Kp.wr e1)⟩
  ·exact h.elim
 ·exact h.elim
def bm3 (r:T->List T->Gp->Q3->Prop) (to:TE3) (t:TA3):TE3:=λτ G q=>to τ G λx G1=>(match x with|.ref p=>(getL G1 p).isSome=true|_=>False)/\t τ G1 λxs G2=>r x xs G2 q
def qqs {o:Expr} {to:TE3} {name:Str} {apos cpos:Pos} {id:String} {r3:T->List T->Gp->Q3->Prop} {r:V->List V->Hp->VK->Prop} (slot:Slot "list" name id) (hty:typeOf (.builtin id)=pure (.type "method_descriptor")) (hm:MtR X id r) (hr:qmz X.K r3 r) (ho:E3 X o to) (ha:A3 X (e::es) t)
  (hbase:attributeBase o name X.env (eval o X.env)=eval o X.env:=by rfl)
  (hfew:((backTo cpos (starEach (e::es) X.env)).all (λx=>!x.1)&&(backToKw cpos (keywordEach [] X.env)).all (λx=>x.1.isSome)
   && decide ((e::es).length+([]:List Keyword).length+(if ([]:List Keyword).isEmpty then 0 else 1)<30))=true:=by rfl)
  (hline:(apos.endLine==cpos.line)=true:=by rfl) (hs:starEach (e::es) X.env=(false,eval e X.env)::starEach es X.env:=by rfl) (hplain:(backTo cpos (starEach es X.env)).any (·.1)=false:=by rfl) :
  E3 X (.Call (.Attribute o name apos) (e::es) [] cpos) (bm3 r3 to t):=
 WU (qoc PySem.F.plainAttrs_list slot hty hm ho ha hbase hfew hline hs hplain) λ_ _ _ ⟨τ,G,q,rl,h,af⟩=>z9 rl h λx G1 h1 v H1 rx hr1 k1 rl1=>by
  obtain ⟨hp,h1⟩:=h1;cases x<;>try exact hp.elim
  case ref p=>
   cases rx;have hp':(getL G1 p).isSome=true:=hp;obtain ⟨ys,e⟩:=Option.isSome_iff_exists.mp hp';obtain ⟨us,hs,r2⟩:=jA hr1 e;exact ⟨.inl ⟨rfl,us,hs⟩,JK rl1 h1 λxs G2 h2 vs H2 rs hr2 k2 rl2=>hr _ xs _ vs G2 H2 q _ hr2 (.ref p) rs h2 (af.back (k1.trans k2))⟩
def qdv {o:Expr} {to:TE3} {apos cpos:Pos} (ho:E3 X o to) (ha:A3 X [e] t)
  (hbase:attributeBase o "append" X.env (eval o X.env)=eval o X.env:=by rfl)
  (hfew:((backTo cpos (starEach [e] X.env)).all (λx=>!x.1)&&(backToKw cpos (keywordEach [] X.env)).all (λx=>x.1.isSome)
   && decide (([e]:List Expr).length+([]:List Keyword).length+(if ([]:List Keyword).isEmpty then 0 else 1)<30))=true:=by rfl)
  (hline:(apos.endLine==cpos.line)=true:=by rfl) (hs:starEach [e] X.env=(false,eval e X.env)::starEach [] X.env:=by rfl) (hplain:(backTo cpos (starEach [] X.env)).any (·.1)=false:=by rfl) :
  E3 X (.Call (.Attribute o "append" apos) [e] [] cpos) (bm3 QC to t):=qqs PySem.F.slot_list_append PySem.F.type_list_append DG qhg ho ha hbase hfew hline hs hplain
def qd2 {o:Expr} {to:TE3} {apos cpos:Pos} (ho:E3 X o to) (ha:A3 X [e] t)
  (hbase:attributeBase o "extend" X.env (eval o X.env)=eval o X.env:=by rfl)
  (hfew:((backTo cpos (starEach [e] X.env)).all (λx=>!x.1)&&(backToKw cpos (keywordEach [] X.env)).all (λx=>x.1.isSome)
   && decide (([e]:List Expr).length+([]:List Keyword).length+(if ([]:List Keyword).isEmpty then 0 else 1)<30))=true:=by rfl)
  (hline:(apos.endLine==cpos.line)=true:=by rfl) (hs:starEach [e] X.env=(false,eval e X.env)::starEach [] X.env:=by rfl) (hplain:(backTo cpos (starEach [] X.env)).any (·.1)=false:=by rfl) :
  E3 X (.Call (.Attribute o "extend" apos) [e] [] cpos) (bm3 J6 to t):=qqs PySem.F.slot_list_extend PySem.F.type_list_extend qbQ qhb ho ha hbase hfew hline hs hplain
end
def tyT (G:Gp):T->Option String
 |.non=>some "NoneType" |.bl _=>some "bool" |.int _=>some "int" |.str _=>some "str" |.tup _=>some "tuple"
 |.ref p=>if (getL G p).isSome then some "list" else none
def jp (t c:String):Bool:=t==c||(t == "bool" && c == "int")
def SA (K:Frg):∀ t∈["NoneType","bool","int","str","tuple","list"],∀ c∈["bool","int","str","tuple","list"],PySem.W.kitOne K (.type t) (.type c)=some (jp t c):=by
 intro t ht c hc;simp only [mem_cons,not_mem_nil,or_false] at ht hc;rcases ht with rfl|rfl|rfl|rfl|rfl|rfl<;>rcases hc with rfl|rfl|rfl|rfl|rfl<;>kernel_rfl
section
variable {X:Cx} {a b c e:Expr} {es:List Expr} {ta tb tc te:TE3} {t:TA3} {pos:Pos}
def TyS (K:Frg) (H:Hp) (x:V) (t:String):Prop:=match x with
 |.non=>t="NoneType" |.bl _=>t="bool" |.int _=>t="int" |.str _=>t="str"
 |.ref a=>(t="tuple"/\∃ vs,SqT K H a vs)\/(t="list"/\∃ vs,SqL K H a vs)
 |_=>False
def TyS.mem {K:Frg} {H:Hp} {x:V} {t:String} (h:TyS K H x t):t∈["NoneType","bool","int","str","tuple","list"]:=by
 cases x<;>simp [TyS] at h<;>first|(subst h;decide)|(rcases h with ⟨rfl,_⟩|⟨rfl,_⟩<;>decide)
def TyS.kitx {pins:List (Addr×Obj)} {σ:L2.St} {H:Hp} {s:Shared} {x:V} {u:Value} {t:String} (I:Inv X pins σ H s) (rx:jZ x u) (h:TyS X.K H x t) :
  ∃ HH:Heap->Prop,PySem.W.KitX X.K u (.type t) HH/\HH s.heap/\u≠.builtin "__main__.__loader__#opaque" := by
 cases x with
 |non=>cases (show u=Value.none from rx);cases (show t=_ from h);exact ⟨_,PySem.W.kitx_none,True.intro,λz=>nomatch z⟩
 |bl y=>cases (show u=Value.bool y from rx);cases (show t=_ from h);exact ⟨_,PySem.W.kitx_bool,True.intro,λz=>nomatch z⟩
 |int i=>obtain ⟨tk,q⟩:=(show ∃ t,u=Value.int i t from rx);cases q;cases (show t=_ from h);exact ⟨_,PySem.W.kitx_int,True.intro,λz=>nomatch z⟩
 |str y=>obtain ⟨tk,q⟩:=(show ∃ t,u=Value.str y t from rx);cases q;cases (show t=_ from h);exact ⟨_,PySem.W.kitx_str,True.intro,λz=>nomatch z⟩
 |ref a=>
  cases (show u=Value.ref a from rx);rcases (show (t="tuple"/\∃ vs,SqT X.K H a vs)\/(t="list"/\∃ vs,SqL X.K H a vs) from h) with ⟨rfl,vs,hs⟩|⟨rfl,vs,hs⟩
  ·obtain ⟨its,_,p,_⟩:=I.tuple hs;obtain ⟨o,h1,h2,_⟩:=p;exact ⟨_,PySem.W.kitx_tuple,⟨o,h1,h2⟩,λz=>nomatch z⟩
  ·obtain ⟨its,_,p,_⟩:=I.list hs;obtain ⟨o,n,h1,h2,_⟩:=p;exact ⟨_,PySem.W.kitx_list,⟨o,h1,h2⟩,λz=>nomatch z⟩
 |_=>exact False.elim h
abbrev ZH:List String:=["bool","int","str","tuple","list"]
def qdR:VH X (.builtin "isinstance") (λxs H Q=>∃ x t c,xs=[x,.ty c]/\TyS X.K H x t/\c∈ZH/\Q (.bl (jp t c)) H):=by
 intro pins s σ H xs us Q I r h;obtain ⟨x,t,c,rfl,ht,hc,q⟩:=h;obtain ⟨u,w,rfl,rx,rc⟩:=LY r;cases (show w=Value.type c from rc);obtain ⟨HH,kx,hh,ne⟩:=ht.kitx I rx;exact PySem.W.kia_one kx I.kIn hh (SA X.K t ht.mem c hc) ne λtk=>⟨.bl _,H,I.tok tk,rfl,q⟩
def qdO (K:Frg) {t c d:String} (ht:t∈["NoneType","bool","int","str","tuple","list"]) (hc:c∈ZH) (hd:d∈ZH):PySem.W.kitAny K (.type t) [.type c,.type d]=some (jp t c||jp t d):=by
 unfold PySem.W.kitAny;rw [SA K t ht c hc];cases jp t c with
 |true=>rfl
 |false=>
  show PySem.W.kitAny K (.type t) [.type d]=_;unfold PySem.W.kitAny;rw [SA K t ht d hd];cases jp t d<;>rfl
def qbU:VH X (.builtin "isinstance") (λxs H Q=>∃ x t c d p,xs=[x,.ref p]/\H p=some (.tup [.ty c,.ty d])/\TyS X.K H x t/\c∈ZH/\d∈ZH/\Q (.bl (jp t c||jp t d)) H):=by
 intro pins s σ H xs us Q I r h;obtain ⟨x,t,c,d,p,rfl,hp,ht,hc,hd,q⟩:=h;obtain ⟨u,w,rfl,rx,rc⟩:=LY r;cases (show w=Value.ref p from rc);obtain ⟨HH,kx,hh,ne⟩:=ht.kitx I rx;obtain ⟨_,its,rv,⟨o,ho,hcl,n,hda,_⟩⟩:=(show JW X.prog X.w H s.heap p (.tup [.ty c,.ty d]) from I.hok p _ hp)
 obtain ⟨u1,u2,rfl,r1,r2⟩:=LY rv;cases (show u1=Value.type c from r1);cases (show u2=Value.type d from r2);obtain ⟨cl,dd,da,sl⟩:=o;cases (show cl=_ from hcl);cases (show da=_ from hda);exact PySem.W.kia_tup kx I.kIn hh ho (qdO X.K ht.mem hc hd) ne λtk=>⟨.bl _,H,I.tok tk,rfl,q⟩
def qeY {K:Frg} {G:Gp} {H:Hp} (hr:HR K G H) {x:T} {v:V} {t:String} (r:Rp K H x v) (h:tyT G x=some t):TyS K H v t:=by
 cases r with
 |non=>cases h;rfl
 |bl _=>cases h;rfl
 |int _=>cases h;rfl
 |str _=>cases h;rfl
 |tup hs rs=>cases h;exact .inl ⟨rfl,_,hs⟩
 |ref a=>
  have h:(if (getL G a).isSome then some "list" else none)=some t:=h;split at h
  ·rename_i e;cases h;obtain ⟨ys,e⟩:=Option.isSome_iff_exists.mp e;obtain ⟨us,hs,_⟩:=jA hr e;exact .inr ⟨rfl,us,hs⟩
  ·cases h
def QT (f:String->Bool) (te:TE3):TE3:=λτ G q=>te τ G λx G1=>match tyT G1 x with|some t=>q (.bl (f t)) G1|none=>False
def qon {tn:Str} {ty:String} {p p2:Pos} (he:E3 X e te) (hg:Gl X "isinstance") (hm:X.mg "isinstance" = none) (hg2:Gl X tn) (hm2:X.mg tn=none) (hv:bootBuiltins tn=some (.type ty)) (hmem:ty∈ZH:=by decide) (hn:tn≠"__name__" := by decide) (hdb:(tn==("__debug__" : Str))=false:=by decide)
  (hs:starEach [e,.Name tn p2] X.env=(false,eval e X.env)::starEach [.Name tn p2] X.env:=by rfl) (hs2:starEach [.Name tn p2] X.env=(false,eval (.Name tn p2) X.env)::starEach [] X.env:=by rfl) (hpl:(backTo pos (starEach [.Name tn p2] X.env)).any (·.1)=false:=by rfl) :
  E3 X (.Call (.Name "isinstance" p) [e,.Name tn p2] [] pos) (QT (λt=>jp t ty) te):=
 WU (UH qdR hg hm PyProof.Rows.boot_isinstance (jV he (jV (T1 (v:=.ty ty) hg2 hm2 hv rfl hn hdb) DI hs2) hs) (by decide) (by decide) hs hpl)
  λ_ _ _ ⟨τ,G,q,rl,h,af⟩=>z9 rl h λx G1 h1 v H1 rx hr1 k1 rl1=>by
   split at h1
   ·rename_i t e1;exact ⟨_,t,ty,rfl,qeY hr1 rx e1,hmem,af _ G1 h1 _ H1 (.bl _) hr1 k1⟩
   ·exact h1.elim
def qmw {tn tn':Str} {ty ty':String} {p p2 p3 p4:Pos} {x1} (he:E3 X e te) (hg:Gl X "isinstance") (hm:X.mg "isinstance" = none) (hg2:Gl X tn) (hm2:X.mg tn=none) (hv:bootBuiltins tn=some (.type ty)) (hg3:Gl X tn') (hm3:X.mg tn'=none) (hv3:bootBuiltins tn'=some (.type ty'))
  (hmem:ty∈ZH:=by decide) (hn:tn≠"__name__" := by decide) (hdb:(tn==("__debug__" : Str))=false:=by decide) (hmem3:ty'∈ZH:=by decide) (hn3:tn'≠"__name__" := by decide) (hdb3:(tn'==("__debug__" : Str))=false:=by decide)
  (hs:starEach [e,.Tuple [.Name tn p2,.Name tn' p3] x1 p4] X.env=(false,eval e X.env)::starEach [.Tuple [.Name tn p2,.Name tn' p3] x1 p4] X.env:=by rfl) (hs2:starEach [.Tuple [.Name tn p2,.Name tn' p3] x1 p4] X.env=(false,eval (.Tuple [.Name tn p2,.Name tn' p3] x1 p4) X.env)::starEach [] X.env:=by rfl)
  (hs3:starEach [.Name tn p2,.Name tn' p3] X.env=(false,eval (.Name tn p2) X.env)::starEach [.Name tn' p3] X.env:=by rfl) (hs4:starEach [.Name tn' p3] X.env=(false,eval (.Name tn' p3) X.env)::starEach [] X.env:=by rfl)
  (hpl:(backTo pos (starEach [.Tuple [.Name tn p2,.Name tn' p3] x1 p4] X.env)).any (·.1)=false:=by rfl) :
  E3 X (.Call (.Name "isinstance" p) [e,.Tuple [.Name tn p2,.Name tn' p3] x1 p4] [] pos) (QT (λt=>jp t ty||jp t ty') te):=
 WU (UH qbU hg hm PyProof.Rows.boot_isinstance (jV he (jV (qcR (jV (T1 (v:=.ty ty) hg2 hm2 hv rfl hn hdb) (jV (T1 (v:=.ty ty') hg3 hm3 hv3 rfl hn3 hdb3) DI hs4) hs3)) DI hs2) hs) (by decide) (by decide) hs hpl)
  λ_ _ _ ⟨τ,G,q,rl,h,af⟩=>z9 rl h λx G1 h1 v H1 rx hr1 k1 rl1=>by
   refine ⟨by show 2<=sizeLine;decide,λpp hp=>?_⟩;split at h1
   ·rename_i t e1;have hr2:=hr1.laid (ho:=.tup [.ty ty,.ty ty']) hp;have kk:Kp G1 H1 G1 (upd H1 pp (.tup [.ty ty,.ty ty'])):=Kp.laid hp;exact ⟨_,t,ty,ty',pp,rfl,ze,qeY hr2 (rx.keep hr1 kk) e1,hmem,hmem3,af _ G1 h1 _ _ (.bl _) hr2 (k1.trans kk)⟩
   ·exact h1.elim
structure Ends3 where
 nx:St3->Gp->Prop
 rt:Q3
 bk:St3->Gp->Prop:=λ_ _=>False
 ct:St3->Gp->Prop:=λ_ _=>False
abbrev TS3:=Ends3->St3->Gp->Prop
def qeg (K:Frg) (G:Gp) (H:Hp) (q:St3->Gp->Prop) (Q:L2.St->Hp->Prop):Prop:=∀ τ G',q τ G'->∀ σ H',Rel K τ G' σ H'->Kp G H G' H'->Q σ H'
structure AftD (K:Frg) (G:Gp) (H:Hp) (d:Ends3) (D:Ends):Prop where
 nx:qeg K G H d.nx D.nx
 rt:Aft K G H d.rt D.rt
 bk:qeg K G H d.bk D.bk
 ct:qeg K G H d.ct D.ct
def qeg.back {K:Frg} {G G1:Gp} {H H1:Hp} {q:St3->Gp->Prop} {Q:L2.St->Hp->Prop} (a:qeg K G H q Q) (k:Kp G H G1 H1):qeg K G1 H1 q Q:=λx G' h v H' r k'=>a x G' h v H' r (k.trans k')
def AftD.back {K:Frg} {G G1:Gp} {H H1:Hp} {d:Ends3} {D:Ends} (a:AftD K G H d D) (k:Kp G H G1 H1):AftD K G1 H1 d D:=⟨a.nx.back k,a.rt.back k,a.bk.back k,a.ct.back k⟩
def lS (K:Frg) (t:TS3):TS:=λD σ H=>∃ τ G d,Rel K τ G σ H/\t d τ G/\AftD K G H d D
abbrev S3 (X:Cx) (st:Stmt) (t:TS3):Prop:=PS X st (lS X.K t)
abbrev B3 (X:Cx) (st:List Stmt) (t:TS3):Prop:=PSs X st (lS X.K t)
def qaL {X:Cx} {st:Stmt} {t t':TS} (h:PS X st t) (w:∀ D σ H,t' D σ H->t D σ H):PS X st t':=λpins s σ H D I q=>h pins s σ H D I (w D σ H q)
def qjy {X:Cx} {st:List Stmt} {t t':TS} (h:PSs X st t) (w:∀ D σ H,t' D σ H->t D σ H):PSs X st t':=λpins s σ H D I q=>h pins s σ H D I (w D σ H q)
variable {st:Stmt} {QS:List Stmt} {t1 t2:TS3} {tA:TT3}
def qw:TS3:=λd τ G=>d.nx τ G
def qy (t u:TS3):TS3:=λd τ G=>t { d with nx:=u d } τ G
def qp3:B3 X [] qw:=qjy qgN λ_ σ H ⟨τ,G,d,rl,h,af⟩=>af.nx τ G h σ H rl Kp.refl
def qme (h1:S3 X st t1) (h2:B3 X QS t2):B3 X (st::QS) (qy t1 t2):=qjy (qea h1 h2) λD σ H ⟨τ,G,d,rl,h,af⟩=>
 ⟨τ,G,{ d with nx:=t2 d },rl,h,⟨λτ' G' h' σ' H' rl' k'=>⟨τ',G',d,rl',h',af.back k'⟩,af.rt,af.bk,af.ct⟩⟩
def qpm (h1:S3 X st t1):B3 X [st] t1:=qb0 h1
def qR (te:TE3):TS3:=λd τ G=>te τ G λ_ G1=>d.nx τ G1
def qkg (he:E3 X e te) (hs:swapsWith e none pos.line X.env=pure false:=by rfl):S3 X (.Expr e pos) (qR te):=qaL (qib he hs) λ_ σ H ⟨τ,G,d,rl,h,af⟩=>
 z9 rl h λx G1 h1 v H1 rx hr1 k1 rl1=>af.nx τ G1 h1 σ H1 rl1 k1
def qL (te:TE3):TS3:=λd τ G=>te τ G d.rt
def qpl (he:E3 X e te):S3 X (.Return (some e) pos) (qL te):=qaL (qna he) λ_ σ H ⟨τ,G,d,rl,h,af⟩=>⟨τ,G,d.rt,rl,h,af.rt⟩
def jn:TS3:=λd _ G=>d.rt .non G
def zb (c:TT3) (t u:TS3):TS3:=λd τ G=>c τ G λk G1=>if k=true then t d τ G1 else u d τ G1
def qq0 {c:Expr} {ba bb:List Stmt} (hc:C3 X c tA) (ha:B3 X ba t1) (hb:B3 X bb t2):S3 X (.If c ba bb pos) (zb tA t1 t2):=qaL (qos hc ha hb) λ_ σ H ⟨τ,G,d,rl,h,af⟩=>
 KB rl h λk G1 h1 H1 hr1 k1 rl1=>by
  cases k with
  |true=>rw [if_pos rfl] at h1 ⊢;exact ⟨τ,G1,d,rl1,h1,af.back k1⟩
  |false=>rw [if_neg y6] at h1 ⊢;exact ⟨τ,G1,d,rl1,h1,af.back k1⟩
def YS:TS3:=λ_ _ _=>False
def qij {sts:List Stmt}:B3 X sts YS:=λ_ _ _ _ _ _ ⟨_,_,_,_,h,_⟩=>h.elim
abbrev TG3:=T->St3->Gp->(St3->Gp->Prop)->Prop
abbrev LV:=List T->St3->Gp->(St3->Gp->Prop)->Prop
def lG (K:Frg) (t:TG3):TG:=λv σ H Q=>∃ x τ G q,Rp K H x v/\Rel K τ G σ H/\t x τ G q/\qeg K G H q Q
def lGs (K:Frg) (t:LV):TGs:=λv σ H Q=>∃ x τ G q,Rps K H x v/\Rel K τ G σ H/\t x τ G q/\qeg K G H q Q
abbrev G3 (X:Cx) (e:Expr) (t:TG3):Prop:=PG X e (lG X.K t)
abbrev Gs3 (X:Cx) (es:List Expr) (t:LV):Prop:=PGs X es (lGs X.K t)
def qpO {X:Cx} {e:Expr} {t t':TG} (h:PG X e t) (w:∀ v σ H Q,t' v σ H Q->t v σ H Q):PG X e t':=λpins s σ H v u Q I r q=>h pins s σ H v u Q I r (w v σ H Q q)
def qle {X:Cx} {e:List Expr} {t t':TGs} (h:PGs X e t) (w:∀ v σ H Q,t' v σ H Q->t v σ H Q):PGs X e t':=λpins s σ H v u Q I r q=>h pins s σ H v u Q I r (w v σ H Q q)
def gn3 (i:Nat):TG3:=λx τ G q=>q (τ.set i (some x)) G
def qkm {i:Nat} {x:Str} (hN:X.N.Nodup) (hi:X.N[i]?=some x:=by rfl) (hx:Loc X.env.scope x:=by first|exact Or.inl rfl|exact Or.inr rfl) (hf:X.fn x=true\/X.env.scope.names.lookup x=some .local:=by first|exact .inl rfl|exact .inr rfl):G3 X (.Name x pos) (gn3 i):=
 qpO (qhA hN hi hx hf) λv σ H Q ⟨x,τ,G,q,rx,rl,h,af⟩=>af _ G h _ H (rl.set i rx) Kp.refl
def qJ:LV:=λxs τ G q=>match xs with|[]=>q τ G|_=>False
def ql (t:TG3) (u:LV):LV:=λxs τ G q=>match xs with|x::r=>t x τ G λτ' G'=>u r τ' G' q|[]=>False
def qoE:Gs3 X [] qJ:=qle qgM λv σ H Q ⟨x,τ,G,q,rx,rl,h,af⟩=>by
 cases rx with
 |nil=>exact ⟨rfl,af _ G h _ H rl Kp.refl⟩
 |cons _ _=>exact h.elim
def qlg {tg:TG3} {tgs:LV} (h1:G3 X e tg) (h2:Gs3 X es tgs) (hs:(assignEach (e::es) X.env).map (·.2)=assign e X.env::(assignEach es X.env).map (·.2):=by rfl):Gs3 X (e::es) (ql tg tgs):=qle (qd1 h1 h2 hs) λv σ H Q ⟨x,τ,G,q,rx,rl,h,af⟩=>by
 cases rx with
 |nil=>exact h.elim
 |cons r rs=>exact ⟨_,_,rfl,_,τ,G,_,r,rl,h,λτ' G' h' σ' H' rl' k'=>⟨_,τ',G',q,rs.keep rl.hp k',rl',h',af.back k'⟩⟩
def qI (n:Nat) (t:LV):TG3:=λx τ G q=>match x with|.tup xs=>xs.length=n/\t xs τ G q|_=>False
def qpQ {k:Nat} {tgs:LV} {n:Nat} (hc:X.calm=true) (h:Gs3 X es tgs) (hn:(assignEach es X.env).length=n:=by rfl) (hst:(assignEach es X.env).findIdx? (·.1)=none:=by rfl):G3 X (.Tuple es k pos) (qI n tgs):=
 qpO (qlv hc h hn hst) λv σ H Q ⟨x,τ,G,q,rx,rl,h,af⟩=>by
  cases x<;>try exact h.elim
  case tup xs=>
   cases rx with
   |tup hs rs=>exact ⟨_,_,rfl,hs,by rw [← rs.length];exact h.1,_,τ,G,q,rs,rl,h.2,af⟩
def J4:T->T->T->Gp->(Gp->Prop)->Prop:=λo i v G q=>match o,i with
 |.ref p,.int k=>(match G p with|some (.lst xs)=>(match ixN xs.length k with|some j=>q (gu G p (.lst (xs.set j v)))|none=>False)|_=>False)
 |_,_=>False
def zz (to ti:TE3):TG3:=λx τ G q=>to τ G λo G1=>ti τ G1 λi G2=>J4 o i x G2 λG3=>q τ G3
def qoM {o i : Expr} {to ti : TE3} (ho : E3 X o to) (hi : E3 X i ti) (ha : ∀ v,assign (.Subscript o i pos) X.env v = (do
      let ov←holding [v] (eval o X.env)
      let iv←holding [v,ov] (eval i X.env)
      standAt pos
      holding [v,ov,iv] (setItem ov iv v)
      release [v,ov,iv] []):=by intro _;rfl):G3 X (.Subscript o i pos) (zz to ti):=
  qpO (qmb ho hi qdJ ha) λv σ H Q ⟨x,τ,G,q,rx,rl,h,af⟩=>z9 rl h λy G1 h1 u H1 ry hr1 k1 rl1=>z9 rl1 h1 λz G2 h2 w H2 rz hr2 k2 rl2=>by
    have rx2:=(rx.keep rl.hp k1).keep hr1 k2;have ry2:=ry.keep hr1 k2;unfold J4 at h2;split at h2
    · rename_i p k;split at h2
      · rename_i xs e;split at h2
        · rename_i j ej;cases ry2;cases rz;obtain ⟨vs,g1,r1⟩:=hr2.lst e;have kk:Kp G2 H2 (gu G2 p (.lst (xs.set j x))) (upd H2 p (.lst (vs.set j v))):=Kp.wr e;exact ⟨p,vs,k,j,rfl,rfl,g1,by rw [← r1.length];exact ej,af τ _ h2 σ _ (rl2.next (hr2.wr e (r1.set rx2 j)) kk) ((k1.trans k2).trans kk)⟩
        · exact h2.elim
      · exact h2.elim
    · exact h2.elim
def qH (te:TE3) (g:TG3):TS3:=λd τ G=>te τ G λx G1=>g x τ G1 d.nx
def qol {tg e:Expr} {g:TG3} (he:E3 X e te) (hg:G3 X tg g) (hs:swapsWithSole [tg] e pos.line X.env=pure false:=by rfl) (hw:swappedStores [tg] e X.env=pure none:=by rfl)
  (h1:(assignEach [tg] X.env).map (·.2)=[assign tg X.env]:=by rfl):S3 X (.Assign [tg] e pos) (qH te g):=qaL (qjd he hg hs hw h1) λ_ σ H ⟨τ,G,d,rl,h,af⟩=>
 z9 rl h λx G1 h1 v H1 rx hr1 k1 rl1=>⟨x,τ,G1,d.nx,rx,rl1,h1,af.nx.back k1⟩
def qpG (i:Nat) {x:Str} {e:Expr} {pos':Pos} (hN:X.N.Nodup) (he:E3 X e te) (hi:X.N[i]?=some x:=by rfl) (hx:Loc X.env.scope x:=by first|exact Or.inl rfl|exact Or.inr rfl) (hs:swapsWith e (some (.Name x pos')) pos.line X.env=pure false:=by rfl) (hf:X.fn x=true\/X.env.scope.names.lookup x=some .local:=by first|exact .inl rfl|exact .inr rfl) :
  S3 X (.Assign [.Name x pos'] e pos) (qH te (gn3 i)):=qaL (qgr hN hi hx he hs hf) λ_ σ H ⟨τ,G,d,rl,h,af⟩=>
 z9 rl h λx G1 h1 v H1 rx hr1 k1 rl1=>af.nx _ G1 h1 _ H1 (rl1.set i rx) k1
def Z1 (i j:Nat) (ta:TA3):TS3:=λd τ G=>ta τ G λxs G1=>match xs with|[x,y]=>d.nx ((τ.set i (some x)).set j (some y)) G1|_=>False
def qoq {i j:Nat} {x y:Str} {a b:Expr} {tt:TA3} {px py pt:Pos} {kt k2 pt2} (hc:X.calm=true) (hN:X.N.Nodup) (hi:X.N[i]?=some x) (hj:X.N[j]?=some y) (hij:i≠j)
  (hx:X.env.scope.names.lookup x=some .local) (hy:X.env.scope.names.lookup y=some .local) (ha:A3 X [a,b] tt)
  (hw:swappedStores [.Tuple [.Name x px,.Name y py] kt pt] (.Tuple [a,b] k2 pt2) X.env=pure (some [x,y]):=by rfl)
  (hs:swapsWithSole [.Tuple [.Name x px,.Name y py] kt pt] (.Tuple [a,b] k2 pt2) pos.line X.env=pure false:=by rfl) :
  S3 X (.Assign [.Tuple [.Name x px,.Name y py] kt pt] (.Tuple [a,b] k2 pt2) pos) (Z1 i j tt):=qaL (qmv hc hN hi hj hij hx hy ha hw hs) λ_ σ H ⟨τ,G,d,rl,h,af⟩=>
 JK rl h λxs G1 h1 vs H1 rs hr1 k1 rl1=>by
  split at h1
  ·obtain ⟨v,u,rfl,r,r'⟩:=qn3 rs;exact ⟨v,u,rfl,af.nx _ G1 h1 _ H1 ((rl1.set i r).set j r') k1⟩
  ·exact h1.elim
end
abbrev TI3:=St3->Gp->(List T->(Gp->Prop)->Gp->Prop)->Prop
def qix (K:Frg) (J:It) (items:List T) (stay:Gp->Prop) (G0:Gp) (H0:Hp):Prop:=∀ G H,HR K G H->Kp G0 H0 G H->stay G ->
 (∀ i x,items[i]?=some x->J.go i H)/\(∀ i x v H',items[i]?=some x->J.yld i H v H'->Rp K H' x v/\HR K G H'/\Kp G H G H')/\J.stop items.length H
def lI (K:Frg) (wi:TI3):TI:=λσ H R=>∃ τ G r,Rel K τ G σ H/\wi τ G r/\∀ items stay G',r items stay G'->∀ J H',HR K G' H'->Kp G H G' H'->qix K J items stay G' H'->R J H'
abbrev I3 (X:Cx) (tg iter:Expr) (wi:TI3):Prop:=PI X tg iter (lI X.K wi)
def ql0 {X:Cx} {tg e:Expr} {t t':TI} (h:PI X tg e t) (w:∀ σ H R,t' σ H R->t σ H R):PI X tg e t':=λpins s σ H R I q=>h pins s σ H R I (w σ H R q)
section
variable {X:Cx} {a b c e l tg:Expr} {es:List Expr} {ta tb tc te:TE3} {t:TA3} {pos:Pos}
def qj9 {tl:TE} (hl:PE X l tl):PI X tg l (λσ H R=>tl σ H λx H1=>∃ a,x=.ref a/\(((∃ xs,SqL X.K H1 a xs)/\R (Itl X.K a) H1)\/((∃ xs,SqT X.K H1 a xs)/\R (Itt X.K a) H1))):=by
 intro pins s σ H R I h;refine thn (hl pins s σ H _ I h) λv s1 ⟨x,H1,I1,r1,q1⟩=>?_;obtain ⟨a,e,⟨⟨xs,hq⟩,q⟩|⟨⟨xs,hq⟩,q⟩⟩:=q1
 ·subst e;cases r1;obtain ⟨its,rv,p,hz⟩:=I1.list hq;refine wpAny_pyIter_list p.isList ?_;refine ⟨s1.heap.objs.size,[s1.heap.objs.size],_,_,H1,rfl,I1.kept (t':=s1.toks) λb o e=>x9 _ e,qcX a _,⟨_,y3 _ rfl,rfl,rfl⟩,λb hb=>?_,q⟩;have e:b=s1.heap.objs.size:=by simpa using hb
  subst e;exact I1.fpOk (v4 _) (I1.hok.fresh (v4 _))
 ·subst e;cases r1;obtain ⟨its,rv,p,hz⟩:=I1.tuple hq;refine wpAny_pyIter_tuple (show s1.heap.IsTuple a its.toArray from p) ?_;refine ⟨s1.heap.objs.size,[s1.heap.objs.size],_,_,H1,rfl,I1.kept (t':=s1.toks) λb o e=>x9 _ e,qaI a _,⟨_,y3 _ rfl,rfl,rfl⟩,λb hb=>?_,q⟩;have e:b=s1.heap.objs.size:=by simpa using hb
  subst e;exact I1.fpOk (v4 _) (I1.hok.fresh (v4 _))
def YG (tl:TE3):TI3:=λτ G r=>tl τ G λx G1=>match x with
 |.tup xs=>r xs (λ_=>True) G1
 |.ref p=>(match getL G1 p with|some xs=>r xs (λG=>getL G p=some xs) G1|none=>False)
 |_=>False
def qmo {K:Frg} {p:Addr} {xs:List T} {G0:Gp} {H0:Hp}:qix K (Itl K p) xs (λG=>getL G p=some xs) G0 H0:=by
 intro G H hr _ hs;obtain ⟨vs,sq,rs⟩:=jA hr hs;refine ⟨λi x hi=>?_,λi x v H' hi y=>?_,⟨vs,sq,by rw [rs.length];exact v4 _⟩⟩
 ·obtain ⟨v,hv,_⟩:=rs.get hi;exact ⟨vs,v,sq,hv⟩
 ·obtain ⟨e,y⟩:=y;subst e;obtain ⟨w,hw,rw'⟩:=rs.get hi;have e2:=(y vs sq).symm.trans hw;cases e2;exact ⟨rw',hr,Kp.refl⟩
def qkv {K:Frg} {p:Addr} {xs:List T} {vs:List V} {G0:Gp} {H0:Hp} (hr0:HR K G0 H0) (sq0:SqT K H0 p vs) (rs0:Rps K H0 xs vs):qix K (Itt K p) xs (λ_=>True) G0 H0:=by
 intro G H hr k _;have sq:=R9 hr0 k sq0;have rs:=rs0.keep hr0 k;refine ⟨λi x hi=>?_,λi x v H' hi y=>?_,⟨vs,sq,by rw [rs.length];exact v4 _⟩⟩
 ·obtain ⟨v,hv,_⟩:=rs.get hi;exact ⟨vs,v,sq,hv⟩
 ·obtain ⟨e,y⟩:=y;subst e;obtain ⟨w,hw,rw'⟩:=rs.get hi;have e2:=(y vs sq).symm.trans hw;cases e2;exact ⟨rw',hr,Kp.refl⟩
def qpp (hl:E3 X l te):I3 X tg l (YG te):=ql0 (qj9 hl) λσ H R ⟨τ,G,r,rl,h,af⟩=>z9 rl h λx G1 h1 v H1 rx hr1 k1 rl1=>by
 cases x<;>try exact h1.elim
 case tup xs=>
  cases rx with
  |tup hs rs=>exact ⟨_,rfl,.inr ⟨⟨_,hs⟩,af _ _ G1 h1 _ H1 hr1 k1 (qkv hr1 hs rs)⟩⟩
 case ref p=>
  simp only at h1;split at h1
  ·rename_i xs e0;cases rx;obtain ⟨vs,hs,rs⟩:=jA hr1 e0;exact ⟨_,rfl,.inl ⟨⟨_,hs⟩,af _ _ G1 h1 _ H1 hr1 k1 qmo⟩⟩
  ·exact h1.elim
def M9 (lo:Int) (n:Nat):List T:=(List.range n).map λ(i:Nat)=>T.int (lo+(i:Int))
def qe1 {K:Frg} {lo:Int} {n:Nat} {G0:Gp} {H0:Hp}:qix K (Itr lo n) (M9 lo n) (λ_=>True) G0 H0:=by
 intro G H hr k _;have hl:(M9 lo n).length=n:=by simp [M9]
 refine ⟨λi x hi=>?_,λi x v H' hi y=>?_,(show n<=(M9 lo n).length by rw [hl];exact v4 n)⟩
 ·have:=(za4 hi).1;rw [hl] at this;exact this
 ·obtain ⟨e,y⟩:=y;subst e;subst y;have h1:=(za4 hi).1;rw [hl] at h1;unfold M9 at hi;rw [getElem?_map,List.getElem?_range h1] at hi;have e:T.int (lo+(i:Int))=x:=by simpa using hi
  subst e;exact ⟨.int _,hr,Kp.refl⟩
def zO (ta:TA3):TI3:=λτ G r=>ta τ G λxs G1=>match xs with
 |[.int j]=>(-(2 ^ 62)<=j/\j<2 ^ 62)/\r (M9 0 j.toNat) (λ_=>True) G1
 |[.int i,.int j]=>(-(2 ^ 62)<=i/\i<2 ^ 62/\-(2 ^ 62)<=j/\j<2 ^ 62)/\r (M9 i (j-i).toNat) (λ_=>True) G1
 |_=>False
def qdN {p:Pos} (hg:Gl X "range") (hm:X.mg "range" = none) (ha:A3 X [a] t) (hs:starEach [a] X.env=[(false,eval a X.env)]:=by rfl) (h1:∀ τ G q,t τ G q->t τ G λxs G=>q xs G/\xs.length=1):I3 X tg (.Call (.Name "range" p) [a] [] pos) (zO t):=
 ql0 (qbp hg hm ha hs) λσ H R ⟨τ,G,r,rl,h,af⟩=>JK rl (h1 _ _ _ h) λxs G1 h1 vs H1 rs hr1 k1 rl1=>by
  obtain ⟨h1,hl⟩:=h1;simp only at h1;split at h1
  ·obtain ⟨v,rfl,r1⟩:=qaD rs;cases r1;exact ⟨_,rfl,h1.1.1,h1.1.2,af _ _ G1 h1.2 _ H1 hr1 k1 qe1⟩
  ·simp at hl
  ·exact h1.elim
def qc6 {p:Pos} (hg:Gl X "range") (hm:X.mg "range" = none) (ha:A3 X [a,b] t) (hs:starEach [a,b] X.env=[(false,eval a X.env),(false,eval b X.env)]:=by rfl) (hs2:starEach [b] X.env=[(false,eval b X.env)]:=by rfl) (h1:∀ τ G q,t τ G q->t τ G λxs G=>q xs G/\xs.length=2):I3 X tg (.Call (.Name "range" p) [a,b] [] pos) (zO t):=
 ql0 (qct hg hm ha hs hs2) λσ H R ⟨τ,G,r,rl,h,af⟩=>JK rl (h1 _ _ _ h) λxs G1 h1 vs H1 rs hr1 k1 rl1=>by
  obtain ⟨h1,hl⟩:=h1;simp only at h1;split at h1
  ·simp at hl
  ·obtain ⟨v,u,rfl,r1,r2⟩:=qn3 rs;cases r1;cases r2;exact ⟨_,_,rfl,h1.1,af _ _ G1 h1.2 _ H1 hr1 k1 qe1⟩
  ·exact h1.elim
def RA (stay:Gp->Prop) (g:TG3) (tb:TS3) (d:Ends3):List T->St3->Gp->Prop
 |[],τ,G=>stay G/\d.nx τ G
 |x::r,τ,G=>stay G/\g x τ G λτ2 G2=>tb { d with nx:=RA stay g tb d r,ct:=RA stay g tb d r,bk:=d.nx } τ2 G2
def WF (wi:TI3) (g:TG3) (tb:TS3):TS3:=λd τ G=>wi τ G λitems stay G1=>RA stay g tb d items τ G1
def qpg {iter:Expr} {body:List Stmt} {wi:TI3} {g:TG3} {tb:TS3} (hp:PassesOwn (model X.prog X.w) X.A X.env X.xe) (hc:X.calm=true) (hi:I3 X tg iter wi) (hg:G3 X tg g) (hb:B3 X body tb)
  (hs:∀ x,foldedSetIterable iter X.env x=pure x:=by intro _;rfl):S3 X (.For tg iter body [] pos) (WF wi g tb):=
 qaL (qkO hp hc hi hg hb hs) λD σ H ⟨τ,G,d,rl,h,af⟩=>by
  refine ⟨τ,G,_,rl,h,λitems stay G1 h1 J H1 hr1 k1 ok=>?_⟩;refine ⟨λi m σ' H'=>m=items.length-i/\i<=items.length/\∃ τ' G',Rel X.K τ' G' σ' H'/\Kp G1 H1 G' H'/\RA stay g tb d (items.drop i) τ' G',⟨_,rfl,Nat.zero_le _,τ,G1,rl.next hr1 k1,Kp.refl,by simpa using h1⟩,?_⟩;rintro i m σ' H' ⟨rfl,hi,τ',G',rl',k',h'⟩;by_cases hlt:i<items.length
  ·rw [List.drop_eq_getElem_cons hlt] at h';obtain ⟨hst,h'⟩:=h';obtain ⟨go,yld,_⟩:=ok G' H' rl'.hp k' hst;have hx:items[i]?=some items[i]:=y9 hlt;refine .inr ⟨go i _ hx,λσ2 H2=>∃ τ2 G2,Rel X.K τ2 G2 σ2 H2/\Kp G1 H1 G2 H2/\RA stay g tb d (items.drop (i+1)) τ2 G2,λσ2 H2 h2=>⟨_,by omega,rfl,hlt,h2⟩,λv H2 y=>?_⟩;obtain ⟨rv,hr2,k2⟩:=yld i _ v H2 hx y;have k3:Kp G1 H1 G' H2:=k'.trans k2;refine ⟨_,τ',G',_,rv,rl'.next hr2 k2,h',λτ3 G3 h3 σ3 H3 rl3 k4=>?_⟩;have k5:Kp G H G3 H3:=(k1.trans k3).trans k4;refine ⟨τ3,G3,_,rl3,h3,⟨λτ4 G4 h4 σ4 H4 rl4 k6=>⟨τ4,G4,rl4,(k3.trans k4).trans k6,h4⟩,af.rt.back k5,af.nx.back k5,λτ4 G4 h4 σ4 H4 rl4 k6=>⟨τ4,G4,rl4,(k3.trans k4).trans k6,h4⟩⟩⟩
  ·have e:i=items.length:=by omega
   subst e;rw [List.drop_length] at h';obtain ⟨_,_,stop⟩:=ok G' H' rl'.hp k' h'.1;exact .inl ⟨stop,af.nx τ' G' h'.2 σ' H' rl' (k1.trans k')⟩
def ER {stay:Gp->Prop} {g:TG3} {tb:TS3} {d:Ends3} (items:List T) (Pv:Nat->St3->Gp->Prop) {τ:St3} {G:Gp} (h0:Pv 0 τ G) (hst:∀ i τ G,i<=items.length->Pv i τ G->stay G)
  (hs:∀ i x τ G (nx:St3->Gp->Prop),items[i]?=some x->Pv i τ G->(∀ τ G,Pv (i+1) τ G->nx τ G)->g x τ G λτ2 G2=>tb { d with nx:=nx,ct:=nx,bk:=d.nx } τ2 G2)
  (hd:∀ τ G,Pv items.length τ G->d.nx τ G):RA stay g tb d items τ G:=by
 have key:∀ (r:List T) (i:Nat) τ G,items.drop i=r->i<=items.length->Pv i τ G->RA stay g tb d r τ G:=by
  intro r;induction r with
  |nil=>
   intro i τ G e hi p;have:i=items.length:=by have:=congrArg List.length e;simp at this;omega
   subst this;exact ⟨hst _ τ G hi p,hd τ G p⟩
  |cons x r ih=>
   intro i τ G e hi p;have hl:i<items.length:=by
    apply Classical.byContradiction;intro z;rw [List.drop_eq_nil_of_le (by omega)] at e;cases e
   have e':=List.drop_eq_getElem_cons hl;rw [e] at e';injection e' with e1 e2;refine ⟨hst i τ G hi p,hs i x τ G _ (by rw [y9 hl,e1]) p λτ2 G2 p2=>ih (i+1) τ2 G2 e2.symm hl p2⟩
 exact key items 0 τ G (by simp) (Nat.zero_le _) h0
def RD (c:TT3) (tb:TS3):TS3:=λd τ G=>∃ W:Nat->St3->Gp->Prop,(∃ m,W m τ G)/\∀ m τ G,W m τ G ->
 c τ G λb G1=>if b=true then ∃ N:St3->Gp->Prop,(∀ τ' G',N τ' G'->∃ m',m'<m/\W m' τ' G')/\tb { d with nx:=N,ct:=N,bk:=d.nx } τ G1 else d.nx τ G1
def qit {c:Expr} {body:List Stmt} {tc:TT3} {tb:TS3} (hp:PassesOwn (model X.prog X.w) X.A X.env X.xe) (hc:C3 X c tc) (hb:B3 X body tb):S3 X (.While c body [] pos) (RD tc tb):=
 qaL (qdw hp hc hb) λD σ H ⟨τ,G,d,rl,⟨W,⟨m0,w0⟩,turn⟩,af⟩=>by
  refine ⟨λm σ' H'=>∃ τ' G',Rel X.K τ' G' σ' H'/\Kp G H G' H'/\W m τ' G',⟨m0,τ,G,rl,Kp.refl,w0⟩,?_⟩;rintro m σ' H' ⟨τ',G',rl',k',w'⟩;refine KB rl' (turn m τ' G' w') λb G1 h1 H1 hr1 k1 rl1=>?_;cases b with
  |true=>
   rw [if_pos rfl] at h1 ⊢;obtain ⟨N,hN,h1⟩:=h1;refine ⟨λσ2 H2=>∃ τ2 G2,Rel X.K τ2 G2 σ2 H2/\Kp G H G2 H2/\N τ2 G2,λσ2 H2 ⟨τ2,G2,r2,k2,n2⟩=>?_,τ',G1,_,rl1,h1,⟨λτ2 G2 h2 σ2 H2 r2 k2=>⟨τ2,G2,r2,(k'.trans k1).trans k2,h2⟩,af.rt.back (k'.trans k1),af.nx.back (k'.trans k1),λτ2 G2 h2 σ2 H2 r2 k2=>⟨τ2,G2,r2,(k'.trans k1).trans k2,h2⟩⟩⟩;obtain ⟨m',hm,w2⟩:=hN τ2 G2 n2;exact ⟨m',hm,τ2,G2,r2,k2,w2⟩
  |false=>
   rw [if_neg y6] at h1 ⊢;exact af.nx τ' G1 h1 σ' H1 rl1 (k'.trans k1)
abbrev Sp3:=List T->Gp->Q3->Prop
def lSp (K:Frg) (sp:Sp3):Sp:=λvs H Q _=>∃ ts G q,HR K G H/\Rps K H ts vs/\sp ts G q/\Aft K G H q Q
def Fn3 (P:Program) (w:World) (K:Frg) (mg:Str->Option Value) (base:Heap) (k:Nat) (x:Str) (sp:Sp3):Prop:=
 ∃ f fd ps,FnOk P w K mg base CX0 k f fd ps (lSp K sp)/\WY K fd ps []/\PySem.W.keepIn K (.ref f)=true/\mg x=some (.ref f)
def Fn3.mono {P:Program} {w:World} {K:Frg} {mg:Str->Option Value} {base:Heap} {j k:Nat} {x:Str} {sp:Sp3} (F:Fn3 P w K mg base j x sp) (h:j<=k):Fn3 P w K mg base k x sp:=
 let ⟨f,fd,ps,a,b,c,d⟩:=F;⟨f,fd,ps,a.mono h,b,c,d⟩
def Fn3.imp {P:Program} {w:World} {K:Frg} {mg:Str->Option Value} {base:Heap} {k:Nat} {x:Str} {sp sp':Sp3} (F:Fn3 P w K mg base k x sp) (h:∀ ts G q,sp' ts G q->sp ts G q):Fn3 P w K mg base k x sp':=
 let ⟨f,fd,ps,a,b,c,d⟩:=F;⟨f,fd,ps,a.imp λvs H Q E ⟨ts,G,q,h1,h2,h3,h4⟩=>⟨ts,G,q,h1,h2,h _ _ _ h3,h4⟩,b,c,d⟩
def qi1 {k:Nat} {x:Str} {p:Pos} {sp:Sp3} (F:Fn3 X.prog X.w X.K X.mg X.base k x sp) (hr:Room k X.A) (hg:Gl X x) (ha:A3 X (e::es) t) (hdb:(x==("__debug__" : Str))=false:=by decide)
  (he:starEach (e::es) X.env=(false,eval e X.env)::starEach es X.env:=by rfl) (hpl:(backTo pos (starEach es X.env)).any (·.1)=false:=by rfl):E3 X (.Call (.Name x p) (e::es) [] pos) (cb3 sp t):=by
 obtain ⟨f,fd,ps,F,b,kp,m⟩:=F;refine WU (qbL F hr hg m kp b .nil qox ha hdb he hpl) λσ H Q ⟨τ,G,q,rl,h,af⟩=>JK rl h λxs G1 h1 vs H1 rs hr1 k1 rl1=>?_;rw [List.append_nil];exact ⟨xs,G1,q,hr1,rs,h1,af.back k1⟩
def qm (N:List Str) (ts:List T):St3:=ts.map some++List.replicate (N.length-ts.length) none
def XT {K:Frg} {N:List Str} {G:Gp} {H:Hp} {ts:List T} {vs:List V} (hr:HR K G H) (rs:Rps K H ts vs):Rel K (qm N ts) G (L2.CY N vs) H:=by
 refine ⟨hr,by simp [qm,L2.CY,rs.length],λi t e=>?_⟩;unfold qm at e;by_cases hi:i<ts.length
 ·rw [List.getElem?_append_left (by simpa using hi),getElem?_map] at e;cases q:ts[i]? with
  |none=>rw [q] at e;cases e
  |some z=>
   rw [q] at e;have e':z=t:=by simpa using e
   subst e';obtain ⟨v,hv,r⟩:=rs.get q;refine ⟨v,?_,r⟩;unfold L2.CY;rw [List.getElem?_append_left (by rw [length_map,← rs.length];exact hi),getElem?_map,hv];rfl
 ·rw [List.getElem?_append_right (by simpa using hi),List.getElem?_replicate] at e;split at e<;>cases e
def qmO {P:Program} {w:World} {K:Frg} {mg:Str->Option Value} {base:Heap} {x qual:Str} {st:Stmt} {f:Addr} {fd:FuncData} {N ps:List Str} {k:Nat} {sp:Sp3} {t3:TS3} (F:Fun K x qual st f fd) (S:FnScope N ps (qi st)) (bd:WY K fd ps []) (hm:mg x=some (.ref f))
  (body:∀ (cdv:Value) (A:Around) (outer:List Env) (s:Shared) (H:Hp) (E:XK),Room k (A.deeper (envOfC qual (qi st) s.heap.objs.size f cdv)) ->
   B3 (VE CX0 P w K mg base N qual (qi st) f cdv A outer s H E).nox (qO st) t3)
  (read:∀ ts G q,sp ts G q->ts.length=ps.length/\t3 { nx:=λ_ G'=>q .non G',rt:=q } (qm N ts) G):Fn3 P w K mg base (k+1) x sp:=by
 refine ⟨f,fd,ps,F.ok S (λvs H Q E ⟨ts,G,q,h1,h2,h3,h4⟩=>by rw [← h2.length];exact (read ts G q h3).1) λcdv A outer s H vs Q E hr ⟨ts,G,q,h1,h2,h3,h4⟩=>?_,bd,F.kp,hm⟩;refine ⟨_,body cdv A outer s H E hr,qm N ts,G,_,XT h1 h2,(read ts G q h3).2,⟨λτ' G' h' σ' H' rl' k'=>h4 _ G' h' _ H' .non rl'.hp k',h4,λ_ _ z=>z.elim,λ_ _ z=>z.elim⟩⟩
def qiy (xs:List T):Option Bool:=match xs with
 |[]=>some true
 |.bl k::r=>(match qiy r with|some j=>some (k&&j)|none=>none)
 |_=>none
def qqH (xs:List T):Option Bool:=match xs with
 |[]=>some false
 |.bl k::r=>(match qqH r with|some j=>some (k||j)|none=>none)
 |_=>none
def qdx {P:Program} {w:World} {A:Around} {its:List Value} {ks:List Bool} (h:its=ks.map Value.bool):TruthOf P w A (λi v=>its.toArray[i]?=some v) (λi=>ks.getD i true):=by
 intro i v s Q E hp hq;subst h;have hp':ks[i]?.map Value.bool=some v:=by simpa using hp
 cases e:ks[i]? with
 |none=>rw [e] at hp';cases hp'
 |some k=>
  rw [e] at hp';cases hp';have:ks.getD i true=k:=by rw [getD_eq_getElem?_getD,e];rfl
  have hq:Q (ks.getD i true) s:=hq;rw [this] at hq;exact wpAny_truthy_bool hq
def RG:∀ {ks:List Bool} {us:List Value},jj (ks.map V.bl) us->us=ks.map Value.bool
 |[],_,r=>by cases r;rfl
 |k::ks,_,r=>by
  cases r with
  |cons a b=>rw [show _=Value.bool k from a,RG b];rfl
def qaX (ks:List Bool):((List.range ks.length).all λi=>ks.getD i true)=ks.all id:=by
 induction ks with
 |nil=>rfl
 |cons k ks ih=>
  rw [length_cons,List.range_succ_eq_map,List.all_cons,List.all_map,List.all_cons];congr 1
def RB (hc:X.calm=true):VH X (.builtin "all") (λxs H Q=>∃ (p:Addr) (ks:List Bool),xs=[.ref p]/\SqL X.K H p (ks.map V.bl)/\Q (.bl (ks.all id)) H):=by
 intro pins s σ H xs us Q I r h;obtain ⟨p,ks,rfl,hq,q⟩:=h;obtain ⟨u,rfl,rp⟩:=C6 r;cases (show u=Value.ref p from rp);obtain ⟨its,rv,pl,hz⟩:=I.list hq;have hb:=RG rv;have hlen:its.length=ks.length:=by rw [hb];simp
 have hp:p<s.heap.objs.size:=by obtain ⟨o,n,e,_⟩:=pl;exact y4 e
 refine call_all_walk (wpAny_pyIter_list pl.isList ⟨s.heap.objs.size,_,_,_,_,_,λi=>ks.getD i true,rfl,Walks.list (A:=X.A.in1) (show X.A.in1.handled=none from I.ok.hd hc) s.heap.objs.size p (u7 hp) its.toArray,⟨⟨_,y3 _ rfl,rfl,rfl⟩,?_⟩,qdx hb,λh' tk hk=>?_⟩)
 ·obtain ⟨o,n,e,c,_,d⟩:=pl;exact ⟨o,x9 _ e,c,n,d⟩
 ·refine ⟨.bl _,H,?_,rfl,by rw [size_toArray,hlen,qaX];exact q⟩;exact I.kept (h':=h') (t':=tk) λb o e=>hk b o (by simp;exact u7 (y4 e)) (x9 _ e)
end
def C4 (env:Env):List (Str×NameKind)->List (Str×Addr)->List (Str×Addr)
 |[],cs=>cs
 | (n,k)::r,cs=>if k=.free then C4 env r ((n,(env.cells.lookup n).getD 0)::cs) else C4 env r cs
def YQ {scope:Scope} {env:Env} (h:∀ y∈scope.names,y.2=.free->∃ c,env.cells.lookup y.1=some c):closureFor scope env=pure (C4 env scope.names []):=by
 have key:∀ (l:List (Str×NameKind)) (cs:List (Str×Addr)),(∀ y∈l,y.2=.free->∃ c,env.cells.lookup y.1=some c) ->
   (forIn l cs λ(x:Str×NameKind) (r:List (Str×Addr))=>if (x.2==NameKind.free)=true then (do let a←cellOf env x.1;pure (ForInStep.yield ((x.1,a)::r))) else pure (ForInStep.yield r))=(pure (C4 env l cs):Sem _):=by
  intro l;induction l with
  |nil=>intro cs _;rfl
  |cons y r ih=>
   intro cs hl;obtain ⟨n,k⟩:=y;rw [List.forIn_cons];by_cases hk:k=.free
   ·subst hk;obtain ⟨c,hc⟩:=hl (n,.free) u9 rfl;have e:cellOf env n=pure c:=by unfold cellOf;rw [show List.lookup n env.cells=some c from hc]
    simp only [beq_self_eq_true,if_true];rw [e,pure_bind,pure_bind];show forIn r ((n,c)::cs) _=_;rw [ih _ λz hz=>hl z (v5 _ hz)];show _=(pure (if NameKind.free=NameKind.free then C4 env r ((n,(env.cells.lookup n).getD 0)::cs) else C4 env r cs):Sem _);rw [if_pos rfl,show List.lookup n env.cells=some c from hc];rfl
   ·have hb:(k==NameKind.free)=false:=by cases k<;>first|rfl|exact absurd rfl hk
    simp only [hb,Bool.false_eq_true,if_false];rw [pure_bind];show forIn r cs _=_;rw [ih _ λz hz=>hl z (v5 _ hz)];show _=(pure (if k=NameKind.free then C4 env r ((n,(env.cells.lookup n).getD 0)::cs) else C4 env r cs):Sem _);rw [if_neg hk]
 have:=key scope.names [] h;unfold closureFor;refine Eq.trans ?_ this;exact bind_pure (m:=Sem) _
def EF {env:Env}:∀ (l:List (Str×NameKind)) (cs:List (Str×Addr)) (x:Str) (c:Addr),(∀ y∈l,y.2=.free->∃ c,env.cells.lookup y.1=some c) ->
  (∀ x c,cs.lookup x=some c->env.cells.lookup x=some c)->(C4 env l cs).lookup x=some c->env.cells.lookup x=some c
 |[],_,_,_,_,h,e=>h _ _ e
 | (n,k)::r,cs,x,c,hl,h,e=>by
  unfold C4 at e;split at e
  ·rename_i hk;refine EF r _ x c (λy hy=>hl y (v5 _ hy)) (λx c e=>?_) e;rw [List.lookup_cons] at e;split at e
   ·rename_i hx;have hx':x=n:=by simpa using hx
    subst hx';obtain ⟨d,hd⟩:=hl (x,k) u9 hk;have hd:List.lookup x env.cells=some d:=hd;rw [hd] at e ⊢;exact e
   ·exact h _ _ e
  ·exact EF r cs x c (λy hy=>hl y (v5 _ hy)) h e
def XC {env:Env}:∀ (l:List (Str×NameKind)) (cs:List (Str×Addr)) (x:Str),((x,NameKind.free)∈l\/∃ c,cs.lookup x=some c)->∃ c,(C4 env l cs).lookup x=some c
 |[],_,_,h=>by
  rcases h with h|h
  ·simp at h
  ·exact h
 | (n,k)::r,cs,x,h=>by
  unfold C4;have put:∀ d:Addr,(x=n\/∃ c,cs.lookup x=some c)->∃ c,((n,d)::cs).lookup x=some c:=λd z=>by
   rw [List.lookup_cons];cases hx:x==n with
   |true=>exact ⟨d,rfl⟩
   |false=>
    rcases z with z|z
    ·rw [z] at hx;simp at hx
    ·exact z
  split
  ·rename_i hk;refine XC r _ x ?_;rcases h with h|h
   ·rcases mem_cons.mp h with e|e
    ·cases e;exact .inr (put _ (.inl rfl))
    ·exact .inl e
   ·exact .inr (put _ (.inr h))
  ·rename_i hk;refine XC r _ x ?_;rcases h with h|h
   ·rcases mem_cons.mp h with e|e
    ·cases e;exact absurd rfl hk
    ·exact .inl e
   ·exact .inr h
def TZ {env:Env}:∀ (l:List (Str×NameKind)) (cs:List (Str×Addr)) (x:Str) (c:Addr),(C4 env l cs).lookup x=some c->(x,NameKind.free)∈l\/cs.lookup x=some c
 |[],_,_,_,e=>.inr e
 | (n,k)::r,cs,x,c,e=>by
  unfold C4 at e;split at e
  ·rename_i hk;rcases TZ r _ x c e with z|z
   ·exact .inl (v5 _ z)
   ·rw [List.lookup_cons] at z;split at z
    ·rename_i hx;have hx':x=n:=by simpa using hx
     subst hx';subst hk;exact .inl u9
    ·exact .inr z
  ·rcases TZ r cs x c e with z|z
   ·exact .inl (v5 _ z)
   ·exact .inr z
def DT {α:Type}:∀ (xs ys:List (Str×α)) (x:Str),(xs++ys).lookup x=(match xs.lookup x with|some c=>some c|none=>ys.lookup x)
 |[],ys,x=>rfl
 | (n,c)::xs,ys,x=>by
  rw [cons_append,List.lookup_cons,List.lookup_cons];cases x==n with
  |true=>rfl
  |false=>exact DT xs ys x
def jO:∀ (l:List (Str×NameKind)) {n:Nat} {acc:List (Str×Addr)},cellsFrom n l acc=cellsFrom n l []++acc
 |[],_,_=>rfl
 | (x,k)::r,n,acc=>by
  unfold cellsFrom;split
  ·rw [jO r (acc:=(x,n)::acc),jO r (acc:=[(x,n)]),List.append_assoc];rfl
  ·exact jO r
def YK:∀ (l:List (Str×NameKind)) (n:Nat) (acc:List (Str×Addr)) (x:Str) (c:Addr),(x,c)∈cellsFrom n l acc->(x,NameKind.cell)∈l\/(x,c)∈acc
 |[],_,_,_,_,h=>.inr h
 | (y,k)::r,n,acc,x,c,h=>by
  unfold cellsFrom at h;split at h
  ·rename_i hk;have hk:k=.cell:=by simpa using hk
   rcases YK r _ _ x c h with z|z
   ·exact .inl (v5 _ z)
   ·rcases mem_cons.mp z with e|e
    ·cases e;subst hk;exact .inl u9
    ·exact .inr e
  ·rcases YK r _ _ x c h with z|z
   ·exact .inl (v5 _ z)
   ·exact .inr z
def Q6:∀ (l:List (Str×NameKind)) (n:Nat) (acc:List (Str×Addr)) (x:Str),((x,NameKind.cell)∈l\/∃ c,acc.lookup x=some c)->∃ c,(cellsFrom n l acc).lookup x=some c
 |[],_,_,_,h=>by
  rcases h with h|h
  ·simp at h
  ·exact h
 | (y,k)::r,n,acc,x,h=>by
  unfold cellsFrom;have put:(x=y\/∃ c,acc.lookup x=some c)->∃ c,((y,n)::acc).lookup x=some c:=λz=>by
   rw [List.lookup_cons];cases hx:x==y with
   |true=>exact ⟨n,rfl⟩
   |false=>
    rcases z with z|z
    ·rw [z] at hx;simp at hx
    ·exact z
  split
  ·refine Q6 r _ _ x ?_;rcases h with h|h
   ·rcases mem_cons.mp h with e|e
    ·cases e;exact .inr (put (.inl rfl))
    ·exact .inl e
   ·exact .inr (put (.inr h))
  ·rename_i hk;refine Q6 r _ _ x ?_;rcases h with h|h
   ·rcases mem_cons.mp h with e|e
    ·cases e;exact absurd rfl hk
    ·exact .inl e
   ·exact .inr h
def QV {M:Model} {A:Around} {E:Value->Shared->Prop} {s:Shared} {scope:Scope} {globals:Addr} {cl:List (Str×Addr)} {qual:Str} {env:Env} {Q:Env->Shared->Prop}
  (hQ:∀ h₁:Heap,h₁.Ns s.heap.objs.size (λ_=>none)->(∀ b o,s.heap.get? b=some o->h₁.get? b=some o)->CellsOk h₁ (s.heap.objs.size+1) (cellsFrom (s.heap.objs.size+1) scope.names [])->Q (newEnv scope s.heap.objs.size globals (cellsFrom (s.heap.objs.size+1) scope.names cl) qual none .none (some env) builtinsNs) { s with heap:=h₁ }) :
  wpAny M A (newFunctionEnv scope globals cl [] qual none .none (some env)) Q E s:=by
 simp only [newFunctionEnv,Option.isSome_some,if_true];refine x5 (wpAny_alloc ?_);refine x5 (wpAny_layCells _ (λname kind cells=>by cases hkc:kind==NameKind.cell<;>simp [hkc]) _ _ _ _ ?_);have ok:=cellsFrom_ok scope.names (s.heap.push { cls:=.type "dict",data:=.dict #[] }) (s.heap.objs.size+1) [] ⟨λ_ _ hm=>(nomatch hm),List.Pairwise.nil⟩ (by rw [Heap.size_push];exact v4 _);rw [Heap.size_push] at ok;rw [show ({ s with heap:=s.heap.push { cls:=.type "dict",data:=.dict #[] } }:Shared).heap.objs.size=s.heap.objs.size+1 from Heap.size_push ..];rw [List.forIn_nil];refine x5 (x6 (x6 ?_));exact hQ _ ((Heap.Ns.new s.heap (.type "dict")).keeps (pushCells_keeps _ _)) (λb o e=>pushCells_keeps _ _ b o (x9 _ e)) ok
def qr (X:Cx) (N':List Str) (scope:Scope) (s:Shared) (H:Hp) (fp:List Addr):Cx where
 prog:=X.prog
 w:=X.w
 K:=X.K
 mg:=X.mg
 base:=X.base
 A:=X.A
 N:=N'
 s₀:=s
 H₀:=H
 env:=compEnvC scope (cellsFrom (s.heap.objs.size+1) scope.names (C4 X.env scope.names [])) s.heap.objs.size X.env
 outer:=X.stack
 stack:=X.stack
 ex:=fp
 fn:=λx=>scope.names.lookup x==some .cell
 calm:=true
 pn:=[]
 xe:=λ_ _=>False
def qaU (outer inner:Scope):Bool:=(inner.kind==.function)&&inner.names.all λy=>
 (y.2 != .cell||inner.names.lookup y.1==some .cell)&&(y.2 != .local||inner.names.lookup y.1==some .local)&&(y.2 != .free||(inner.names.lookup y.1==some .free&&(outer.names.lookup y.1==some .cell||outer.names.lookup y.1==some .free)))
def cap {α:Type} (m:List (Option Nat)) (σ:List (Option α)):List (Option α):=m.map λo=>match o with|some j=>(σ[j]?).join|none=>none
def ED (N N':List Str) (scope:Scope) (m:List (Option Nat)):Bool:=(m.length==N'.length)&&(m.zip N').all λp=>match p.1 with
 |none=>true
 |some j=>N[j]?==some p.2&&scope.names.lookup p.2==some .free
def qcr {α:Type} {m:List (Option Nat)} {σ:List (Option α)} {i:Nat} {v:α} (h:(cap m σ)[i]?=some (some v)):∃ j,m[i]?=some (some j)/\σ[j]?=some (some v):=by
 unfold cap at h;rw [getElem?_map] at h;cases e:m[i]? with
 |none=>rw [e] at h;cases h
 |some o=>
  rw [e] at h;cases o with
  |none=>cases h
  |some j=>
   refine ⟨j,rfl,?_⟩;have h':(σ[j]?).join=some v:=by simpa using h
   cases q:σ[j]? with
   |none=>rw [q] at h';cases h'
   |some z=>rw [q] at h';exact congrArg some h'
def qcx {N N':List Str} {scope:Scope} {m:List (Option Nat)} (h:ED N N' scope m=true) {i j:Nat} {x:Str} (e:m[i]?=some (some j)) (hx:N'[i]?=some x):N[j]?=some x/\scope.names.lookup x=some .free:=by
 unfold ED at h;rw [Bool.and_eq_true] at h;have hm:(some j,x)∈m.zip N':=v8 (i:=i) (List.getElem?_zip_eq_some.mpr ⟨e,hx⟩);have:=List.all_eq_true.mp h.2 _ hm;simp only [Bool.and_eq_true,beq_iff_eq] at this;exact this
def qhT {N N':List Str} {scope:Scope} {m:List (Option Nat)} {α:Type} (σ:List (Option α)) (h:ED N N' scope m=true):(cap m σ).length=N'.length:=by
 unfold ED at h;rw [Bool.and_eq_true] at h;unfold cap;rw [length_map];simpa using h.1
structure ScFacts (outer inner:Scope):Prop where
 kind:inner.kind=.function
 own:∀ y∈inner.names,y.2=.cell->inner.names.lookup y.1=some .cell
 loc:∀ y∈inner.names,y.2=.local->inner.names.lookup y.1=some .local
 free:∀ y∈inner.names,y.2=.free->inner.names.lookup y.1=some .free/\(outer.names.lookup y.1=some .cell\/outer.names.lookup y.1=some .free)
def D5 {outer inner:Scope} (h:qaU outer inner=true):ScFacts outer inner:=by
 unfold qaU at h;rw [Bool.and_eq_true] at h;have ha:=List.all_eq_true.mp h.2;refine ⟨by simpa using h.1,λy hy e=>?_,λy hy e=>?_,λy hy e=>?_⟩
 ·have:=ha y hy;rw [e] at this;simpa using this
 ·have:=ha y hy;rw [e] at this;simpa using this
 ·have:=ha y hy;rw [e] at this;simpa using this
def JO {scope:Scope} {env:Env} {x:Str} {k:NameKind} (h:(relabel scope env).names.lookup x=some k):scope.names.lookup x=some k\/(k=.cell/\scope.names.lookup x=some .free):=by
 have key:∀ (l:List (Str×NameKind)),(l.map λ(n,k)=>if (k==NameKind.free&&env.scope.kind==.function&&env.kindOf n==some .cell) then (n,NameKind.cell) else (n,k)).lookup x=some k->l.lookup x=some k\/(k=.cell/\l.lookup x=some .free):=by
  intro l;induction l with
  |nil=>intro h;simp at h
  |cons y r ih=>
   intro h;obtain ⟨n,j⟩:=y;rw [map_cons] at h;dsimp only at h;by_cases hc:(j==NameKind.free&&env.scope.kind==.function&&env.kindOf n==some .cell)=true
   ·rw [if_pos hc,List.lookup_cons] at h;rw [List.lookup_cons];cases hx:x==n with
    |true=>
     rw [hx] at h;have hk:NameKind.cell=k:=by simpa using h
     have hj:j=.free:=by simp only [Bool.and_eq_true,beq_iff_eq] at hc;exact hc.1.1
     exact .inr ⟨hk.symm,by rw [hj]⟩
    |false=>rw [hx] at h;exact ih h
   ·rw [if_neg hc,List.lookup_cons] at h;rw [List.lookup_cons];cases hx:x==n with
    |true=>rw [hx] at h;exact .inl h
    |false=>rw [hx] at h;exact ih h
 exact key scope.names h
def PF (X:Cx) (ifs:List Expr) (t:TT):Prop:=
 ∀ (pins:List (Addr×Obj)) (s:Shared) (σ:L2.St) (H:Hp) (Q:Bool->Hp->Prop),Inv X pins σ H s->t σ H Q ->
  wpAny (model X.prog X.w) X.A (forIn ifs true λc r=>if r=true then do let ok←isTrue c X.env (eval c X.env);pure (ForInStep.yield ok) else pure (ForInStep.yield r)) (TP X pins σ Q) X.xe s
def qk5 {X:Cx}:PF X [] (λ_ H Q=>Q true H):=λ_ _ _ H _ I h=>wpAny_tests_nil ⟨H,I,h⟩
def qlY {X:Cx} {c:Expr} {t:TT} (h:PT X c t):PF X [c] t:=λpins s σ H Q I q=>wpAny_tests_one (h pins s σ H Q I q)
section
variable {X:Cx} {pins:List (Addr×Obj)} {σ:L2.St} {H:Hp} {s:Shared}
def SZ {N':List Str} {scope:Scope} {fp:List Addr} {m:List (Option Nat)} {h1:Heap} {mm:Str->Option Value} (hc:X.calm=true) (I:Inv X pins σ H s) (sc:ScFacts X.env.scope scope) (hcap:ED X.N N' scope m=true)
  (hfp:∀ b∈fp,KY X pins H b) (hob:∀ b∈fp,∃ o,s.heap.get? b=some o) (hns:h1.Ns s.heap.objs.size mm) (hk:∀ b o,s.heap.get? b=some o->h1.get? b=some o) (hown:CellsOk h1 (s.heap.objs.size+1) (cellsFrom (s.heap.objs.size+1) scope.names [])) :
  Inv (qr X N' scope s H fp) [] (cap m σ) H { s with heap:=h1 }:=by
 have hcl:∀ y∈scope.names,y.2=.free->∃ c,X.env.cells.lookup y.1=some c:=λy hy e=>by
  rcases (sc.free y hy e).2 with z|z
  ·exact I.ok.has y.1 (.inl z)
  ·exact I.ok.has y.1 (.inr z)
 have cl:∀ x c,(C4 X.env scope.names []).lookup x=some c->X.env.cells.lookup x=some c:=λx c e=>EF scope.names [] x c hcl (λ_ _ z=>by simp at z) e;have clt:∀ x c,(C4 X.env scope.names []).lookup x=some c->c<s.heap.objs.size:=λx c e=>by
  obtain ⟨v,q⟩:=I.cell x c (cl x c e);exact q.lt
 -- a cell of the block: its own,or one from around
 have cs:∀ x c,(cellsFrom (s.heap.objs.size+1) scope.names (C4 X.env scope.names [])).lookup x=some c->((x,c)∈cellsFrom (s.heap.objs.size+1) scope.names []/\s.heap.objs.size+1<=c/\h1.IsCell c none)\/(C4 X.env scope.names []).lookup x=some c:=λx c e=>by
  rw [jO,DT] at e;cases q:(cellsFrom (s.heap.objs.size+1) scope.names []).lookup x with
  |none=>rw [q] at e;exact .inr e
  |some d=>
   rw [q] at e;cases e;have mem:=PySem.mem_of_lookup q;exact .inl ⟨mem,(hown.empty x _ mem).2,(hown.empty x _ mem).1⟩
 have fpne:∀ b∈fp,b≠s.heap.objs.size:=λb hb=>let ⟨o,e⟩:=hob b hb;u7 (y4 e)
 refine ⟨⟨I.ok.mod,sc.kind,I.ok.glob,I.ok.blt,v4 _,λx y c e1 e2=>?_,λx hx=>?_,λx c hf e=>?_,λ_=>I.ok.hd hc,I.ok.frames,.inl rfl,λb hb=>⟨fpne b hb,λx c e=>?_⟩,I.bs,v9 I.ok.bsz I.sz,λb o e hb=>?_,λb hb z=>?_,I.stack,I.stkFree⟩,
  rfl,I.bare,Un.kept hk,⟨mm,hns,λi x v e1 e2 e3=>?_⟩,λx c e=>?_,I.fresh,λx c e=>?_,λp hp=>absurd (show p∈([]:List (Addr×Obj)) from hp) (by simp),I.hok.kept hk,qhT σ hcap⟩
 ·rcases cs x c e1 with ⟨m1,l1,_⟩|z1<;>rcases cs y c e2 with ⟨m2,l2,_⟩|z2
  ·exact PySem.name_of_addr hown.apart m1 m2
  ·exact absurd (clt y c z2) (Nat.not_lt.mpr (v9 (Nat.le_succ _) l1))
  ·exact absurd (clt x c z1) (Nat.not_lt.mpr (v9 (Nat.le_succ _) l2))
  ·exact I.ok.inj x y c (cl x c z1) (cl y c z2)
 ·have hx:(relabel scope X.env).names.lookup x=some .cell\/(relabel scope X.env).names.lookup x=some .free:=hx;have hf:scope.names.lookup x=some .cell\/scope.names.lookup x=some .free:=by
   rcases hx with z|z
   ·rcases JO z with q|⟨_,q⟩
    ·exact .inl q
    ·exact .inr q
   ·rcases JO z with q|⟨q,_⟩
    ·exact .inr q
    ·cases q
  show ∃ c,(cellsFrom (s.heap.objs.size+1) scope.names (C4 X.env scope.names [])).lookup x=some c;rcases hf with hf|hf
  ·exact Q6 scope.names _ _ x (.inl (PySem.mem_of_lookup hf))
  ·exact Q6 scope.names _ _ x (.inr (XC scope.names [] x (.inl (PySem.mem_of_lookup hf))))
 ·have hf:scope.names.lookup x=some .cell:=by simpa [qr] using hf
  rcases cs x c e with ⟨_,l1,_⟩|z1
  ·exact v9 (Nat.le_succ _) l1
  ·rcases TZ scope.names [] x c z1 with q|q
   ·rw [(sc.free _ q rfl).1] at hf;cases hf
   ·simp at q
 ·rcases cs x c e with ⟨_,l1,_⟩|z1
  ·obtain ⟨o,eo⟩:=hob b hb;exact Nat.ne_of_gt (v7 (y4 eo) (v9 (Nat.le_succ _) l1))
  ·exact (hfp b hb).2.2.2.2.1 x c (cl x c z1)
 ·rcases (hfp b hb).2.2.2.1 with z|z
  ·exact I.ok.noex b o e z
  ·exact absurd (v7 (y4 e) (v9 I.ok.bsz z)) (Nat.lt_irrefl _)
 ·rcases mem_cons.mp (I.stkSub b z) with q|q
  ·exact (hfp b hb).2.1 q
  ·exact (hfp b hb).2.2.1 q
 ·obtain ⟨j,ej,es⟩:=qcr e2;obtain ⟨hN,hfr⟩:=qcx hcap ej e1;have mem:=PySem.mem_of_lookup hfr;have ho:=(sc.free _ mem rfl).2;obtain ⟨m0,hn0,hl0⟩:=I.loc;obtain ⟨u,ru,lk⟩:=hl0 j x v hN es (ho.elim (λz=>.inr (.inl z)) λz=>.inr (.inr z));refine ⟨u,ru,.inr ⟨?_,?_⟩⟩
  ·rcases e3 with z|z|z
   ·rcases JO z with q|⟨q,_⟩
    ·rw [hfr] at q;cases q
    ·cases q
   ·exact .inl z
   ·exact .inr z
  ·rcases lk with ⟨z,_⟩|⟨_,c,hc',hcell⟩
   ·have z:X.env.scope.names.lookup x=some .local:=z;rcases ho with q|q<;>(rw [z] at q;cases q)
   ·obtain ⟨c',hc2⟩:=XC (env:=X.env) scope.names [] x (.inl mem);have e:=cl x c' hc2;rw [hc'] at e;cases e;obtain ⟨o,eo,d⟩:=hcell;refine ⟨c,?_,o,hk c o eo,d⟩;show (cellsFrom (s.heap.objs.size+1) scope.names (C4 X.env scope.names [])).lookup x=some c;rw [jO,DT];cases q:(cellsFrom (s.heap.objs.size+1) scope.names []).lookup x with
    |none=>exact hc2
    |some d=>
     rcases YK scope.names _ [] x d (PySem.mem_of_lookup q) with z|z
     ·rw [sc.own _ z rfl] at hfr;cases hfr
     ·simp at z
 ·rcases cs x c e with ⟨_,_,z⟩|z1
  ·exact ⟨none,z⟩
  ·obtain ⟨v,o,eo,d⟩:=I.cell x c (cl x c z1);exact ⟨v,o,hk c o eo,d⟩
 ·rcases cs x c e with ⟨_,l1,_⟩|z1
  ·exact I.hok.fresh (v9 (Nat.le_succ _) l1)
  ·exact I.freeC x c (cl x c z1)
def D0 {N':List Str} {scope:Scope} {fp:List Addr} {pins':List (Addr×Obj)} {σ':L2.St} {H':Hp} {s':Shared} {h2:Heap} (I:Inv X pins σ H s) (hfp:∀ b∈fp,KY X pins H b) (J:Inv (qr X N' scope s H fp) pins' σ' H' s')
  (sb:Heap.SameBut s.heap.objs.size s'.heap h2):Inv X pins σ H' { s' with heap:=h2 }:=by
 have ne:∀ b o,s.heap.get? b=some o->b≠s.heap.objs.size:=λb o e=>u7 (y4 e);have g:∀ b,b≠s.heap.objs.size->h2.get? b=s'.heap.get? b:=λb hb=>sb.2 b hb;have hn:H' s.heap.objs.size=none:=J.free;have u:Un (frs X.stack) fp H H' s.heap s'.heap:=J.base;refine I.call' (s':={ s' with heap:=h2 }) J.os ⟨λb o e n hb hx=>?_,λb o e n hb hx=>?_,u.free,λb o e hx=>?_,u.tups,u.frzs,u.tbls⟩ (λa o e=>?_) J.bare λb hb=>⟨(hfp b hb).2.2.2.1,(hfp b hb).2.1,(hfp b hb).2.2.2.2.1,(hfp b hb).2.2.2.2.2⟩
 ·show h2.get? b=_;rw [g b (ne b o e)];exact u.keep b o e n hb hx
 ·show ∃ sl,h2.get? b=_;rw [g b (ne b o e)];exact u.slot b o e n hb hx
 ·show ∃ o',h2.get? b=_;rw [g b (ne b o e)];exact u.there b o e hx
 ·refine (J.hok a o e).stay (λb v hb q=>?_) (λ_ q=>q) λ_ _ q=>q;have hb':b≠s.heap.objs.size:=by
   intro z;subst z;rcases hb with z|z
   ·rw [← z] at e;rw [hn] at e;cases e
   ·rw [hn] at z;cases z
  rw [g b hb'];exact q
end
def tLC (wi:TI) (g:TG) (tif:TT) (te:TE) (m:List (Option Nat)):TE:=λσ H Q=>wi σ H λJ H1=>∀ D,H1 D=none ->
 ∃ W:Nat->Nat->L2.St->Hp->Prop,(∃ n,W 0 n (cap m σ) (upd H1 D (.lst [])))/\∀ i n σ H,W i n σ H ->
  (J.stop i H/\Q (.ref D) H)\/(J.go i H/\∀ x H',J.yld i H x H'->g x σ H' λσ2 H2=>tif σ2 H2 λk H3=>
   if k=true then te σ2 H3 λy H4=>∃ zs,H4 D=some (.lst zs)/\zs.length<sizeLine/\∃ n',n'<n/\W (i+1) n' σ2 (upd H4 D (.lst (zs++[y])))
   else ∃ n',n'<n/\W (i+1) n' σ2 H3)
section
variable {X:Cx}
def qp6 {elt tg iter:Expr} {ifs:List Expr} {scope:Scope} {pos:Pos} {N':List Str} {m:List (Option Nat)} {wi:TI} {g:TG} {tif:TT} {te:TE} (hc:X.calm=true) (hi:PI X tg iter wi)
  (hg:∀ s H fp,PG (qr X N' scope s H fp) tg g) (hf:∀ s H fp,PF (qr X N' scope s H fp) ifs tif) (he:∀ s H fp,PE (qr X N' scope s H fp) elt te)
  (hsc:qaU X.env.scope scope=true) (hcap:ED X.N N' scope m=true) (hs:∀ x,foldedSetIterable iter X.env x=pure x:=by intro _;rfl) :
  PE X (.ListComp elt [⟨tg,iter,ifs,0⟩] scope pos) (tLC wi g tif te m):=by
 intro pins s σ H Q I h;have sc:=D5 hsc;have hcl:∀ y∈scope.names,y.2=.free->∃ c,X.env.cells.lookup y.1=some c:=λy hy e=>by
  rcases (sc.free y hy e).2 with z|z
  ·exact I.ok.has y.1 (.inl z)
  ·exact I.ok.has y.1 (.inr z)
 rw [eval_ListComp];refine wpAny_comprehension_free (use:=none) (g:=⟨tg,iter,ifs,0⟩) (gs:=[]) rfl hs (YQ hcl) sc.kind sc.loc ?_;show wpAny _ _ (eval iter X.env) _ _ s;refine thn (hi pins s σ H _ I h) λv s1 h1=>thn h1 λitv s2 h2=>?_;obtain ⟨it,fp,tn,J,H2,rfl,I2,T,st2,f2,hW⟩:=h2;refine wpAny_newObj_type ?_;have hD:H2 s2.heap.objs.size=none:=I2.fresh;obtain ⟨W,⟨n0,w0⟩,turn⟩:=hW _ hD;generalize hDe:s2.heap.objs.size=D at *;have I3:Inv X pins σ (upd H2 D (.lst [])) { s2 with heap:=s2.heap.push { cls:=.type "list",dict:=none,data:=.seq ([]:List Value).toArray } }:=by
  subst hDe;exact I2.laid (t':=s2.toks) (λb u e=>x9 _ e) (v4 _) ⟨Nat.zero_le _,[],0,.nil,y3 _ rfl⟩
 have ob2:=T.obj 0 _ st2;have ob3:∀ b∈fp,∃ o,(s2.heap.push { cls:=.type "list",dict:=none,data:=.seq ([]:List Value).toArray }).get? b=some o:=λb hb=>let ⟨o,e,_⟩:=ob2 b hb;⟨o,x9 _ e⟩
 have f3:∀ b∈fp,KY X pins (upd H2 D (.lst [])) b:=λb hb=>by
  obtain ⟨o,e,_⟩:=ob2 b hb;have:b≠D:=by rw [← hDe];exact u7 (y4 e)
  exact ⟨by rw [qz this];exact (f2 b hb).1,(f2 b hb).2⟩
 have k23:∀ b o,s2.heap.get? b=some o->(s2.heap.push { cls:=.type "list",dict:=none,data:=.seq ([]:List Value).toArray }).get? b=some o:=λb o e=>x9 _ e;generalize hH3:upd H2 D (.lst [])=H3 at *;generalize hs3:({ s2 with heap:=s2.heap.push { cls:=.type "list",dict:=none,data:=.seq ([]:List Value).toArray } }:Shared)=s3 at *;have ob3:∀ b∈fp,∃ o,s3.heap.get? b=some o:=by rw [← hs3];exact ob3
 have k23:∀ b o,s2.heap.get? b=some o->s3.heap.get? b=some o:=by rw [← hs3];exact k23
 refine QV λh₁ hns hk hown=>?_;have I4:Inv (qr X N' scope s3 H3 fp) [] (cap m σ) H3 { s3 with heap:=h₁ }:=SZ hc I3 sc hcap f3 ob3 hns hk hown;have tn4:tn 0 h₁:=T.keep _ _ _ st2 λb hb o e=>hk b o (k23 b o e);have fr4:∀ b∈fp,H3 b=none:=λb hb=>(f3 b hb).1;have stat:∀ {H':Hp},(∀ b∈fp,H' b=none)->∀ b∈fp,KY (qr X N' scope s3 H3 fp) [] H' b:=λhn b hb=>by
  refine ⟨hn b hb,I4.ok.exf b hb |>.1,I4.ok.exfs b hb,.inl hb,λx c e=>(I4.ok.exf b hb).2 x c e,λp hp=>absurd (show p∈([]:List (Addr×Obj)) from hp) (by simp)⟩
 show codeAny (model X.prog X.w) X.A (.compStart (.ListComp elt [⟨tg,iter,ifs,0⟩] scope pos) 0 (.ref it) (.ref D) (qr X N' scope s3 H3 fp).env) (compPost (model X.prog X.w) X.A X.xe none (EP X pins σ Q) (.ref D) s3.heap.objs.size) { s3 with heap:=h₁ };have loop:codeAny (model X.prog X.w) X.A (.compLoop (.ListComp elt [⟨tg,iter,ifs,0⟩] scope pos) 0 (.ref it) (.ref D) (qr X N' scope s3 H3 fp).env) (compPost (model X.prog X.w) X.A X.xe none (EP X pins σ Q) (.ref D) s3.heap.objs.size) { s3 with heap:=h₁ }:=by
  refine codeAny_loop rfl (λn s'=>∃ i σ' H',Inv (qr X N' scope s3 H3 fp) [] σ' H' s'/\tn i s'.heap/\(∀ b∈fp,H' b=none)/\W i n σ' H') (λn s' hI=>?_) n0 ⟨0,cap m σ,H3,I4,tn4,fr4,w0⟩;show wpAny _ X.A ((compTurn (.ListComp elt [⟨tg,iter,ifs,0⟩] scope pos) 0 (.ref it) (.ref D) (qr X N' scope s3 H3 fp).env).onRaise (λx=>do noteFrame x (qr X N' scope s3 H3 fp).env;theTreesLotGoes x)) _ _ s';refine wpAny_noted ?_;rw [compTurn_list];refine x5 (wpAny_standAt (x5 ?_));obtain ⟨i,σ5,H5,I5,st5,fr5,w5⟩:=hI;rcases turn i n σ5 H5 w5 with ⟨stop,q⟩|⟨go,step⟩
  ·refine thn (T.done (qr X N' scope s3 H3 fp) rfl rfl rfl rfl i [] s' σ5 H5 _ I5 (stat fr5) st5 stop) λr s6 ⟨hr,I6⟩=>?_;subst hr;refine x6 ?_;obtain ⟨mm,hn6,_⟩:=I6.loc;exact ⟨mm,hn6,λh' sb=>⟨.ref D,H5,D0 I3 f3 I6 sb,rfl,q⟩⟩
  ·refine thn (T.item (qr X N' scope s3 H3 fp) rfl rfl rfl rfl i [] s' σ5 H5 _ I5 (stat fr5) st5 go) λr s6 ⟨u,hr,h6⟩=>?_;subst hr;refine x5 (thn h6 λ_ s7 ⟨x,H7,I7,r7,y7,st7,fr7⟩=>?_);have I7':=I7.pinned (stat fr7) (T.obj _ _ st7);have again:∀ {σ8:L2.St} {H8:Hp} {s8:Shared},Inv (qr X N' scope s3 H3 fp) ([]++WO fp s7.heap) σ8 H8 s8->(∃ n',n'<n/\W (i+1) n' σ8 H8) ->
     ∃ m',m'<n/\∃ i σ' H',Inv (qr X N' scope s3 H3 fp) [] σ' H' s8/\tn i s8.heap/\(∀ b∈fp,H' b=none)/\W i m' σ' H':=λ{σ8 H8 s8} I8 ⟨n',hn,w8⟩=>by
    refine ⟨n',hn,i+1,σ8,H8,I8.unpinned,T.keep _ _ _ st7 λb hb o e=>(I8.pin (b,o) (v6 _ (v6 _ (zZ hb e)))).1,λb hb=>?_,w8⟩;obtain ⟨o,e,d⟩:=T.obj _ _ st7 b hb;exact (I8.pin (b,o) (v6 _ (v6 _ (zZ hb e)))).2.1
   refine x5 (x8 (hg s3 H3 fp _ s7 σ5 H7 x u _ I7' r7 (step x H7 y7)) (λ_ s8 ⟨σ8,H8,I8,q8⟩=>?_) λ_ _ z=>z.elim);refine x5 (x8 (hf s3 H3 fp _ s8 σ8 H8 _ I8 q8) (λk s9 ⟨H9,I9,q9⟩=>?_) λ_ _ z=>z.elim);cases k with
   |false=>
    rw [if_neg y6] at q9;exact x6 ⟨rfl,again I9 q9⟩
   |true=>
    rw [if_pos rfl] at q9;refine x5 (x5 (x8 (he s3 H3 fp _ s9 σ8 H9 _ I9 q9) (λw s10 ⟨y,H10,I10,r10,q10⟩=>?_) λ_ _ z=>z.elim));obtain ⟨zs,hz,hl,q10⟩:=q10;refine x5 (x8 (DG (X:=qr X N' scope s3 H3 fp) _ s10 σ8 H10 (.ref D) [y] (.ref D) [w] (λ_ H11=>H11=upd H10 D (.lst (zs++[y]))) I10 rfl (.cons r10 .nil) ⟨D,zs,y,rfl,rfl,hz,hl,rfl⟩) (λ_ s11 ⟨_,H11,I11,_,e11⟩=>?_) λ_ _ z=>z.elim);subst e11;exact x6 (x6 ⟨rfl,again I11 q10⟩)
 exact codeAny_compStart_list loop (T.self X.A 0 _ _ _ tn4 loop)
end
section
variable {K:Frg} {G G':Gp} {H H':Hp}
def qhU {D:Addr} {o:HO} {ws:List V} (hD:H D=some (.lst ws)) {a:Addr} {vs:List V} (h:SqT K H a vs):SqT K (upd H D o) a vs:=by
 rcases h with h|h
 ·refine .inl ?_;rcases h with h|⟨ob,h⟩
  ·have:a≠D:=by intro e;subst e;rw [hD] at h;cases h
   exact .inl (by rw [qz this];exact h)
  ·have:a≠D:=by intro e;subst e;rw [hD] at h;cases h
   exact .inr ⟨ob,by rw [qz this];exact h⟩
 ·exact .inr h
mutual
def Rp.wrD {D:Addr} {o:HO} {ws:List V} (hD:H D=some (.lst ws)):∀ {x:T} {v:V},Rp K H x v->Rp K (upd H D o) x v
 |_,_,.non=>.non
 |_,_,.bl b=>.bl b
 |_,_,.int i=>.int i
 |_,_,.str x=>.str x
 |_,_,.ref a=>.ref a
 |_,_,.tup h hs=>.tup (qhU hD h) (Rps.wrD hD hs)
def Rps.wrD {D:Addr} {o:HO} {ws:List V} (hD:H D=some (.lst ws)):∀ {x:List T} {v:List V},Rps K H x v->Rps K (upd H D o) x v
 |_,_,.nil=>.nil
 |_,_,.cons a b=>.cons (Rp.wrD hD a) (Rps.wrD hD b)
end
def HR.wrD {D:Addr} {o:HO} {ws:List V} (hr:HR K G H) (hD:H D=some (.lst ws)) (g:G D=none):HR K G (upd H D o):=λa ob e=>by
 have ha:a≠D:=by intro z;subst z;rw [g] at e;cases e
 have q:=hr a ob e;cases ob with
 |lst xs=>obtain ⟨vs,h1,h2⟩:=q;exact ⟨vs,by rw [qz ha];exact h1,h2.wrD hD⟩
 |frz xs=>obtain ⟨vs,⟨o1,h1⟩,h2⟩:=q;exact ⟨vs,⟨o1,by rw [qz ha];exact h1⟩,h2.wrD hD⟩
 |dct kvs=>obtain ⟨vs,h1,h2⟩:=q;exact ⟨vs,by rw [qz ha];exact h1,h2.wrD hD⟩
 |exn C=>have h1:H a=some (.ext (IsX a C)):=q;exact (show _=_ by rw [qz ha];exact h1)
 |tab ks xs=>obtain ⟨vs,h1,h2⟩:=q;exact ⟨vs,by rw [qz ha];exact h1,h2.wrD hD⟩
def Rel.wrD {D:Addr} {o:HO} {ws:List V} {τ:St3} {σ:L2.St} (r:Rel K τ G σ H) (hD:H D=some (.lst ws)) (g:G D=none):Rel K τ G σ (upd H D o):=
 ⟨r.hp.wrD hD g,r.len,λi t e=>let ⟨v,h1,h2⟩:=r.st i t e;⟨v,h1,h2.wrD hD⟩⟩
def Kp.wrD {D:Addr} {o:HO} (k:Kp G H G' H') (hD:H D=none):Kp G H G' (upd H' D o):=λa ob h g=>by
 obtain ⟨h1,h2⟩:=k a ob h g;exact ⟨by rw [qz (qG h hD)];exact h1,h2⟩
def qd0 {α:Type} {m:List (Option Nat)} {σ:List (Option α)} {i j:Nat} (h:m[i]?=some (some j)):(cap m σ)[i]?=some ((σ[j]?).join):=by
 unfold cap;rw [getElem?_map,h];rfl
def Rel.cap {τ:St3} {σ:L2.St} (r:Rel K τ G σ H) (m:List (Option Nat)):Rel K (cap m τ) G (L3.cap m σ) H:=by
 refine ⟨r.hp,by simp [L3.cap],λi t e=>?_⟩;obtain ⟨j,e1,e2⟩:=qcr e;obtain ⟨v,h1,h2⟩:=r.st j t e2;exact ⟨v,by rw [qd0 e1,h1];rfl,h2⟩
end
def CL (stay:Gp->Prop) (g:TG3) (tif:TT3) (te:TE3) (q:Q3):List T->List T->St3->Gp->Prop
 |[],ys,_,G=>stay G/\∀ p,G p=none->q (.ref p) (gu G p (.lst ys))
 |x::r,ys,τ,G=>stay G/\g x τ G λτ2 G2=>tif τ2 G2 λk G3=>if k=true then te τ2 G3 λy G4=>ys.length<sizeLine/\CL stay g tif te q r (ys++[y]) τ2 G4 else CL stay g tif te q r ys τ2 G3
def lc3 (wi:TI3) (g:TG3) (tif:TT3) (te:TE3) (m:List (Option Nat)):TE3:=λτ G q=>wi τ G λitems stay G1=>CL stay g tif te q items [] (cap m τ) G1
abbrev F3 (X:Cx) (ifs:List Expr) (t:TT3):Prop:=PF X ifs (lT X.K t)
def tt3:TT3:=λ_ G q=>q true G
def qqb {X:Cx}:F3 X [] tt3:=λpins s σ H Q I ⟨τ,G,q,rl,h,af⟩=>qk5 pins s σ H Q I (af true G h H rl.hp Kp.refl)
def qoO {X:Cx} {c:Expr} {t:TT3} (h:C3 X c t):F3 X [c] t:=qlY h
section
variable {X:Cx}
def qrr {elt tg iter:Expr} {ifs:List Expr} {scope:Scope} {pos:Pos} (N':List Str) (m:List (Option Nat)) {wi:TI3} {g:TG3} {tif:TT3} {te:TE3} (hc:X.calm=true) (hi:I3 X tg iter wi)
  (hg:∀ s H fp,G3 (qr X N' scope s H fp) tg g) (hf:∀ s H fp,F3 (qr X N' scope s H fp) ifs tif) (he:∀ s H fp,E3 (qr X N' scope s H fp) elt te)
  (hsc:qaU X.env.scope scope=true) (hcap:ED X.N N' scope m=true) (hs:∀ x,foldedSetIterable iter X.env x=pure x:=by intro _;rfl) :
  E3 X (.ListComp elt [⟨tg,iter,ifs,0⟩] scope pos) (lc3 wi g tif te m):=
 WU (qp6 (g:=lG X.K g) (tif:=lT X.K tif) (te:=lE X.K te) hc hi hg hf he hsc hcap hs) λσ H Q ⟨τ,G,q,rl,h,af⟩=>by
  refine ⟨τ,G,_,rl,h,λitems stay G1 h1 J H1 hr1 k1 ok D hD=>?_⟩;have gD:G1 D=none:=hr1.free hD;refine ⟨λi n σ' H'=>n=items.length-i/\i<=items.length/\∃ τ' G' ys vs,Rel X.K τ' G' σ' H'/\Kp G1 H1 G' H'/\H' D=some (.lst vs)/\Rps X.K H' ys vs/\G' D=none/\CL stay g tif te q (items.drop i) ys τ' G',
   ⟨_,rfl,Nat.zero_le _,cap m τ,G1,[],[],((rl.next hr1 k1).cap m).next (hr1.laid hD) (Kp.laid hD),Kp.laid hD,ze,.nil,gD,by simpa using h1⟩,?_⟩
  rintro i n σ' H' ⟨rfl,hi,τ',G',ys,vs,rl',k',hDl,rys,gD',h'⟩;by_cases hlt:i<items.length
  ·rw [List.drop_eq_getElem_cons hlt] at h';obtain ⟨hst,h'⟩:=h';obtain ⟨go,yld,_⟩:=ok G' H' rl'.hp k' hst;have hx:items[i]?=some items[i]:=y9 hlt;refine .inr ⟨go i _ hx,λv H2 y=>?_⟩;obtain ⟨rv,hr2,k2⟩:=yld i _ v H2 hx y;have nxt:∀ {τ4:St3} {G4:Gp} {σ4:L2.St} {H4:Hp} {ys4:List T} {vs4:List V},Rel X.K τ4 G4 σ4 H4->Kp G1 H1 G4 H4->H4 D=some (.lst vs4)->Rps X.K H4 ys4 vs4->G4 D=none->CL stay g tif te q (items.drop (i+1)) ys4 τ4 G4 ->
     ∃ n',n'<items.length-i/\(n'=items.length-(i+1)/\i+1<=items.length/\∃ τ' G' ys vs,Rel X.K τ' G' σ4 H4/\Kp G1 H1 G' H4/\H4 D=some (.lst vs)/\Rps X.K H4 ys vs/\G' D=none/\CL stay g tif te q (items.drop (i+1)) ys τ' G'):=
    λ{τ4 G4 σ4 H4 ys4 vs4} a b c d e f=>⟨_,by omega,rfl,hlt,τ4,G4,ys4,vs4,a,b,c,d,e,f⟩
   refine ⟨_,τ',G',_,rv,rl'.next hr2 k2,h',λτ3 G3 h3 σ3 H3 rl3 k3=>⟨τ3,G3,_,rl3,h3,λk G4 h4 H4 hr4 k4=>?_⟩⟩;have kk:=(k2.trans k3).trans k4;obtain ⟨hD4,gD4⟩:=kk D _ hDl gD';have rys4:=rys.keep rl'.hp kk;cases k with
   |false=>
    rw [if_neg y6] at h4;refine qn1 ?_;exact nxt (rl3.next hr4 k4) (k'.trans kk) hD4 rys4 gD4 h4
   |true=>
    rw [if_pos rfl] at h4;refine qnO ?_;refine ⟨τ3,G4,_,rl3.next hr4 k4,h4,λz G5 h5 w H5 rw5 hr5 k5=>?_⟩;obtain ⟨hD5,gD5⟩:=k5 D _ hD4 gD4;have rys5:=rys4.keep hr4 k5;exact ⟨vs,hD5,by rw [← rys.length];exact h5.1,nxt (((rl3.next hr4 k4).next hr5 k5).wrD hD5 gD5) (((k'.trans kk).trans k5).wrD hD) ze ((rys5.append (.cons rw5 .nil)).wrD hD5) gD5 h5.2⟩
  ·have e:i=items.length:=by omega
   subst e;rw [List.drop_length] at h';obtain ⟨_,_,stop⟩:=ok G' H' rl'.hp k' h'.1;refine .inl ⟨stop,af _ _ (h'.2 D gD') _ H' (.ref D) (λa o e=>?_) λa o e ga=>?_⟩
   ·by_cases ha:a=D
    ·subst ha;rw [qv] at e;cases e;exact ⟨vs,hDl,rys⟩
    ·rw [zD ha] at e;exact rl'.hp a o e
   ·obtain ⟨e1,g1⟩:=k1 a o e ga;obtain ⟨e2,g2⟩:=k' a o e1 g1;exact ⟨e2,by rw [zD (qG e1 hD)];exact g2⟩
end
structure Src (P:Program) (w:World) (it c:Addr) (St:Nat->Heap->Prop) (Has:Array Value->Heap->Prop):Prop where
 obj:∀ {k h},St k h->∃ o,h.get? it=some o/\∀ v,o.data≠.cell v
 keep:∀ {k h h'},St k h->(∀ o,h.get? it=some o->h'.get? it=some o)->St k h'
 hkeep:∀ {xs h h'},Has xs h->(∀ o,h.get? c=some o->h'.get? c=some o)->Has xs h'
 item:∀ {A:Around} {s:Shared} {k:Nat} {xs:Array Value} {x:Value} {Q:Value->Shared->Prop} {E:Value->Shared->Prop},St k s.heap->Has xs s.heap->xs[k]?=some x ->
  (∀ h',St (k+1) h'->Heap.SameBut it s.heap h'->Q x { s with heap:=h' })->wpAny (model P w) A (Builtin.SmallTypes.nextOf (.ref it)) Q E s
 done:∀ {A:Around} {s:Shared} {k:Nat} {xs:Array Value} {Q:Value->Shared->Prop} {E:Value->Shared->Prop},A.handled=none->St k s.heap->Has xs s.heap->xs[k]?=none ->
  (∀ h' e,Heap.ExtBut it s.heap h'->(∃ o,h'.get? e=some o/\o.cls=.type "StopIteration")->E (.ref e) { s with heap:=h' })->wpAny (model P w) A (Builtin.SmallTypes.nextOf (.ref it)) Q E s
def qdB {P:Program} {w:World} (it l:Addr):Src P w it l (λk h=>h.IsListIter it l k) (λxs h=>h.IsList l xs) where
 obj:=λst=>let ⟨o,e,_,d⟩:=st;⟨o,e,λv z=>by rw [d] at z;cases z⟩
 keep:=λst k=>st.at λo e=>k o e
 hkeep:=λst k=>st.at λo e=>k o e
 item:=λst hl hx hQ=>wpAny_nextOf_list_item st hl hx hQ
 done:=λhh st hl hx hE=>wpAny_nextOf_list_end hh st hl hx hE
def qas {P:Program} {w:World} {A:Around} {s:Shared} {it t:Addr} {i:Nat} {its:Array Value} {x:Value} {Q:Value->Shared->Prop} {E:Value->Shared->Prop} (hit:s.heap.IsTupleIter it t i) (ht:s.heap.IsTuple t its) (hx:its[i]?=some x)
  (hQ:∀ h',h'.IsTupleIter it t (i+1)->Heap.SameBut it s.heap h'->Q x { s with heap:=h' }):wpAny (model P w) A (Builtin.SmallTypes.nextOf (.ref it)) Q E s:=by
 obtain ⟨o1,e1,c1,d1⟩:=id hit;obtain ⟨o2,e2,_,n2,d2⟩:=ht;unfold Builtin.SmallTypes.nextOf;refine x5 (wpAny_callSpecial?_slot (name:=Str.ofString "__next__") hit.typeIs F.slot_tuple_iterator_next (wpAny_call_entry F.slot_tuple_iterator_next hit.typeIs F.entry_tuple_iterator_next ?_ (F.args_tuple_iterator_next_1 _)));refine x5 (m:=field (.ref it) 0) (wpAny_field e1 d1 (x:=.ref t) rfl ?_);rw [if_neg (show ¬ ((Value.ref t==Value.none)=true) by exact y6)];refine x5 (m:=field (.ref it) 1) (wpAny_field e1 d1 (x:=.int i 0) rfl ?_);refine x5 (m:=seqItems? (.ref t)) (wpAny_seqItems e2 d2 ?_);simp only [Int.toNat_natCast,hx];refine x5 (wpAny_setField e1 d1 (by simp) (x6 ⟨x,rfl,x6 (hQ _ ⟨_,Heap.get?_update_self _ e1 (Obj.isFreed_of_fields (Obj.data_mapFields d1 _)),(Obj.cls_mapFields ..).trans c1,?_⟩ (Heap.SameBut.update ..))⟩));rw [Obj.data_mapFields d1];simp [rawInt]
def C8 {P:Program} {w:World} {A:Around} {s:Shared} {it t:Addr} {i:Nat} {its:Array Value} {Q:Value->Shared->Prop} {E:Value->Shared->Prop} (hh:A.handled=none) (hit:s.heap.IsTupleIter it t i) (ht:s.heap.IsTuple t its) (hx:its[i]?=none)
  (hE:∀ h' e,Heap.ExtBut it s.heap h'->(∃ o,h'.get? e=some o/\o.cls=.type "StopIteration")->E (.ref e) { s with heap:=h' }):wpAny (model P w) A (Builtin.SmallTypes.nextOf (.ref it)) Q E s:=by
 obtain ⟨o1,e1,c1,d1⟩:=id hit;obtain ⟨o2,e2,_,n2,d2⟩:=ht;unfold Builtin.SmallTypes.nextOf;refine x5 (wpAny_callSpecial?_slot (name:=Str.ofString "__next__") hit.typeIs F.slot_tuple_iterator_next (wpAny_call_entry F.slot_tuple_iterator_next hit.typeIs F.entry_tuple_iterator_next ?_ (F.args_tuple_iterator_next_1 _)));refine x5 (m:=field (.ref it) 0) (wpAny_field e1 d1 (x:=.ref t) rfl ?_);rw [if_neg (show ¬ ((Value.ref t==Value.none)=true) by exact y6)];refine x5 (m:=field (.ref it) 1) (wpAny_field e1 d1 (x:=.int i 0) rfl ?_);refine x5 (m:=seqItems? (.ref t)) (wpAny_seqItems e2 d2 ?_);simp only [Int.toNat_natCast,hx];refine x5 (wpAny_rule (x5 (wpAny_setField e1 d1 (by simp) ?_)));refine x5 (m:=newExc (.type "StopIteration") []) ?_;simp only [newExc,newTuple];refine x5 (wpAny_newObj_type ?_ (by size_fits));refine x5 (m:=firstArgMember _ _) (wpAny_of_eq (a:=Value.none) (by first|rfl|(simp only [firstArgMember]<;>rfl)) (wpAny_newObj_type ?_ (by size_fits)));simp only [raiseNew];refine x5 (wpAny_handled ?_)
 first|rw [show A.in1.handled=Option.none from hh]|rw [show A.handled=Option.none from hh]
 exact x5 (x6 (wpAny_throw (hE _ _ (((Heap.SameBut.update ..).extBut.push _).push _) ⟨_,y3 _ rfl,rfl⟩)))
def qh6 {P:Program} {w:World} (it t:Addr):Src P w it t (λk h=>h.IsTupleIter it t k) (λxs h=>h.IsTuple t xs) where
 obj:=λst=>let ⟨o,e,_,d⟩:=st;⟨o,e,λv z=>by rw [d] at z;cases z⟩
 keep:=λst k=>st.at λo e=>k o e
 hkeep:=λst k=>st.at λo e=>k o e
 item:=λst hl hx hQ=>qas st hl hx hQ
 done:=λhh st hl hx hE=>C8 hh st hl hx hE
structure ZA (z ti to i1 i2 c1 c2:Addr):Prop where
 ne:([z,ti,to,i1,i2]:List Addr).Nodup
 a1:c1∉[z,to,i1,i2]
 a2:c2∉[z,to,i1,i2]
section
variable {P:Program} {w:World} {A:Around} {s:Shared} {z ti to i1 i2 c1 c2:Addr} {S1 S2:Nat->Heap->Prop} {H1 H2:Array Value->Heap->Prop} {k1 k2:Nat} {xs ys:Array Value} {x y a b:Value} {E:Value->Shared->Prop}
def qdt {Q:Value->Shared->Prop} (R1:Src P w i1 c1 S1 H1) (R2:Src P w i2 c2 S2 H2) (D:ZA z ti to i1 i2 c1 c2) (hz:IsZip s.heap z ti to .none) (hi:IsPair s.heap ti (.ref i1) (.ref i2)) (ho:IsPair s.heap to a b)
  (p1:S1 k1 s.heap) (p2:S2 k2 s.heap) (l1:H1 xs s.heap) (l2:H2 ys s.heap) (hx:xs[k1]?=some x) (hy:ys[k2]?=some y)
  (hQ:∀ h',IsZip h' z ti to (rawInt s.heap.objs.size)->IsPair h' to x y->S1 (k1+1) h'->S2 (k2+1) h'->IsPair h' s.heap.objs.size x y->(∀ c o,c∉[z,to,i1,i2]->s.heap.get? c=some o->h'.get? c=some o)->Q (.ref s.heap.objs.size) { s with heap:=h' }) :
  wpAny (model P w) A (Builtin.«zip.__next__» ⟨[.ref z],[]⟩) (λfin s'=>∃ v,fin=.done (.ret v)/\Q v s') E s:=by
 have ne:=D.ne;simp only [List.nodup_cons,mem_cons,not_mem_nil,not_or,or_false] at ne;obtain ⟨⟨n1,n2,n3,n4⟩,⟨n5,n6,n7⟩,⟨n8,n9⟩,n10,_⟩:=ne;have a1:=D.a1;have a2:=D.a2;simp only [mem_cons,not_mem_nil,not_or,or_false] at a1 a2;obtain ⟨q1,q2,q3,q4⟩:=a1;obtain ⟨r1,r2,r3,r4⟩:=a2;refine x5 (m:=field (.ref z) 2) (wpAny_field hz rfl (x:=.bool false) rfl ?_);refine x5 (m:=field (.ref z) 3) (wpAny_field hz rfl (x:=.ref ti) rfl ?_);refine x5 (wpAny_seqItems hi rfl ?_);refine x5 (m:=Builtin.SmallTypes.ownedTupleIsFree (.ref z)) ?_;unfold Builtin.SmallTypes.ownedTupleIsFree;refine x5 (wpAny_field hz rfl (x:=Value.none) rfl (x6 ?_));simp only [if_true];refine x5 (wpAny_rule (x5 (wpAny_field hz rfl (x:=.ref to) rfl (x5 (wpAny_setField_rec hz (by simp) λg1 z1 s1=>?_)))))
 replace z1:IsZip g1 z ti to Value.ellipsis:=z1
 refine x5 ?_;simp only [List.zipIdx_cons,List.zipIdx_nil,List.forIn_cons,List.forIn_nil];refine x5 (x5 (wpAny_onRaise (x5 (m:=Builtin.SmallTypes.nextOf (.ref i1)) ?_)));refine R1.item (R1.keep p1 λo e=>s1.extBut _ _ (Ne.symm n3) e) (R1.hkeep l1 λo e=>s1.extBut _ _ q1 e) hx λg2 p12 s2=>x6 ?_;have t2:IsPair g2 to a b:=s2.extBut _ _ n8 (s1.extBut _ _ (Ne.symm n2) ho);refine x5 (wpAny_seqItems t2 rfl (x5 (wpAny_updateSeq_pair t2 λg3 t3 s3=>?_)))
 replace t3:IsPair g3 to x b:=t3
 refine x5 (wpAny_letGo (x6 (x5 (x5 (wpAny_onRaise (x5 (m:=Builtin.SmallTypes.nextOf (.ref i2)) ?_))))));refine R2.item (R2.keep p2 λo e=>s3.extBut _ _ (Ne.symm n9) (s2.extBut _ _ (Ne.symm n10) (s1.extBut _ _ (Ne.symm n4) e))) (R2.hkeep l2 λo e=>s3.extBut _ _ r2 (s2.extBut _ _ r3 (s1.extBut _ _ r1 e))) hy λg4 p24 s4=>x6 ?_;have t4:IsPair g4 to x b:=s4.extBut _ _ n9 t3;refine x5 (wpAny_seqItems t4 rfl (x5 (wpAny_updateSeq_pair t4 λg5 t5 s5=>?_)))
 replace t5:IsPair g5 to x y:=t5
 refine x5 (wpAny_letGo (x6 (x6 (x5 (wpAny_seqItems t5 rfl (x5 (wpAny_newTuple ?_)))))));have sz:g5.objs.size=s.heap.objs.size:=by rw [s5.1,s4.1,s3.1,s2.1,s1.1]
 have z5:IsZip g5 z ti to Value.ellipsis:=s5.extBut _ _ n2 (s4.extBut _ _ n4 (s3.extBut _ _ n2 (s2.extBut _ _ n3 z1)));have kk:∀ c o,c∉[z,to,i1,i2]->s.heap.get? c=some o->g5.get? c=some o:=λc o hc e=>by
  simp only [mem_cons,not_mem_nil,not_or,or_false] at hc;exact s5.extBut _ _ hc.2.1 (s4.extBut _ _ hc.2.2.2 (s3.extBut _ _ hc.2.1 (s2.extBut _ _ hc.2.2.1 (s1.extBut _ _ hc.1 e))))
 have p15:S1 (k1+1) g5:=R1.keep p12 λo e=>s5.extBut _ _ (Ne.symm n8) (s4.extBut _ _ n10 (s3.extBut _ _ (Ne.symm n8) e));have p25:S2 (k2+1) g5:=R2.keep p24 λo e=>s5.extBut _ _ (Ne.symm n9) e;have zlt:z<g5.objs.size:=y4 z5;refine x5 (m:=Builtin.SmallTypes.ownedTupleHandOut (.ref z) (.ref g5.objs.size)) ?_;unfold Builtin.SmallTypes.ownedTupleHandOut;have z6:IsZip (g5.push { cls:=.type "tuple",data:=.seq #[x,y] }) z ti to Value.ellipsis:=x9 _ z5;refine x5 (wpAny_setField_rec z6 (by simp) λg7 z7 s7=>?_)
 replace z7:IsZip g7 z ti to (rawInt g5.objs.size):=z7
 refine wpAny_setField_rec z7 (by simp) λg8 z8 s8=>?_
 replace z8:IsZip g8 z ti to (rawInt g5.objs.size):=z8
 have up:∀ c o,c≠z->g5.get? c=some o->g8.get? c=some o:=λc o hc e=>s8.extBut _ _ hc (s7.extBut _ _ hc (x9 _ e));have t8:IsPair g8 g5.objs.size x y:=s8.extBut _ _ (Nat.ne_of_gt zlt) (s7.extBut _ _ (Nat.ne_of_gt zlt) (y3 _ rfl));rw [sz] at z8 t8;refine x6 ⟨_,rfl,?_⟩;show Q (Value.ref g5.objs.size) _;rw [sz];exact hQ g8 z8 (up _ _ (Ne.symm n2) t5) (R1.keep p15 λo e=>up _ o (Ne.symm n3) e) (R2.keep p25 λo e=>up _ o (Ne.symm n4) e) t8 λc o hc e=>up c o (λq=>hc (by simp [q])) (kk c o hc e)
def qic {Q:Fin->Shared->Prop} (hh:A.handled=none) (R1:Src P w i1 c1 S1 H1) (R2:Src P w i2 c2 S2 H2) (D:ZA z ti to i1 i2 c1 c2) (hz:IsZip s.heap z ti to .none) (hi:IsPair s.heap ti (.ref i1) (.ref i2)) (ho:IsPair s.heap to a b)
  (p1:S1 k1 s.heap) (p2:S2 k2 s.heap) (l1:H1 xs s.heap) (l2:H2 ys s.heap) (hend:xs[k1]?=none\/ys[k2]?=none)
  (hE:∀ h' e,(∀ c o,c∉[z,to,i1,i2]->s.heap.get? c=some o->h'.get? c=some o)->(∃ o,h'.get? e=some o/\o.cls=.type "StopIteration")->E (.ref e) { s with heap:=h' }) :
  wpAny (model P w) A (Builtin.«zip.__next__» ⟨[.ref z],[]⟩) Q E s:=by
 have ne:=D.ne;simp only [List.nodup_cons,mem_cons,not_mem_nil,not_or,or_false] at ne;obtain ⟨⟨n1,n2,n3,n4⟩,⟨n5,n6,n7⟩,⟨n8,n9⟩,n10,_⟩:=ne;have a1:=D.a1;have a2:=D.a2;simp only [mem_cons,not_mem_nil,not_or,or_false] at a1 a2;obtain ⟨q1,q2,q3,q4⟩:=a1;obtain ⟨r1,r2,r3,r4⟩:=a2;refine x5 (m:=field (.ref z) 2) (wpAny_field hz rfl (x:=.bool false) rfl ?_);refine x5 (m:=field (.ref z) 3) (wpAny_field hz rfl (x:=.ref ti) rfl ?_);refine x5 (wpAny_seqItems hi rfl ?_);refine x5 (m:=Builtin.SmallTypes.ownedTupleIsFree (.ref z)) ?_;unfold Builtin.SmallTypes.ownedTupleIsFree;refine x5 (wpAny_field hz rfl (x:=Value.none) rfl (x6 ?_));simp only [if_true];refine x5 (wpAny_rule (x5 (wpAny_field hz rfl (x:=.ref to) rfl (x5 (wpAny_setField_rec hz (by simp) λg1 z1 s1=>?_)))))
 replace z1:IsZip g1 z ti to Value.ellipsis:=z1
 refine x5 ?_;simp only [List.zipIdx_cons,List.zipIdx_nil,List.forIn_cons,List.forIn_nil];refine x5 (x5 (wpAny_onRaise (x5 (m:=Builtin.SmallTypes.nextOf (.ref i1)) ?_)));cases hx:xs[k1]? with
 |none=>
  refine R1.done hh (R1.keep p1 λo e=>s1.extBut _ _ (Ne.symm n3) e) (R1.hkeep l1 λo e=>s1.extBut _ _ q1 e) hx λg2 e s2 ⟨oe,he,ce⟩=>?_;have z2:IsZip g2 z ti to Value.ellipsis:=s2 _ _ n3 z1;have ez:e≠z:=λq=>by subst q;rw [z2] at he;cases he;simp at ce
  refine wpAny_setField_rec z2 (by simp) λg3 _ s3=>hE g3 e (λc o hc q=>?_) ⟨oe,s3.extBut _ _ ez he,ce⟩;simp only [mem_cons,not_mem_nil,not_or,or_false] at hc;exact s3.extBut _ _ hc.1 (s2 _ _ hc.2.2.1 (s1.extBut _ _ hc.1 q))
 |some x=>
  have hy:ys[k2]?=none:=by rcases hend with q|q;rw [hx] at q;cases q;exact q
  refine R1.item (R1.keep p1 λo e=>s1.extBut _ _ (Ne.symm n3) e) (R1.hkeep l1 λo e=>s1.extBut _ _ q1 e) hx λg2 p12 s2=>x6 ?_;have t2:IsPair g2 to a b:=s2.extBut _ _ n8 (s1.extBut _ _ (Ne.symm n2) ho);refine x5 (wpAny_seqItems t2 rfl (x5 (wpAny_updateSeq_pair t2 λg3 t3 s3=>?_)));refine x5 (wpAny_letGo (x6 (x5 (x5 (wpAny_onRaise (x5 (m:=Builtin.SmallTypes.nextOf (.ref i2)) ?_))))));refine R2.done hh (R2.keep p2 λo e=>s3.extBut _ _ (Ne.symm n9) (s2.extBut _ _ (Ne.symm n10) (s1.extBut _ _ (Ne.symm n4) e))) (R2.hkeep l2 λo e=>s3.extBut _ _ r2 (s2.extBut _ _ r3 (s1.extBut _ _ r1 e))) hy λg4 e s4 ⟨oe,he,ce⟩=>?_;have z4:IsZip g4 z ti to Value.ellipsis:=s4 _ _ n4 (s3.extBut _ _ n2 (s2.extBut _ _ n3 z1));have ez:e≠z:=λq=>by subst q;rw [z4] at he;cases he;simp at ce
  refine wpAny_setField_rec z4 (by simp) λg5 _ s5=>hE g5 e (λc o hc q=>?_) ⟨oe,s5.extBut _ _ ez he,ce⟩;simp only [mem_cons,not_mem_nil,not_or,or_false] at hc;exact s5.extBut _ _ hc.1 (s4 _ _ hc.2.2.2 (s3.extBut _ _ hc.2.1 (s2.extBut _ _ hc.2.2.1 (s1.extBut _ _ hc.1 q))))
end
abbrev qof (b:Bool):String:=if b then "list_iterator" else "tuple_iterator"
abbrev jb (b:Bool) (c:Addr):Obj:={ cls:=.type (qof b),data:=.fields #[.ref c,.int 0 0] }
def qc8 (b:Bool) (it c:Addr) (k:Nat) (h:Heap):Prop:=match b with|true=>h.IsListIter it c k|false=>h.IsTupleIter it c k
def LW (b:Bool) (c:Addr) (xs:Array Value) (h:Heap):Prop:=match b with|true=>h.IsList c xs|false=>h.IsTuple c xs
def je {P:Program} {w:World} (b:Bool) (it c:Addr):Src P w it c (qc8 b it c) (LW b c):=by
 cases b
 ·exact qh6 it c
 ·exact qdB it c
def M0 {P:Program} {w:World} {A:Around} {s:Shared} {b:Bool} {c:Addr} {xs:Array Value} {Q:Value->Shared->Prop} {E:Value->Shared->Prop} (h:LW b c xs s.heap) (q:Q (.ref s.heap.objs.size) { s with heap:=s.heap.push (jb b c) }) :
  wpAny (model P w) A (pyIter (.ref c)) Q E s:=by
 cases b
 ·exact wpAny_pyIter_tuple (show s.heap.IsTuple c xs from h) q
 ·exact wpAny_pyIter_list (show s.heap.IsList c xs from h) q
def qbC {b:Bool} {c:Addr} {xs:Array Value} {h:Heap} {o:Obj} (q:LW b c xs h):LW b c xs (h.push o):=by
 cases b
 ·exact (show h.IsTuple c xs from q).at λ_ e=>x9 _ e
 ·exact (show h.IsList c xs from q).at λ_ e=>x9 _ e
abbrev zh1 (h:Heap) (o1:Obj):Heap:=h.push o1
abbrev zh2 (h:Heap) (o1 o2:Obj):Heap:=(zh1 h o1).push o2
abbrev zh3 (h:Heap) (o1 o2:Obj):Heap:=(zh2 h o1 o2).push { cls:=.type "tuple",data:=.seq #[.ref h.objs.size,.ref (zh1 h o1).objs.size] }
abbrev zh4 (h:Heap) (o1 o2:Obj):Heap:=(zh3 h o1 o2).push { cls:=.type "tuple",data:=.seq #[.none,.none] }
abbrev zh5 (h:Heap) (o1 o2:Obj):Heap:=(zh4 h o1 o2).push { cls:=.type "zip",data:=.fields #[.none,.bool false,.bool false,.ref (zh2 h o1 o2).objs.size,.ref (zh3 h o1 o2).objs.size] }
def qcw (c1 c2:Addr) (o1 o2:Obj) :
  Meets (Builtin.«zip.__new__» ⟨[.type "zip",.ref c1,.ref c2],[]⟩) (λ_ R s=>
   (∀ (P:Program) (w:World) (A:Around) (Q:Value->Shared->Prop) (E:Value->Shared->Prop),Q (.ref s.heap.objs.size) { s with heap:=zh1 s.heap o1 }->wpAny (model P w) A (pyIter (.ref c1)) Q E s) /\
   (∀ (P:Program) (w:World) (A:Around) (Q:Value->Shared->Prop) (E:Value->Shared->Prop),Q (.ref (zh1 s.heap o1).objs.size) { s with heap:=zh2 s.heap o1 o2 }->wpAny (model P w) A (pyIter (.ref c2)) Q E { s with heap:=zh1 s.heap o1 }) /\
   R (.ok (.ret (.ref (zh4 s.heap o1 o2).objs.size))) { s with heap:=zh5 s.heap o1 o2 }):=
 .of_wp λprog w A R s h=>by
  obtain ⟨hp,g,d,tk,os⟩:=s;obtain ⟨h1,h2,h⟩:=h;have hsub:=sub_zip;have k1:=λA Q E=>h1 prog w A Q E;have k2:=λA Q E=>h2 prog w A Q E
  wp_walk using k1 _ _ _,k2 _ _ _
  exact ⟨_,rfl,h⟩
def qd4 (b1 b2:Bool) (z ti to i1 i2 c1 c2:Addr) (k:Nat) (h:Heap):Prop:=
 IsZip h z ti to .none/\IsPair h ti (.ref i1) (.ref i2)/\(∃ a b,IsPair h to a b)/\qc8 b1 i1 c1 k h/\qc8 b2 i2 c2 k h
section
variable {P:Program} {w:World} {A:Around} {s:Shared} {E:Value->Shared->Prop}
def qde {b1 b2:Bool} {c1 c2:Addr} {xs ys:Array Value} {Q:Value->Shared->Prop} (h1:LW b1 c1 xs s.heap) (h2:LW b2 c2 ys s.heap)
  (q:∀ h',qd4 b1 b2 (s.heap.objs.size+4) (s.heap.objs.size+2) (s.heap.objs.size+3) s.heap.objs.size (s.heap.objs.size+1) c1 c2 0 h'->(∀ c o,s.heap.get? c=some o->h'.get? c=some o)->Q (.ref (s.heap.objs.size+4)) { s with heap:=h' }) :
  wpAny (model P w) A (call (.type "zip") [.ref c1,.ref c2]) Q E s:=by
 refine callType_new F.called_zip (by decide) (F.typeCall_zip_2 _ _) (F.newCall_zip_2 _ _) (λobj=>F.args_object_init_3 obj _ _) F.entry_zip_new
  (qcw c1 c2 (jb b1 c1) (jb b2 c2)) ⟨λP w A Q E q=>M0 h1 q,λP w A Q E q=>M0 (s:={ s with heap:=zh1 s.heap (jb b1 c1) }) (qbC h2) q,?_⟩
 have e1:(zh1 s.heap (jb b1 c1)).objs.size=s.heap.objs.size+1:=Heap.size_push ..;have e2:(zh2 s.heap (jb b1 c1) (jb b2 c2)).objs.size=s.heap.objs.size+2:=by rw [Heap.size_push,e1]
 have e3:(zh3 s.heap (jb b1 c1) (jb b2 c2)).objs.size=s.heap.objs.size+3:=by rw [Heap.size_push,e2]
 have e4:(zh4 s.heap (jb b1 c1) (jb b2 c2)).objs.size=s.heap.objs.size+4:=by rw [Heap.size_push,e3]
 have g5:(zh5 s.heap (jb b1 c1) (jb b2 c2)).get? (zh4 s.heap (jb b1 c1) (jb b2 c2)).objs.size=some _:=y3 _ rfl;have g4:(zh5 s.heap (jb b1 c1) (jb b2 c2)).get? (zh3 s.heap (jb b1 c1) (jb b2 c2)).objs.size=some _:=x9 _ (y3 _ rfl);have g3:(zh5 s.heap (jb b1 c1) (jb b2 c2)).get? (zh2 s.heap (jb b1 c1) (jb b2 c2)).objs.size=some _:=x9 _ (x9 _ (y3 _ rfl));have g2:(zh5 s.heap (jb b1 c1) (jb b2 c2)).get? (zh1 s.heap (jb b1 c1)).objs.size=some (jb b2 c2):=x9 _ (x9 _ (x9 _ (y3 _ rfl)));have g1:(zh5 s.heap (jb b1 c1) (jb b2 c2)).get? s.heap.objs.size=some (jb b1 c1):=x9 _ (x9 _ (x9 _ (x9 _ (y3 _ rfl))));show _/\_;rw [e2,e3,e4] at g5;rw [e1,e2] at g3;rw [e3] at g4;rw [e1] at g2;rw [e4];refine ⟨⟨_,g5,rfl⟩,q _ ⟨g5,g3,⟨_,_,g4⟩,?_,?_⟩ λc o e=>x9 _ (x9 _ (x9 _ (x9 _ (x9 _ e))))⟩
 ·cases b1<;>exact ⟨_,g1,rfl,rfl⟩
 ·cases b2<;>exact ⟨_,g2,rfl,rfl⟩
def qdK {b1 b2:Bool} {z ti to i1 i2 c1 c2:Addr} {k:Nat} {xs ys:Array Value} {x y:Value} {Q:Option Value->Shared->Prop} (D:ZA z ti to i1 i2 c1 c2) (st:qd4 b1 b2 z ti to i1 i2 c1 c2 k s.heap) (l1:LW b1 c1 xs s.heap) (l2:LW b2 c2 ys s.heap) (hx:xs[k]?=some x) (hy:ys[k]?=some y)
  (hQ:∀ h',IsZip h' z ti to (rawInt s.heap.objs.size)->IsPair h' ti (.ref i1) (.ref i2)->(∃ a b,IsPair h' to a b)->qc8 b1 i1 c1 (k+1) h'->qc8 b2 i2 c2 (k+1) h'->IsPair h' s.heap.objs.size x y->(∀ c o,c∉[z,to,i1,i2]->s.heap.get? c=some o->h'.get? c=some o)->Q (some (.ref s.heap.objs.size)) { s with heap:=h' }) :
  wpAny (model P w) A (pyNext (.ref z)) Q E s:=by
 obtain ⟨hz,hi,⟨a,b,ho⟩,p1,p2⟩:=st;have ty:s.TypeIs (.ref z) "zip" := ⟨_,hz,rfl⟩
 have nti:ti∉[z,to,i1,i2]:=by
  have ne:=D.ne;simp only [List.nodup_cons,mem_cons,not_mem_nil,not_or,or_false] at ne ⊢;exact ⟨Ne.symm ne.1.1,ne.2.1.1,ne.2.1.2.1,ne.2.1.2.2⟩
 unfold pyNext;exact x5 (wpAny_attempt (wpAny_callSpecial?_slot (name:=Str.ofString "__next__") ty F.slot_zip_next (wpAny_call_entry F.slot_zip_next ty F.entry_zip_next
  (qdt (je b1 i1 c1) (je b2 i2 c2) D hz hi ho p1 p2 l1 l2 hx hy λh' u1 u2 u3 u4 u5 u6=>x6 (hQ h' u1 (u6 _ _ nti hi) ⟨_,_,u2⟩ u3 u4 u5 u6)) (F.args_zip_next_1 _))))
def K7 {b1 b2:Bool} {z ti to i1 i2 c1 c2:Addr} {k:Nat} {xs ys:Array Value} {Q:Option Value->Shared->Prop} (hh:A.handled=none) (D:ZA z ti to i1 i2 c1 c2) (st:qd4 b1 b2 z ti to i1 i2 c1 c2 k s.heap) (l1:LW b1 c1 xs s.heap) (l2:LW b2 c2 ys s.heap) (hend:xs[k]?=none\/ys[k]?=none)
  (hQ:∀ h',(∀ c o,c∉[z,to,i1,i2]->s.heap.get? c=some o->h'.get? c=some o)->Q none { s with heap:=h' }):wpAny (model P w) A (pyNext (.ref z)) Q E s:=by
 obtain ⟨hz,hi,⟨a,b,ho⟩,p1,p2⟩:=st;have ty:s.TypeIs (.ref z) "zip" := ⟨_,hz,rfl⟩
 unfold pyNext;refine x5 (wpAny_attempt (wpAny_callSpecial?_slot (name:=Str.ofString "__next__") ty F.slot_zip_next (wpAny_call_entry F.slot_zip_next ty F.entry_zip_next
  (qic hh (je b1 i1 c1) (je b2 i2 c2) D hz hi ho p1 p2 l1 l2 hend λh' e hk ⟨o,q1,q2⟩=>?_) (F.args_zip_next_1 _))))
 exact x5 (wpAny_isInstance (T:="StopIteration") (b:=true) ⟨o,q1,q2⟩ isSubtype_stop (x6 (hQ _ hk)))
end
def SqB (K:Frg) (b:Bool) (H:Hp) (a:Addr) (xs:List V):Prop:=match b with|true=>SqL K H a xs|false=>SqT K H a xs
def SqB.get {X:Cx} {pins:List (Addr×Obj)} {σ:L2.St} {H:Hp} {s:Shared} {b:Bool} {a:Addr} {xs:List V} (I:Inv X pins σ H s) (h:SqB X.K b H a xs):∃ its:List Value,jj xs its/\LW b a its.toArray s.heap/\xs.length<=sizeLine:=by
 cases b
 ·obtain ⟨its,r,p,hz⟩:=I.tuple (show SqT X.K H a xs from h);exact ⟨its,r,(show s.heap.IsTuple a its.toArray from p),hz⟩
 ·obtain ⟨its,r,p,hz⟩:=I.list (show SqL X.K H a xs from h);exact ⟨its,r,p.isList,hz⟩
def SqB.inj {X:Cx} {pins:List (Addr×Obj)} {σ:L2.St} {H:Hp} {s:Shared} {b:Bool} {a:Addr} {xs ys:List V} (I:Inv X pins σ H s) (h:SqB X.K b H a xs) (h':SqB X.K b H a ys):xs=ys:=by
 cases b
 ·exact I.tuple_inj h h'
 ·exact I.list_inj h h'
def Itz (K:Frg) (b1 b2:Bool) (c1 c2:Addr):It:=
  ⟨λi H=>∃ xs ys x y,SqB K b1 H c1 xs/\SqB K b2 H c2 ys/\xs[i]?=some x/\ys[i]?=some y,
   λi H v H'=>∃ p x y,H p=none/\v=.ref p/\H'=upd H p (.tup [x,y])/\(∀ xs,SqB K b1 H c1 xs->xs[i]?=some x)/\(∀ ys,SqB K b2 H c2 ys->ys[i]?=some y),
   λi H=>∃ xs ys,SqB K b1 H c1 xs/\SqB K b2 H c2 ys/\(xs.length<=i\/ys.length<=i)⟩
def qha {b:Bool} {c:Addr} {xs:Array Value} {h:Heap} (q:LW b c xs h):c<h.objs.size:=by
 cases b
 ·obtain ⟨o,e,_⟩:=(show h.IsTuple c xs from q);exact y4 e
 ·obtain ⟨o,e,_⟩:=(show h.IsList c xs from q);exact y4 e
def qd7 {P:Program} {w:World} {K:Frg} {es:List Expr} {k1:Nat} {pt:Pos} {b1 b2:Bool} {z ti to i1 i2 c1 c2:Addr} (D:ZA z ti to i1 i2 c1 c2):Turn P w K (.Tuple es k1 pt) (Itz K b1 b2 c1 c2) [z,ti,to,i1,i2] z (qd4 b1 b2 z ti to i1 i2 c1 c2) where
 mem:=by simp
 obj:=λi h ⟨hz,hi,⟨a,b,ho⟩,p1,p2⟩ c hc=>by
  simp only [mem_cons,not_mem_nil,or_false] at hc;rcases hc with rfl|rfl|rfl|rfl|rfl
  ·exact ⟨_,hz,λv q=>by cases q⟩
  ·exact ⟨_,hi,λv q=>by cases q⟩
  ·exact ⟨_,ho,λv q=>by cases q⟩
  ·exact (je (P:=P) (w:=w) b1 c c1).obj p1
  ·exact (je (P:=P) (w:=w) b2 c c2).obj p2
 keep:=λi h h' ⟨hz,hi,⟨a,b,ho⟩,p1,p2⟩ k=>
  ⟨k z (by simp) _ hz,k ti (by simp) _ hi,⟨a,b,k to (by simp) _ ho⟩,(je (P:=P) (w:=w) b1 i1 c1).keep p1 λo e=>k i1 (by simp) o e,(je (P:=P) (w:=w) b2 i2 c2).keep p2 λo e=>k i2 (by simp) o e⟩
 item:=by
  intro X hP hw hK hc i pins s σ H E I hf st hg;subst hP hw hK;obtain ⟨xs,ys,x,y,sq1,sq2,hx,hy⟩:=hg;obtain ⟨its1,rv1,l1,z1⟩:=sq1.get I;obtain ⟨its2,rv2,l2,z2⟩:=sq2.get I;obtain ⟨u1,hu1,ru1⟩:=rv1.get hx;obtain ⟨u2,hu2,ru2⟩:=rv2.get hy;refine qdK D st l1 l2 (x:=u1) (y:=u2) (by simpa using hu1) (by simpa using hu2) λh' hz hi ho p1 p2 hp hk=>?_;have hfr:H s.heap.objs.size=none:=I.fresh;have free:∀ b∈[z,ti,to,i1,i2],H b=none:=λb hb=>(hf b hb).1;refine ⟨_,rfl,wpAny_letOwnedTupleGo_zip hz λh2 hz2 s2=>?_⟩;have zlt:z<s.heap.objs.size:=y4 st.1;have hp2:IsPair h2 s.heap.objs.size u1 u2:=(s2.2 _ (Nat.ne_of_gt zlt)).trans hp;have ne:=D.ne;simp only [List.nodup_cons,mem_cons,not_mem_nil,not_or,or_false] at ne;have up:∀ c o,c≠z->h'.get? c=some o->h2.get? c=some o:=λc o hc e=>(s2.2 c hc).trans e;have kk:∀ c o,c∉[z,to,i1,i2]->s.heap.get? c=some o->h2.get? c=some o:=λc o hc e=>up c o (λq=>hc (by simp [q])) (hk c o hc e);have I3:Inv X pins σ (upd H s.heap.objs.size (.tup [x,y])) { s with heap:=h2 }:=by
   refine I.step (g':=s.gens) (d':=s.drawn) (t':=s.toks) (ch:=[z,to,i1,i2]) (λb hb=>?_) (λb o _ _ hcb e _=>kk b o hcb e) (λb o _ _ hcb e _=>⟨o.slots,kk b o hcb e⟩) (λb o _ e n=>by rw [qz (u7 (y4 e))];exact n) (λb o hcb e=>⟨o,kk b o hcb e⟩)
    (λb _ e=>by rw [qz (qG e hfr)];exact e) (λb _ _ e=>by rw [qz (qG e hfr)];exact e) (λb ps e=>⟨#[],by rw [qz (qG e hfr),e];simp⟩) (λm hm=>?_) (λb u e=>?_) I.bare
   ·obtain ⟨f0,f1,f2,f3,f4,f5⟩:=hf b (by simp only [mem_cons,not_mem_nil,or_false] at hb ⊢;rcases hb with q|q|q|q<;>simp [q]);exact ⟨f3,f1,f4,f5⟩
   ·obtain ⟨o,es',ep,ho',r⟩:=hm;refine ⟨o,es',ep,kk _ o (λq=>?_) ho',r⟩;obtain ⟨f0,f1,_⟩:=hf X.env.locals (by simp only [mem_cons,not_mem_nil,or_false] at q ⊢;rcases q with q|q|q|q<;>simp [q]);exact f1 rfl
   ·by_cases hb:b=s.heap.objs.size
    ·subst hb;rw [ze] at e;cases e;exact ⟨by show 2<=sizeLine;decide,[u1,u2],.cons ru1 (.cons ru2 .nil),⟨_,hp2,rfl,_,rfl,rfl⟩⟩
    ·rw [qz hb] at e;refine (I.hok b u e).stay (λc v hcb q=>kk c v (λm=>?_) q) (λ_ q=>by rw [qz (qG q hfr)];exact q) λ_ _ q=>by rw [qz (qG q hfr)];exact q
     have hn:=free c (by simp only [mem_cons,not_mem_nil,or_false] at m ⊢;rcases m with q|q|q|q<;>simp [q]);rcases hcb with q|q
     ·rw [q] at hn;rw [hn] at e;cases e
     ·rw [hn] at q;cases q
  refine ⟨.ref s.heap.objs.size,_,I3,rfl,⟨_,x,y,hfr,rfl,rfl,λzs q=>by rw [q.inj I sq1];exact hx,λzs q=>by rw [q.inj I sq2];exact hy⟩,⟨hz2,up _ _ (Ne.symm ne.1.1) hi,let ⟨a,b,q⟩:=ho;⟨a,b,up _ _ (Ne.symm ne.1.2.1) q⟩,(je (P:=X.prog) (w:=X.w) b1 i1 c1).keep p1 λo e=>up _ o (Ne.symm ne.1.2.2.1) e,(je (P:=X.prog) (w:=X.w) b2 i2 c2).keep p2 λo e=>up _ o (Ne.symm ne.1.2.2.2) e⟩,λb hb=>?_⟩;rw [qz (λq=>?_)]
  ·exact free b hb
  ·subst q;obtain ⟨hz0,hi0,⟨a0,b0,ho0⟩,q1,q2⟩:=st;simp only [mem_cons,not_mem_nil,or_false] at hb;rcases hb with q|q|q|q|q
   ·exact absurd q (Nat.ne_of_gt zlt)
   ·exact absurd q (Nat.ne_of_gt (y4 hi0))
   ·exact absurd q (Nat.ne_of_gt (y4 ho0))
   ·obtain ⟨o,e,_⟩:=(je (P:=X.prog) (w:=X.w) b1 i1 c1).obj q1;exact absurd q (Nat.ne_of_gt (y4 e))
   ·obtain ⟨o,e,_⟩:=(je (P:=X.prog) (w:=X.w) b2 i2 c2).obj q2;exact absurd q (Nat.ne_of_gt (y4 e))
 done:=by
  intro X hP hw hK hc i pins s σ H E I hf st hg;subst hP hw hK;obtain ⟨xs,ys,sq1,sq2,hend⟩:=hg;obtain ⟨its1,rv1,l1,z1⟩:=sq1.get I;obtain ⟨its2,rv2,l2,z2⟩:=sq2.get I;have e1:=rv1.length;have e2:=rv2.length;refine K7 (I.ok.hd hc) D st l1 l2 (by rcases hend with q|q;exact .inl (by simp;omega);exact .inr (by simp;omega)) λh' hk=>⟨rfl,?_⟩
  have free:∀ b∈[z,ti,to,i1,i2],H b=none:=λb hb=>(hf b hb).1;refine I.step (g':=s.gens) (d':=s.drawn) (t':=s.toks) (ch:=[z,to,i1,i2]) (λb hb=>?_) (λb o _ _ hcb e _=>hk b o hcb e) (λb o _ _ hcb e _=>⟨o.slots,hk b o hcb e⟩) (λ_ _ _ _ n=>n) (λb o hcb e=>⟨o,hk b o hcb e⟩) (λ_ _ e=>e) (λ_ _ _ e=>e) (λb ps e=>⟨#[],by rw [e];simp⟩) (λm hm=>?_) (λb u e=>?_) I.bare
  ·obtain ⟨f0,f1,f2,f3,f4,f5⟩:=hf b (by simp only [mem_cons,not_mem_nil,or_false] at hb ⊢;rcases hb with q|q|q|q<;>simp [q]);exact ⟨f3,f1,f4,f5⟩
  ·obtain ⟨o,es',ep,ho',r⟩:=hm;refine ⟨o,es',ep,hk _ o (λq=>?_) ho',r⟩;obtain ⟨f0,f1,_⟩:=hf X.env.locals (by simp only [mem_cons,not_mem_nil,or_false] at q ⊢;rcases q with q|q|q|q<;>simp [q]);exact f1 rfl
  ·refine (I.hok b u e).stay (λc v hcb q=>hk c v (λm=>?_) q) (λ_ q=>q) λ_ _ q=>q;have hn:=free c (by simp only [mem_cons,not_mem_nil,or_false] at m ⊢;rcases m with q|q|q|q<;>simp [q]);rcases hcb with q|q
   ·rw [q] at hn;rw [hn] at e;cases e
   ·rw [hn] at q;cases q
 self:=λA i s Q E st h=>wpAny_pyIter_zip st.1 h
def qjN {n c1 c2:Addr} (h1:c1<n) (h2:c2<n):ZA (n+4) (n+2) (n+3) n (n+1) c1 c2:=by
 have k:∀ n c:Nat,c<n->c≠n+4/\c≠n+3/\c≠n/\c≠n+1:=λn c h=>by omega
 have d:∀ n:Nat,(([n+4,n+2,n+3,n,n+1]:List Nat)).Nodup:=λn=>by
  simp only [List.nodup_cons,mem_cons,not_mem_nil,not_or,or_false,List.nodup_nil,and_true,not_false_eq_true];omega
 refine ⟨d n,?_,?_⟩
 ·simp only [mem_cons,not_mem_nil,not_or,or_false];exact k n c1 h1
 ·simp only [mem_cons,not_mem_nil,not_or,or_false];exact k n c2 h2
section
variable {X:Cx} {a b e l:Expr} {es:List Expr} {pos:Pos}
def qiJ {p pt:Pos} {k1:Nat} {ta:TA} (hg:Gl X "zip") (hm:X.mg "zip" = none) (ha:PA X [a,b] ta) (hs:starEach [a,b] X.env=[(false,eval a X.env),(false,eval b X.env)]:=by rfl) (hs2:starEach [b] X.env=[(false,eval b X.env)]:=by rfl) :
  PI X (.Tuple es k1 pt) (.Call (.Name "zip" p) [a,b] [] pos) (λσ H R=>ta σ H λvs H1=>∃ b1 b2 c1 c2 xs ys,vs=[.ref c1,.ref c2]/\SqB X.K b1 H1 c1 xs/\SqB X.K b2 H1 c2 ys/\R (Itz X.K b1 b2 c1 c2) H1):=by
 intro pins s σ H R I h;refine Call_ (CK I hg hm PyProof.Rows.boot_zip (PyProof.Rows.callWith_type1 (thn (ha pos pins s σ H _ I h) λus s1 ⟨vs,H1,I1,r1,q1⟩=>?_) (by rw [hs,hs2]) (by rw [hs2];rfl)));obtain ⟨b1,b2,c1,c2,xs,ys,rfl,sq1,sq2,q⟩:=q1;obtain ⟨u1,u2,rfl,e1,e2⟩:=LY r1;cases (show u1=Value.ref c1 from e1);cases (show u2=Value.ref c2 from e2);obtain ⟨its1,rv1,l1,z1⟩:=sq1.get I1;obtain ⟨its2,rv2,l2,z2⟩:=sq2.get I1;refine qde l1 l2 λh' st hk=>wpAny_pyIter_zip st.1 ?_;refine ⟨s1.heap.objs.size+4,[s1.heap.objs.size+4,s1.heap.objs.size+2,s1.heap.objs.size+3,s1.heap.objs.size,s1.heap.objs.size+1],_,_,H1,rfl,I1.kept (t':=s1.toks) hk,qd7 (qjN (qha l1) (qha l2)),st,λc hc=>?_,q⟩;have hle:s1.heap.objs.size<=c:=by
  simp only [mem_cons,not_mem_nil,or_false] at hc;rcases hc with rfl|rfl|rfl|rfl|rfl<;>first|exact v4 _|exact Nat.le_add_right _ _
 exact I1.fpOk hle (I1.hok.fresh hle)
end
def jP (G:Gp):T->Option (List T)
 |.tup xs=>some xs
 |.ref p=>getL G p
 |_=>none
def qc0 {K:Frg} {G0:Gp} {H0:Hp} {x:T} {v:V} {us:List T} (hr0:HR K G0 H0) (rx:Rp K H0 x v) (h:jP G0 x=some us) :
  ∃ b c,v=.ref c/\∀ G H,HR K G H->Kp G0 H0 G H->jP G x=some us->∃ vs,SqB K b H c vs/\Rps K H us vs:=by
 cases rx with
 |tup hs rs=>
  cases h;exact ⟨false,_,rfl,λG H hr k _=>⟨_,(R9 hr0 k hs:SqT K H _ _),rs.keep hr0 k⟩⟩
 |ref a=>exact ⟨true,a,rfl,λG H hr k hq=>let ⟨vs,h1,h2⟩:=jA hr (show getL G a=some us from hq);⟨vs,h1,h2⟩⟩
 |_=>cases h
def qbE (us vs:List T):List T:=(us.zip vs).map λp=>.tup [p.1,p.2]
def T6 {us vs:List T} {i:Nat} {x:T} (h:(qbE us vs)[i]?=some x):∃ a b,us[i]?=some a/\vs[i]?=some b/\x=.tup [a,b]:=by
 unfold qbE at h;rw [getElem?_map] at h;cases e:(us.zip vs)[i]? with
 |none=>rw [e] at h;cases h
 |some p=>
  rw [e] at h;have:=List.getElem?_zip_eq_some.mp e;exact ⟨p.1,p.2,this.1,this.2,by simpa using h.symm⟩
def qkQ {K:Frg} {b1 b2:Bool} {c1 c2:Addr} {x y:T} {us vs:List T} {G0:Gp} {H0:Hp}
  (f1:∀ G H,HR K G H->Kp G0 H0 G H->jP G x=some us->∃ vs,SqB K b1 H c1 vs/\Rps K H us vs) (f2:∀ G H,HR K G H->Kp G0 H0 G H->jP G y=some vs->∃ ws,SqB K b2 H c2 ws/\Rps K H vs ws) :
  qix K (Itz K b1 b2 c1 c2) (qbE us vs) (λG=>jP G x=some us/\jP G y=some vs) G0 H0:=by
 intro G H hr k ⟨h1,h2⟩;obtain ⟨p,sp,rp⟩:=f1 G H hr k h1;obtain ⟨q,sq,rq⟩:=f2 G H hr k h2;refine ⟨λi z hz=>?_,λi z v H' hz hy=>?_,⟨p,q,sp,sq,?_⟩⟩
 ·obtain ⟨a,b,ha,hb,_⟩:=T6 hz;obtain ⟨v,hv,_⟩:=rp.get ha;obtain ⟨w,hw,_⟩:=rq.get hb;exact ⟨p,q,v,w,sp,sq,hv,hw⟩
 ·obtain ⟨a,b,ha,hb,rfl⟩:=T6 hz;obtain ⟨t,v1,v2,ht,rfl,rfl,g1,g2⟩:=hy;obtain ⟨v,hv,rv⟩:=rp.get ha;obtain ⟨w,hw,rw'⟩:=rq.get hb;have e1:=(g1 p sp).symm.trans hv;have e2:=(g2 q sq).symm.trans hw;obtain rfl:v1=v:=Option.some.inj e1;obtain rfl:v2=w:=Option.some.inj e2;have kk:Kp G H G (upd H t (.tup [v1,v2])):=Kp.laid ht;exact ⟨.tup (SqT.of ze) (.cons (rv.keep hr kk) (.cons (rw'.keep hr kk) .nil)),hr.laid ht,kk⟩
 ·rw [← rp.length,← rq.length,show (qbE us vs).length=min us.length vs.length by simp [qbE]];omega
def qaM (ta:TA3):TI3:=λτ G r=>ta τ G λxs G1=>match xs with
 |[x,y]=>(match jP G1 x,jP G1 y with|some us,some vs=>r (qbE us vs) (λG=>jP G x=some us/\jP G y=some vs) G1|_,_=>False)
 |_=>False
section
variable {X:Cx} {a b e l:Expr} {es:List Expr} {pos:Pos} {t:TA3}
def qpi {p pt:Pos} {k1:Nat} (hg:Gl X "zip") (hm:X.mg "zip" = none) (ha:A3 X [a,b] t) (hs:starEach [a,b] X.env=[(false,eval a X.env),(false,eval b X.env)]:=by rfl) (hs2:starEach [b] X.env=[(false,eval b X.env)]:=by rfl) :
  I3 X (.Tuple es k1 pt) (.Call (.Name "zip" p) [a,b] [] pos) (qaM t):=
 ql0 (qiJ hg hm ha hs hs2) λσ H R ⟨τ,G,r,rl,h,af⟩=>JK rl h λxs G1 h1 vs H1 rs hr1 k1 rl1=>by
  split at h1
  ·rename_i x y;split at h1
   ·rename_i us ws e1 e2;obtain ⟨v,u,rfl,r1,r2⟩:=qn3 rs;obtain ⟨b1,c1,rfl,f1⟩:=qc0 hr1 r1 e1;obtain ⟨b2,c2,rfl,f2⟩:=qc0 hr1 r2 e2;obtain ⟨p,sp,_⟩:=f1 G1 H1 hr1 Kp.refl e1;obtain ⟨q,sq,_⟩:=f2 G1 H1 hr1 Kp.refl e2;exact ⟨b1,b2,c1,c2,p,q,rfl,sp,sq,af _ _ G1 h1 _ H1 hr1 k1 (qkQ f1 f2)⟩
   ·exact h1.elim
  ·exact h1.elim
def YI:List T->Gp->Q3->Prop:=λxs G q=>match xs with
 |[.ref p]=>(match getL G p with|some ys=>(match qiy ys with|some k=>q (.bl k) G|none=>False)|none=>False)
 |_=>False
def qc1 {K:Frg} {H:Hp}:∀ {ys:List T} {vs:List V} {k:Bool},Rps K H ys vs->qiy ys=some k->∃ ks:List Bool,vs=ks.map V.bl/\ks.all id=k
 |_,_,_,.nil,h=>by cases h;exact ⟨[],rfl,rfl⟩
 |y::ys,_,k,.cons a b,h=>by
  unfold qiy at h;split at h
  ·rename_i e;cases e
  ·rename_i j r e;cases e;split at h
   ·rename_i i ei;obtain ⟨ks,rfl,hk⟩:=qc1 b ei;cases a;cases h;exact ⟨j::ks,rfl,by rw [List.all_cons,hk];rfl⟩
   ·cases h
  ·cases h
def qhv {K:Frg}:qaT K YI (λxs H Q=>∃ (p:Addr) (ks:List Bool),xs=[.ref p]/\SqL K H p (ks.map V.bl)/\Q (.bl (ks.all id)) H):=λxs vs G H q Q hr rs h af=>by
 unfold YI at h;split at h
 ·rename_i p;obtain ⟨v,rfl,r⟩:=qaD rs;cases r;split at h
  ·rename_i ys e0;split at h
   ·rename_i k e1;obtain ⟨us,hs,r2⟩:=jA hr e0;obtain ⟨ks,rfl,hk⟩:=qc1 r2 e1;exact ⟨p,ks,rfl,hs,by rw [hk];exact af _ G h _ H (.bl _) hr Kp.refl⟩
   ·exact h.elim
  ·exact h.elim
 ·exact h.elim
end
def qoX:Value->Bool
 |.type t=>t == "list"
 |_=>false
def DN:List (Addr×Obj)->Bool
 |[]=>true
 |p::r=>if qoX p.2.cls then false else DN r
def RI:∀ {K:List (Addr×Obj)} {a:Addr} {o:Obj},DN K=true->K.lookup a=some o->o.cls≠.type "list"
 |[],_,_,_,e=>by simp at e
 | (b,x)::r,a,o,h,e=>by
  unfold DN at h;split at h
  ·cases h
  ·rename_i hx;rw [List.lookup_cons] at e;split at e
   ·cases e;intro z;rw [z] at hx;exact hx rfl
   ·exact RI h e
def qaK {K:Frg} {H:Hp} {a:Addr} {ns:List Int} (hK:DN K=true) (hO:qnV H) (hS:SqL K H a (ns.map V.int)):∃ o,H a=some (.frz o (.lst (ns.map V.int))):=by
 rcases hS with (h|h)|⟨o,its,n,h1,h2,_⟩
 ·rcases hO a with z|⟨o,xs,z⟩<;>(rw [h] at z;cases z)
 ·exact h
 ·exact absurd h2 (RI hK h1)
def only (a:Addr) (ns:List Int):Gp:=λb=>if b=a then some (.frz (ns.map T.int)) else none
def qho {K:Frg} {H:Hp} {a:Addr} {ns:List Int} (h:∃ o,H a=some (.frz o (.lst (ns.map V.int)))):HR K (only a ns) H:=λb o e=>by
 unfold only at e;split at e
 ·rename_i hb;subst hb;cases e;exact ⟨_,h,Rps.ints ns⟩
 ·cases e
def RO:Sp3:=λts G q=>∃ (a:Addr) (ns:List Int),ts=[.ref a]/\G a=some (.frz (ns.map T.int))/\ns.length<=63/\∀ G',q (.bl true) G'
def qoh {l:PySem.W.OpenLaw} {k:Nat} {q:Program} {loose:List Str} {XP:(Str->Option Value)->Heap->Prop} {YP:World->Heap->Prop} {d:DefRec} {K:Params->PySem.W.Frag} {x:Str} (hn:l.most=some 63) (hdf:d.params.defaults=[]) (hr:Room k callerA)
  (hY:∀ (w:World) (h:Heap),YP w h->(K w.params).In h) (hK:∀ w:World,DN (K w.params)=true)
  (F:∀ (w:World) (mg:Str->Option Value) (fa:Addr) (h:Heap),(K w.params).In h->h.Ns mainGlobals mg->mg d.name=some (.ref fa) ->
   ∃ fd:FuncData,(∀ (s:Shared) (u:Value),BindsTo s fd ⟨[u],[]⟩ [(x,u)])/\∀ base:Heap,(K w.params).In base->base.Ns mainGlobals mg->FnOk l.prog w (K w.params) mg base CX0 k fa fd [x] (lSp (K w.params) RO)) :
  PySem.W.WalkO q loose XP YP l.row.toRowW d [] (λf vs=>PySem.call f vs):=
 L2.qhP (n:=63) (k:=k) (x:=x) (CX:=λ_=>CX0) (sp:=λw=>lSp (K w.params) RO) hn (by decide) hdf hr hY F
  (λw H a ns hl hO hS=>⟨[.ref a],only a ns,λt _=>t=.bl true,qho (qaK (hK w) hO hS),.cons (.ref a) .nil,⟨a,ns,rfl,by simp [only],hl,λ_=>rfl⟩,λt G' e v H' r _ _=>by subst e;cases r;rfl⟩) λ_ _ _ _ _ z=>z
def qh4 {P:Program} {w:World} {K:Frg} {mg:Str->Option Value} {base:Heap} {x qual:Str} {st:Stmt} {f:Addr} {fd:FuncData} {N ps:List Str} {k:Nat} {sp:Sp3} {t3:TS3} (F:Fun K x qual st f fd) (S:FnScope N ps (qi st))
  (body:∀ (cdv:Value) (A:Around) (outer:List Env) (s:Shared) (H:Hp) (E:XK),Room k (A.deeper (envOfC qual (qi st) s.heap.objs.size f cdv)) ->
   B3 (VE CX0 P w K mg base N qual (qi st) f cdv A outer s H E).nox (qO st) t3)
  (read:∀ ts G q,sp ts G q->ts.length=ps.length/\t3 { nx:=λ_ G'=>q .non G',rt:=q } (qm N ts) G):FnOk P w K mg base CX0 (k+1) f fd ps (lSp K sp):=by
 refine F.ok S (λvs H Q E ⟨ts,G,q,h1,h2,h3,h4⟩=>by rw [← h2.length];exact (read ts G q h3).1) λcdv A outer s H vs Q E hr ⟨ts,G,q,h1,h2,h3,h4⟩=>?_;refine ⟨_,body cdv A outer s H E hr,qm N ts,G,_,XT h1 h2,(read ts G q h3).2,⟨λτ' G' h' σ' H' rl' k'=>h4 _ G' h' _ H' .non rl'.hp k',h4,λ_ _ z=>z.elim,λ_ _ z=>z.elim⟩⟩
abbrev eh1 (h:Heap) (o1:Obj):Heap:=h.push o1
abbrev eh2 (h:Heap) (o1:Obj):Heap:=(eh1 h o1).push { cls:=.type "enumerate",data:=.fields #[.none,.bool false,.ref h.objs.size,rawInt 0,.none,.none] }
def qaJ (c:Addr) (o1:Obj) (ob:Obj) :
  Meets (Builtin.«enumerate.__new__» ⟨[.type "enumerate",.ref c],[]⟩) (λ_ R s=>s.heap.get? c=some ob /\
   (∀ (P:Program) (w:World) (A:Around) (Q:Value->Shared->Prop) (E:Value->Shared->Prop),Q (.ref s.heap.objs.size) { s with heap:=eh1 s.heap o1 }->wpAny (model P w) A (pyIter (.ref c)) Q E s) /\
   R (.ok (.ret (.ref (eh1 s.heap o1).objs.size))) { s with heap:=eh2 s.heap o1 }):=
 .of_wp λprog w A R s h=>by
  obtain ⟨hp,g,d,tk,os⟩:=s;obtain ⟨hl,h1,h⟩:=h;have hsub:=sub_enumerate;have k1:=λA Q E=>h1 prog w A Q E
  wp_walk using wpAny_loadPart' hl
  refine wpAny_stack_any λst=>x6 ?_;split
  ·rename_i c _ _ _ _ _;cases (c==Value.type "enumerate")
   ·wp_walk using wpAny_loadPart' hl,k1 _ _ _
    exact ⟨_,rfl,h⟩
   ·wp_walk using wpAny_loadPart' hl,k1 _ _ _
    exact ⟨_,rfl,h⟩
  ·wp_walk using wpAny_loadPart' hl,k1 _ _ _
   exact ⟨_,rfl,h⟩
def qdq {b:Bool} {c:Addr} {xs:Array Value} {h:Heap} (q:LW b c xs h):∃ o,h.get? c=some o:=by
 cases b
 ·obtain ⟨o,e,_⟩:=(show h.IsTuple c xs from q);exact ⟨o,e⟩
 ·obtain ⟨o,e,_⟩:=(show h.IsList c xs from q);exact ⟨o,e⟩
section
variable {P:Program} {w:World} {A:Around} {s:Shared} {E:Value->Shared->Prop}
def qbs {b:Bool} {c:Addr} {xs:Array Value} {Q:Value->Shared->Prop} (h1:LW b c xs s.heap)
  (q:∀ h',IsEnum h' (s.heap.objs.size+1) s.heap.objs.size 0 .none->qc8 b s.heap.objs.size c 0 h'->(∀ c o,s.heap.get? c=some o->h'.get? c=some o)->Q (.ref (s.heap.objs.size+1)) { s with heap:=h' }) :
  wpAny (model P w) A (call (.type "enumerate") [.ref c]) Q E s:=by
 obtain ⟨ob,hob⟩:=qdq h1;refine callType_new F.called_enumerate (by decide) (F.typeCall_enumerate_1 _) (F.newCall_enumerate_1 _) (λobj=>F.args_object_init_2 obj _) F.entry_enumerate_new
  (qaJ c (jb b c) ob) ⟨hob,λP w A Q E q=>M0 h1 q,?_⟩
 have e1:(eh1 s.heap (jb b c)).objs.size=s.heap.objs.size+1:=Heap.size_push ..;have g2:(eh2 s.heap (jb b c)).get? (eh1 s.heap (jb b c)).objs.size=some _:=y3 _ rfl;have g1:(eh2 s.heap (jb b c)).get? s.heap.objs.size=some (jb b c):=x9 _ (y3 _ rfl);show _/\_;rw [e1] at g2 ⊢;refine ⟨⟨_,g2,rfl⟩,q _ g2 ?_ λc o e=>x9 _ (x9 _ e)⟩;cases b<;>exact ⟨_,g1,rfl,rfl⟩
end
def qds {P:Program} {w:World} {A:Around} (hh:A.handled=none) (b:Bool) (it c:Addr) (hne:c≠it) (xs:Array Value) :
  Draws P w A it [it,c] xs.size (λi v=>xs[i]?=some v) (λi h=>qc8 b it c i h/\LW b c xs h) where
 live:=λi h st=>let ⟨o,e,_⟩:=(je (P:=P) (w:=w) b it c).obj st.1;⟨o,e⟩
 frame:=λi h h' st hk=>⟨(je (P:=P) (w:=w) b it c).keep st.1 λo e=>hk it (by simp) o e,(je (P:=P) (w:=w) b it c).hkeep st.2 λo e=>hk c (by simp) o e⟩
 item:=λi s Q E hi st hQ=>by
  refine (je (P:=P) (w:=w) b it c).item st.1 st.2 (x:=xs[i]) (by simp [hi]) λh' st' sb=>?_;exact hQ _ h' s.toks (by simp [hi]) ⟨st',(je (P:=P) (w:=w) b it c).hkeep st.2 λo e=>(sb.2 c hne).trans e⟩ sb
 done:=λs Q E st hE=>(je (P:=P) (w:=w) b it c).done hh st.1 st.2 (by simp) hE
def TK {P:Program} {w:World} {A:Around} {s:Shared} {E:Value->Shared->Prop} {b:Bool} {e it c:Addr} {i:Nat} {xs:Array Value} {old:Value} {Q:Option Value->Shared->Prop} (hh:A.handled=none) (he:IsEnum s.heap e it i old) (p1:qc8 b it c i s.heap) (l1:LW b c xs s.heap) (hx:xs[i]?=none)
  (hQ:∀ h',Heap.ExtBut it s.heap h'->Q none { s with heap:=h' }):wpAny (model P w) A (pyNext (.ref e)) Q E s:=by
 have hT:s.TypeIs (.ref e) "enumerate" := ⟨_,he,rfl⟩
 unfold pyNext;refine x5 (wpAny_attempt (wpAny_callSpecial?_slot (name:=Str.ofString "__next__") hT F.slot_enumerate_next
  (wpAny_call_entry F.slot_enumerate_next hT F.entry_enumerate_next ?_ (F.args_enumerate_next_1 _))))
 show wpAny _ _ (field (.ref e) 2 >>= _) _ _ _;refine x5 (wpAny_field he rfl (x:=.ref it) rfl ?_);refine x5 ((je (P:=P) (w:=w) b it c).done (show A.in1.handled=none from hh) p1 l1 hx λh' x he' hx'=>?_);obtain ⟨o,ho,hc⟩:=hx';refine x5 (wpAny_isInstance (T:="StopIteration") (b:=true) ⟨o,ho,hc⟩ isSubtype_stop ?_);exact x6 (hQ _ he')
def Ite (K:Frg) (b:Bool) (c:Addr):It:=
  ⟨λi H=>∃ xs x,SqB K b H c xs/\xs[i]?=some x,
   λi H v H'=>∃ p x,H p=none/\v=.ref p/\H'=upd H p (.tup [.int i,x])/\(∀ xs,SqB K b H c xs->xs[i]?=some x),
   λi H=>∃ xs,SqB K b H c xs/\xs.length<=i⟩
def qla (b:Bool) (e it c:Addr) (k:Nat) (h:Heap):Prop:=(∃ old,IsEnum h e it k old)/\qc8 b it c k h
def qcE {P:Program} {w:World} {K:Frg} {es:List Expr} {k1:Nat} {pt:Pos} {b:Bool} {e it c:Addr} (n1:e≠it) (n2:c≠e) (n3:c≠it):Turn P w K (.Tuple es k1 pt) (Ite K b c) [e,it] e (qla b e it c) where
 mem:=by simp
 obj:=λi h ⟨⟨old,he⟩,p1⟩ d hd=>by
  simp only [mem_cons,not_mem_nil,or_false] at hd;rcases hd with rfl|rfl
  ·exact ⟨_,he,λv q=>by cases q⟩
  ·exact (je (P:=P) (w:=w) b d c).obj p1
 keep:=λi h h' ⟨⟨old,he⟩,p1⟩ k=>⟨⟨old,k e (by simp) _ he⟩,(je (P:=P) (w:=w) b it c).keep p1 λo e=>k it (by simp) o e⟩
 item:=by
  intro X hP hw hK hc i pins s σ H E I hf st hg;subst hP hw hK;obtain ⟨xs,x,sq,hx⟩:=hg;obtain ⟨its,rv,l1,z1⟩:=sq.get I;obtain ⟨u,hu,ru⟩:=rv.get hx;obtain ⟨⟨old,he⟩,p1⟩:=st;have hil:i<its.toArray.size:=by have:=(za4 hu).1;simpa using this
  refine wpAny_pyNext_enum_itemD (qds (show X.A.in1.handled=none from I.ok.hd hc) b it c n3 its.toArray) he ⟨p1,l1⟩ hil n1 (by simp only [mem_cons,not_mem_nil,or_false,not_or];exact ⟨n1,Ne.symm n2⟩) λy h' tk hy ho st' ht hsz hk=>?_;have hy':y=u:=by
   have:its.toArray[i]?=some u:=by simpa using hu
   rw [this] at hy;exact (Option.some.inj hy).symm
  subst hy';have hfr:H s.heap.objs.size=none:=I.fresh;have free:∀ b∈[e,it],H b=none:=λb hb=>(hf b hb).1;refine ⟨_,rfl,wpAny_letOwnedTupleGo_enum ho λh2 hz2 s2=>?_⟩;have elt:e<s.heap.objs.size:=y4 he;have hp2:h2.get? s.heap.objs.size=some { cls:=.type "tuple",data:=.seq #[.int i tk,y] }:=(s2.2 _ (Nat.ne_of_gt elt)).trans ht;have up:∀ c o,c≠e->h'.get? c=some o->h2.get? c=some o:=λc o hc e=>(s2.2 c hc).trans e;have kk:∀ c o,c∉[e,it]->s.heap.get? c=some o->h2.get? c=some o:=λc o hc q=>by
   simp only [mem_cons,not_mem_nil,or_false,not_or] at hc;exact up c o hc.1 (hk c o hc.1 hc.2 q)
  have I3:Inv X pins σ (upd H s.heap.objs.size (.tup [.int i,x])) { s with heap:=h2,toks:=tk+1 }:=by
   refine I.step (g':=s.gens) (d':=s.drawn) (t':=tk+1) (ch:=[e,it]) (λb hb=>?_) (λb o _ _ hcb e _=>kk b o hcb e) (λb o _ _ hcb e _=>⟨o.slots,kk b o hcb e⟩) (λb o _ e n=>by rw [qz (u7 (y4 e))];exact n) (λb o hcb e=>⟨o,kk b o hcb e⟩)
    (λb _ e=>by rw [qz (qG e hfr)];exact e) (λb _ _ e=>by rw [qz (qG e hfr)];exact e) (λb ps e=>⟨#[],by rw [qz (qG e hfr),e];simp⟩) (λm hm=>?_) (λb u e=>?_) I.bare
   ·obtain ⟨f0,f1,f2,f3,f4,f5⟩:=hf b hb;exact ⟨f3,f1,f4,f5⟩
   ·obtain ⟨o,es',ep,ho',r⟩:=hm;refine ⟨o,es',ep,kk _ o (λq=>?_) ho',r⟩;obtain ⟨f0,f1,_⟩:=hf X.env.locals q;exact f1 rfl
   ·by_cases hb:b=s.heap.objs.size
    ·subst hb;rw [ze] at e;cases e;exact ⟨by show 2<=sizeLine;decide,[.int i tk,y],.cons ⟨tk,rfl⟩ (.cons ru .nil),⟨_,hp2,rfl,_,rfl,rfl⟩⟩
    ·rw [qz hb] at e;refine (I.hok b u e).stay (λc v hcb q=>kk c v (λm=>?_) q) (λ_ q=>by rw [qz (qG q hfr)];exact q) λ_ _ q=>by rw [qz (qG q hfr)];exact q
     have hn:=free c m;rcases hcb with q|q
     ·rw [q] at hn;rw [hn] at e;cases e
     ·rw [hn] at q;cases q
  refine ⟨.ref s.heap.objs.size,_,I3,rfl,⟨_,x,hfr,rfl,rfl,λzs q=>by rw [q.inj I sq];exact hx⟩,⟨⟨_,by push_cast;exact hz2⟩,(je (P:=X.prog) (w:=X.w) b it c).keep st'.1 λo e=>up _ o (Ne.symm n1) e⟩,λb hb=>?_⟩;rw [qz (λq=>?_)]
  ·exact free b hb
  ·subst q;simp only [mem_cons,not_mem_nil,or_false] at hb;rcases hb with q|q
   ·exact absurd q (Nat.ne_of_gt elt)
   ·obtain ⟨o,e,_⟩:=(je (P:=X.prog) (w:=X.w) b it c).obj p1;exact absurd q (Nat.ne_of_gt (y4 e))
 done:=by
  intro X hP hw hK hc i pins s σ H E I hf st hg;subst hP hw hK;obtain ⟨xs,sq,hend⟩:=hg;obtain ⟨its,rv,l1,z1⟩:=sq.get I;obtain ⟨⟨old,he⟩,p1⟩:=st;have e1:=rv.length;have free:∀ b∈[e,it],H b=none:=λb hb=>(hf b hb).1;refine TK (I.ok.hd hc) he p1 l1 (by simp;omega) λh' hk0=>⟨rfl,?_⟩
  have hk:∀ c o,c∉[e,it]->s.heap.get? c=some o->h'.get? c=some o:=λc o hcb q=>hk0 c o (by simp only [mem_cons,not_mem_nil,or_false,not_or] at hcb;exact hcb.2) q;refine I.step (g':=s.gens) (d':=s.drawn) (t':=s.toks) (ch:=[e,it]) (λb hb=>?_) (λb o _ _ hcb e _=>hk b o hcb e) (λb o _ _ hcb e _=>⟨o.slots,hk b o hcb e⟩) (λ_ _ _ _ n=>n) (λb o hcb e=>⟨o,hk b o hcb e⟩) (λ_ _ e=>e) (λ_ _ _ e=>e) (λb ps e=>⟨#[],by rw [e];simp⟩) (λm hm=>?_) (λb u e=>?_) I.bare
  ·obtain ⟨f0,f1,f2,f3,f4,f5⟩:=hf b hb;exact ⟨f3,f1,f4,f5⟩
  ·obtain ⟨o,es',ep,ho',r⟩:=hm;refine ⟨o,es',ep,hk _ o (λq=>?_) ho',r⟩;obtain ⟨f0,f1,_⟩:=hf X.env.locals q;exact f1 rfl
  ·refine (I.hok b u e).stay (λc v hcb q=>hk c v (λm=>?_) q) (λ_ q=>q) λ_ _ q=>q;have hn:=free c m;rcases hcb with q|q
   ·rw [q] at hn;rw [hn] at e;cases e
   ·rw [hn] at q;cases q
 self:=λA i s Q E st h=>let ⟨⟨old,he⟩,_⟩:=st;wpAny_pyIter_enum he h
section
variable {X:Cx} {a b e l:Expr} {es:List Expr} {pos:Pos}
def qg2 {p pt:Pos} {k1:Nat} {ta:TA} (hg:Gl X "enumerate") (hm:X.mg "enumerate" = none) (ha:PA X [a] ta) (hs:starEach [a] X.env=[(false,eval a X.env)]:=by rfl) :
  PI X (.Tuple es k1 pt) (.Call (.Name "enumerate" p) [a] [] pos) (λσ H R=>ta σ H λvs H1=>∃ b1 c1 xs,vs=[.ref c1]/\SqB X.K b1 H1 c1 xs/\R (Ite X.K b1 c1) H1):=by
 intro pins s σ H R I h;refine Call_ (CK I hg hm PyProof.Rows.boot_enumerate (PyProof.Rows.callWith_type1 (thn (ha pos pins s σ H _ I h) λus s1 ⟨vs,H1,I1,r1,q1⟩=>?_) (by rw [hs];rfl) (by rfl)));obtain ⟨b1,c1,xs,rfl,sq1,q⟩:=q1;obtain ⟨u1,rfl,e1⟩:=C6 r1;cases (show u1=Value.ref c1 from e1);obtain ⟨its1,rv1,l1,z1⟩:=sq1.get I1;refine qbs l1 λh' he hit hk=>wpAny_pyIter_enum he ?_;have lt:=qha l1;have ne3:∀ n c:Nat,c<n->n+1≠n/\c≠n+1/\c≠n:=λn c h=>by omega
 obtain ⟨m1,m2,m3⟩:=ne3 _ _ lt;refine ⟨s1.heap.objs.size+1,[s1.heap.objs.size+1,s1.heap.objs.size],_,_,H1,rfl,I1.kept (t':=s1.toks) hk,qcE m1 m2 m3,⟨⟨_,he⟩,hit⟩,λc hc=>?_,q⟩;have hle:s1.heap.objs.size<=c:=by
  simp only [mem_cons,not_mem_nil,or_false] at hc;rcases hc with rfl|rfl<;>first|exact v4 _|exact Nat.le_add_right _ _
 exact I1.fpOk hle (I1.hok.fresh hle)
end
def Q4 (k:Nat):List T->List T
 |[]=>[]
 |x::r=>.tup [.int (k:Int),x]::Q4 (k+1) r
def qbJ (us:List T):List T:=Q4 0 us
def WQ:∀ {us:List T} {k i:Nat} {x:T},(Q4 k us)[i]?=some x->∃ a,us[i]?=some a/\x=.tup [.int ((k+i:Nat):Int),a]
 |[],_,_,_,h=>by simp [Q4] at h
 |u::us,k,0,x,h=>by simp [Q4] at h;exact ⟨u,rfl,by simp [← h]⟩
 |u::us,k,i+1,x,h=>by
  simp [Q4] at h;obtain ⟨a,ha,hx⟩:=WQ h;exact ⟨a,by simpa using ha,by rw [hx];congr 4;omega⟩
def WP:∀ (us:List T) (k:Nat),(Q4 k us).length=us.length
 |[],_=>rfl
 |u::us,k=>by simp [Q4,WP us]
def CS (us:List T):(qbJ us).length=us.length:=WP us 0
def DL {us:List T} {i:Nat} {x:T} (h:(qbJ us)[i]?=some x):∃ a,us[i]?=some a/\x=.tup [.int (i:Int),a]:=by
 obtain ⟨a,ha,hx⟩:=WQ h;exact ⟨a,ha,by rw [hx];congr 4;omega⟩
def qlZ {K:Frg} {b1:Bool} {c1:Addr} {x:T} {us:List T} {G0:Gp} {H0:Hp}
  (f1:∀ G H,HR K G H->Kp G0 H0 G H->jP G x=some us->∃ vs,SqB K b1 H c1 vs/\Rps K H us vs) :
  qix K (Ite K b1 c1) (qbJ us) (λG=>jP G x=some us) G0 H0:=by
 intro G H hr k h1;obtain ⟨p,sp,rp⟩:=f1 G H hr k h1;refine ⟨λi z hz=>?_,λi z v H' hz hy=>?_,⟨p,sp,?_⟩⟩
 ·obtain ⟨a,ha,_⟩:=DL hz;obtain ⟨v,hv,_⟩:=rp.get ha;exact ⟨p,v,sp,hv⟩
 ·obtain ⟨a,ha,rfl⟩:=DL hz;obtain ⟨t,v1,ht,rfl,rfl,g1⟩:=hy;obtain ⟨v,hv,rv⟩:=rp.get ha;have e1:=(g1 p sp).symm.trans hv;obtain rfl:v1=v:=Option.some.inj e1;have kk:Kp G H G (upd H t (.tup [.int i,v1])):=Kp.laid ht;exact ⟨.tup (SqT.of ze) (.cons (.int _) (.cons (rv.keep hr kk) .nil)),hr.laid ht,kk⟩
 ·rw [← rp.length,CS];exact v4 _
def EW (ta:TA3):TI3:=λτ G r=>ta τ G λxs G1=>match xs with
 |[x]=>(match jP G1 x with|some us=>r (qbJ us) (λG=>jP G x=some us) G1|_=>False)
 |_=>False
section
variable {X:Cx} {a b e l:Expr} {es:List Expr} {pos:Pos} {t:TA3}
def qkY {p pt:Pos} {k1:Nat} (hg:Gl X "enumerate") (hm:X.mg "enumerate" = none) (ha:A3 X [a] t) (hs:starEach [a] X.env=[(false,eval a X.env)]:=by rfl) :
  I3 X (.Tuple es k1 pt) (.Call (.Name "enumerate" p) [a] [] pos) (EW t):=
 ql0 (qg2 hg hm ha hs) λσ H R ⟨τ,G,r,rl,h,af⟩=>JK rl h λxs G1 h1 vs H1 rs hr1 k1 rl1=>by
  split at h1
  ·rename_i x;split at h1
   ·rename_i us e1;obtain ⟨v,rfl,r1⟩:=qaD rs;obtain ⟨b1,c1,rfl,f1⟩:=qc0 hr1 r1 e1;obtain ⟨p,sp,_⟩:=f1 G1 H1 hr1 Kp.refl e1;exact ⟨b1,c1,p,rfl,sp,af _ _ G1 h1 _ H1 hr1 k1 (qlZ f1)⟩
   ·exact h1.elim
  ·exact h1.elim
end
section
variable {X:Cx} {a b c e:Expr} {es:List Expr} {ta tb tc te:TE3} {t:TA3} {pos:Pos}
def VJ (i:Nat) (r:R3) (te:TE3):TS3:=λd τ G=>match τ[i]? with
 |some (some x)=>te τ G λy G1=>r x y G1 λz G2=>d.nx (τ.set i (some z)) G2
 |_=>False
def qdW (i:Nat) {x:Str} {pos':Pos} (hN:X.N.Nodup) (he:E3 X e te) (hi:X.N[i]?=some x:=by rfl) (hx:Loc X.env.scope x:=by first|exact Or.inl rfl|exact Or.inr rfl) (hf:X.fn x=true\/X.env.scope.names.lookup x=some .local:=by first|exact .inl rfl|exact .inr rfl) :
  S3 X (.AugAssign (.Name x pos') .Add e pos) (VJ i (iI (·+·)) te):=
 qaL (qmj (i:=i) hN hi hx he qki hf) λD σ H ⟨τ,G,d,rl,h,af⟩=>by
  unfold VJ at h;split at h
  ·rename_i x e1;obtain ⟨v,e2,rv⟩:=rl.st i x e1;refine ⟨v,e2,z9 rl h λy G1 h1 u H1 ry hr1 k1 rl1=>?_⟩;have rv1:=rv.keep rl.hp k1;cases x<;>try exact h1.elim
   cases y<;>try exact h1.elim
   cases rv1;cases ry;exact ⟨_,_,rfl,rfl,af.nx _ G1 h1 _ H1 (rl1.set i (.int _)) k1⟩
  ·exact h.elim
def qhp (ns:List Int):Prop:=ns.length<=1000000/\∀ x∈ns,-1000000000000<=x/\x<=1000000000000
def MX (ns:List Int):∀ j,j<=ns.length->preSum (λi=>ns.getD i 0) j=(ns.take j).sum
 |0,_=>by simp [preSum]
 |j+1,h=>by
  have hj:j<ns.length:=h;unfold preSum;rw [MX ns j (by omega),List.take_succ_eq_append_getElem hj,List.sum_append,getD_eq_getElem?_getD,y9 hj];simp
def qeW:∀ (ns:List Int),(∀ x∈ns,-1000000000000<=x/\x<=1000000000000)->-1000000000000*(ns.length:Int)<=ns.sum/\ns.sum<=1000000000000*(ns.length:Int)
 |[],_=>by simp
 |n::r,h=>by
  have h1:=h n u9;have h2:=qeW r λx hx=>h x (v5 _ hx);rw [List.sum_cons,length_cons];omega
def DJ (hc:X.calm=true):VH X (.builtin "sum") (λxs H Q=>∃ (p:Addr) (ns:List Int),xs=[.ref p]/\SqL X.K H p (ns.map V.int)/\qhp ns/\Q (.int ns.sum) H):=by
 intro pins s σ H xs us Q I r h;obtain ⟨p,ns,rfl,hq,ok,q⟩:=h;obtain ⟨u,rfl,rp⟩:=C6 r;cases (show u=Value.ref p from rp);obtain ⟨its,rv,pl,hz⟩:=I.list hq;have hlen:its.length=ns.length:=by have:=rv.length;simp at this;omega
 have hp:p<s.heap.objs.size:=by obtain ⟨o,n,e,_⟩:=pl;exact y4 e
 have bd:∀ j,j<=ns.length->InLong (preSum (λi=>ns.getD i 0) j):=λj hj=>by
  rw [MX ns j hj];have:=qeW (ns.take j) λx hx=>ok.2 x (List.mem_of_mem_take hx);have hl:(ns.take j).length<=1000000:=v9 (by rw [List.length_take];omega) ok.1;unfold InLong;omega
 refine call_sum_walk (wpAny_pyIter_list pl.isList ⟨s.heap.objs.size,_,_,_,_,_,λi=>ns.getD i 0,rfl,Walks.list (A:=X.A.in1) (show X.A.in1.handled=none from I.ok.hd hc) s.heap.objs.size p (u7 hp) its.toArray,⟨⟨_,y3 _ rfl,rfl,rfl⟩,?_⟩,λb hb=>?_,λi v hv=>?_,λj hj=>?_,λh' tk t' hk=>?_⟩)
 ·obtain ⟨o,n,e,c,_,d⟩:=pl;exact ⟨o,x9 _ e,c,n,d⟩
 ·have lt1:∀ n c:Nat,c<n->c<n+1:=λn c h=>by omega
  rw [show (({ s with heap:=s.heap.push _ }:Shared).heap.objs.size)=s.heap.objs.size+1 from Heap.size_push ..];simp only [mem_cons,not_mem_nil,or_false] at hb;rcases hb with rfl|rfl
  ·exact Nat.lt_succ_self _
  ·exact lt1 _ _ hp
 ·have hv':its[i]?=some v:=by simpa using hv
  obtain ⟨hi,_⟩:=za4 hv';have hi':i<ns.length:=by omega
  obtain ⟨u,hu,ru⟩:=rv.get (i:=i) (show (ns.map V.int)[i]?=some (V.int (ns[i])) by simp [hi']);rw [hv'] at hu;cases hu;obtain ⟨t,rfl⟩:=ru;exact ⟨t,by show Value.int ns[i] t=Value.int (ns.getD i 0) t;rw [getD_eq_getElem?_getD,y9 hi'];rfl⟩
 ·have hj':j<ns.length:=by rw [size_toArray] at hj;omega
  refine ⟨?_,bd _ hj'⟩;have:=ok.2 (ns.getD j 0) (by rw [getD_eq_getElem?_getD,y9 hj'];exact za0 hj');show InLong (ns.getD j 0);unfold InLong;omega
 ·refine ⟨.int _,H,?_,⟨_,rfl⟩,by rw [size_toArray,hlen,MX ns _ (v4 _),List.take_length];exact q⟩;exact I.kept (h':=h') (t':=tk) λb o e=>hk b o (by simp;exact u7 (y4 e)) (x9 _ e)
def KP:List T->Option (List Int)
 |[]=>some []
 |.int i::r=>(match KP r with|some ns=>some (i::ns)|none=>none)
 |_=>none
def XN (ns:List Int):KP (ns.map T.int)=some ns:=by
 induction ns with
 |nil=>rfl
 |cons n r ih=>simp [KP,ih]
def SE:∀ {xs:List T} {ns:List Int},KP xs=some ns->xs=ns.map T.int
 |[],_,h=>by simp [KP] at h;subst h;rfl
 |x::r,ns,h=>by
  unfold KP at h;split at h
  ·rename_i e;cases e
  ·rename_i i r' e;cases e;split at h
   ·rename_i ms e2;cases h;rw [SE e2];rfl
   ·cases h
  ·cases h
def qiD:List T->Gp->Q3->Prop:=λxs G q=>match xs with
 |[.ref p]=>(match getL G p with|some ys=>(match KP ys with|some ns=>qhp ns/\q (.int ns.sum) G|none=>False)|none=>False)
 |_=>False
def TW {K:Frg} {H:Hp}:∀ {ns:List Int} {vs:List V},Rps K H (ns.map T.int) vs->vs=ns.map V.int
 |[],_,r=>by cases r;rfl
 |n::ns,_,r=>by
  cases r with
  |cons a b=>cases a;rw [TW b];rfl
def qck {K:Frg}:qaT K qiD (λxs H Q=>∃ (p:Addr) (ns:List Int),xs=[.ref p]/\SqL K H p (ns.map V.int)/\qhp ns/\Q (.int ns.sum) H):=λxs vs G H q Q hr rs h af=>by
 unfold qiD at h;split at h
 ·rename_i p;obtain ⟨v,rfl,r⟩:=qaD rs;cases r;split at h
  ·rename_i ys e0;split at h
   ·rename_i ns e1;obtain ⟨us,hs,r2⟩:=jA hr e0;have:=SE e1;subst this;have:=TW r2;subst this;exact ⟨p,ns,rfl,hs,h.1,af _ G h.2 _ H (.int _) hr Kp.refl⟩
   ·exact h.elim
  ·exact h.elim
 ·exact h.elim
def UL:List T->Gp->Q3->Prop:=λxs G q=>match xs with
 |[.ref p]=>(match getL G p with|some ys=>(match qqH ys with|some k=>q (.bl k) G|none=>False)|none=>False)
 |_=>False
end
section
variable {X:Cx}
def qg5 {elt tg iter:Expr} {ifs:List Expr} {scope:Scope} {pos cpos:Pos} {N':List Str} {m:List (Option Nat)} {wi:TI} {g:TG} {tif:TT} {te:TE} {use:Option (Value->Sem Unit)} {Qc:Value->Shared->Prop} {QD:Addr->Hp->Prop} (hc:X.calm=true) (hi:PI X tg iter wi)
  (hg:∀ s H fp,PG (qr X N' scope s H fp) tg g) (hf:∀ s H fp,PF (qr X N' scope s H fp) ifs tif) (he:∀ s H fp,PE (qr X N' scope s H fp) elt te)
  (hsc:qaU X.env.scope scope=true) (hcap:ED X.N N' scope m=true) (hs:∀ x,foldedSetIterable iter X.env x=pure x) {pins:List (Addr×Obj)} {s:Shared} {σ:L2.St} {H:Hp} (I:Inv X pins σ H s)
  (h:wi σ H λJ H1=>∀ D,H1 D=none ->
   ∃ W:Nat->Nat->L2.St->Hp->Prop,(∃ n,W 0 n (cap m σ) (upd H1 D (.lst [])))/\∀ i n σ H,W i n σ H ->
    (J.stop i H/\QD D H)\/(J.go i H/\∀ x H',J.yld i H x H'->g x σ H' λσ2 H2=>tif σ2 H2 λk H3=>
     if k=true then te σ2 H3 λy H4=>∃ zs,H4 D=some (.lst zs)/\zs.length<sizeLine/\∃ n',n'<n/\W (i+1) n' σ2 (upd H4 D (.lst (zs++[y])))
     else ∃ n',n'<n/\W (i+1) n' σ2 H3))
  (fin:∀ (D:Addr) (s3:Shared) (H3:Hp) (fp:List Addr) (s6:Shared) (H6:Hp) (σ6:L2.St) (r:Flow),Inv X pins σ H3 s3->(∀ b∈fp,KY X pins H3 b)->Inv (qr X N' scope s3 H3 fp) [] σ6 H6 s6->QD D H6->compPost (model X.prog X.w) X.A X.xe use Qc (.ref D) s3.heap.objs.size (.ok r) s6) :
  wpAny (model X.prog X.w) X.A (comprehension (.ListComp elt [⟨tg,iter,ifs,0⟩] scope pos) scope X.env cpos (newList []) false (eval iter X.env) use) Qc X.xe s:=by
 have sc:=D5 hsc;have hcl:∀ y∈scope.names,y.2=.free->∃ c,X.env.cells.lookup y.1=some c:=λy hy e=>by
  rcases (sc.free y hy e).2 with z|z
  ·exact I.ok.has y.1 (.inl z)
  ·exact I.ok.has y.1 (.inr z)
 refine wpAny_comprehension_free (g:=⟨tg,iter,ifs,0⟩) (gs:=[]) rfl hs (YQ hcl) sc.kind sc.loc ?_;show wpAny _ _ (eval iter X.env) _ _ s;refine thn (hi pins s σ H _ I h) λv s1 h1=>thn h1 λitv s2 h2=>?_;obtain ⟨it,fp,tn,J,H2,rfl,I2,T,st2,f2,hW⟩:=h2;refine wpAny_newObj_type ?_;have hD:H2 s2.heap.objs.size=none:=I2.fresh;obtain ⟨W,⟨n0,w0⟩,turn⟩:=hW _ hD;generalize hDe:s2.heap.objs.size=D at *;have I3:Inv X pins σ (upd H2 D (.lst [])) { s2 with heap:=s2.heap.push { cls:=.type "list",dict:=none,data:=.seq ([]:List Value).toArray } }:=by
  subst hDe;exact I2.laid (t':=s2.toks) (λb u e=>x9 _ e) (v4 _) ⟨Nat.zero_le _,[],0,.nil,y3 _ rfl⟩
 have ob2:=T.obj 0 _ st2;have ob3:∀ b∈fp,∃ o,(s2.heap.push { cls:=.type "list",dict:=none,data:=.seq ([]:List Value).toArray }).get? b=some o:=λb hb=>let ⟨o,e,_⟩:=ob2 b hb;⟨o,x9 _ e⟩
 have f3:∀ b∈fp,KY X pins (upd H2 D (.lst [])) b:=λb hb=>by
  obtain ⟨o,e,_⟩:=ob2 b hb;have:b≠D:=by rw [← hDe];exact u7 (y4 e)
  exact ⟨by rw [qz this];exact (f2 b hb).1,(f2 b hb).2⟩
 have k23:∀ b o,s2.heap.get? b=some o->(s2.heap.push { cls:=.type "list",dict:=none,data:=.seq ([]:List Value).toArray }).get? b=some o:=λb o e=>x9 _ e;generalize hH3:upd H2 D (.lst [])=H3 at *;generalize hs3:({ s2 with heap:=s2.heap.push { cls:=.type "list",dict:=none,data:=.seq ([]:List Value).toArray } }:Shared)=s3 at *;have ob3:∀ b∈fp,∃ o,s3.heap.get? b=some o:=by rw [← hs3];exact ob3
 have k23:∀ b o,s2.heap.get? b=some o->s3.heap.get? b=some o:=by rw [← hs3];exact k23
 refine QV λh₁ hns hk hown=>?_;have I4:Inv (qr X N' scope s3 H3 fp) [] (cap m σ) H3 { s3 with heap:=h₁ }:=SZ hc I3 sc hcap f3 ob3 hns hk hown;have tn4:tn 0 h₁:=T.keep _ _ _ st2 λb hb o e=>hk b o (k23 b o e);have fr4:∀ b∈fp,H3 b=none:=λb hb=>(f3 b hb).1;have stat:∀ {H':Hp},(∀ b∈fp,H' b=none)->∀ b∈fp,KY (qr X N' scope s3 H3 fp) [] H' b:=λhn b hb=>by
  refine ⟨hn b hb,I4.ok.exf b hb |>.1,I4.ok.exfs b hb,.inl hb,λx c e=>(I4.ok.exf b hb).2 x c e,λp hp=>absurd (show p∈([]:List (Addr×Obj)) from hp) (by simp)⟩
 show codeAny (model X.prog X.w) X.A (.compStart (.ListComp elt [⟨tg,iter,ifs,0⟩] scope pos) 0 (.ref it) (.ref D) (qr X N' scope s3 H3 fp).env) (compPost (model X.prog X.w) X.A X.xe use Qc (.ref D) s3.heap.objs.size) { s3 with heap:=h₁ };have loop:codeAny (model X.prog X.w) X.A (.compLoop (.ListComp elt [⟨tg,iter,ifs,0⟩] scope pos) 0 (.ref it) (.ref D) (qr X N' scope s3 H3 fp).env) (compPost (model X.prog X.w) X.A X.xe use Qc (.ref D) s3.heap.objs.size) { s3 with heap:=h₁ }:=by
  refine codeAny_loop rfl (λn s'=>∃ i σ' H',Inv (qr X N' scope s3 H3 fp) [] σ' H' s'/\tn i s'.heap/\(∀ b∈fp,H' b=none)/\W i n σ' H') (λn s' hI=>?_) n0 ⟨0,cap m σ,H3,I4,tn4,fr4,w0⟩;show wpAny _ X.A ((compTurn (.ListComp elt [⟨tg,iter,ifs,0⟩] scope pos) 0 (.ref it) (.ref D) (qr X N' scope s3 H3 fp).env).onRaise (λx=>do noteFrame x (qr X N' scope s3 H3 fp).env;theTreesLotGoes x)) _ _ s';refine wpAny_noted ?_;rw [compTurn_list];refine x5 (wpAny_standAt (x5 ?_));obtain ⟨i,σ5,H5,I5,st5,fr5,w5⟩:=hI;rcases turn i n σ5 H5 w5 with ⟨stop,q⟩|⟨go,step⟩
  ·refine thn (T.done (qr X N' scope s3 H3 fp) rfl rfl rfl rfl i [] s' σ5 H5 _ I5 (stat fr5) st5 stop) λr s6 ⟨hr,I6⟩=>?_;subst hr;refine x6 ?_;exact fin D s3 H3 fp s6 H5 σ5 _ I3 f3 I6 q
  ·refine thn (T.item (qr X N' scope s3 H3 fp) rfl rfl rfl rfl i [] s' σ5 H5 _ I5 (stat fr5) st5 go) λr s6 ⟨u,hr,h6⟩=>?_;subst hr;refine x5 (thn h6 λ_ s7 ⟨x,H7,I7,r7,y7,st7,fr7⟩=>?_);have I7':=I7.pinned (stat fr7) (T.obj _ _ st7);have again:∀ {σ8:L2.St} {H8:Hp} {s8:Shared},Inv (qr X N' scope s3 H3 fp) ([]++WO fp s7.heap) σ8 H8 s8->(∃ n',n'<n/\W (i+1) n' σ8 H8) ->
     ∃ m',m'<n/\∃ i σ' H',Inv (qr X N' scope s3 H3 fp) [] σ' H' s8/\tn i s8.heap/\(∀ b∈fp,H' b=none)/\W i m' σ' H':=λ{σ8 H8 s8} I8 ⟨n',hn,w8⟩=>by
    refine ⟨n',hn,i+1,σ8,H8,I8.unpinned,T.keep _ _ _ st7 λb hb o e=>(I8.pin (b,o) (v6 _ (v6 _ (zZ hb e)))).1,λb hb=>?_,w8⟩;obtain ⟨o,e,d⟩:=T.obj _ _ st7 b hb;exact (I8.pin (b,o) (v6 _ (v6 _ (zZ hb e)))).2.1
   refine x5 (x8 (hg s3 H3 fp _ s7 σ5 H7 x u _ I7' r7 (step x H7 y7)) (λ_ s8 ⟨σ8,H8,I8,q8⟩=>?_) λ_ _ z=>z.elim);refine x5 (x8 (hf s3 H3 fp _ s8 σ8 H8 _ I8 q8) (λk s9 ⟨H9,I9,q9⟩=>?_) λ_ _ z=>z.elim);cases k with
   |false=>
    rw [if_neg y6] at q9;exact x6 ⟨rfl,again I9 q9⟩
   |true=>
    rw [if_pos rfl] at q9;refine x5 (x5 (x8 (he s3 H3 fp _ s9 σ8 H9 _ I9 q9) (λw s10 ⟨y,H10,I10,r10,q10⟩=>?_) λ_ _ z=>z.elim));obtain ⟨zs,hz,hl,q10⟩:=q10;refine x5 (x8 (DG (X:=qr X N' scope s3 H3 fp) _ s10 σ8 H10 (.ref D) [y] (.ref D) [w] (λ_ H11=>H11=upd H10 D (.lst (zs++[y]))) I10 rfl (.cons r10 .nil) ⟨D,zs,y,rfl,rfl,hz,hl,rfl⟩) (λ_ s11 ⟨_,H11,I11,_,e11⟩=>?_) λ_ _ z=>z.elim);subst e11;exact x6 (x6 ⟨rfl,again I11 q10⟩)
 exact codeAny_compStart_list loop (T.self X.A 0 _ _ _ tn4 loop)
def qdo {i:Nat} {y:Str} {py spos:Pos} {elt tg iter:Expr} {ifs:List Expr} {scope:Scope} {pos:Pos} {N':List Str} {m:List (Option Nat)} {wi:TI} {g:TG} {tif:TT} {te:TE} (hc:X.calm=true) (hN:X.N.Nodup) (hi:PI X tg iter wi)
  (hg:∀ s H fp,PG (qr X N' scope s H fp) tg g) (hf:∀ s H fp,PF (qr X N' scope s H fp) ifs tif) (he:∀ s H fp,PE (qr X N' scope s H fp) elt te)
  (hsc:qaU X.env.scope scope=true) (hcap:ED X.N N' scope m=true) (hs:∀ x,foldedSetIterable iter X.env x=pure x) (hiy:X.N[i]?=some y) (hl:X.env.scope.names.lookup y=some .local)
  (hsw:swapsWith (.ListComp elt [⟨tg,iter,ifs,0⟩] scope pos) (some (.Name y py)) spos.line X.env=pure true) :
  PS X (.Assign [.Name y py] (.ListComp elt [⟨tg,iter,ifs,0⟩] scope pos) spos) (qoG (tLC wi g tif te m) (qh1 i)):=by
 intro pins s σ H D I h;rw [exec_Assign_Name_used _ _ _ _ hsw];refine x5 (wpAny_standAt (x5 ?_));show wpAny _ X.A (do let _←comprehension (.ListComp elt [⟨tg,iter,ifs,0⟩] scope pos) scope X.env _ (newList []) false (eval iter X.env) (some (assign (.Name y py) X.env))) _ _ s;refine x5 (x8 (qg5 (use:=some (assign (.Name y py) X.env)) (QD:=λD' H'=>D.nx (σ.set i (some (.ref D'))) H') (Qc:=λ_ s'=>∃ σ' H',Inv X pins σ' H' s'/\D.nx σ' H') hc hi hg hf he hsc hcap hs I h λD' s3 H3 fp s6 H6 σ6 r I3 f3 I6 q=>?_) (λ_ s' hq=>x6 (x6 hq)) λ_ _ e=>e);have I7:Inv X pins σ H6 s6:=D0 (h2:=s6.heap) I3 f3 I6 ⟨rfl,λ_ _=>rfl⟩;obtain ⟨mm,hn6,_⟩:=I6.loc;have hfC:KY X pins H6 s3.heap.objs.size:=I3.fpOk (v4 _) I6.free;obtain ⟨f0,f1,f2,f3',f4,f5⟩:=hfC;show wpAny _ X.A (assign (.Name y py) X.env (.ref D')) _ _ _;refine wpAny_assign_Name (K4 I7 hN hiy (.inl hl) (v:=.ref D') rfl (λs8 I8 hch=>?_) (.inr hl));obtain ⟨a,sb,ha⟩:=hch;have hne:s3.heap.objs.size≠a:=by
  rcases ha with rfl|ha
  ·exact f1
  ·exact Ne.symm (f4 _ _ ha)
 refine ⟨mm,hn6.sameBut sb hne,λh' sb'=>⟨_,_,I8.turned (t':=s8.toks) (λb o hb e=>(sb'.2 b hb).trans e) f0 f1 f3' f4 f5,q⟩⟩
end
def qp8 {K:Frg} {m:List (Option Nat)} {wi:TI3} {g:TG3} {tif:TT3} {te:TE3} {σ:L2.St} {H:Hp} {Q:VK} (hh:lE K (lc3 wi g tif te m) σ H Q):tLC (lI K wi) (lG K g) (lT K tif) (lE K te) m σ H Q:=by
  obtain ⟨τ,G,q,rl,h,af⟩:=hh;refine ⟨τ,G,_,rl,h,λitems stay G1 h1 J H1 hr1 k1 ok D hD=>?_⟩;have gD:G1 D=none:=hr1.free hD;refine ⟨λi n σ' H'=>n=items.length-i/\i<=items.length/\∃ τ' G' ys vs,Rel K τ' G' σ' H'/\Kp G1 H1 G' H'/\H' D=some (.lst vs)/\Rps K H' ys vs/\G' D=none/\CL stay g tif te q (items.drop i) ys τ' G',
   ⟨_,rfl,Nat.zero_le _,cap m τ,G1,[],[],((rl.next hr1 k1).cap m).next (hr1.laid hD) (Kp.laid hD),Kp.laid hD,ze,.nil,gD,by simpa using h1⟩,?_⟩
  rintro i n σ' H' ⟨rfl,hi,τ',G',ys,vs,rl',k',hDl,rys,gD',h'⟩;by_cases hlt:i<items.length
  ·rw [List.drop_eq_getElem_cons hlt] at h';obtain ⟨hst,h'⟩:=h';obtain ⟨go,yld,_⟩:=ok G' H' rl'.hp k' hst;have hx:items[i]?=some items[i]:=y9 hlt;refine .inr ⟨go i _ hx,λv H2 y=>?_⟩;obtain ⟨rv,hr2,k2⟩:=yld i _ v H2 hx y;have nxt:∀ {τ4:St3} {G4:Gp} {σ4:L2.St} {H4:Hp} {ys4:List T} {vs4:List V},Rel K τ4 G4 σ4 H4->Kp G1 H1 G4 H4->H4 D=some (.lst vs4)->Rps K H4 ys4 vs4->G4 D=none->CL stay g tif te q (items.drop (i+1)) ys4 τ4 G4 ->
     ∃ n',n'<items.length-i/\(n'=items.length-(i+1)/\i+1<=items.length/\∃ τ' G' ys vs,Rel K τ' G' σ4 H4/\Kp G1 H1 G' H4/\H4 D=some (.lst vs)/\Rps K H4 ys vs/\G' D=none/\CL stay g tif te q (items.drop (i+1)) ys τ' G'):=
    λ{τ4 G4 σ4 H4 ys4 vs4} a b c d e f=>⟨_,by omega,rfl,hlt,τ4,G4,ys4,vs4,a,b,c,d,e,f⟩
   refine ⟨_,τ',G',_,rv,rl'.next hr2 k2,h',λτ3 G3 h3 σ3 H3 rl3 k3=>⟨τ3,G3,_,rl3,h3,λk G4 h4 H4 hr4 k4=>?_⟩⟩;have kk:=(k2.trans k3).trans k4;obtain ⟨hD4,gD4⟩:=kk D _ hDl gD';have rys4:=rys.keep rl'.hp kk;cases k with
   |false=>
    rw [if_neg y6] at h4;refine qn1 ?_;exact nxt (rl3.next hr4 k4) (k'.trans kk) hD4 rys4 gD4 h4
   |true=>
    rw [if_pos rfl] at h4;refine qnO ?_;refine ⟨τ3,G4,_,rl3.next hr4 k4,h4,λz G5 h5 w H5 rw5 hr5 k5=>?_⟩;obtain ⟨hD5,gD5⟩:=k5 D _ hD4 gD4;have rys5:=rys4.keep hr4 k5;exact ⟨vs,hD5,by rw [← rys.length];exact h5.1,nxt (((rl3.next hr4 k4).next hr5 k5).wrD hD5 gD5) (((k'.trans kk).trans k5).wrD hD) ze ((rys5.append (.cons rw5 .nil)).wrD hD5) gD5 h5.2⟩
  ·have e:i=items.length:=by omega
   subst e;rw [List.drop_length] at h';obtain ⟨_,_,stop⟩:=ok G' H' rl'.hp k' h'.1;refine .inl ⟨stop,af _ _ (h'.2 D gD') _ H' (.ref D) (λa o e=>?_) λa o e ga=>?_⟩
   ·by_cases ha:a=D
    ·subst ha;rw [qv] at e;cases e;exact ⟨vs,hDl,rys⟩
    ·rw [zD ha] at e;exact rl'.hp a o e
   ·obtain ⟨e1,g1⟩:=k1 a o e ga;obtain ⟨e2,g2⟩:=k' a o e1 g1;exact ⟨e2,by rw [zD (qG e1 hD)];exact g2⟩
def qhJ {X:Cx} {py spos:Pos} {elt tg iter:Expr} {ifs:List Expr} {scope:Scope} {pos:Pos} {y:Str} (i:Nat) (N':List Str) (m:List (Option Nat)) {wi:TI3} {g:TG3} {tif:TT3} {te:TE3} (hc:X.calm=true) (hN:X.N.Nodup) (hi:I3 X tg iter wi)
  (hg:∀ s H fp,G3 (qr X N' scope s H fp) tg g) (hf:∀ s H fp,F3 (qr X N' scope s H fp) ifs tif) (he:∀ s H fp,E3 (qr X N' scope s H fp) elt te)
  (hsc:qaU X.env.scope scope=true) (hcap:ED X.N N' scope m=true) (hl:X.env.scope.names.lookup y=some .local) (hsw:swapsWith (.ListComp elt [⟨tg,iter,ifs,0⟩] scope pos) (some (.Name y py)) spos.line X.env=pure true) (hiy:X.N[i]?=some y:=by rfl) (hs:∀ x,foldedSetIterable iter X.env x=pure x:=by intro _;rfl) :
  S3 X (.Assign [.Name y py] (.ListComp elt [⟨tg,iter,ifs,0⟩] scope pos) spos) (qH (lc3 wi g tif te m) (gn3 i)):=
 qaL (qdo (g:=lG X.K g) (tif:=lT X.K tif) (te:=lE X.K te) hc hN hi hg hf he hsc hcap hs hiy hl hsw) λ_ σ H ⟨τ,G,d,rl,h,af⟩=>
  qp8 ⟨τ,G,_,rl,h,λx G1 h1 v H1 rx hr1 k1=>af.nx _ G1 h1 _ H1 ((rl.next hr1 k1).set i rx) k1⟩
end L3
set_option autoImplicit true
namespace L3
open PySem PySem.Spec PyProof.Rows L2
structure jE3 (X:Cx) (e:Expr) (t:TE3):Prop where h:E3 X e t
structure jC3 (X:Cx) (e:Expr) (t:TT3):Prop where h:C3 X e t
structure jW3 (X:Cx) (e:Expr) (t:TT3):Prop where h:W3 X e t
structure jA3 (X:Cx) (e:List Expr) (t:TA3):Prop where h:A3 X e t
structure jP3 (X:Cx) (e:Option Expr) (t:TO3):Prop where h:P3 X e t
structure jS3 (X:Cx) (e:Stmt) (t:TS3):Prop where h:S3 X e t
structure jB3 (X:Cx) (e:List Stmt) (t:TS3):Prop where h:B3 X e t
structure jG3 (X:Cx) (e:Expr) (t:TG3):Prop where h:G3 X e t
structure jGs3 (X:Cx) (e:List Expr) (t:LV):Prop where h:Gs3 X e t
structure jI3 (X:Cx) (tg e:Expr) (t:TI3):Prop where h:I3 X tg e t
structure jF3 (X:Cx) (e:List Expr) (t:TT3):Prop where h:F3 X e t
def qd {X:Cx} (i:Nat) {x:Str} {pos:Pos} (hN:X.N[i]?=some x:=by rfl) (hv:Vis X.env.scope x:=by first|exact Or.inl rfl|exact Or.inr (Or.inl rfl)|exact Or.inr (Or.inr rfl)) (hd:(x==("__debug__" : Str))=false:=by decide)
  (hcd:(x==("__classdict__" : Str))=false:=by decide):jE3 X (.Name x pos) (v3 i):=
 ⟨qpW (i:=i) (hN:=hN) (hv:=hv) (hd:=hd) (hcd:=hcd)⟩
def qf {X:Cx} {i:Int} {j pos}:jE3 X (.Constant (.int i) j pos) (c3 (.int i)):=
 ⟨qob ⟩
def qdS {X:Cx} {b:Bool} {j pos}:jE3 X (.Constant (.bool b) j pos) (c3 (.bl b)):=
 ⟨qrs ⟩
def RF {X:Cx} {j pos}:jE3 X (.Constant .none j pos) (c3 .non):=
 ⟨qot ⟩
def qN {X:Cx} {x:Str} {j pos}:jE3 X (.Constant (.str x) j pos) (c3 (.str x)):=
 ⟨qo6 ⟩
def ZB {ta:TE3} {tb:TE3} {pos:Pos} {a:Expr} {b:Expr} {X:Cx} {op:CmpOp} {r3:R3} {r:R2} (ho:OpR X (compareOp op) r) (hr:MY X.K r3 r) (ha:jE3 X a ta) (hb:jE3 X b tb) (hm:behindInMarks op b=false):jE3 X (.Compare a [op] [b] pos) (o3 r3 ta tb):=
 ⟨qoL (ho:=ho) (hr:=hr) (ha:=ha.h) (hb:=hb.h) (hm:=hm)⟩
def qP {ta:TE3} {tb:TE3} {pos:Pos} {a:Expr} {b:Expr} {X:Cx} {op:CmpOp} {r3:R3} {r:R2} (ho:OpR X (compareOp op) r) (hr:MY X.K r3 r) (ha:jE3 X a ta) (hb:jE3 X b tb) (hm:behindInMarks op b=false):jC3 X (.Compare a [op] [b] pos) (tb3 (o3 r3 ta tb)):=
 ⟨qpN (ho:=ho) (hr:=hr) (ha:=ha.h) (hb:=hb.h) (hm:=hm)⟩
def js {ta:TE3} {tb:TE3} {pos:Pos} {a:Expr} {b:Expr} {X:Cx} (ha:jE3 X a ta) (hb:jE3 X b tb):jE3 X (.BinOp a .Mult b pos) (o3 (iC UM (·*·)) ta tb):=
 ⟨qp4 (ha:=ha.h) (hb:=hb.h)⟩
def jF {ta:TE3} {tb:TE3} {pos:Pos} {a:Expr} {b:Expr} {X:Cx} (ha:jE3 X a ta) (hb:jE3 X b tb):jE3 X (.BinOp a .Mod b pos) (o3 (iC (λ_ j=>0<j) (·%·)) ta tb):=
 ⟨qo9 (ha:=ha.h) (hb:=hb.h)⟩
def UT {ta:TE3} {tb:TE3} {pos:Pos} {a:Expr} {b:Expr} {X:Cx} (ha:jE3 X a ta) (hb:jE3 X b tb):jE3 X (.BinOp a .FloorDiv b pos) (o3 (iC MM (·/·)) ta tb):=
 ⟨qoA (ha:=ha.h) (hb:=hb.h)⟩
def qk0 {ta:TE3} {tb:TE3} {pos:Pos} {a:Expr} {b:Expr} {X:Cx} (ha:jE3 X a ta) (hb:jE3 X b tb):jE3 X (.BinOp a .Pow b pos) (o3 (iC qam (λi j=>i ^ j.toNat)) ta tb):=
 ⟨qoY (ha:=ha.h) (hb:=hb.h)⟩
def SS {ta:TE3} {tb:TE3} {pos:Pos} {a:Expr} {b:Expr} {X:Cx} (ha:jE3 X a ta) (hb:jE3 X b tb):jE3 X (.BinOp a .BitAnd b pos) (o3 (iI Builtin.bitAnd) ta tb):=
 ⟨qjE (ha:=ha.h) (hb:=hb.h)⟩
def qaa {ta:TE3} {tb:TE3} {pos:Pos} {a:Expr} {b:Expr} {X:Cx} (ha:jE3 X a ta) (hb:jE3 X b tb):jE3 X (.BinOp a .LShift b pos) (o3 (iC qam (λi j=>i*2 ^ j.toNat)) ta tb):=
 ⟨qpR (ha:=ha.h) (hb:=hb.h)⟩
def qlH {ta:TE3} {tb:TE3} {pos:Pos} {a:Expr} {b:Expr} {X:Cx} (ha:jE3 X a ta) (hb:jE3 X b tb):jE3 X (.BinOp a .RShift b pos) (o3 (iC (λ_ j=>0<=j) (λi j=>i/2 ^ j.toNat)) ta tb):=
 ⟨qpM (ha:=ha.h) (hb:=hb.h)⟩
def RH {ta:TE3} {pos:Pos} {a:Expr} {X:Cx} (ha:jE3 X a ta):jE3 X (.UnaryOp .USub a pos) (u3 Z7 ta):=
 ⟨qpI (ha:=ha.h)⟩
def NI {tA:TT3} {pos:Pos} {a:Expr} {X:Cx} (ha:jC3 X a tA):jW3 X (.BoolOp .Or [a] pos) tA:=
 ⟨qpt (ha:=ha.h)⟩
def qbu {QS:List Expr} {tA:TT3} {tB:TT3} {pos:Pos} {a:Expr} {X:Cx} (ha:jC3 X a tA) (hb:jW3 X (.BoolOp .Or (b::QS) pos) tB):jW3 X (.BoolOp .Or (a::b::QS) pos) (or3 tA tB):=
 ⟨qrL (ha:=ha.h) (hb:=hb.h)⟩
def LA {tA:TT3} {pos:Pos} {a:Expr} {X:Cx} (ha:jC3 X a tA):jC3 X (.UnaryOp .Not a pos) (JS tA):=
 ⟨qo4 (ha:=ha.h)⟩
def J1 {X:Cx} {e:Expr} {t:TE3} (h:jE3 X e t) (he:∀ whole,isTrue e X.env whole=(do let v←whole;standAt e.pos;holding [v] (truthy v)):=by intro _;rfl):jC3 X e (tb3 t):=
 ⟨qpx (h:=h.h) (he:=he)⟩
def LC {ta:TE3} {pos:Pos} {a:Expr} {X:Cx} {op} (h:jE3 X a ta):jE3 X (.BoolOp op [a] pos) ta:=
 ⟨qpS (h:=h.h)⟩
def LR {QS:List Expr} {ta:TE3} {tb:TE3} {pos:Pos} {a:Expr} {X:Cx} (ha:jE3 X a ta) (hb:jE3 X (.BoolOp .And (b::QS) pos) tb):jE3 X (.BoolOp .And (a::b::QS) pos) (zy ta tb):=
 ⟨qpH (ha:=ha.h) (hb:=hb.h)⟩
def qlV {QS:List Expr} {ta:TE3} {tb:TE3} {pos:Pos} {a:Expr} {X:Cx} (ha:jE3 X a ta) (hb:jE3 X (.BoolOp .Or (b::QS) pos) tb):jE3 X (.BoolOp .Or (a::b::QS) pos) (VF ta tb):=
 ⟨qrg (ha:=ha.h) (hb:=hb.h)⟩
def qku {ta:TE3} {pos:Pos} {a:Expr} {X:Cx} (ha:jE3 X a ta):jE3 X (.UnaryOp .Not a pos) (ja ta):=
 ⟨qoT (ha:=ha.h)⟩
def qhi {tA:TT3} {ta:TE3} {tb:TE3} {pos:Pos} {a:Expr} {b:Expr} {X:Cx} {c:Expr} (hc:jC3 X c tA) (ha:jE3 X a ta) (hb:jE3 X b tb):jE3 X (.IfExp c a b pos) (if3 tA ta tb):=
 ⟨qq1 (hc:=hc.h) (ha:=ha.h) (hb:=hb.h)⟩
def qg {X:Cx} :jA3 X [] qk:=
 ⟨qpC ⟩
def qb {te:TE3} {t:TA3} {es:List Expr} {X:Cx} (ha:jE3 X e te) (hr:jA3 X es t) (hs:starEach (e::es) X.env=(false,eval e X.env)::starEach es X.env:=by rfl):jA3 X (e::es) (qc te t):=
 ⟨qiL (ha:=ha.h) (hr:=hr.h) (hs:=hs)⟩
def qC {t:TA3} {pos:Pos} {es:List Expr} {X:Cx} {x1} (h:jA3 X es t):jE3 X (.Tuple es x1 pos) (q0 t):=
 ⟨qoU (h:=h.h)⟩
def zI {t:TA3} {pos:Pos} {es:List Expr} {X:Cx} (h:jA3 X es t):jE3 X (.List es pos) (zF t):=
 ⟨qoS (h:=h.h)⟩
def za {t:TA3} {pos:Pos} {es:List Expr} {X:Cx} {x:Str} {p:Pos} {id:String} {r3:List T->Gp->Q3->Prop} {r:List V->Hp->VK->Prop} (hc:VH X (.builtin id) r) (hr:qaT X.K r3 r) (hg:Gl X x) (hm:X.mg x=none) (hv:bootBuiltins x=some (.builtin id)) (ha:jA3 X (e::es) t) (hn:x≠"__name__" := by decide) (hdb:(x==("__debug__" : Str))=false:=by decide)
  (he:starEach (e::es) X.env=(false,eval e X.env)::starEach es X.env:=by rfl) (hpl:(backTo pos (starEach es X.env)).any (·.1)=false:=by rfl):jE3 X (.Call (.Name x p) (e::es) [] pos) (cb3 r3 t):=
 ⟨qgR (hc:=hc) (hr:=hr) (hg:=hg) (hm:=hm) (hv:=hv) (ha:=ha.h) (hn:=hn) (hdb:=hdb) (he:=he) (hpl:=hpl)⟩
def zW {t:TA3} {pos:Pos} {es:List Expr} {X:Cx} {x:Str} {p:Pos} {ty:String} {r3:List T->Gp->Q3->Prop} {r:List V->Hp->VK->Prop} (hc:VH X (.type ty) r) (hr:qaT X.K r3 r) (hg:Gl X x) (hm:X.mg x=none) (hv:bootBuiltins x=some (.type ty)) (ha:jA3 X (e::es) t) (hn:x≠"__name__" := by decide) (hdb:(x==("__debug__" : Str))=false:=by decide)
  (he:starEach (e::es) X.env=(false,eval e X.env)::starEach es X.env:=by rfl) (hpl:(backTo pos (starEach es X.env)).any (·.1)=false:=by rfl):jE3 X (.Call (.Name x p) (e::es) [] pos) (cb3 r3 t):=
 ⟨qda (hc:=hc) (hr:=hr) (hg:=hg) (hm:=hm) (hv:=hv) (ha:=ha.h) (hn:=hn) (hdb:=hdb) (he:=he) (hpl:=hpl)⟩
def qA {ta:TE3} {tb:TE3} {pos:Pos} {a:Expr} {b:Expr} {X:Cx} (ha:jE3 X a ta) (hb:jE3 X b tb) (hs:MK b:=by intro _ _;rfl):jE3 X (.Subscript a b pos) (o3 ix3 ta tb):=
 ⟨qrc (ha:=ha.h) (hb:=hb.h) (hs:=hs)⟩
def qcT {te:TE3} {e:Expr} {X:Cx} (h:jE3 X e te):jP3 X (some e) (sp3 te):=
 ⟨qlt (h:=h.h)⟩
def qdT {te:TE3} {pos:Pos} {e:Expr} {X:Cx} {lo hi:Option Expr} {tl th:TO3} {p2:Pos} (he:jE3 X e te) (hl:jP3 X lo tl) (hu:jP3 X hi th):jE3 X (.Subscript e (.Slice lo hi none p2) pos) (VD te tl th):=
 ⟨qim (he:=he.h) (hl:=hl.h) (hu:=hu.h)⟩
def qE {ta:TE3} {tb:TE3} {pos:Pos} {a:Expr} {b:Expr} {X:Cx} (ha:jE3 X a ta) (hb:jE3 X b tb):jE3 X (.BinOp a .Add b pos) (o3 zh ta tb):=
 ⟨qlA (ha:=ha.h) (hb:=hb.h)⟩
def ZL {t:TA3} {e:Expr} {X:Cx} {o:Expr} {to:TE3} {apos cpos:Pos} (ho:jE3 X o to) (ha:jA3 X [e] t)
  (hbase:attributeBase o "append" X.env (eval o X.env)=eval o X.env:=by rfl)
  (hfew:((backTo cpos (starEach [e] X.env)).all (λx=>!x.1)&&(backToKw cpos (keywordEach [] X.env)).all (λx=>x.1.isSome)
   && decide (([e]:List Expr).length+([]:List Keyword).length+(if ([]:List Keyword).isEmpty then 0 else 1)<30))=true:=by rfl)
  (hline:(apos.endLine==cpos.line)=true:=by rfl) (hs:starEach [e] X.env=(false,eval e X.env)::starEach [] X.env:=by rfl) (hplain:(backTo cpos (starEach [] X.env)).any (·.1)=false:=by rfl):jE3 X (.Call (.Attribute o "append" apos) [e] [] cpos) (bm3 QC to t):=
 ⟨qdv (ho:=ho.h) (ha:=ha.h) (hbase:=hbase) (hfew:=hfew) (hline:=hline) (hs:=hs) (hplain:=hplain)⟩
def qc2 {t:TA3} {e:Expr} {X:Cx} {o:Expr} {to:TE3} {apos cpos:Pos} (ho:jE3 X o to) (ha:jA3 X [e] t)
  (hbase:attributeBase o "extend" X.env (eval o X.env)=eval o X.env:=by rfl)
  (hfew:((backTo cpos (starEach [e] X.env)).all (λx=>!x.1)&&(backToKw cpos (keywordEach [] X.env)).all (λx=>x.1.isSome)
   && decide (([e]:List Expr).length+([]:List Keyword).length+(if ([]:List Keyword).isEmpty then 0 else 1)<30))=true:=by rfl)
  (hline:(apos.endLine==cpos.line)=true:=by rfl) (hs:starEach [e] X.env=(false,eval e X.env)::starEach [] X.env:=by rfl) (hplain:(backTo cpos (starEach [] X.env)).any (·.1)=false:=by rfl):jE3 X (.Call (.Attribute o "extend" apos) [e] [] cpos) (bm3 J6 to t):=
 ⟨qd2 (ho:=ho.h) (ha:=ha.h) (hbase:=hbase) (hfew:=hfew) (hline:=hline) (hs:=hs) (hplain:=hplain)⟩
def ET {te:TE3} {pos:Pos} {e:Expr} {X:Cx} {tn:Str} {ty:String} {p p2:Pos} (he:jE3 X e te) (hg:Gl X "isinstance") (hm:X.mg "isinstance" = none) (hg2:Gl X tn) (hm2:X.mg tn=none) (hv:bootBuiltins tn=some (.type ty)) (hmem:ty∈ZH:=by decide) (hn:tn≠"__name__" := by decide) (hdb:(tn==("__debug__" : Str))=false:=by decide)
  (hs:starEach [e,.Name tn p2] X.env=(false,eval e X.env)::starEach [.Name tn p2] X.env:=by rfl) (hs2:starEach [.Name tn p2] X.env=(false,eval (.Name tn p2) X.env)::starEach [] X.env:=by rfl) (hpl:(backTo pos (starEach [.Name tn p2] X.env)).any (·.1)=false:=by rfl):jE3 X (.Call (.Name "isinstance" p) [e,.Name tn p2] [] pos) (QT (λt=>jp t ty) te):=
 ⟨qon (he:=he.h) (hg:=hg) (hm:=hm) (hg2:=hg2) (hm2:=hm2) (hv:=hv) (hmem:=hmem) (hn:=hn) (hdb:=hdb) (hs:=hs) (hs2:=hs2) (hpl:=hpl)⟩
def qbZ {te:TE3} {pos:Pos} {e:Expr} {X:Cx} {tn tn':Str} {ty ty':String} {p p2 p3 p4:Pos} {x1} (he:jE3 X e te) (hg:Gl X "isinstance") (hm:X.mg "isinstance" = none) (hg2:Gl X tn) (hm2:X.mg tn=none) (hv:bootBuiltins tn=some (.type ty)) (hg3:Gl X tn') (hm3:X.mg tn'=none) (hv3:bootBuiltins tn'=some (.type ty'))
  (hmem:ty∈ZH:=by decide) (hn:tn≠"__name__" := by decide) (hdb:(tn==("__debug__" : Str))=false:=by decide) (hmem3:ty'∈ZH:=by decide) (hn3:tn'≠"__name__" := by decide) (hdb3:(tn'==("__debug__" : Str))=false:=by decide)
  (hs:starEach [e,.Tuple [.Name tn p2,.Name tn' p3] x1 p4] X.env=(false,eval e X.env)::starEach [.Tuple [.Name tn p2,.Name tn' p3] x1 p4] X.env:=by rfl) (hs2:starEach [.Tuple [.Name tn p2,.Name tn' p3] x1 p4] X.env=(false,eval (.Tuple [.Name tn p2,.Name tn' p3] x1 p4) X.env)::starEach [] X.env:=by rfl)
  (hs3:starEach [.Name tn p2,.Name tn' p3] X.env=(false,eval (.Name tn p2) X.env)::starEach [.Name tn' p3] X.env:=by rfl) (hs4:starEach [.Name tn' p3] X.env=(false,eval (.Name tn' p3) X.env)::starEach [] X.env:=by rfl)
  (hpl:(backTo pos (starEach [.Tuple [.Name tn p2,.Name tn' p3] x1 p4] X.env)).any (·.1)=false:=by rfl):jE3 X (.Call (.Name "isinstance" p) [e,.Tuple [.Name tn p2,.Name tn' p3] x1 p4] [] pos) (QT (λt=>jp t ty||jp t ty') te):=
 ⟨qmw (he:=he.h) (hg:=hg) (hm:=hm) (hg2:=hg2) (hm2:=hm2) (hv:=hv) (hg3:=hg3) (hm3:=hm3) (hv3:=hv3) (hmem:=hmem) (hn:=hn) (hdb:=hdb) (hmem3:=hmem3) (hn3:=hn3) (hdb3:=hdb3) (hs:=hs) (hs2:=hs2) (hs3:=hs3) (hs4:=hs4) (hpl:=hpl)⟩
def qT {X:Cx} :jB3 X [] qw:=
 ⟨qp3 ⟩
def qh {QS:List Stmt} {st:Stmt} {t1:TS3} {t2:TS3} {X:Cx} (h1:jS3 X st t1) (h2:jB3 X QS t2):jB3 X (st::QS) (qy t1 t2):=
 ⟨qme (h1:=h1.h) (h2:=h2.h)⟩
def qo {st:Stmt} {t1:TS3} {X:Cx} (h1:jS3 X st t1):jB3 X [st] t1:=
 ⟨qpm (h1:=h1.h)⟩
def ZP {te:TE3} {pos:Pos} {e:Expr} {X:Cx} (he:jE3 X e te) (hs:swapsWith e none pos.line X.env=pure false:=by rfl):jS3 X (.Expr e pos) (qR te):=
 ⟨qkg (he:=he.h) (hs:=hs)⟩
def qx {te:TE3} {pos:Pos} {e:Expr} {X:Cx} (he:jE3 X e te):jS3 X (.Return (some e) pos) (qL te):=
 ⟨qpl (he:=he.h)⟩
def zA {tA:TT3} {t1:TS3} {t2:TS3} {pos:Pos} {X:Cx} {c:Expr} {ba bb:List Stmt} (hc:jC3 X c tA) (ha:jB3 X ba t1) (hb:jB3 X bb t2):jS3 X (.If c ba bb pos) (zb tA t1 t2):=
 ⟨qq0 (hc:=hc.h) (ha:=ha.h) (hb:=hb.h)⟩
def M4 {X:Cx} {sts:List Stmt}:jB3 X sts YS:=
 ⟨qij ⟩
def qt {pos:Pos} {X:Cx} {i:Nat} {x:Str} (hN:X.N.Nodup) (hi:X.N[i]?=some x:=by rfl) (hx:Loc X.env.scope x:=by first|exact Or.inl rfl|exact Or.inr rfl) (hf:X.fn x=true\/X.env.scope.names.lookup x=some .local:=by first|exact .inl rfl|exact .inr rfl):jG3 X (.Name x pos) (gn3 i):=
 ⟨qkm (hN:=hN) (hi:=hi) (hx:=hx) (hf:=hf)⟩
def zH {X:Cx} :jGs3 X [] qJ:=
 ⟨qoE ⟩
def qq {es:List Expr} {X:Cx} {tg:TG3} {tgs:LV} (h1:jG3 X e tg) (h2:jGs3 X es tgs) (hs:(assignEach (e::es) X.env).map (·.2)=assign e X.env::(assignEach es X.env).map (·.2):=by rfl):jGs3 X (e::es) (ql tg tgs):=
 ⟨qlg (h1:=h1.h) (h2:=h2.h) (hs:=hs)⟩
def zG {pos:Pos} {es:List Expr} {X:Cx} {k:Nat} {tgs:LV} {n:Nat} (hc:X.calm=true) (h:jGs3 X es tgs) (hn:(assignEach es X.env).length=n:=by rfl) (hst:(assignEach es X.env).findIdx? (·.1)=none:=by rfl):jG3 X (.Tuple es k pos) (qI n tgs):=
 ⟨qpQ (hc:=hc) (h:=h.h) (hn:=hn) (hst:=hst)⟩
def qfX {pos : Pos} {X : Cx} {o i : Expr} {to ti : TE3} (ho : jE3 X o to) (hi : jE3 X i ti) (ha : ∀ v,assign (.Subscript o i pos) X.env v = (do
      let ov←holding [v] (eval o X.env)
      let iv←holding [v,ov] (eval i X.env)
      standAt pos
      holding [v,ov,iv] (setItem ov iv v)
      release [v,ov,iv] []):=by intro _;rfl):jG3 X (.Subscript o i pos) (zz to ti):=
  ⟨qoM (ho:=ho.h) (hi:=hi.h) (ha:=ha)⟩
def jH {te:TE3} {pos:Pos} {X:Cx} {tg e:Expr} {g:TG3} (he:jE3 X e te) (hg:jG3 X tg g) (hs:swapsWithSole [tg] e pos.line X.env=pure false:=by rfl) (hw:swappedStores [tg] e X.env=pure none:=by rfl)
  (h1:(assignEach [tg] X.env).map (·.2)=[assign tg X.env]:=by rfl):jS3 X (.Assign [tg] e pos) (qH te g):=
 ⟨qol (he:=he.h) (hg:=hg.h) (hs:=hs) (hw:=hw) (h1:=h1)⟩
def qQ {te:TE3} {pos:Pos} {X:Cx} (i:Nat) {x:Str} {e:Expr} {pos':Pos} (hN:X.N.Nodup) (he:jE3 X e te) (hi:X.N[i]?=some x:=by rfl) (hx:Loc X.env.scope x:=by first|exact Or.inl rfl|exact Or.inr rfl) (hs:swapsWith e (some (.Name x pos')) pos.line X.env=pure false:=by rfl) (hf:X.fn x=true\/X.env.scope.names.lookup x=some .local:=by first|exact .inl rfl|exact .inr rfl):jS3 X (.Assign [.Name x pos'] e pos) (qH te (gn3 i)):=
 ⟨qpG (i:=i) (hN:=hN) (he:=he.h) (hi:=hi) (hx:=hx) (hs:=hs) (hf:=hf)⟩
def KM {pos:Pos} {X:Cx} {i j:Nat} {x y:Str} {a b:Expr} {tt:TA3} {px py pt:Pos} {kt k2 pt2} (hc:X.calm=true) (hN:X.N.Nodup) (hi:X.N[i]?=some x) (hj:X.N[j]?=some y) (hij:i≠j)
  (hx:X.env.scope.names.lookup x=some .local) (hy:X.env.scope.names.lookup y=some .local) (ha:jA3 X [a,b] tt)
  (hw:swappedStores [.Tuple [.Name x px,.Name y py] kt pt] (.Tuple [a,b] k2 pt2) X.env=pure (some [x,y]):=by rfl)
  (hs:swapsWithSole [.Tuple [.Name x px,.Name y py] kt pt] (.Tuple [a,b] k2 pt2) pos.line X.env=pure false:=by rfl):jS3 X (.Assign [.Tuple [.Name x px,.Name y py] kt pt] (.Tuple [a,b] k2 pt2) pos) (Z1 i j tt):=
 ⟨qoq (hc:=hc) (hN:=hN) (hi:=hi) (hj:=hj) (hij:=hij) (hx:=hx) (hy:=hy) (ha:=ha.h) (hw:=hw) (hs:=hs)⟩
def EZ {te:TE3} {X:Cx} {tg:Expr} {l:Expr} (hl:jE3 X l te):jI3 X tg l (YG te):=
 ⟨qpp (hl:=hl.h)⟩
def qX {t:TA3} {pos:Pos} {a:Expr} {X:Cx} {tg:Expr} {p:Pos} (hg:Gl X "range") (hm:X.mg "range" = none) (ha:jA3 X [a] t) (hs:starEach [a] X.env=[(false,eval a X.env)]:=by rfl) (h1:∀ τ G q,t τ G q->t τ G λxs G=>q xs G/\xs.length=1):jI3 X tg (.Call (.Name "range" p) [a] [] pos) (zO t):=
 ⟨qdN (hg:=hg) (hm:=hm) (ha:=ha.h) (hs:=hs) (h1:=h1)⟩
def LM {t:TA3} {pos:Pos} {a:Expr} {b:Expr} {X:Cx} {tg:Expr} {p:Pos} (hg:Gl X "range") (hm:X.mg "range" = none) (ha:jA3 X [a,b] t) (hs:starEach [a,b] X.env=[(false,eval a X.env),(false,eval b X.env)]:=by rfl) (hs2:starEach [b] X.env=[(false,eval b X.env)]:=by rfl) (h1:∀ τ G q,t τ G q->t τ G λxs G=>q xs G/\xs.length=2):jI3 X tg (.Call (.Name "range" p) [a,b] [] pos) (zO t):=
 ⟨qc6 (hg:=hg) (hm:=hm) (ha:=ha.h) (hs:=hs) (hs2:=hs2) (h1:=h1)⟩
def JY {pos:Pos} {X:Cx} {tg:Expr} {iter:Expr} {body:List Stmt} {wi:TI3} {g:TG3} {tb:TS3} (hp:PassesOwn (model X.prog X.w) X.A X.env X.xe) (hc:X.calm=true) (hi:jI3 X tg iter wi) (hg:jG3 X tg g) (hb:jB3 X body tb)
  (hs:∀ x,foldedSetIterable iter X.env x=pure x:=by intro _;rfl):jS3 X (.For tg iter body [] pos) (WF wi g tb):=
 ⟨qpg (hp:=hp) (hc:=hc) (hi:=hi.h) (hg:=hg.h) (hb:=hb.h) (hs:=hs)⟩
def N0 {pos:Pos} {X:Cx} {c:Expr} {body:List Stmt} {tc:TT3} {tb:TS3} (hp:PassesOwn (model X.prog X.w) X.A X.env X.xe) (hc:jC3 X c tc) (hb:jB3 X body tb):jS3 X (.While c body [] pos) (RD tc tb):=
 ⟨qit (hp:=hp) (hc:=hc.h) (hb:=hb.h)⟩
def qj {t:TA3} {pos:Pos} {es:List Expr} {X:Cx} {k:Nat} {x:Str} {p:Pos} {sp:Sp3} (F:Fn3 X.prog X.w X.K X.mg X.base k x sp) (hr:Room k X.A) (hg:Gl X x) (ha:jA3 X (e::es) t) (hdb:(x==("__debug__" : Str))=false:=by decide)
  (he:starEach (e::es) X.env=(false,eval e X.env)::starEach es X.env:=by rfl) (hpl:(backTo pos (starEach es X.env)).any (·.1)=false:=by rfl):jE3 X (.Call (.Name x p) (e::es) [] pos) (cb3 sp t):=
 ⟨qi1 (F:=F) (hr:=hr) (hg:=hg) (ha:=ha.h) (hdb:=hdb) (he:=he) (hpl:=hpl)⟩
def WZ {X:Cx} {elt tg iter:Expr} {ifs:List Expr} {scope:Scope} {pos:Pos} (N':List Str) (m:List (Option Nat)) {wi:TI3} {g:TG3} {tif:TT3} {te:TE3} (hc:X.calm=true) (hi:jI3 X tg iter wi)
  (hg:∀ s H fp,jG3 (qr X N' scope s H fp) tg g) (hf:∀ s H fp,jF3 (qr X N' scope s H fp) ifs tif) (he:∀ s H fp,jE3 (qr X N' scope s H fp) elt te)
  (hsc:qaU X.env.scope scope=true) (hcap:ED X.N N' scope m=true) (hs:∀ x,foldedSetIterable iter X.env x=pure x:=by intro _;rfl):jE3 X (.ListComp elt [⟨tg,iter,ifs,0⟩] scope pos) (lc3 wi g tif te m):=
 ⟨qrr (N':=N') (m:=m) (hc:=hc) (hi:=hi.h) (hg:=(λs H fp=>(hg s H fp).h)) (hf:=(λs H fp=>(hf s H fp).h)) (he:=(λs H fp=>(he s H fp).h)) (hsc:=hsc) (hcap:=hcap) (hs:=hs)⟩
def jD {X:Cx}:jF3 X [] tt3:=
 ⟨qqb ⟩
def qaZ {X:Cx} {c:Expr} {t:TT3} (h:jC3 X c t):jF3 X [c] t:=
 ⟨qoO (h:=h.h)⟩
def qeu {t:TA3} {pos:Pos} {es:List Expr} {a:Expr} {b:Expr} {X:Cx} {p pt:Pos} {k1:Nat} (hg:Gl X "zip") (hm:X.mg "zip" = none) (ha:jA3 X [a,b] t) (hs:starEach [a,b] X.env=[(false,eval a X.env),(false,eval b X.env)]:=by rfl) (hs2:starEach [b] X.env=[(false,eval b X.env)]:=by rfl):jI3 X (.Tuple es k1 pt) (.Call (.Name "zip" p) [a,b] [] pos) (qaM t):=
 ⟨qpi (hg:=hg) (hm:=hm) (ha:=ha.h) (hs:=hs) (hs2:=hs2)⟩
def TB {t:TA3} {pos:Pos} {es:List Expr} {a:Expr} {X:Cx} {p pt:Pos} {k1:Nat} (hg:Gl X "enumerate") (hm:X.mg "enumerate" = none) (ha:jA3 X [a] t) (hs:starEach [a] X.env=[(false,eval a X.env)]:=by rfl):jI3 X (.Tuple es k1 pt) (.Call (.Name "enumerate" p) [a] [] pos) (EW t):=
 ⟨qkY (hg:=hg) (hm:=hm) (ha:=ha.h) (hs:=hs)⟩
def qa1 {te:TE3} {pos:Pos} {e:Expr} {X:Cx} (i:Nat) {x:Str} {pos':Pos} (hN:X.N.Nodup) (he:jE3 X e te) (hi:X.N[i]?=some x:=by rfl) (hx:Loc X.env.scope x:=by first|exact Or.inl rfl|exact Or.inr rfl) (hf:X.fn x=true\/X.env.scope.names.lookup x=some .local:=by first|exact .inl rfl|exact .inr rfl):jS3 X (.AugAssign (.Name x pos') .Add e pos) (VJ i (iI (·+·)) te):=
 ⟨qdW (i:=i) (hN:=hN) (he:=he.h) (hi:=hi) (hx:=hx) (hf:=hf)⟩
def YE {X:Cx} {py spos:Pos} {elt tg iter:Expr} {ifs:List Expr} {scope:Scope} {pos:Pos} {y:Str} (i:Nat) (N':List Str) (m:List (Option Nat)) {wi:TI3} {g:TG3} {tif:TT3} {te:TE3} (hc:X.calm=true) (hN:X.N.Nodup) (hi:jI3 X tg iter wi)
  (hg:∀ s H fp,jG3 (qr X N' scope s H fp) tg g) (hf:∀ s H fp,jF3 (qr X N' scope s H fp) ifs tif) (he:∀ s H fp,jE3 (qr X N' scope s H fp) elt te)
  (hsc:qaU X.env.scope scope=true) (hcap:ED X.N N' scope m=true) (hl:X.env.scope.names.lookup y=some .local) (hsw:swapsWith (.ListComp elt [⟨tg,iter,ifs,0⟩] scope pos) (some (.Name y py)) spos.line X.env=pure true) (hiy:X.N[i]?=some y:=by rfl) (hs:∀ x,foldedSetIterable iter X.env x=pure x:=by intro _;rfl):jS3 X (.Assign [.Name y py] (.ListComp elt [⟨tg,iter,ifs,0⟩] scope pos) spos) (qH (lc3 wi g tif te m) (gn3 i)):=
 ⟨qhJ (i:=i) (N':=N') (m:=m) (hc:=hc) (hN:=hN) (hi:=hi.h) (hg:=(λs H fp=>(hg s H fp).h)) (hf:=(λs H fp=>(hf s H fp).h)) (he:=(λs H fp=>(he s H fp).h)) (hsc:=hsc) (hcap:=hcap) (hl:=hl) (hsw:=hsw) (hiy:=hiy) (hs:=hs)⟩
def jpt {X:Cx} {e:Expr} {t:TT3} (h:jW3 X e t):jC3 X e t:=⟨PW.pt h.h⟩
def qg6 {P:Program} {w:World} {K:Frg} {mg:Str->Option Value} {base:Heap} {x qual:Str} {st:Stmt} {f:Addr} {fd:FuncData} {N ps:List Str} {k:Nat} {sp:Sp3} {t3:TS3} (F:Fun K x qual st f fd) (S:FnScope N ps (qi st)) (bd:WY K fd ps []) (hm:mg x=some (.ref f))
  (body:∀ (cdv:Value) (A:Around) (outer:List Env) (s:Shared) (H:Hp) (E:XK),Room k (A.deeper (envOfC qual (qi st) s.heap.objs.size f cdv)) ->
   jB3 (VE CX0 P w K mg base N qual (qi st) f cdv A outer s H E).nox (qO st) t3)
  (read:∀ ts G q,sp ts G q->ts.length=ps.length/\t3 { nx:=λ_ G'=>q .non G',rt:=q } (qm N ts) G):Fn3 P w K mg base (k+1) x sp:=
 qmO F S bd hm (λcdv A outer s H E hr=>(body cdv A outer s H E hr).h) read
def qdg {P:Program} {w:World} {K:Frg} {mg:Str->Option Value} {base:Heap} {x qual:Str} {st:Stmt} {f:Addr} {fd:FuncData} {N ps:List Str} {k:Nat} {sp:Sp3} {t3:TS3} (F:Fun K x qual st f fd) (S:FnScope N ps (qi st))
  (body:∀ (cdv:Value) (A:Around) (outer:List Env) (s:Shared) (H:Hp) (E:XK),Room k (A.deeper (envOfC qual (qi st) s.heap.objs.size f cdv)) ->
   jB3 (VE CX0 P w K mg base N qual (qi st) f cdv A outer s H E).nox (qO st) t3)
  (read:∀ ts G q,sp ts G q->ts.length=ps.length/\t3 { nx:=λ_ G'=>q .non G',rt:=q } (qm N ts) G):FnOk P w K mg base CX0 (k+1) f fd ps (lSp K sp):=
 qh4 F S (λcdv A outer s H E hr=>(body cdv A outer s H E hr).h) read
open PySem.SeqAt
def Ex (G G':Gp):Prop:=∀ b o,G b=some o->G' b=some o
def Ex.refl {G:Gp}:Ex G G:=λ_ _ e=>e
def Ex.trans {G G1 G2:Gp} (a:Ex G G1) (b:Ex G1 G2):Ex G G2:=λx o e=>b x o (a x o e)
def j4 {G:Gp} {p:Addr} {o:O} (hp:G p=none):Ex G (gu G p o):=λb ob e=>by
 rw [zD (by rintro rfl;rw [hp] at e;cases e)];exact e
mutual
inductive Dp (G:Gp):T->PyData->Prop
 |non:Dp G .non .none
 |bl (b:Bool):Dp G (.bl b) (.bool b)
 |int (i:Int):Dp G (.int i) (.int i)
 |str (x:Str):Dp G (.str x) (.str x)
 |tup {xs:List T} {ds:List PyData}:Dps G xs ds->Dp G (.tup xs) (.tuple ds)
 |lst {p:Addr} {xs:List T} {ds:List PyData}:getL G p=some xs->Dps G xs ds->Dp G (.ref p) (.list ds)
inductive Dps (G:Gp):List T->List PyData->Prop
 |nil:Dps G [] []
 |cons {x:T} {d:PyData} {xs:List T} {ds:List PyData}:Dp G x d->Dps G xs ds->Dps G (x::xs) (d::ds)
end
def Ex.getL {G G':Gp} (e:Ex G G') {p:Addr} {xs:List T} (h:getL G p=some xs):getL G' p=some xs:=by
 unfold L3.getL at h ⊢;split at h
 ·rename_i ys g;cases h;rw [e _ _ g]
 ·rename_i ys g;cases h;rw [e _ _ g]
 ·cases h
mutual
def Dp.up {G G':Gp} (e:Ex G G'):∀ {x:T} {d:PyData},Dp G x d->Dp G' x d
 |_,_,.non=>.non
 |_,_,.bl b=>.bl b
 |_,_,.int i=>.int i
 |_,_,.str x=>.str x
 |_,_,.tup h=>.tup (Dps.up e h)
 |_,_,.lst h1 h2=>.lst (e.getL h1) (Dps.up e h2)
def Dps.up {G G':Gp} (e:Ex G G'):∀ {x:List T} {d:List PyData},Dps G x d->Dps G' x d
 |_,_,.nil=>.nil
 |_,_,.cons a b=>.cons (Dp.up e a) (Dps.up e b)
end
def Dps.length {G:Gp}:∀ {xs:List T} {ds:List PyData},Dps G xs ds->xs.length=ds.length
 |_,_,.nil=>rfl
 |_,_,.cons _ b=>by simp [Dps.length b]
def Dps.get {G:Gp}:∀ {xs:List T} {ds:List PyData} {i:Nat} {x:T},Dps G xs ds->xs[i]?=some x->∃ d,ds[i]?=some d/\Dp G x d
 |_,_,_,_,.nil,e=>by simp at e
 |_,_,0,_,.cons r _,e=>by simp at e;subst e;exact ⟨_,rfl,r⟩
 |_,_,i+1,x,.cons _ t,e=>by
  obtain ⟨u,h1,h2⟩:=Dps.get (i:=i) (x:=x) t (by simpa using e);exact ⟨u,by simpa using h1,h2⟩
mutual
inductive DV (K:Frg) (H:Hp):V->PyData->Prop
 |non:DV K H .non .none
 |bl (b:Bool):DV K H (.bl b) (.bool b)
 |int (i:Int):DV K H (.int i) (.int i)
 |str (x:Str):DV K H (.str x) (.str x)
 |tup {a:Addr} {vs:List V} {ds:List PyData}:SqT K H a vs->DVs K H vs ds->DV K H (.ref a) (.tuple ds)
 |lst {a:Addr} {vs:List V} {ds:List PyData}:SqL K H a vs->DVs K H vs ds->DV K H (.ref a) (.list ds)
inductive DVs (K:Frg) (H:Hp):List V->List PyData->Prop
 |nil:DVs K H [] []
 |cons {x:V} {d:PyData} {xs:List V} {ds:List PyData}:DV K H x d->DVs K H xs ds->DVs K H (x::xs) (d::ds)
end
mutual
def Dp.dv {K:Frg} {G:Gp} {H:Hp} (hr:HR K G H):∀ {x:T} {d:PyData} {v:V},Dp G x d->Rp K H x v->DV K H v d
 |_,_,_,.non,.non=>.non
 |_,_,_,.bl b,.bl _=>.bl b
 |_,_,_,.int i,.int _=>.int i
 |_,_,_,.str x,.str _=>.str x
 |_,_,_,.tup h,.tup hs rs=>.tup hs (Dps.dv hr h rs)
 |_,_,_,.lst g h,r=>by
  cases r;obtain ⟨_,hs,rs⟩:=jA hr g;exact .lst hs (Dps.dv hr h rs)
def Dps.dv {K:Frg} {G:Gp} {H:Hp} (hr:HR K G H):∀ {x:List T} {d:List PyData} {v:List V},Dps G x d->Rps K H x v->DVs K H v d
 |_,_,_,.nil,.nil=>.nil
 |_,_,_,.cons a b,.cons c d=>.cons (Dp.dv hr a c) (Dps.dv hr b d)
end
mutual
def jX:PyData->PyData->Option Bool
 |.none,.none=>some true
 |.bool a,.bool b=>some (a==b)
 |.int a,.int b=>some (a==b)
 |.str a,.str b=>some (a==b)
 |.list xs,.list ys=>DB xs ys
 |.tuple xs,.tuple ys=>DB xs ys
 |.int _,.none=>some false
 |.none,.int _=>some false
 |_,_=>none
def DB:List PyData->List PyData->Option Bool
 |[],[]=>some true
 |x::xs,y::ys=>match jX x y,DB xs ys with|some a,some b=>some (a&&b)|_,_=>none
 |_,_=>some false
end
mutual
def dpt:PyData->Nat
 |.list xs=>qee xs+1
 |.tuple xs=>qee xs+1
 |_=>0
def qee:List PyData->Nat
 |[]=>0
 |x::xs=>max (dpt x) (qee xs)
end
section
variable {X:Cx} {pins:List (Addr×Obj)} {σ:L2.St} {H:Hp} {s:Shared}
mutual
def DV.inj (I:Inv X pins σ H s):∀ {v:V} {d e:PyData},DV X.K H v d->DV X.K H v e->d=e
 |_,_,_,.non,.non=>rfl
 |_,_,_,.bl _,.bl _=>rfl
 |_,_,_,.int _,.int _=>rfl
 |_,_,_,.str _,.str _=>rfl
 |_,_,_,.tup h hs,.tup k ks=>by
  have:=I.tuple_inj h k;subst this;rw [DVs.inj I hs ks]
 |_,_,_,.lst h hs,.lst k ks=>by
  have:=I.list_inj h k;subst this;rw [DVs.inj I hs ks]
 |_,_,_,.tup h hs,.lst k ks=>by
  obtain ⟨i1,_,p1,_⟩:=I.tuple h;obtain ⟨i2,_,p2,_⟩:=I.list k;exact absurd rfl (ne_of_list_tuple p2.isList (show s.heap.IsTuple _ i1.toArray from p1))
 |_,_,_,.lst k ks,.tup h hs=>by
  obtain ⟨i1,_,p1,_⟩:=I.tuple h;obtain ⟨i2,_,p2,_⟩:=I.list k;exact absurd rfl (ne_of_list_tuple p2.isList (show s.heap.IsTuple _ i1.toArray from p1))
def DVs.inj (I:Inv X pins σ H s):∀ {v:List V} {d e:List PyData},DVs X.K H v d->DVs X.K H v e->d=e
 |_,_,_,.nil,.nil=>rfl
 |_,_,_,.cons a b,.cons c d=>by rw [DV.inj I a c,DVs.inj I b d]
end
mutual
def KG:∀ {d:PyData} {b:Bool},jX d d=some b->b=true
 |.none,_,h=>by simp [jX] at h;exact h
 |.bool _,_,h=>by simp [jX] at h;exact h
 |.int _,_,h=>by simp [jX] at h;exact h
 |.str _,_,h=>by simp [jX] at h;exact h
 |.list xs,_,h=>by simp only [jX] at h;exact D7 h
 |.tuple xs,_,h=>by simp only [jX] at h;exact D7 h
 |.dict _,_,h=>by simp [jX] at h
def D7:∀ {d:List PyData} {b:Bool},DB d d=some b->b=true
 |[],_,h=>by simp [DB] at h;exact h
 |x::xs,b,h=>by
  simp only [DB] at h;split at h
  ·rename_i a c e1 e2;rw [KG e1,D7 e2] at h;simpa using h.symm
  ·cases h
end
def VQ:∀ {xs ys:List PyData} {b:Bool},DB xs ys=some b->xs.length=ys.length->∃ e:Nat->Bool,(∀ (j:Nat) x y,xs[j]?=some x->ys[j]?=some y->jX x y=some (e j))/\b=(List.range xs.length).all e
 |[],[],b,h,_=>by simp [DB] at h;exact ⟨λ_=>true,by simp,by simp [h]⟩
 |x::xs,y::ys,b,h,hl=>by
  simp only [DB] at h;split at h
  ·rename_i a c e1 e2;obtain ⟨e,h1,h2⟩:=VQ e2 (by simpa using hl);refine ⟨λj=>match j with|0=>a|j+1=>e j,λj u v hu hv=>?_,?_⟩
   ·cases j with
    |zero=>simp at hu hv;subst hu;subst hv;exact e1
    |succ j=>exact h1 j u v (by simpa using hu) (by simpa using hv)
   ·rw [length_cons,List.range_succ_eq_map,List.all_cons,List.all_map];cases h;rw [h2];rfl
  ·cases h
 |[],_::_,_,_,hl=>by simp at hl
 |_::_,[],_,_,hl=>by simp at hl
def VN:∀ {xs ys:List PyData} {b:Bool},DB xs ys=some b->xs.length≠ys.length->b=false/\∃ e:Nat->Bool,∀ (j:Nat) x y,xs[j]?=some x->ys[j]?=some y->jX x y=some (e j)
 |[],[],_,_,hl=>by simp at hl
 |[],_::_,b,h,_=>by simp [DB] at h;exact ⟨h,λ_=>true,by simp⟩
 |_::_,[],b,h,_=>by simp [DB] at h;exact ⟨h,λ_=>true,by simp⟩
 |x::xs,y::ys,b,h,hl=>by
  simp only [DB] at h;split at h
  ·rename_i a c e1 e2;obtain ⟨h0,e,h1⟩:=VN e2 (by simpa using hl);subst h0;refine ⟨by simpa using h.symm,λj=>match j with|0=>a|j+1=>e j,λj u v hu hv=>?_⟩;cases j with
   |zero=>simp at hu hv;subst hu;subst hv;exact e1
   |succ j=>exact h1 j u v (by simpa using hu) (by simpa using hv)
  ·cases h
def DE:∀ {xs:List PyData} {x:PyData},x∈xs->dpt x<=qee xs
 |[],_,h=>by simp at h
 |y::ys,x,h=>by
  simp only [qee];rcases mem_cons.mp h with e|e
  ·subst e;omega
  ·have:=DE e;omega
def DVs.get {K:Frg} {H:Hp}:∀ {xs:List V} {ds:List PyData} {i:Nat} {x:V},DVs K H xs ds->xs[i]?=some x->∃ d,ds[i]?=some d/\DV K H x d
 |_,_,_,_,.nil,e=>by simp at e
 |_,_,0,_,.cons r _,e=>by simp at e;subst e;exact ⟨_,rfl,r⟩
 |_,_,i+1,x,.cons _ t,e=>by
  obtain ⟨u,h1,h2⟩:=DVs.get (i:=i) (x:=x) t (by simpa using e);exact ⟨u,by simpa using h1,h2⟩
def DVs.length {K:Frg} {H:Hp}:∀ {xs:List V} {ds:List PyData},DVs K H xs ds->xs.length=ds.length
 |_,_,.nil=>rfl
 |_,_,.cons _ b=>by simp [DVs.length b]
def UD {vs:List V} {us:List Value} (r:jj vs us) {j:Nat} (h:j<us.toArray.size):∃ v,vs[j]?=some v/\jZ v us.toArray[j]:=by
 have hj:j<vs.length:=by rw [r.length];simpa using h
 obtain ⟨u,hu,ru⟩:=r.get (y9 hj);refine ⟨vs[j],y9 hj,?_⟩;have hj2:j<us.length:=by simpa using h
 rw [y9 hj2] at hu;have:us[j]=u:=Option.some.inj hu;simpa [this] using ru
def MU (I:Inv X pins σ H s):∀ (n:Nat) {v u:V} {d e:PyData} {b:Bool} {x y:Value} {A:Around},DV X.K H v d->DV X.K H u e->jX d e=some b->dpt d<=n->A.units+n<cLine->jZ v x->jZ u y ->
  RcAt A s x y b/\EqAt A s x y b:=by
 intro n;induction n with
 |zero=>
  intro v u d e b x y A hv hu h hd hn rx ry;cases hv with
  |non=>
   cases hu with
   |non=>simp [jX] at h;subst h;cases (show x=Value.none from rx);cases (show y=Value.none from ry);exact ⟨RcAt.none_none,EqAt.same _⟩
   |int c=>simp [jX] at h;subst h;cases (show x=Value.none from rx);obtain ⟨t',rfl⟩:=(show ∃ t,y=Value.int _ t from ry);exact ⟨RcAt.none_int _ _,EqAt.none_int _ _⟩
   |bl _=>simp [jX] at h
   |str _=>simp [jX] at h
   |tup _ _=>simp [jX] at h
   |lst _ _=>simp [jX] at h
  |bl a=>cases hu<;>simp [jX] at h;subst h;cases (show x=Value.bool _ from rx);cases (show y=Value.bool _ from ry);exact ⟨RcAt.bool_bool _ _,EqAt.bool_bool _ _⟩
  |int a=>
   cases hu with
   |int c=>simp [jX] at h;subst h;obtain ⟨t,rfl⟩:=(show ∃ t,x=Value.int _ t from rx);obtain ⟨t',rfl⟩:=(show ∃ t,y=Value.int _ t from ry);exact ⟨RcAt.int_int _ _ _ _,EqAt.int_int _ _ _ _⟩
   |non=>simp [jX] at h;subst h;obtain ⟨t,rfl⟩:=(show ∃ t,x=Value.int _ t from rx);cases (show y=Value.none from ry);exact ⟨RcAt.int_none _ _,EqAt.int_none _ _⟩
   |bl _=>simp [jX] at h
   |str _=>simp [jX] at h
   |tup _ _=>simp [jX] at h
   |lst _ _=>simp [jX] at h
  |str a=>cases hu<;>simp [jX] at h;subst h;obtain ⟨t,rfl⟩:=(show ∃ t,x=Value.str _ t from rx);obtain ⟨t',rfl⟩:=(show ∃ t,y=Value.str _ t from ry);exact ⟨RcAt.str_str _ _ _ _,EqAt.str_str _ _ _ _⟩
  |tup=>simp [dpt] at hd
  |lst=>simp [dpt] at hd
 |succ n ih=>
  intro v u d e b x y A hv hu h hd hn rx ry;have fin:∀ {l l':Addr} {k:Bool},x=.ref l->y=.ref l'->v=.ref l->u=.ref l'->b=k->RcAt A s x y k->RcAt A s x y b/\EqAt A s x y b:=by
   rintro l l' k rfl rfl rfl rfl rfl rc;refine ⟨rc,?_⟩;by_cases hll:l=l'
   ·subst hll;have:=DV.inj I hv hu;subst this;rw [KG h];exact EqAt.same _
   ·exact EqAt.of_refs hll rc
  cases hv with
  |non=>
   cases hu with
   |non=>simp [jX] at h;subst h;cases (show x=Value.none from rx);cases (show y=Value.none from ry);exact ⟨RcAt.none_none,EqAt.same _⟩
   |int c=>simp [jX] at h;subst h;cases (show x=Value.none from rx);obtain ⟨t',rfl⟩:=(show ∃ t,y=Value.int _ t from ry);exact ⟨RcAt.none_int _ _,EqAt.none_int _ _⟩
   |bl _=>simp [jX] at h
   |str _=>simp [jX] at h
   |tup _ _=>simp [jX] at h
   |lst _ _=>simp [jX] at h
  |bl a=>cases hu<;>simp [jX] at h;subst h;cases (show x=Value.bool _ from rx);cases (show y=Value.bool _ from ry);exact ⟨RcAt.bool_bool _ _,EqAt.bool_bool _ _⟩
  |int a=>
   cases hu with
   |int c=>simp [jX] at h;subst h;obtain ⟨t,rfl⟩:=(show ∃ t,x=Value.int _ t from rx);obtain ⟨t',rfl⟩:=(show ∃ t,y=Value.int _ t from ry);exact ⟨RcAt.int_int _ _ _ _,EqAt.int_int _ _ _ _⟩
   |non=>simp [jX] at h;subst h;obtain ⟨t,rfl⟩:=(show ∃ t,x=Value.int _ t from rx);cases (show y=Value.none from ry);exact ⟨RcAt.int_none _ _,EqAt.int_none _ _⟩
   |bl _=>simp [jX] at h
   |str _=>simp [jX] at h
   |tup _ _=>simp [jX] at h
   |lst _ _=>simp [jX] at h
  |str a=>cases hu<;>simp [jX] at h;subst h;obtain ⟨t,rfl⟩:=(show ∃ t,x=Value.str _ t from rx);obtain ⟨t',rfl⟩:=(show ∃ t,y=Value.str _ t from ry);exact ⟨RcAt.str_str _ _ _ _,EqAt.str_str _ _ _ _⟩
  |tup hq hs=>
   cases hu with
   |tup kq ks=>
    rename_i a1 vs1 ds1 a2 vs2 ds2;simp only [jX] at h;obtain ⟨i1,r1,p1,z1⟩:=I.tuple hq;obtain ⟨i2,r2,p2,z2⟩:=I.tuple kq;have l1:=hs.length;have l2:=ks.length;have m1:=r1.length;have m2:=r2.length;have el:∀ (e:Nat->Bool),(∀ (j:Nat) x y,ds1[j]?=some x->ds2[j]?=some y->jX x y=some (e j))->∀ j (h1:j<i1.toArray.size) (h2:j<i2.toArray.size),EqAt A.in1 s i1.toArray[j] i2.toArray[j] (e j):=λe he j h1 h2=>by
     obtain ⟨w1,g1,q1⟩:=UD r1 h1;obtain ⟨w2,g2,q2⟩:=UD r2 h2;obtain ⟨d1,f1,dv1⟩:=hs.get g1;obtain ⟨d2,f2,dv2⟩:=ks.get g2;have:=DE (v8 f1);exact (ih dv1 dv2 (he j d1 d2 f1 f2) (by simp only [dpt] at hd;omega) (show A.units+1+n<cLine by omega) q1 q2).2
    cases (show x=Value.ref a1 from rx);cases (show y=Value.ref a2 from ry);by_cases hl:ds1.length=ds2.length
    ·obtain ⟨e,he,hb⟩:=VQ h hl;refine fin rfl rfl rfl rfl (k:=(List.range (min i1.toArray.size i2.toArray.size)).all e&&i1.toArray.size==i2.toArray.size) ?_ (RcAt.tuples (show s.heap.IsTuple a1 i1.toArray from p1) (show s.heap.IsTuple a2 i2.toArray from p2) (by omega) (el e he));have e1:i1.toArray.size=ds1.length:=by rw [size_toArray];omega
     have e2:i2.toArray.size=ds1.length:=by rw [size_toArray];omega
     rw [e1,e2,hb];simp
    ·obtain ⟨hb,e,he⟩:=VN h hl;refine fin rfl rfl rfl rfl (k:=(List.range (min i1.toArray.size i2.toArray.size)).all e&&i1.toArray.size==i2.toArray.size) ?_ (RcAt.tuples (show s.heap.IsTuple a1 i1.toArray from p1) (show s.heap.IsTuple a2 i2.toArray from p2) (by omega) (el e he));have e1:i1.toArray.size≠i2.toArray.size:=by rw [size_toArray,size_toArray];omega
     rw [hb];simp [e1];intro;omega
   |_=>simp [jX] at h
  |lst hq hs=>
   cases hu with
   |lst kq ks=>
    rename_i a1 vs1 ds1 a2 vs2 ds2;simp only [jX] at h;obtain ⟨i1,r1,p1,z1⟩:=I.list hq;obtain ⟨i2,r2,p2,z2⟩:=I.list kq;have l1:=hs.length;have l2:=ks.length;have m1:=r1.length;have m2:=r2.length;have el:∀ (e:Nat->Bool),(∀ (j:Nat) x y,ds1[j]?=some x->ds2[j]?=some y->jX x y=some (e j))->∀ j (h1:j<i1.toArray.size) (h2:j<i2.toArray.size),EqAt A.in1 s i1.toArray[j] i2.toArray[j] (e j):=λe he j h1 h2=>by
     obtain ⟨w1,g1,q1⟩:=UD r1 h1;obtain ⟨w2,g2,q2⟩:=UD r2 h2;obtain ⟨d1,f1,dv1⟩:=hs.get g1;obtain ⟨d2,f2,dv2⟩:=ks.get g2;have:=DE (v8 f1);exact (ih dv1 dv2 (he j d1 d2 f1 f2) (by simp only [dpt] at hd;omega) (show A.units+1+n<cLine by omega) q1 q2).2
    cases (show x=Value.ref a1 from rx);cases (show y=Value.ref a2 from ry);by_cases hl:ds1.length=ds2.length
    ·obtain ⟨e,he,hb⟩:=VQ h hl;refine fin rfl rfl rfl rfl (k:=(List.range i1.toArray.size).all e) ?_ (RcAt.lists p1.isList p2.isList (by rw [size_toArray,size_toArray];omega) (by omega) (el e he));have e1:i1.toArray.size=ds1.length:=by rw [size_toArray];omega
     rw [e1,hb]
    ·obtain ⟨hb,e,he⟩:=VN h hl;refine fin rfl rfl rfl rfl (k:=false) hb (RcAt.lists_lengths p1.isList p2.isList (by rw [size_toArray,size_toArray];simp;omega) (by omega))
   |_=>simp [jX] at h
def qg9 (I:Inv X pins σ H s) {n:Nat} {v u:V} {d e:PyData} {b:Bool} {x y:Value} {A:Around} (hv:DV X.K H v d) (hu:DV X.K H u e) (h:jX d e=some b) (hd:dpt d<=n+1) (hn:A.units+(n+1)<cLine) (rx:jZ v x) (ry:jZ u y) (hs:dpt d≠0):RcNeAt A s x y (!b):=by
 cases hv with
 |tup hq hs'=>
  cases hu with
  |tup kq ks=>
   rename_i a1 vs1 ds1 a2 vs2 ds2;simp only [jX] at h;obtain ⟨i1,r1,p1,z1⟩:=I.tuple hq;obtain ⟨i2,r2,p2,z2⟩:=I.tuple kq;have l1:=hs'.length;have l2:=ks.length;have m1:=r1.length;have m2:=r2.length;have el:∀ (e:Nat->Bool),(∀ (j:Nat) x y,ds1[j]?=some x->ds2[j]?=some y->jX x y=some (e j))->∀ j (h1:j<i1.toArray.size) (h2:j<i2.toArray.size),EqAt A.in1 s i1.toArray[j] i2.toArray[j] (e j):=λe he j h1 h2=>by
    obtain ⟨w1,g1,q1⟩:=UD r1 h1;obtain ⟨w2,g2,q2⟩:=UD r2 h2;obtain ⟨d1,f1,dv1⟩:=hs'.get g1;obtain ⟨d2,f2,dv2⟩:=ks.get g2;have:=DE (v8 f1);exact (MU I n dv1 dv2 (he j d1 d2 f1 f2) (by simp only [dpt] at hd;omega) (show A.units+1+n<cLine by omega) q1 q2).2
   cases (show x=Value.ref a1 from rx);cases (show y=Value.ref a2 from ry);by_cases hl:ds1.length=ds2.length
   ·obtain ⟨e,he,hb⟩:=VQ h hl;have:=RcNeAt.tuples (show s.heap.IsTuple a1 i1.toArray from p1) (show s.heap.IsTuple a2 i2.toArray from p2) (A:=A) (by omega) (el e he);have e1:i1.toArray.size=ds1.length:=by rw [size_toArray];omega
    have e2:i2.toArray.size=ds1.length:=by rw [size_toArray];omega
    rw [e1,e2] at this;rw [hb];simpa using this
   ·obtain ⟨hb,e,he⟩:=VN h hl;have:=RcNeAt.tuples (show s.heap.IsTuple a1 i1.toArray from p1) (show s.heap.IsTuple a2 i2.toArray from p2) (A:=A) (by omega) (el e he);have e1:(i1.toArray.size==i2.toArray.size)=false:=by rw [size_toArray,size_toArray];simp;omega
    rw [e1] at this;rw [hb];simpa using this
  |_=>simp [jX] at h
 |lst hq hs'=>
  cases hu with
  |lst kq ks=>
   rename_i a1 vs1 ds1 a2 vs2 ds2;simp only [jX] at h;obtain ⟨i1,r1,p1,z1⟩:=I.list hq;obtain ⟨i2,r2,p2,z2⟩:=I.list kq;have l1:=hs'.length;have l2:=ks.length;have m1:=r1.length;have m2:=r2.length;have el:∀ (e:Nat->Bool),(∀ (j:Nat) x y,ds1[j]?=some x->ds2[j]?=some y->jX x y=some (e j))->∀ j (h1:j<i1.toArray.size) (h2:j<i2.toArray.size),EqAt A.in1 s i1.toArray[j] i2.toArray[j] (e j):=λe he j h1 h2=>by
    obtain ⟨w1,g1,q1⟩:=UD r1 h1;obtain ⟨w2,g2,q2⟩:=UD r2 h2;obtain ⟨d1,f1,dv1⟩:=hs'.get g1;obtain ⟨d2,f2,dv2⟩:=ks.get g2;have:=DE (v8 f1);exact (MU I n dv1 dv2 (he j d1 d2 f1 f2) (by simp only [dpt] at hd;omega) (show A.units+1+n<cLine by omega) q1 q2).2
   cases (show x=Value.ref a1 from rx);cases (show y=Value.ref a2 from ry);by_cases hl:ds1.length=ds2.length
   ·obtain ⟨e,he,hb⟩:=VQ h hl;have:=RcNeAt.lists p1.isList p2.isList (A:=A) (by rw [size_toArray,size_toArray];omega) (by omega) (el e he);have e1:i1.toArray.size=ds1.length:=by rw [size_toArray];omega
    rw [e1] at this;rw [hb];exact this
   ·obtain ⟨hb,e,he⟩:=VN h hl;rw [hb];exact RcNeAt.lists_lengths p1.isList p2.isList (by rw [size_toArray,size_toArray];simp;omega) (by omega)
  |_=>simp [jX] at h
 |_=>simp [dpt] at hs
def qiw (K:Frg) (neg:Bool):R2:=λx y H Q=>∃ d e b,DV K H x d/\DV K H y e/\jX d e=some b/\dpt d<=40/\dpt d≠0/\Q (.bl (if neg then !b else b)) H
def qkb (hu:X.A.units+64<cLine):OpR X (compareOp .Eq) (qiw X.K false):=by
 intro pins s σ H x y v u Q I rx ry h;obtain ⟨d,e,b,hx,hy,hb,hd,_,q⟩:=h;exact (MU I 40 hx hy hb hd (by omega) rx ry).1 X.prog X.w X.xe _ ⟨.bl b,H,I,rfl,q⟩
def qmh (hu:X.A.units+64<cLine):OpR X (compareOp .NotEq) (qiw X.K true):=by
 intro pins s σ H x y v u Q I rx ry h;obtain ⟨d,e,b,hx,hy,hb,hd,hs,q⟩:=h;exact qg9 I (n:=40) hx hy hb (by omega) (by omega) rx ry hs X.prog X.w X.xe _ ⟨.bl (!b),H,I,rfl,q⟩
end
def zg (neg:Bool):R3:=λx y G q=>match qU x y with
 |some k=>q (.bl (if neg then !k else k)) G
 |none=>∃ d e b,Dp G x d/\Dp G y e/\jX d e=some b/\dpt d<=40/\dpt d≠0/\q (.bl (if neg then !b else b)) G
def qK {K:Frg}:MY K (zg false) (λx y H Q=>rEq x y H Q\/qiw K false x y H Q):=λx y v u G H q Q hr rx ry h af=>by
 unfold zg at h;split at h
 ·rename_i k e;obtain ⟨h1,h2⟩:=NM rx ry e;refine .inl ⟨h1,?_⟩;rw [h2];exact af _ G h _ H (.bl _) hr Kp.refl
 ·obtain ⟨d,e,b,h1,h2,h3,h4,h5,h6⟩:=h;exact .inr ⟨d,e,b,h1.dv hr rx,h2.dv hr ry,h3,h4,h5,af _ G h6 _ H (.bl _) hr Kp.refl⟩
def SX {K:Frg}:MY K (zg true) (λx y H Q=>rNe x y H Q\/qiw K true x y H Q):=λx y v u G H q Q hr rx ry h af=>by
 unfold zg at h;split at h
 ·rename_i k e;obtain ⟨h1,h2⟩:=NM rx ry e;refine .inl ⟨h1,?_⟩;rw [h2];exact af _ G h _ H (.bl _) hr Kp.refl
 ·obtain ⟨d,e,b,h1,h2,h3,h4,h5,h6⟩:=h;exact .inr ⟨d,e,b,h1.dv hr rx,h2.dv hr ry,h3,h4,h5,af _ G h6 _ H (.bl _) hr Kp.refl⟩
def zd {X:Cx} (hu:X.A.units+64<cLine):OpR X (compareOp .Eq) (λx y H Q=>rEq x y H Q\/qiw X.K false x y H Q):=qo0.or (qkb hu)
def N5 {X:Cx} (hu:X.A.units+64<cLine):OpR X (compareOp .NotEq) (λx y H Q=>rNe x y H Q\/qiw X.K true x y H Q):=qoZ.or (qmh hu)
end L3
namespace L3
open PySem PySem.Spec PyProof.Rows L2
section
variable {X:Cx} {pins:List (Addr×Obj)} {σ:L2.St} {H:Hp} {s:Shared}
mutual
def DV.reads (I:Inv X pins σ H s):∀ {v:V} {d:PyData} {x:Value},DV X.K H v d->jZ v x->∃ as,Reads s.heap x d as
 |_,_,x,.non,r=>by cases (show x=Value.none from r);exact ⟨_,.none⟩
 |_,_,x,.bl b,r=>by cases (show x=Value.bool b from r);exact ⟨_,.bool b⟩
 |_,_,x,.int i,r=>by obtain ⟨t,rfl⟩:=(show ∃ t,x=Value.int i t from r);exact ⟨_,.int i t⟩
 |_,_,x,.str y,r=>by obtain ⟨t,rfl⟩:=(show ∃ t,x=Value.str y t from r);exact ⟨_,.str y t⟩
 |_,_,x,.tup (a:=a) h hs,r=>by
  cases (show x=Value.ref a from r);obtain ⟨its,rv,⟨o,h1,h2,n,h3⟩,_⟩:=I.tuple h;obtain ⟨as,ra⟩:=DVs.reads I hs rv;exact ⟨as,.tuple h1 h2 h3 (by simpa using ra)⟩
 |_,_,x,.lst (a:=a) h hs,r=>by
  cases (show x=Value.ref a from r);obtain ⟨its,rv,p,_⟩:=I.list h;obtain ⟨o,h1,h2,n,h3⟩:=p.isList;obtain ⟨as,ra⟩:=DVs.reads I hs rv;exact ⟨a::as,.list h1 h2 h3 (by simpa using ra)⟩
def DVs.reads (I:Inv X pins σ H s):∀ {v:List V} {d:List PyData} {x:List Value},DVs X.K H v d->jj v x->∃ as,ReadsAll s.heap x d as
 |_,_,_,.nil,.nil=>⟨_,.nil⟩
 |_,_,_,.cons a b,.cons c d=>by
  obtain ⟨as,r1⟩:=DV.reads I a c;obtain ⟨bs,r2⟩:=DVs.reads I b d;exact ⟨_,.cons r1 r2⟩
end
structure ShOk (d:PyData):Prop where
 sh:d.showable=true
 nd:d.hasDict=false
 dp:d.depth<=40
 lv:d.leavesShort 13=true
 bk:d.bulk<=2 ^ 20
end
section
variable {X:Cx}
def qhl:T->List T->Gp->Q3->Prop:=λx xs G q=>match x,xs with
 |.ref l,[]=>(match G l with|some (.lst ys)=>q .non (gu G l (.lst ys.reverse))|_=>False)
 |_,_=>False
def qby {K:Frg} {H:Hp}:∀ {ys:List T} {vs:List V} (h:Rps K H ys vs),Rps K H ys.reverse vs.reverse
 |_,_,.nil=>.nil
 |_,_,.cons r t=>by rw [List.reverse_cons,List.reverse_cons];exact (qby t).append (.cons r .nil)
def qg0 {K:Frg}:qmz K qhl NQ:=λx xs v vs G H q Q hr rx rs h af=>by
 unfold qhl at h;split at h
 ·rename_i l;split at h
  ·rename_i ys e1;cases rx;cases rs;obtain ⟨vs,g1,r1⟩:=hr.lst e1;exact ⟨l,vs,rfl,rfl,g1,af _ _ h _ _ .non (hr.wr e1 (qby r1)) (Kp.wr e1)⟩
  ·exact h.elim
 ·exact h.elim
def qiC (r:T->List T->Gp->Q3->Prop) (to:TE3):TE3:=λτ G q=>to τ G λx G1=>(match x with|.ref p=>(getL G1 p).isSome=true|_=>False)/\r x [] G1 q
def qiM {o:Expr} {to:TE3} {name:Str} {apos cpos:Pos} {id:String} {r3:T->List T->Gp->Q3->Prop} {r:V->List V->Hp->VK->Prop} (slot:Slot "list" name id) (hty:typeOf (.builtin id)=pure (.type "method_descriptor")) (hm:MtR X id r) (hr:qmz X.K r3 r) (ho:jE3 X o to)
  (hbase:attributeBase o name X.env (eval o X.env)=eval o X.env:=by rfl) (hline:(apos.endLine==cpos.line)=true:=by rfl) :
  jE3 X (.Call (.Attribute o name apos) [] [] cpos) (qiC r3 to):=
 ⟨WU (qj1 PySem.F.plainAttrs_list slot hty hm ho.h hbase hline) λ_ _ _ ⟨τ,G,q,rl,h,af⟩=>z9 rl h λx G1 h1 v H1 rx hr1 k1 rl1=>by
  obtain ⟨hp,h1⟩:=h1;cases x<;>try exact hp.elim
  case ref p=>
   cases rx;have hp':(getL G1 p).isSome=true:=hp;obtain ⟨ys,e⟩:=Option.isSome_iff_exists.mp hp';obtain ⟨us,hs,r2⟩:=jA hr1 e;exact ⟨.inl ⟨rfl,us,hs⟩,hr _ [] _ [] G1 H1 q _ hr1 (.ref p) .nil h1 (af.back k1)⟩⟩
def qau {o:Expr} {to:TE3} {apos cpos:Pos} (ho:jE3 X o to) (hbase:attributeBase o "reverse" X.env (eval o X.env)=eval o X.env:=by rfl) (hline:(apos.endLine==cpos.line)=true:=by rfl) :
  jE3 X (.Call (.Attribute o "reverse" apos) [] [] cpos) (qiC qhl to):=qiM PySem.F.slot_list_reverse PySem.F.type_list_reverse qav qg0 ho hbase hline
end
section
variable {prog:Program} {w:World} {A:Around} {R:Result->Shared->Prop} {s:Shared}
def SW (elt t1 i1 t2 i2:Expr) (f1 f2:List Expr) (scope:Scope) (pos:Pos) (it acc:Value) (env:Env) :
  compTurn (.ListComp elt [⟨t1,i1,f1,0⟩,⟨t2,i2,f2,0⟩] scope pos) 0 it acc env=(do
   standAt i1.pos
   match←pyNext it with
   |none=>pure (.done .next)
   |some v=>
    letOwnedTupleGo t1 it v
    assign t1 env v
    let mut ok:=true
    for c in f1 do
     if ok then ok←isTrue c env (eval c env)
    if ok then
     let x←eval i2 env
     standAt i2.pos
     let x←foldedSetIterable i2 env x
     let _←runOwn (.compStart (.ListComp elt [⟨t1,i1,f1,0⟩,⟨t2,i2,f2,0⟩] scope pos) 1 (← holding [x] (pyIter x)) acc env) env
    again (.compLoop (.ListComp elt [⟨t1,i1,f1,0⟩,⟨t2,i2,f2,0⟩] scope pos) 0 it acc env)):=by rfl
def SJ (elt t1 i1 t2 i2:Expr) (f1 f2:List Expr) (scope:Scope) (pos:Pos) (it acc:Value) (env:Env) :
  compTurn (.ListComp elt [⟨t1,i1,f1,0⟩,⟨t2,i2,f2,0⟩] scope pos) 1 it acc env=(do
   standAt i2.pos
   match←pyNext it with
   |none=>pure (.done .next)
   |some v=>
    letOwnedTupleGo t2 it v
    assign t2 env v
    let mut ok:=true
    for c in f2 do
     if ok then ok←isTrue c env (eval c env)
    if ok then
     (do let _←call (.builtin "list.append") [acc,← eval elt env])
    again (.compLoop (.ListComp elt [⟨t1,i1,f1,0⟩,⟨t2,i2,f2,0⟩] scope pos) 1 it acc env)):=by rfl
def VI {elt t1 i1 t2 i2:Expr} {f1 f2:List Expr} {scope:Scope} {pos:Pos} {it acc:Value} {env:Env}
  (h0:codeAny (model prog w) A (.compLoop (.ListComp elt [⟨t1,i1,f1,0⟩,⟨t2,i2,f2,0⟩] scope pos) 1 it acc env) R s)
  (h:wpAny (model prog w) A (pyIter it) (λit' s'=>codeAny (model prog w) A (.compLoop (.ListComp elt [⟨t1,i1,f1,0⟩,⟨t2,i2,f2,0⟩] scope pos) 1 it' acc env) R s')
   (notedBy (model prog w) A env λx s'=>R (.error x) s') s) :
  codeAny (model prog w) A (.compStart (.ListComp elt [⟨t1,i1,f1,0⟩,⟨t2,i2,f2,0⟩] scope pos) 1 it acc env) R s:=by
 refine codeAny_of_tree ?_;show wpAny _ _ ((compStart (.ListComp elt [⟨t1,i1,f1,0⟩,⟨t2,i2,f2,0⟩] scope pos) 1 it acc env).onRaise (λx=>do noteFrame x env;standAt theWindowsPlace)) _ _ s;refine wpAny_notedAt ?_;unfold compStart;show wpAny _ _ (ask >>= _) _ _ s;refine x5 (wpAny_askSetting (wpAny_ite ?_));split
 ·first
   |exact x5 (x6 (x6 (And.intro rfl h0)))
   |exact x6 (And.intro rfl h0)
 ·first
   |exact x5 (wpAny_rule (x5 (wpAny_standAt (x5 (x8 h (λit' s' h'=>x6 (And.intro rfl h')) λ_ _ x=>x)))))
   | (refine x5 (wpAny_rule ?_);show wpAny _ _ (standAt i2.pos >>= _) _ _ s;exact x5 (wpAny_standAt (x5 (x8 h (λit' s' h'=>x6 (And.intro rfl h')) λ_ _ x=>x))))
end
def tIn (wi:TI) (g:TG) (tif:TT) (te:TE) (D:Addr) (N:L2.St->Hp->Prop) (σ:L2.St) (H:Hp):Prop:=wi σ H λJ H1=>
 ∃ W:Nat->Nat->L2.St->Hp->Prop,(∃ n,W 0 n σ H1)/\∀ i n σ H,W i n σ H ->
  (J.stop i H/\N σ H)\/(J.go i H/\∀ x H',J.yld i H x H'->g x σ H' λσ2 H2=>tif σ2 H2 λk H3=>
   if k=true then te σ2 H3 λy H4=>∃ zs,H4 D=some (.lst zs)/\zs.length<sizeLine/\∃ n',n'<n/\W (i+1) n' σ2 (upd H4 D (.lst (zs++[y])))
   else ∃ n',n'<n/\W (i+1) n' σ2 H3)
section
variable {X:Cx}
def qnv {elt t1 i1 t2 i2:Expr} {f1 f2:List Expr} {scope:Scope} {pos:Pos} {wi:TI} {g:TG} {tif:TT} {te:TE} {D:Addr} {N:L2.St->Hp->Prop} (hc:X.calm=true) (hx:∀ v s,¬ X.xe v s) (hi:PI X t2 i2 wi) (hg:PG X t2 g) (hf:PF X f2 tif) (he:PE X elt te)
    (hs:∀ x,foldedSetIterable i2 X.env x=pure x) {pins:List (Addr×Obj)} {s:Shared} {σ:L2.St} {H:Hp} {E:Value->Shared->Prop} {α:Type} {kk:Sem α} {Q:α->Shared->Prop} (I:Inv X pins σ H s) (h:tIn wi g tif te D N σ H) (hk:∀ s' σ' H',Inv X pins σ' H' s'->N σ' H'->wpAny (model X.prog X.w) X.A kk Q E s') :
    wpAny (model X.prog X.w) X.A (do
            let x←eval i2 X.env
            standAt i2.pos
            let x←foldedSetIterable i2 X.env x
            let _←runOwn (.compStart (.ListComp elt [⟨t1,i1,f1,0⟩,⟨t2,i2,f2,0⟩] scope pos) 1 (← holding [x] (pyIter x)) (.ref D) X.env) X.env
            kk) Q E s:=by
  refine x5 (x8 (hi pins s σ H _ I h) (λv s1 h1=>?_) λ_ _ z=>(hx _ _ z).elim);refine x5 (wpAny_standAt (x5 (wpAny_of_eq (hs v) ?_)));refine x5 (wpAny_holding (x8 h1 (λitv s2 h2=>?_) λ_ _ z=>(hx _ _ z).elim));obtain ⟨it,fp,tn,J,H2,rfl,I2,T,st2,f2',W,⟨n0,w0⟩,turn⟩:=h2;have stat:∀ {H':Hp},(∀ b∈fp,H' b=none)->∀ b∈fp,KY X pins H' b:=λhn b hb=>⟨hn b hb,(f2' b hb).2⟩
  refine x5 (wpAny_runOwn ?_);show codeAny (model X.prog X.w) X.A (.compStart (.ListComp elt [⟨t1,i1,f1,0⟩,⟨t2,i2,f2,0⟩] scope pos) 1 (.ref it) (.ref D) X.env) _ s2;have loop:codeAny (model X.prog X.w) X.A (.compLoop (.ListComp elt [⟨t1,i1,f1,0⟩,⟨t2,i2,f2,0⟩] scope pos) 1 (.ref it) (.ref D) X.env) (λr s'=>match r with
      |.ok f=>wpAny (model X.prog X.w) X.A kk Q E s'
      |.error e=>cameBackBy (model X.prog X.w) X.A X.env E e s') s2:=by
    refine codeAny_loop rfl (λn s'=>∃ i σ' H',Inv X pins σ' H' s'/\tn i s'.heap/\(∀ b∈fp,H' b=none)/\W i n σ' H') (λn s' hI=>?_) n0 ⟨0,σ,H2,I2,st2,λb hb=>(f2' b hb).1,w0⟩;show wpAny _ X.A ((compTurn (.ListComp elt [⟨t1,i1,f1,0⟩,⟨t2,i2,f2,0⟩] scope pos) 1 (.ref it) (.ref D) X.env).onRaise (λx=>do noteFrame x X.env;theTreesLotGoes x)) _ _ s';refine wpAny_noted ?_;rw [SJ];refine x5 (wpAny_standAt (x5 ?_));obtain ⟨i,σ5,H5,I5,st5,fr5,w5⟩:=hI;rcases turn i n σ5 H5 w5 with ⟨stop,q⟩|⟨go,step⟩
    · refine thn (T.done X rfl rfl rfl hc i pins s' σ5 H5 _ I5 (stat fr5) st5 stop) λr s6 ⟨hr,I6⟩=>?_;subst hr;exact x6 (hk _ σ5 H5 I6 q)
    · refine thn (T.item X rfl rfl rfl hc i pins s' σ5 H5 _ I5 (stat fr5) st5 go) λr s6 ⟨u,hr,h6⟩=>?_;subst hr;refine x5 (thn h6 λ_ s7 ⟨x,H7,I7,r7,y7,st7,fr7⟩=>?_);have I7':=I7.pinned (stat fr7) (T.obj _ _ st7);have again:∀ {σ8:L2.St} {H8:Hp} {s8:Shared},Inv X (pins++WO fp s7.heap) σ8 H8 s8->(∃ n',n'<n/\W (i+1) n' σ8 H8) ->
          ∃ m',m'<n/\∃ i σ' H',Inv X pins σ' H' s8/\tn i s8.heap/\(∀ b∈fp,H' b=none)/\W i m' σ' H':=λ{σ8 H8 s8} I8 ⟨n',hn,w8⟩=>by
        refine ⟨n',hn,i+1,σ8,H8,I8.unpinned,T.keep _ _ _ st7 λb hb o e=>(I8.pin (b,o) (v6 _ (v6 _ (zZ hb e)))).1,λb hb=>?_,w8⟩;obtain ⟨o,e,d⟩:=T.obj _ _ st7 b hb;exact (I8.pin (b,o) (v6 _ (v6 _ (zZ hb e)))).2.1
      refine x5 (x8 (hg _ s7 σ5 H7 x u _ I7' r7 (step x H7 y7)) (λ_ s8 ⟨σ8,H8,I8,q8⟩=>?_) λ_ _ z=>(hx _ _ z).elim);refine x5 (x8 (hf _ s8 σ8 H8 _ I8 q8) (λk s9 ⟨H9,I9,q9⟩=>?_) λ_ _ z=>(hx _ _ z).elim);cases k with
      |false=>
        rw [if_neg y6] at q9;exact x6 ⟨rfl,again I9 q9⟩
      |true=>
        rw [if_pos rfl] at q9;refine x5 (x5 (x8 (he _ s9 σ8 H9 _ I9 q9) (λw s10 ⟨y,H10,I10,r10,q10⟩=>?_) λ_ _ z=>(hx _ _ z).elim));obtain ⟨zs,hz,hl,q10⟩:=q10;refine x5 (x8 (DG (X:=X) _ s10 σ8 H10 (.ref D) [y] (.ref D) [w] (λ_ H11=>H11=upd H10 D (.lst (zs++[y]))) I10 rfl (.cons r10 .nil) ⟨D,zs,y,rfl,rfl,hz,hl,rfl⟩) (λ_ s11 ⟨_,H11,I11,_,e11⟩=>?_) λ_ _ z=>(hx _ _ z).elim);subst e11;exact x6 (x6 ⟨rfl,again I11 q10⟩)
  exact VI loop (T.self X.A 0 _ _ _ st2 loop)
def qrI (wi:TI) (g:TG) (tif:TT) (wi2:TI) (g2:TG) (tif2:TT) (te:TE) (m:List (Option Nat)):TE:=λσ H Q=>wi σ H λJ H1=>∀ D,H1 D=none ->
 ∃ W:Nat->Nat->L2.St->Hp->Prop,(∃ n,W 0 n (cap m σ) (upd H1 D (.lst [])))/\∀ i n σ H,W i n σ H ->
  (J.stop i H/\Q (.ref D) H)\/(J.go i H/\∀ x H',J.yld i H x H'->g x σ H' λσ2 H2=>tif σ2 H2 λk H3=>
   if k=true then tIn wi2 g2 tif2 te D (λσ4 H4=>∃ n',n'<n/\W (i+1) n' σ4 H4) σ2 H3
   else ∃ n',n'<n/\W (i+1) n' σ2 H3)
def qjZ {elt tg iter t2 i2:Expr} {ifs f2:List Expr} {scope:Scope} {pos:Pos} {N':List Str} {m:List (Option Nat)} {wi:TI} {g:TG} {tif:TT} {wi2:TI} {g2:TG} {tif2:TT} {te:TE} (hc:X.calm=true) (hi:PI X tg iter wi)
  (hg:∀ s H fp,PG (qr X N' scope s H fp) tg g) (hf:∀ s H fp,PF (qr X N' scope s H fp) ifs tif) (hi2:∀ s H fp,PI (qr X N' scope s H fp) t2 i2 wi2) (hg2:∀ s H fp,PG (qr X N' scope s H fp) t2 g2) (hf2:∀ s H fp,PF (qr X N' scope s H fp) f2 tif2) (he:∀ s H fp,PE (qr X N' scope s H fp) elt te)
  (hsc:qaU X.env.scope scope=true) (hcap:ED X.N N' scope m=true) (hs:∀ x,foldedSetIterable iter X.env x=pure x:=by intro _;rfl) (hs2:∀ s H fp x,foldedSetIterable i2 (qr X N' scope s H fp).env x=pure x:=by intro _ _ _ _;rfl) :
  PE X (.ListComp elt [⟨tg,iter,ifs,0⟩,⟨t2,i2,f2,0⟩] scope pos) (qrI wi g tif wi2 g2 tif2 te m):=by
 intro pins s σ H Q I h;have sc:=D5 hsc;have hcl:∀ y∈scope.names,y.2=.free->∃ c,X.env.cells.lookup y.1=some c:=λy hy e=>by
  rcases (sc.free y hy e).2 with z|z
  ·exact I.ok.has y.1 (.inl z)
  ·exact I.ok.has y.1 (.inr z)
 rw [eval_ListComp];refine wpAny_comprehension_free (use:=none) (g:=⟨tg,iter,ifs,0⟩) (gs:=[⟨t2,i2,f2,0⟩]) rfl hs (YQ hcl) sc.kind sc.loc ?_;show wpAny _ _ (eval iter X.env) _ _ s;refine thn (hi pins s σ H _ I h) λv s1 h1=>thn h1 λitv s2 h2=>?_;obtain ⟨it,fp,tn,J,H2,rfl,I2,T,st2,fF2,hW⟩:=h2;refine wpAny_newObj_type ?_;have hD:H2 s2.heap.objs.size=none:=I2.fresh;obtain ⟨W,⟨n0,w0⟩,turn⟩:=hW _ hD;generalize hDe:s2.heap.objs.size=D at *;have I3:Inv X pins σ (upd H2 D (.lst [])) { s2 with heap:=s2.heap.push { cls:=.type "list",dict:=none,data:=.seq ([]:List Value).toArray } }:=by
  subst hDe;exact I2.laid (t':=s2.toks) (λb u e=>x9 _ e) (v4 _) ⟨Nat.zero_le _,[],0,.nil,y3 _ rfl⟩
 have ob2:=T.obj 0 _ st2;have ob3:∀ b∈fp,∃ o,(s2.heap.push { cls:=.type "list",dict:=none,data:=.seq ([]:List Value).toArray }).get? b=some o:=λb hb=>let ⟨o,e,_⟩:=ob2 b hb;⟨o,x9 _ e⟩
 have f3:∀ b∈fp,KY X pins (upd H2 D (.lst [])) b:=λb hb=>by
  obtain ⟨o,e,_⟩:=ob2 b hb;have:b≠D:=by rw [← hDe];exact u7 (y4 e)
  exact ⟨by rw [qz this];exact (fF2 b hb).1,(fF2 b hb).2⟩
 have k23:∀ b o,s2.heap.get? b=some o->(s2.heap.push { cls:=.type "list",dict:=none,data:=.seq ([]:List Value).toArray }).get? b=some o:=λb o e=>x9 _ e;generalize hH3:upd H2 D (.lst [])=H3 at *;generalize hs3:({ s2 with heap:=s2.heap.push { cls:=.type "list",dict:=none,data:=.seq ([]:List Value).toArray } }:Shared)=s3 at *;have ob3:∀ b∈fp,∃ o,s3.heap.get? b=some o:=by rw [← hs3];exact ob3
 have k23:∀ b o,s2.heap.get? b=some o->s3.heap.get? b=some o:=by rw [← hs3];exact k23
 refine QV λh₁ hns hk hown=>?_;have I4:Inv (qr X N' scope s3 H3 fp) [] (cap m σ) H3 { s3 with heap:=h₁ }:=SZ hc I3 sc hcap f3 ob3 hns hk hown;have tn4:tn 0 h₁:=T.keep _ _ _ st2 λb hb o e=>hk b o (k23 b o e);have fr4:∀ b∈fp,H3 b=none:=λb hb=>(f3 b hb).1;have stat:∀ {H':Hp},(∀ b∈fp,H' b=none)->∀ b∈fp,KY (qr X N' scope s3 H3 fp) [] H' b:=λhn b hb=>by
  refine ⟨hn b hb,I4.ok.exf b hb |>.1,I4.ok.exfs b hb,.inl hb,λx c e=>(I4.ok.exf b hb).2 x c e,λp hp=>absurd (show p∈([]:List (Addr×Obj)) from hp) (by simp)⟩
 show codeAny (model X.prog X.w) X.A (.compStart (.ListComp elt [⟨tg,iter,ifs,0⟩,⟨t2,i2,f2,0⟩] scope pos) 0 (.ref it) (.ref D) (qr X N' scope s3 H3 fp).env) (compPost (model X.prog X.w) X.A X.xe none (EP X pins σ Q) (.ref D) s3.heap.objs.size) { s3 with heap:=h₁ };have loop:codeAny (model X.prog X.w) X.A (.compLoop (.ListComp elt [⟨tg,iter,ifs,0⟩,⟨t2,i2,f2,0⟩] scope pos) 0 (.ref it) (.ref D) (qr X N' scope s3 H3 fp).env) (compPost (model X.prog X.w) X.A X.xe none (EP X pins σ Q) (.ref D) s3.heap.objs.size) { s3 with heap:=h₁ }:=by
  refine codeAny_loop rfl (λn s'=>∃ i σ' H',Inv (qr X N' scope s3 H3 fp) [] σ' H' s'/\tn i s'.heap/\(∀ b∈fp,H' b=none)/\W i n σ' H') (λn s' hI=>?_) n0 ⟨0,cap m σ,H3,I4,tn4,fr4,w0⟩;show wpAny _ X.A ((compTurn (.ListComp elt [⟨tg,iter,ifs,0⟩,⟨t2,i2,f2,0⟩] scope pos) 0 (.ref it) (.ref D) (qr X N' scope s3 H3 fp).env).onRaise (λx=>do noteFrame x (qr X N' scope s3 H3 fp).env;theTreesLotGoes x)) _ _ s';refine wpAny_noted ?_;rw [SW];refine x5 (wpAny_standAt (x5 ?_));obtain ⟨i,σ5,H5,I5,st5,fr5,w5⟩:=hI;rcases turn i n σ5 H5 w5 with ⟨stop,q⟩|⟨go,step⟩
  ·refine thn (T.done (qr X N' scope s3 H3 fp) rfl rfl rfl rfl i [] s' σ5 H5 _ I5 (stat fr5) st5 stop) λr s6 ⟨hr,I6⟩=>?_;subst hr;refine x6 ?_;obtain ⟨mm,hn6,_⟩:=I6.loc;exact ⟨mm,hn6,λh' sb=>⟨.ref D,H5,D0 I3 f3 I6 sb,rfl,q⟩⟩
  ·refine thn (T.item (qr X N' scope s3 H3 fp) rfl rfl rfl rfl i [] s' σ5 H5 _ I5 (stat fr5) st5 go) λr s6 ⟨u,hr,h6⟩=>?_;subst hr;refine x5 (thn h6 λ_ s7 ⟨x,H7,I7,r7,y7,st7,fr7⟩=>?_);have I7':=I7.pinned (stat fr7) (T.obj _ _ st7);have again:∀ {σ8:L2.St} {H8:Hp} {s8:Shared},Inv (qr X N' scope s3 H3 fp) ([]++WO fp s7.heap) σ8 H8 s8->(∃ n',n'<n/\W (i+1) n' σ8 H8) ->
     ∃ m',m'<n/\∃ i σ' H',Inv (qr X N' scope s3 H3 fp) [] σ' H' s8/\tn i s8.heap/\(∀ b∈fp,H' b=none)/\W i m' σ' H':=λ{σ8 H8 s8} I8 ⟨n',hn,w8⟩=>by
    refine ⟨n',hn,i+1,σ8,H8,I8.unpinned,T.keep _ _ _ st7 λb hb o e=>(I8.pin (b,o) (v6 _ (v6 _ (zZ hb e)))).1,λb hb=>?_,w8⟩;obtain ⟨o,e,d⟩:=T.obj _ _ st7 b hb;exact (I8.pin (b,o) (v6 _ (v6 _ (zZ hb e)))).2.1
   refine x5 (x8 (hg s3 H3 fp _ s7 σ5 H7 x u _ I7' r7 (step x H7 y7)) (λ_ s8 ⟨σ8,H8,I8,q8⟩=>?_) λ_ _ z=>z.elim);refine x5 (x8 (hf s3 H3 fp _ s8 σ8 H8 _ I8 q8) (λk s9 ⟨H9,I9,q9⟩=>?_) λ_ _ z=>z.elim);cases k with
   |false=>
    rw [if_neg y6] at q9;exact x6 ⟨rfl,again I9 q9⟩
   |true=>
    rw [if_pos rfl] at q9;refine qnv (X:=qr X N' scope s3 H3 fp) rfl (λ_ _ z=>z) (hi2 s3 H3 fp) (hg2 s3 H3 fp) (hf2 s3 H3 fp) (he s3 H3 fp) (hs2 s3 H3 fp) I9 q9 λs10 σ10 H10 I10 q10=>?_;exact x6 ⟨rfl,again I10 q10⟩
 exact codeAny_compStart_list loop (T.self X.A 0 _ _ _ tn4 loop)
end
def qiA (D:Addr) (stay:Gp->Prop) (g:TG3) (tif:TT3) (te:TE3) (N:St3->Gp->Prop):List T->St3->Gp->Prop
 |[],τ,G=>stay G/\N τ G
 |x::r,τ,G=>stay G/\g x τ G λτ2 G2=>tif τ2 G2 λk G3=>
  if k=true then te τ2 G3 λy G4=>(match G4 D with|some (.lst ys)=>ys.length<sizeLine/\qiA D stay g tif te N r τ2 (gu G4 D (.lst (ys++[y])))|_=>False) else qiA D stay g tif te N r τ2 G3
def qcV (D:Addr) (stay:Gp->Prop) (g:TG3) (tif:TT3) (wi2:TI3) (g2:TG3) (tif2:TT3) (te:TE3) (q:Q3):List T->St3->Gp->Prop
 |[],_,G=>stay G/\q (.ref D) G
 |x::r,τ,G=>stay G/\g x τ G λτ2 G2=>tif τ2 G2 λk G3=>
  if k=true then wi2 τ2 G3 λitems2 stay2 G4=>qiA D stay2 g2 tif2 te (λτ' G'=>qcV D stay g tif wi2 g2 tif2 te q r τ' G') items2 τ2 G4 else qcV D stay g tif wi2 g2 tif2 te q r τ2 G3
def qlp (wi:TI3) (g:TG3) (tif:TT3) (wi2:TI3) (g2:TG3) (tif2:TT3) (te:TE3) (m:List (Option Nat)):TE3:=λτ G q=>wi τ G λitems stay G1=>∀ D,G1 D=none->qcV D stay g tif wi2 g2 tif2 te q items (cap m τ) (gu G1 D (.lst []))
section
variable {K:Frg}
def qia {wi2:TI3} {g2:TG3} {tif2:TT3} {te:TE3} {D:Addr} {N3:St3->Gp->Prop} {N:L2.St->Hp->Prop} {τ:St3} {G:Gp} {σ:L2.St} {H:Hp} {Gb:Gp} {Hb:Hp} (rl:Rel K τ G σ H) (kb:Kp Gb Hb G H) (h:wi2 τ G λitems stay G1=>qiA D stay g2 tif2 te N3 items τ G1)
  (hN:∀ τ' G' σ' H',Rel K τ' G' σ' H'->Kp Gb Hb G' H'->N3 τ' G'->N σ' H'):tIn (lI K wi2) (lG K g2) (lT K tif2) (lE K te) D N σ H:=by
 refine ⟨τ,G,_,rl,h,λitems stay G1 h1 J H1 hr1 k1 ok=>?_⟩;refine ⟨λi n σ' H'=>n=items.length-i/\i<=items.length/\∃ τ' G',Rel K τ' G' σ' H'/\Kp G1 H1 G' H'/\qiA D stay g2 tif2 te N3 (items.drop i) τ' G',⟨_,rfl,Nat.zero_le _,τ,G1,rl.next hr1 k1,Kp.refl,by simpa using h1⟩,?_⟩;rintro i n σ' H' ⟨rfl,hi,τ',G',rl',k',h'⟩;by_cases hlt:i<items.length
 ·rw [List.drop_eq_getElem_cons hlt] at h';obtain ⟨hst,h'⟩:=h';obtain ⟨go,yld,_⟩:=ok G' H' rl'.hp k' hst;have hx:items[i]?=some items[i]:=y9 hlt;refine .inr ⟨go i _ hx,λv H2 y=>?_⟩;obtain ⟨rv,hr2,k2⟩:=yld i _ v H2 hx y;refine ⟨_,τ',G',_,rv,rl'.next hr2 k2,h',λτ3 G3 h3 σ3 H3 rl3 k3=>⟨τ3,G3,_,rl3,h3,λk G4 h4 H4 hr4 k4=>?_⟩⟩;have kk:=(k2.trans k3).trans k4;cases k with
  |false=>
   rw [if_neg y6] at h4;refine qn1 ?_;exact ⟨_,by omega,rfl,hlt,τ3,G4,rl3.next hr4 k4,k'.trans kk,h4⟩
  |true=>
   rw [if_pos rfl] at h4;refine qnO ?_;refine ⟨τ3,G4,_,rl3.next hr4 k4,h4,λz G5 h5 w H5 rw5 hr5 k5=>?_⟩;split at h5
   ·rename_i ys e1;obtain ⟨vs,g1,r1⟩:=hr5.lst e1;exact ⟨vs,g1,by rw [← r1.length];exact h5.1,_,by omega,rfl,hlt,τ3,_,((rl3.next hr4 k4).next hr5 k5).next (hr5.wr e1 (r1.append (.cons rw5 .nil))) (Kp.wr e1),((k'.trans kk).trans k5).trans (Kp.wr e1),h5.2⟩
   ·exact h5.elim
 ·have e:i=items.length:=by omega
  subst e;rw [List.drop_length] at h';obtain ⟨_,_,stop⟩:=ok G' H' rl'.hp k' h'.1;exact .inl ⟨stop,hN _ _ _ _ rl' ((kb.trans k1).trans k') h'.2⟩
end
section
variable {X:Cx}
def qpX {elt tg iter t2 i2:Expr} {ifs f2:List Expr} {scope:Scope} {pos:Pos} (N':List Str) (m:List (Option Nat)) {wi:TI3} {g:TG3} {tif:TT3} {wi2:TI3} {g2:TG3} {tif2:TT3} {te:TE3} (hc:X.calm=true) (hi:I3 X tg iter wi)
  (hg:∀ s H fp,G3 (qr X N' scope s H fp) tg g) (hf:∀ s H fp,F3 (qr X N' scope s H fp) ifs tif) (hi2:∀ s H fp,I3 (qr X N' scope s H fp) t2 i2 wi2) (hg2:∀ s H fp,G3 (qr X N' scope s H fp) t2 g2) (hf2:∀ s H fp,F3 (qr X N' scope s H fp) f2 tif2) (he:∀ s H fp,E3 (qr X N' scope s H fp) elt te)
  (hsc:qaU X.env.scope scope=true) (hcap:ED X.N N' scope m=true) (hs:∀ x,foldedSetIterable iter X.env x=pure x:=by intro _;rfl) (hs2:∀ s H fp x,foldedSetIterable i2 (qr X N' scope s H fp).env x=pure x:=by intro _ _ _ _;rfl) :
  E3 X (.ListComp elt [⟨tg,iter,ifs,0⟩,⟨t2,i2,f2,0⟩] scope pos) (qlp wi g tif wi2 g2 tif2 te m):=
 WU (qjZ (g:=lG X.K g) (tif:=lT X.K tif) (wi2:=lI X.K wi2) (g2:=lG X.K g2) (tif2:=lT X.K tif2) (te:=lE X.K te) hc hi hg hf hi2 hg2 hf2 he hsc hcap hs hs2) λσ H Q ⟨τ,G,q,rl,h,af⟩=>by
  refine ⟨τ,G,_,rl,h,λitems stay G1 h1 J H1 hr1 k1 ok D hD=>?_⟩;have gD:G1 D=none:=hr1.free hD;have h1:=h1 D gD;have hr1':HR X.K (gu G1 D (.lst [])) (upd H1 D (.lst [])):=HR.newL hr1 hD .nil;have k1':Kp G1 H1 (gu G1 D (.lst [])) (upd H1 D (.lst [])):=Kp.newL hD;refine ⟨λi n σ' H'=>n=items.length-i/\i<=items.length/\∃ τ' G',Rel X.K τ' G' σ' H'/\Kp G1 H1 G' H'/\qcV D stay g tif wi2 g2 tif2 te q (items.drop i) τ' G',
   ⟨_,rfl,Nat.zero_le _,cap m τ,_,((rl.next hr1 k1).cap m).next hr1' k1',k1',by simpa using h1⟩,?_⟩
  rintro i n σ' H' ⟨rfl,hi,τ',G',rl',k',h'⟩;by_cases hlt:i<items.length
  ·rw [List.drop_eq_getElem_cons hlt] at h';obtain ⟨hst,h'⟩:=h';obtain ⟨go,yld,_⟩:=ok G' H' rl'.hp k' hst;have hx:items[i]?=some items[i]:=y9 hlt;refine .inr ⟨go i _ hx,λv H2 y=>?_⟩;obtain ⟨rv,hr2,k2⟩:=yld i _ v H2 hx y;refine ⟨_,τ',G',_,rv,rl'.next hr2 k2,h',λτ3 G3 h3 σ3 H3 rl3 k3=>⟨τ3,G3,_,rl3,h3,λk G4 h4 H4 hr4 k4=>?_⟩⟩;have kk:=(k2.trans k3).trans k4;cases k with
   |false=>
    rw [if_neg y6] at h4;refine qn1 ?_;exact ⟨_,by omega,rfl,hlt,τ3,G4,rl3.next hr4 k4,k'.trans kk,h4⟩
   |true=>
    rw [if_pos rfl] at h4;refine qnO ?_;exact qia (rl3.next hr4 k4) (k'.trans kk) h4 λτ5 G5 σ5 H5 rl5 k5 h5=>⟨_,by omega,rfl,hlt,τ5,G5,rl5,k5,h5⟩
  ·have e:i=items.length:=by omega
   subst e;rw [List.drop_length] at h';obtain ⟨_,_,stop⟩:=ok G' H' rl'.hp k' h'.1;exact .inl ⟨stop,af _ _ h'.2 _ H' (.ref D) rl'.hp (k1.trans k')⟩
def qgi {elt tg iter t2 i2:Expr} {ifs f2:List Expr} {scope:Scope} {pos:Pos} (N':List Str) (m:List (Option Nat)) {wi:TI3} {g:TG3} {tif:TT3} {wi2:TI3} {g2:TG3} {tif2:TT3} {te:TE3} (hc:X.calm=true) (hi:jI3 X tg iter wi)
  (hg:∀ s H fp,jG3 (qr X N' scope s H fp) tg g) (hf:∀ s H fp,jF3 (qr X N' scope s H fp) ifs tif) (hi2:∀ s H fp,jI3 (qr X N' scope s H fp) t2 i2 wi2) (hg2:∀ s H fp,jG3 (qr X N' scope s H fp) t2 g2) (hf2:∀ s H fp,jF3 (qr X N' scope s H fp) f2 tif2) (he:∀ s H fp,jE3 (qr X N' scope s H fp) elt te)
  (hsc:qaU X.env.scope scope=true) (hcap:ED X.N N' scope m=true) (hs:∀ x,foldedSetIterable iter X.env x=pure x:=by intro _;rfl) (hs2:∀ s H fp x,foldedSetIterable i2 (qr X N' scope s H fp).env x=pure x:=by intro _ _ _ _;rfl) :
  jE3 X (.ListComp elt [⟨tg,iter,ifs,0⟩,⟨t2,i2,f2,0⟩] scope pos) (qlp wi g tif wi2 g2 tif2 te m):=
 ⟨qpX N' m hc hi.h (λs H fp=>(hg s H fp).h) (λs H fp=>(hf s H fp).h) (λs H fp=>(hi2 s H fp).h) (λs H fp=>(hg2 s H fp).h) (λs H fp=>(hf2 s H fp).h) (λs H fp=>(he s H fp).h) hsc hcap hs hs2⟩
end
section
variable {X:Cx}
def RX:∀ {its:List Value} {ns:List Int},jj (ns.map V.int) its->IntsAre its ns
 |_,[],h=>by cases h;exact .nil
 |_,n::ns,h=>by
  cases h with
  |cons r t=>
   obtain ⟨k,rfl⟩:=r;exact .cons n k (RX t)
end
section
variable {X:Cx} {tg a b c:Expr} {pos:Pos}
end
def R4 (ns:List Int):Nat:=(firstMet (λi=>ns.getD i 0) ns.length).length
section
variable {X:Cx}
def S4 (hc:X.calm=true):VH X (.type "set") (λxs H Q=>∃ (p:Addr) (ns:List Int),xs=[.ref p]/\SqL X.K H p (ns.map V.int)/\ns.length<4000/\∀ l S,H l=none->Q (.ref l) (upd H l (.set S (R4 ns)))):=by
 intro pins s σ H xs us Q I r h;obtain ⟨p,ns,rfl,hq,hl,q⟩:=h;obtain ⟨u,rfl,rp⟩:=C6 r;cases (show u=Value.ref p from rp);obtain ⟨its,rv,pl,hz⟩:=I.list hq;have hlen:its.length=ns.length:=by have:=rv.length;simp at this;omega
 refine call_set_list (items:=its.toArray) (ns:=ns) (I.ok.hd hc) pl.isList (by simpa using RX rv) (by rw [size_toArray];unfold scanBound;omega) λh' tk hs kp=>?_;have e:(its.toArray).size=ns.length:=by rw [size_toArray];exact hlen
 rw [e] at hs;exact ⟨.ref s.heap.objs.size,_,I.laid (t':=tk) (o:=.set (λk'=>(firstMet (λi=>ns.getD i 0) ns.length).any (·==k')) (R4 ns)) (λb o hb=>kp b o (y4 hb) hb) (v4 _) hs,rfl,q _ _ (I.hok.fresh (v4 _))⟩
def TX:VH X (.builtin "len") (λxs H Q=>∃ a S n,xs=[.ref a]/\H a=some (.set S n)/\Q (.int n) H):=by
 intro pins s σ H xs us Q I r h;obtain ⟨a,S,n,rfl,ha,q⟩:=h;obtain ⟨u,rfl,rp⟩:=C6 r;cases (show u=Value.ref a from rp);obtain ⟨o,es,ep,t,h1,h2,h3,_,_,h6,h7,h8⟩:=(show s.heap.SetOf (intKind X.prog X.w) a S n from I.hok a _ ha)
 refine call_len_set h1 h2 h3 h7 (by unfold scanBound at h6;omega) ⟨.int n,H,I.tok _,⟨_,by rw [h8]⟩,q⟩
def qd3 (te:TE3):TE3:=λτ G q=>te τ G λx G1=>match x with
 |.ref p=>(match getL G1 p with|some ys=>(match KP ys with|some ns=>ns.length<4000/\q (.int (R4 ns)) G1|none=>False)|none=>False)
 |_=>False
def KR {e:Expr} {te:TE3} {p p2 pos pos2:Pos} (hc:X.calm=true) (hg:Gl X "len") (hm:X.mg "len" = none) (hg2:Gl X "set") (hm2:X.mg "set" = none) (he:jE3 X e te)
  (h1:starEach [e] X.env=(false,eval e X.env)::starEach [] X.env:=by rfl) (h2:starEach [.Call (.Name "set" p2) [e] [] pos2] X.env=(false,eval (.Call (.Name "set" p2) [e] [] pos2) X.env)::starEach [] X.env:=by rfl)
  (h3:(backTo pos (starEach [] X.env)).any (·.1)=false:=by rfl) (h4:(backTo pos2 (starEach [] X.env)).any (·.1)=false:=by rfl):jE3 X (.Call (.Name "len" p) [.Call (.Name "set" p2) [e] [] pos2] [] pos) (qd3 te):=
 ⟨WU (UH TX hg hm PySem.boot_len (jV (LB (S4 hc) hg2 hm2 (show bootBuiltins "set" = some (.type "set") by decide +kernel) (jV he.h DI h1) (he:=h1) (hpl:=h4)) DI h2) (he:=h2) (hpl:=h3)) λ_ _ _ ⟨τ,G,q,rl,h,af⟩=>z9 rl h λx G1 h1 v H1 rx hr1 k1 rl1=>by
  split at h1
  ·rename_i l;cases rx;split at h1
   ·rename_i ys e0;split at h1
    ·rename_i ns e1;obtain ⟨us,hs,r2⟩:=jA hr1 e0;have:=SE e1;subst this;have:=TW r2;subst this;exact ⟨l,ns,rfl,hs,h1.1,λa S ha=>⟨a,S,_,rfl,ze,af _ _ h1.2 _ _ (.int _) (HR.laid hr1 ha) (k1.trans (Kp.laid ha))⟩⟩
    ·exact h1.elim
   ·exact h1.elim
  ·exact h1.elim⟩
end
section
variable {X:Cx} {a b:Expr} {ta tb:TE3} {pos:Pos}
structure ShW (d:PyData):Prop where
 sh:d.showable=true
 nd:d.hasDict=false
 dp:d.depth<=40
 fit:d.shown.length<=sizeLine
def ShOk.w {d:PyData} (h:ShOk d):ShW d:=⟨h.sh,h.nd,h.dp,PyData.shown_fits_bulk (by decide) (by decide) h.lv h.bk⟩
def qcz (hg:X.A.guards=some []) (hu:X.A.units+64<cLine):VH X (.type "str") (λxs H Q=>∃ a d,xs=[.ref a]/\DV X.K H (.ref a) d/\ShW d/\Q (.str d.shown) H):=by
 intro pins s σ H xs us Q I r h;obtain ⟨a,d,rfl,dv,ok,q⟩:=h;obtain ⟨u,rfl,rp⟩:=C6 r;cases (show u=Value.ref a from rp);obtain ⟨as,rd⟩:=dv.reads I (show jZ (.ref a) (.ref a) from rfl);refine str_of_reads rd ok.sh (PyData.noDict_hsm ok.nd) hg (by have:=ok.dp;omega) (λ_ _ e=>e) (λh' u tk hk=>?_) ok.fit;exact ⟨.str _,H,I.kept (h':=h') (t':=tk) hk,⟨_,rfl⟩,q⟩
def shV (st:Bool):V->Hp->(Str->Prop)->Prop:=λv H q=>match v with
 |.non=>q (Str.ofString "None")
 |.bl b=>q (if b=true then Str.ofString "True" else Str.ofString "False")
 |.int i=>i.natAbs.log2<1920/\q (Str.ofString (toString i))
 |.str x=>if st then q x else (reprText x).length<=sizeLine/\q (reprText x)
 |.ref a=>∃ d,DV X.K H (.ref a) d/\ShW d/\q d.shown
 |_=>False
def XQ (hg:X.A.guards=some []) (hu:X.A.units+64<cLine):VH X (.type "str") (λxs H Q=>∃ v,xs=[v]/\shV (X:=X) true v H λx=>Q (.str x) H):=by
 intro pins s σ H xs us Q I r h;obtain ⟨v,rfl,h⟩:=h;obtain ⟨u,rfl,rp⟩:=C6 r;cases v with
 |non=>cases (show u=Value.none from rp);exact P.str_of_none ⟨.str _,H,I.tok _,⟨_,rfl⟩,h⟩
 |bl b=>cases (show u=Value.bool b from rp);exact P.str_of_bool ⟨.str _,H,I.tok _,⟨_,rfl⟩,h⟩
 |int i=>obtain ⟨t,rfl⟩:=(show ∃ t,u=Value.int i t from rp);exact P.str_of_int h.1 ⟨.str _,H,I.tok _,⟨_,rfl⟩,h.2⟩
 |str x=>obtain ⟨t,rfl⟩:=(show ∃ t,u=Value.str x t from rp);exact P.str_of_str ⟨.str _,H,I,⟨_,rfl⟩,h⟩
 |ref a=>
  obtain ⟨d,dv,ok,q⟩:=h;exact qcz hg hu _ _ _ _ _ _ _ I r ⟨a,d,rfl,dv,ok,q⟩
 |_=>exact h.elim
def shT (st:Bool):T->Gp->(Str->Prop)->Prop:=λx G q=>match x with
 |.non=>q (Str.ofString "None")
 |.bl b=>q (if b=true then Str.ofString "True" else Str.ofString "False")
 |.int i=>i.natAbs.log2<1920/\q (Str.ofString (toString i))
 |.str x=>if st then q x else (reprText x).length<=sizeLine/\q (reprText x)
 |.tup _=>∃ d,Dp G x d/\ShW d/\q d.shown
 |.ref _=>∃ d,Dp G x d/\ShW d/\q d.shown
def MG (st:Bool):List T->Gp->Q3->Prop:=λxs G q=>match xs with
 |[x]=>shT st x G λy=>q (.str y) G
 |_=>False
def NK {st:Bool}:qaT X.K (MG st) (λxs H Q=>∃ v,xs=[v]/\shV (X:=X) st v H λx=>Q (.str x) H):=λxs vs G H q Q hr rs h af=>by
 unfold MG at h;split at h
 ·rename_i x;obtain ⟨v,rfl,r⟩:=qaD rs;refine ⟨v,rfl,?_⟩;cases r with
  |non=>exact af _ G h _ H (.str _) hr Kp.refl
  |bl b=>exact af _ G h _ H (.str _) hr Kp.refl
  |int i=>exact ⟨h.1,af _ G h.2 _ H (.str _) hr Kp.refl⟩
  |str x=>
   cases st with
   |true=>exact af _ G h _ H (.str _) hr Kp.refl
   |false=>exact ⟨h.1,af _ G h.2 _ H (.str _) hr Kp.refl⟩
  |tup hs r2=>
   obtain ⟨d,h1,h2,h3⟩:=h;exact ⟨d,h1.dv hr (.tup hs r2),h2,af _ G h3 _ H (.str _) hr Kp.refl⟩
  |ref a=>
   obtain ⟨d,h1,h2,h3⟩:=h;exact ⟨d,h1.dv hr (.ref a),h2,af _ G h3 _ H (.str _) hr Kp.refl⟩
 ·exact h.elim
end
end L3
namespace HT
open PySem PySem.Spec PyProof.Rows
section
variable {prog:Program} {w:World} {A:Around} {E:Value->Shared->Prop} {s:Shared}
end
end HT
namespace L3
open PySem PySem.Spec PyProof.Rows L2
section
variable {X:Cx} {e ek:Expr} {p2 pos:Pos}
end
section
variable {X:Cx} {a b:Expr} {ta tb:TE3} {pos:Pos}
end
abbrev Rd (sp:Sp3) (n:Nat) (t:TS3) (N:List Str):Prop:=∀ ts G q,sp ts G q->ts.length=n/\t { nx:=λ_ G'=>q .non G',rt:=q } (qm N ts) G
def jgn {pos:Pos} {X:Cx} {x:Str} (i:Nat) (hN:decide X.N.Nodup=true:=by kernel_rfl) (hi:X.N[i]?=some x:=by rfl) (hx:Loc X.env.scope x:=by first|exact Or.inl rfl|exact Or.inr rfl) (hf:X.fn x=true\/X.env.scope.names.lookup x=some .local:=by first|exact .inl rfl|exact .inr rfl):jG3 X (.Name x pos) (gn3 i):=
 qt (of_decide_eq_true hN) hi hx hf
end L3
namespace L2
open PySem PySem.Spec PyProof.Rows
section
variable {X:Cx} {pos:Pos}
end
end L2
namespace L3
open PySem PySem.Spec PyProof.Rows L2
section
variable {X:Cx} {pos:Pos}
end
end L3
namespace HT
open PySem PyProof.Rows
section
variable {prog:Program} {w:World} {A:Around} {E:Value->Shared->Prop} {s:Shared}
end
end HT
namespace L3
open PySem PySem.Spec PyProof.Rows L2
section
variable {X:Cx}
end
section
variable {P:Program} {w:World} {A:Around} {s:Shared} {z ti to i1 i2 c1 c2:Addr} {S1 S2:Nat->Heap->Prop} {H1 H2:Array Value->Heap->Prop} {k1 k2:Nat} {xs ys:Array Value} {x y a b f0 f1:Value} {E:Value->Shared->Prop}
end
section
variable {P:Program} {w:World} {A:Around} {s:Shared} {E:Value->Shared->Prop}
end
section
variable {X:Cx} {a b e l:Expr} {es:List Expr} {pos:Pos} {t:TA3}
end
end L3
namespace Tb8
open PySem PySem.SetTable
end Tb8
namespace Tb8
open PySem PyProof.Rows
section
variable {prog:Program} {w:World} {A:Around} {E:Value->Shared->Prop} {s:Shared}
end
end Tb8
namespace Tb8
open PySem PyProof.Rows PySem.SetTable
section
variable {prog:Program} {w:World} {A:Around} {E:Value->Shared->Prop} {s:Shared}
end
end Tb8
namespace Tb8
open PySem PySem.SetTable
end Tb8
namespace Tb8
open PySem PyProof.Rows PySem.SetTable
section
variable {prog:Program} {w:World} {A:Around} {E:Value->Shared->Prop} {s:Shared}
end
section
variable {prog:Program} {w:World} {A:Around} {R:Result->Shared->Prop} {I:Addr} {fp wr:List Addr} {n:Nat} {P:Nat->Value->Prop} {St:Nat->Heap->Prop}
end
section
variable {prog:Program} {w:World} {A:Around} {E:Value->Shared->Prop} {s:Shared}
end
end Tb8
namespace L3
open PySem PySem.Spec PyProof.Rows L2
section
variable {X:Cx}
end
end L3
namespace Tb8
open PySem PyProof.Rows PySem.SetTable
section
variable {prog:Program} {w:World} {A:Around} {E:Value->Shared->Prop} {s:Shared}
end
end Tb8
namespace L3
open PySem PySem.Spec PyProof.Rows L2
section
variable {X:Cx}
end
section
variable {X:Cx} {K:Frg} {w:World} {mg:Str->Option Value}
end
section
variable {X:Cx}
end
open PySem.SeqAt
section
variable {X:Cx} {pins:List (Addr×Obj)} {σ:L2.St} {H:Hp} {s:Shared}
end
end L3
namespace HT
open PySem PySem.Spec PyProof.Rows L2
section
open PySem.SeqAt
open PySem.MeetsSeq PySem.MeetsSeq2 PySem.MeetsSeq3
end
section
variable {prog:Program} {w:World} {A:Around} {E:Value->Shared->Prop} {s:Shared}
end
end HT
namespace L3
open PySem PySem.Spec PyProof.Rows L2
section
variable {X:Cx}
end
end L3
namespace HT
open PySem PyProof.Rows
section
variable {prog:Program} {w:World} {A:Around} {R:Result->Shared->Prop} {I:Addr} {fp wr:List Addr} {n:Nat} {P:Nat->Value->Prop} {St:Nat->Heap->Prop}
end
section
variable {prog:Program} {w:World} {A:Around} {E:Value->Shared->Prop} {s:Shared}
end
end HT
namespace L3
open PySem PySem.Spec PyProof.Rows L2
section
variable {X:Cx}
end
section
variable {X:Cx}
end
section
variable {X:Cx}
end
section
variable {X:Cx} {a b:Expr} {ta tb:TE3} {pos:Pos}
end
end L3
namespace L3
open PySem PySem.Spec PyProof.Rows L2 PySem.SeqAt
section
variable {X:Cx} {a b:Expr} {ta tb:TE3} {pos:Pos}
end
end L3
namespace L3
open PySem PySem.Spec PyProof.Rows L2
section
variable {X:Cx} {a b e:Expr} {ta tb te:TE3} {pos:Pos}
end
section
variable {X:Cx} {a b:Expr} {ta tb:TE3} {pos:Pos}
end
section
variable {X:Cx}
end
def ev {α:Type}:List α->List α
 |[]=>[]
 |[x]=>[x]
 |x::_::r=>x::ev r
section
variable {X:Cx} {e el ek:Expr} {p2 pos:Pos}
end
section
variable {X:Cx} {pos:Pos} {e:Expr} {te:TE3}
end
section
variable {X:Cx} {pos:Pos} {o i e:Expr} {to ti te:TE3}
end
section
variable {K:Frg} {G G':Gp} {H H':Hp}
def qoK (kvs:List (Int×T)):List Key:=kvs.map λp=>(Sum.inl p.1:Key)
def qpu (kvs:List (Int×T)):List T:=kvs.map λp=>p.2
def HR.dct (hr:HR K G H) {p:Addr} {kvs:List (Int×T)} (g:G p=some (.dct kvs)):∃ vs,H p=some (.dK ((qoK kvs).zip vs))/\Rps K H (qpu kvs) vs:=hr p _ g
end
section
variable {X:Cx} {pos:Pos} {o i e:Expr} {to ti te:TE3}
variable {es:List Expr} {t:TA3}
end
end L3
namespace L3
open PySem PySem.Spec PyProof.Rows L2 PySem.SeqAt
section
variable {prog:Program} {w:World} {A:Around} {E:Value->Shared->Prop} {s:Shared}
end
section
variable {X:Cx}
end
end L3
namespace L2
open PySem PySem.Spec PyProof.Rows
def X5 (p:Addr->Bool) (h:Heap):Heap:=⟨h.objs.mapIdx λi o=>if p i then { o with data:=.freed } else o,h.life⟩
def ZC (p:Addr->Bool) (h:Heap) (a:Addr):(X5 p h).get? a=if p a then none else h.get? a:=by
 unfold X5 Heap.get?;simp only [Array.getElem?_mapIdx];cases h.objs[a]? with
 |none=>simp
 |some o=>
  simp only [Option.map_some];by_cases c:p a=true
  ·rw [if_pos c,if_pos c]
  ·rw [if_neg c,if_neg c]
def QE {p:Addr->Bool} {h:Heap} {a:Addr} (c:p a=true):(X5 p h).get? a=none:=by rw [ZC,if_pos c]
def J8 (p:Addr->Bool) (h:Heap):(X5 p h).StaysIn h:=λb o e=>by
 rw [ZC] at e;split at e
 ·cases e
 ·exact e
def XI {p:Addr->Bool} {h:Heap} {a:Addr} {o:Obj} (e:h.get? a=some o) (c:p a=false):(X5 p h).get? a=some o:=by
 rw [ZC,if_neg (by rw [c];decide)];exact e
def jw {h base base':Heap}:∀ {l:List Env},h.FunFrames base l->(∀ b∈frs l,base'.get? b=none)->h.FunFrames base' l
 |[],_,_=>trivial
 |env::QS,⟨hk,⟨L,o,hf,hn,ho,hd⟩,hr⟩,z=>
  ⟨hk,⟨L,o,hf,z L (by unfold frs;rw [List.filterMap_cons,hf];exact u9),ho,hd⟩,jw hr λb hb=>z b (by unfold frs;rw [List.filterMap_cons,hf];exact v5 _ hb)⟩
def Fly (h:Heap) (e T:Addr) (cls a0:Value):Prop:=
 ∃ oe vs oT ts,h.get? e=some oe/\(oe.cls=cls/\vs[0]?=some a0)/\oe.data=.fields vs/\vs[1]?=some (.ref T)/\T≠e/\h.get? T=some oT/\oT.data=.fields ts/\ts[3]?=some .none
def Fly.w {h base:Heap} {e T:Addr} {cls a0:Value} (f:Fly h e T cls a0) (n:base.get? T=none):h.TracedW base e cls a0:=
 let ⟨oe,vs,oT,ts,h1,h2,h3,h4,h5,h6,h7,h8⟩:=f
 ⟨oe,vs,T,oT,ts,h1,h2,h3,h4,n,h5,h6,h7,h8⟩
def NS {h base:Heap} {e:Addr} {cls a0:Value} (t:h.TracedW base e cls a0):∃ T,Fly h e T cls a0/\base.get? T=none:=
 let ⟨oe,vs,T,oT,ts,h1,h2,h3,h4,n,h5,h6,h7,h8⟩:=t
 ⟨T,⟨oe,vs,oT,ts,h1,h2,h3,h4,h5,h6,h7,h8⟩,n⟩
def Fly.rec1 {h:Heap} {e T:Addr} {cls a0:Value} (f:Fly h e T cls a0):∃ o vs,h.get? e=some o/\o.data=.fields vs:=
 let ⟨oe,vs,_,_,h1,_,h3,_⟩:=f;⟨oe,vs,h1,h3⟩
def Fly.rec2 {h:Heap} {e T:Addr} {cls a0:Value} (f:Fly h e T cls a0):∃ o vs,h.get? T=some o/\o.data=.fields vs:=
 let ⟨_,_,oT,ts,_,_,_,_,_,h6,h7,_⟩:=f;⟨oT,ts,h6,h7⟩
def CXe (P:Program) (w:World):CXT:=λouter H s E e s'=>∃ (ea T C:Addr) (a0:Value) (H':Hp),e=.ref ea/\Fly s'.heap ea T (.ref C) a0/\s.heap.get? ea=none/\s.heap.get? T=none/\H' ea=none/\H' T=none /\
 s'.os=s.os/\AllBare s'.gens/\Un (frs outer) [] H H' s.heap s'.heap/\HOk P w H' s'.heap/\E (.ref C) none H'
section
variable {X:Cx} {pins:List (Addr×Obj)} {σ:St} {H:Hp} {s:Shared}
structure Lv (l:List Env) (e T:Addr) (h h':Heap):Prop where
 keep:∀ b o,h.get? b=some o->b≠e->b≠T->b∉frs l->h'.get? b=some o
 slot:∀ b o,h.get? b=some o->b∈frs l->∃ sl,h'.get? b=some { o with slots:=sl }
def MS {h base:Heap} {l:List Env} (hl:h.FunFrames base l) {b:Addr} {o:Obj} {vs:Array Value} (e:h.get? b=some o) (d:o.data=.fields vs):b∉frs l:=λz=>by
 obtain ⟨_,o',e',n⟩:=hl.mem z;rw [e] at e';cases e';exact n _ d
def qaN {M:Model} {A:Around} {E:Value->Shared->Prop} {base:Heap} {env:Env} {outer:List Env} {L e T:Addr} {cls a0:Value} {Q:Unit->Shared->Prop}
  (hfr:A.frames=some (env::outer)) (hf:env.frame=some L) (hl:s.heap.FunFrames base (env::outer)) (fl:Fly s.heap e T cls a0)
  (hQ:∀ h' T',Fly h' e T' cls a0->(T'=T\/s.heap.get? T'=none)->Lv (env::outer) e T s.heap h'->Q () { s with heap:=h' }):wpAny M A (leaving env (.ref e)) Q E s:=by
 classical
 obtain ⟨oe,ves,he,hed⟩:=fl.rec1;obtain ⟨oT,vts,hT,hTd⟩:=fl.rec2
 let p:Addr->Bool:=λb=>decide (b=e\/b=T\/b∈frs (env::outer))
 have pe:p e=true:=za2 (.inl rfl);have pT:p T=true:=za2 (.inr (.inl rfl));have hl':s.heap.FunFrames (X5 p s.heap) (env::outer):=jw hl λb hb=>QE (za2 (.inr (.inr hb)));refine wpAny_leaving_nextW hfr hl' hf (fl.w (QE pT)) (J8 p _) (QE pe) λh' hL=>?_;obtain ⟨k1,k2,k3,k4⟩:=hL;obtain ⟨T',fl',nT⟩:=NS k3;refine hQ h' T' fl' ?_ ⟨λb o hb h1 h2 h3=>k1 b o (XI hb (za1 λz=>z.elim h1 λz=>z.elim h2 h3)),λb o hb h3=>?_⟩
 ·rw [ZC] at nT;split at nT
  ·rename_i c;rcases of_decide_eq_true c with c|c|c
   ·obtain ⟨_,_,_,_,_,_,_,_,ne,_⟩:=fl';exact absurd c ne
   ·exact .inl c
   ·obtain ⟨oT',ts',g1,g2⟩:=fl'.rec2;exact absurd c (MS k2 g1 g2)
  ·exact .inr nT
 ·obtain ⟨_,o',e',n⟩:=hl.mem h3;rw [hb] at e';cases e';exact k4 b o hb n
def MD {M:Model} {A:Around} {E:Value->Shared->Prop} {base h:Heap} {env:Env} {outer:List Env} {L e:Addr} {cls:Value} {args:List Value} {Q:Unit->Shared->Prop}
  (hfr:A.frames=some (env::outer)) (hf:env.frame=some L) (hl:h.FunFrames base (env::outer)) (hx:Heap.MadeExcOf h s.heap e cls args)
  (hQ:∀ h' T' t,Fly h' e T' cls (.ref t)->h.get? T'=none->(∀ b o,h.get? b=some o->b∉frs (env::outer)->h'.get? b=some o)->(∀ b o,h.get? b=some o->b∈frs (env::outer)->∃ sl,h'.get? b=some { o with slots:=sl })->Q () { s with heap:=h' }) :
  wpAny M A (leaving env (.ref e)) Q E s:=by
 classical
 let p:Addr->Bool:=λb=>decide (b∈frs (env::outer))
 have hl':h.FunFrames (X5 p h) (env::outer):=jw hl λb hb=>QE (za2 hb);refine wpAny_leaves_madeW hfr hf (J8 p h) hl' hx λh' t fl tu nt ups=>?_;obtain ⟨k1,k2,k3,k4⟩:=fl;obtain ⟨T',fl',nT⟩:=NS k4;refine hQ h' T' t fl' ?_ (λb o hb h3=>k1 b o (XI hb (za1 h3))) λb o hb h3=>?_
 ·rw [ZC] at nT;split at nT
  ·rename_i c;obtain ⟨oT',ts',g1,g2⟩:=fl'.rec2;obtain ⟨_,o',e',n⟩:=hl.mem (of_decide_eq_true c);obtain ⟨sl,q⟩:=ups T' o' (hx.keeps _ _ e') n;rw [q] at g1;cases g1;exact absurd g2 (n _)
  ·exact nT
 ·obtain ⟨_,o',e',n⟩:=hl.mem h3;rw [hb] at e';cases e';exact ups b o (hx.keeps _ _ hb) n
end
def JW.there {P:Program} {w:World} {H:Hp} {h:Heap} {a:Addr} {o:HO} (x:JW P w H h a o):∃ u,h.get? a=some u:=by
 cases o with
 |lst xs=>obtain ⟨_,_,_,_,e⟩:=x;exact ⟨_,e⟩
 |tup xs=>obtain ⟨_,_,_,ob,e,_⟩:=x;exact ⟨_,e⟩
 |dK kvs=>obtain ⟨_,_,_,_,o,_,_,e,_⟩:=x;exact ⟨_,e⟩
 |dT kvs=>obtain ⟨_,_,_,_,o,_,_,e,_⟩:=x;exact ⟨_,e⟩
 |set S n=>obtain ⟨o,_,_,_,e,_⟩:=x;exact ⟨_,e⟩
 |ins C dx fs=>obtain ⟨_,_,_,e,_⟩:=x;exact ⟨_,e⟩
 |own y=>obtain ⟨_,e⟩:=x;exact ⟨_,e⟩
 |xd fs=>obtain ⟨_,⟨_,_,_,e,_⟩,_⟩:=x;exact ⟨_,e⟩
 |rng lo hi=>obtain ⟨_,_,_,e⟩:=x;exact ⟨_,e⟩
 |frz ob u=>obtain ⟨e,_⟩:=x;exact ⟨_,e⟩
 |tbl ps=>exact ⟨_,(show h.get? a=some _ from x)⟩
 |met f y=>exact ⟨_,(show h.get? a=some _ from x)⟩
 |ext φ=>obtain ⟨_,⟨_,e⟩,_⟩:=x;exact ⟨_,e⟩
def HOk.nil {P:Program} {w:World} {H:Hp} {h:Heap} {a:Addr} (x:HOk P w H h) (e:h.get? a=none):H a=none:=by
 cases q:H a with
 |none=>rfl
 |some u=>
  obtain ⟨z,y⟩:=(x a u q).there;rw [e] at y;cases y
def HOk.tracked {P:Program} {w:World} {H:Hp} {h h':Heap} (x:HOk P w H h) (k:∀ b u,H b≠none->h.get? b=some u->h'.get? b=some u):HOk P w H h':=λa o e=>
 (x a o e).stay (λb u z q=>k b u (λn=>by
  rcases z with rfl|z
  ·rw [e] at n;cases n
  ·rw [z] at n;cases n) q) (λ_ q=>q) λ_ _ q=>q
section
variable {P:Program} {w:World} {K:Frg} {mg:Str->Option Value} {base:Heap} {N:List Str} {qual:Str} {scope:Scope} {f:Addr} {cd:Value} {A:Around} {outer:List Env} {s0:Shared} {H0:Hp} {E:XK} {CX:CXT}
 {pins:List (Addr×Obj)} {σ:St} {H:Hp} {s:Shared}
def MC {h':Heap} {e T T' C:Addr} {a0:Value} (I:Inv (VE CX P w K mg base N qual scope f cd A outer s0 H0 E) pins σ H s)
  (ne:s0.heap.get? e=none) (nT:s0.heap.get? T=none) (nT':s0.heap.get? T'=none) (He:H e=none) (HT:H T=none) (HT':H T'=none) (fl:Fly h' e T' (.ref C) a0) (lv:Lv (envOfC qual scope s0.heap.objs.size f cd::outer) e T s.heap h') (hE:E (.ref C) none H) :
  CXe P w outer H0 s0 E (.ref e) { s with heap:=h' }:=by
 have nl:∀ {b o},s0.heap.get? b=some o->b∉frs outer->b∉frs (envOfC qual scope s0.heap.objs.size f cd::outer):=λ{b o} q hb z=>by
  have z':b∈s0.heap.objs.size::frs outer:=z;rcases mem_cons.mp z' with z|z
  ·subst z;exact absurd (y4 q) (Nat.lt_irrefl _)
  ·exact hb z
 have sub:∀ {b},b∈frs outer->b∈frs (envOfC qual scope s0.heap.objs.size f cd::outer):=λ{b} z=>(v5 _ z:b∈s0.heap.objs.size::frs outer)
 have noex:∀ b:Addr,b∉(VE CX P w K mg base N qual scope f cd A outer s0 H0 E).ex:=λb z=>absurd (show b∈([]:List Addr) from z) (by simp);have n1:∀ {b o},s0.heap.get? b=some o->b≠e:=λq z=>by subst z;rw [ne] at q;cases q
 have n2:∀ {b o},s0.heap.get? b=some o->b≠T:=λq z=>by subst z;rw [nT] at q;cases q
 refine ⟨e,T',C,a0,H,rfl,fl,ne,nT',He,HT',I.os,I.bare,?_,?_,hE⟩
 ·refine ⟨λb o q n hb _=>?_,λb o q n hb _=>?_,λb o q n _=>I.base.free b o q n (noex b),λb o q _=>?_,I.base.tups,I.base.frzs,I.base.tbls⟩
  ·exact lv.keep b o (I.base.keep b o q n hb (noex b)) (n1 q) (n2 q) (nl q hb)
  ·obtain ⟨sl,q1⟩:=I.base.slot b o q n hb (noex b);obtain ⟨sl',q2⟩:=lv.slot b _ q1 (sub hb);exact ⟨sl',q2⟩
  ·obtain ⟨o',q1⟩:=I.base.there b o q (noex b);by_cases hb:b∈frs (envOfC qual scope s0.heap.objs.size f cd::outer)
   ·obtain ⟨sl',q2⟩:=lv.slot b _ q1 hb;exact ⟨_,q2⟩
   ·exact ⟨_,lv.keep b _ q1 (n1 q) (n2 q) hb⟩
 ·exact I.hok.tracked λb u z q=>lv.keep b u q (λy=>by subst y;exact z He) (λy=>by subst y;exact z HT) λy=>z (I.stkFree b y)
def qmT:N9 (CXe P w) (VE (CXe P w) P w K mg base N qual scope f cd A outer s0 H0 E) E:=by
 intro pins σ H s e s' I h;obtain ⟨ea,T,C,a0,H',rfl,fl,ne,nT,He,HT,os,bare,un,hok,hE⟩:=h;have I':Inv (VE (CXe P w) P w K mg base N qual scope f cd A outer s0 H0 E) pins σ H' s':=I.call' (ch:=[]) os un hok bare (λb z=>absurd z (by simp));have noex:∀ b:Addr,b∉(VE (CXe P w) P w K mg base N qual scope f cd A outer s0 H0 E).ex:=λb z=>absurd (show b∈([]:List Addr) from z) (by simp);have up:∀ {b},s.heap.get? b=none->s0.heap.get? b=none:=λ{b} q=>by
  cases z:s0.heap.get? b with
  |none=>rfl
  |some o=>obtain ⟨o',y⟩:=I.base.there b o z (noex b);rw [q] at y;cases y
 have up':∀ {b},s'.heap.get? b=none->s0.heap.get? b=none:=λ{b} q=>by
  cases z:s0.heap.get? b with
  |none=>rfl
  |some o=>obtain ⟨o',y⟩:=I'.base.there b o z (noex b);rw [q] at y;cases y
 refine qaN (T:=T) I.ok.frames rfl I'.stack fl λh' T' fl' hT' lv=>?_;rcases hT' with rfl|hT'
 ·exact MC I' (up ne) (up nT) (up nT) He HT HT fl' lv hE
 ·exact MC I' (up ne) (up nT) (up' hT') He HT (I'.hok.nil hT') fl' lv hE
def qie {h':Heap} {e C:Addr} {args:List Value} (I:Inv (VE (CXe P w) P w K mg base N qual scope f cd A outer s0 H0 E) pins σ H s) (hx:Heap.MadeExcOf s.heap h' e (.ref C) args) (hE:E (.ref C) none H) :
  (VE (CXe P w) P w K mg base N qual scope f cd A outer s0 H0 E).xe (.ref e) { s with heap:=h' }:=by
 have noex:∀ b:Addr,b∉(VE (CXe P w) P w K mg base N qual scope f cd A outer s0 H0 E).ex:=λb z=>absurd (show b∈([]:List Addr) from z) (by simp);have up:∀ {b},s.heap.get? b=none->s0.heap.get? b=none:=λ{b} q=>by
  cases z:s0.heap.get? b with
  |none=>rfl
  |some o=>obtain ⟨o',y⟩:=I.base.there b o z (noex b);rw [q] at y;cases y
 refine MD (s:={ s with heap:=h' }) (h:=s.heap) I.ok.frames rfl I.stack hx λh2 T' t fl nT k1 k2=>?_;show CXe P w outer H0 s0 E (.ref e) { s with heap:=h2 };exact MC (T:=e) I (up hx.new) (up hx.new) (up nT) (I.hok.nil hx.new) (I.hok.nil hx.new) (I.hok.nil nT) fl ⟨λb o q _ _ hb=>k1 b o q hb,k2⟩ hE
end
section
variable {X:Cx} {x:Str} {C:Addr} {B Bn newId nid initId inN:String} {bm bmN:List Value} {np cpos pos:Pos} {e:Expr} {es:List Expr} {t:TA} {EE:Hp->Prop}
def qd6 (O:OwnCls x C bm newId X.mg X.base) (Fn:ExcBaseFacts Bn newId inN bmN) (hBn:bm.contains (.type Bn)=true) (FB:ExcBaseFacts B nid initId bm) (hc:X.calm=true) (hg:Gl X x) (ha:PA X (e::es) t)
  (hx:∀ (pins:List (Addr×Obj)) (σ:St) (H:Hp) (s:Shared) (ea:Addr) (h':Heap) (vs:List Value),Inv X pins σ H s->Heap.MadeExcOf s.heap h' ea (.ref C) vs->EE H->X.xe (.ref ea) { s with heap:=h' })
  (hdb:(x==("__debug__" : Str))=false:=by decide) (he:starEach (e::es) X.env=(false,eval e X.env)::starEach es X.env:=by rfl) (hpl:(backTo cpos (starEach es X.env)).any (·.1)=false:=by rfl) :
  PS X (.Raise (some (.Call (.Name x np) (e::es) [] cpos)) none pos) (λ_ σ H=>t σ H λvs H1=>vs.length<=sizeLine/\EE H1):=by
 intro pins s σ H D I h;obtain ⟨tl,N,nm,q,bs,hdct,sn,sub,ab,col,dd,k0,k1,k2,k3,k5,mN,hC,hN,hni,T⟩:=O.obj;refine wpAny_Raise_call_subU (C:=C) (nm:=nm) (q:=q) (N:=N) (bs:=bs) (bm:=tl) (hdct:=hdct) (sn:=sn) (sub:=sub) (ab:=ab) (col:=col) (dd:=dd) (k0:=k0) (k1:=k1) (k2:=k2) (k3:=k3) (k5:=k5)
  Fn hBn FB (mN:=mN) (T.hasType FB.hasBase) (I.ok.hd hc) (by rw [he];show (false||(backTo cpos (starEach es X.env)).any (·.1))=false;rw [hpl];rfl) hni (CB I hg O.bound ⟨rfl,?_⟩ hdb)
 have hA:=ha cpos pins s σ H _ I h;rw [he] at hA ⊢;exact Calls.evalArgs_plain (thn hA λus s2 ⟨vs,H2,I2,r,q⟩=>⟨rfl,by rw [← r.length];exact q.1,I2.bk _ _ hC,hN.keeps I2.bk,T.keeps I2.bk,λh' ea hm=>hx _ _ _ _ _ _ _ I2 hm q.2⟩)
end
end L2
namespace L3
open PySem PySem.Spec PyProof.Rows L2
abbrev X3:=Addr->Gp->Prop
abbrev Spx:=List T->Gp->X3->Prop
def EX (K:Frg) (dx:X3):XK:=λcls _ H=>∃ C G,cls=.ref C/\HR K G H/\dx C G
def qqL (K:Frg) (sp:Spx):Sp:=λvs H _ E=>∃ ts G dx,HR K G H/\Rps K H ts vs/\sp ts G dx/\∀ cls H',EX K dx cls none H'->E cls none H'
def qaf (C:Addr) (dx:X3) (t:TA3):TS3:=λ_ τ G=>t τ G λxs G1=>xs.length<=sizeLine/\dx C G1
section
variable {X:Cx} {x:Str} {C:Addr} {B Bn newId nid initId inN:String} {bm bmN:List Value} {np cpos pos:Pos} {e:Expr} {es:List Expr} {t:TA3} {dx:X3}
def qhd (O:OwnCls x C bm newId X.mg X.base) (Fn:ExcBaseFacts Bn newId inN bmN) (hBn:bm.contains (.type Bn)=true) (FB:ExcBaseFacts B nid initId bm) (hc:X.calm=true) (hg:Gl X x) (ha:A3 X (e::es) t)
  (hx:∀ (pins:List (Addr×Obj)) (σ:L2.St) (H:Hp) (s:Shared) (ea:Addr) (h':Heap) (vs:List Value),Inv X pins σ H s->Heap.MadeExcOf s.heap h' ea (.ref C) vs->EX X.K dx (.ref C) none H->X.xe (.ref ea) { s with heap:=h' })
  (hdb:(x==("__debug__" : Str))=false:=by decide) (he:starEach (e::es) X.env=(false,eval e X.env)::starEach es X.env:=by rfl) (hpl:(backTo cpos (starEach es X.env)).any (·.1)=false:=by rfl) :
  S3 X (.Raise (some (.Call (.Name x np) (e::es) [] cpos)) none pos) (qaf C dx t):=
 qaL (qd6 (EE:=EX X.K dx (.ref C) none) O Fn hBn FB hc hg ha hx hdb he hpl) λD σ H ⟨τ,G,d,rl,h,af⟩=>JK rl h λxs G1 h1 vs H1 rs hr1 k1 rl1=>⟨by rw [← rs.length];exact h1.1,C,G1,rfl,hr1,h1.2⟩
end
def qlJ {P:Program} {w:World} {K:Frg} {mg:Str->Option Value} {base:Heap} {x qual:Str} {st:Stmt} {f:Addr} {fd:FuncData} {N ps:List Str} {k:Nat} {sp:Spx} {t3:X3->TS3} (F:Fun K x qual st f fd) (S:FnScope N ps (qi st))
  (body:∀ (dx:X3) (cdv:Value) (A:Around) (outer:List Env) (s:Shared) (H:Hp) (E:XK),(∀ cls H',EX K dx cls none H'->E cls none H')->Room k (A.deeper (envOfC qual (qi st) s.heap.objs.size f cdv)) ->
   B3 (VE (CXe P w) P w K mg base N qual (qi st) f cdv A outer s H E) (qO st) (t3 dx))
  (read:∀ ts G dx,sp ts G dx->ts.length=ps.length/\t3 dx { nx:=λ_ _=>False,rt:=λ_ _=>False } (qm N ts) G):FnOk P w K mg base (CXe P w) (k+1) f fd ps (qqL K sp):=by
 obtain ⟨oc,od,kV,doc,pm,an,cdv,ct,osl,rfl,lk,hcd⟩:=F.ex;refine qkM lk hcd S (λvs H Q E ⟨ts,G,dx,h1,h2,h3,h4⟩=>by rw [← h2.length];exact (read ts G dx h3).1) λA outer s H vs Q E hr ⟨ts,G,dx,h1,h2,h3,h4⟩=>?_;exact ⟨_,body dx cdv A outer s H E h4 hr,qm N ts,G,_,XT h1 h2,(read ts G dx h3).2,⟨λ_ _ z=>z.elim,λ_ _ z=>z.elim,λ_ _ z=>z.elim,λ_ _ z=>z.elim⟩⟩
section
variable {K:Frg} {G G':Gp} {H H':Hp}
mutual
def Rp.sub (z:∀ a vs,SqT K H a vs->SqT K H' a vs):∀ {x:T} {v:V},Rp K H x v->Rp K H' x v
 |_,_,.non=>.non
 |_,_,.bl b=>.bl b
 |_,_,.int i=>.int i
 |_,_,.str x=>.str x
 |_,_,.ref a=>.ref a
 |_,_,.tup h hs=>.tup (z _ _ h) (Rps.sub z hs)
def Rps.sub (z:∀ a vs,SqT K H a vs->SqT K H' a vs):∀ {x:List T} {v:List V},Rps K H x v->Rps K H' x v
 |_,_,.nil=>.nil
 |_,_,.cons a b=>.cons (Rp.sub z a) (Rps.sub z b)
end
def HR.sub (hr:HR K G H) (z:∀ a vs,SqT K H a vs->SqT K H' a vs) (k:∀ a u,G a≠none->H a=some u->H' a=some u):HR K G H':=λa o e=>by
 have q:=hr a o e;have n:G a≠none:=by rw [e];simp
 cases o with
 |lst xs=>obtain ⟨vs,h1,h2⟩:=q;exact ⟨vs,k _ _ n h1,h2.sub z⟩
 |frz xs=>obtain ⟨vs,⟨o,h1⟩,h2⟩:=q;exact ⟨vs,⟨o,k _ _ n h1⟩,h2.sub z⟩
 |dct kvs=>obtain ⟨vs,h1,h2⟩:=q;exact ⟨vs,k _ _ n h1,h2.sub z⟩
 |tab ks xs=>obtain ⟨vs,h1,h2⟩:=q;exact ⟨vs,k _ _ n h1,h2.sub z⟩
 |exn C=>exact k _ _ n q
def HR.kind (hr:HR K G H) {a:Addr} (n:G a≠none):(∃ vs,H a=some (.lst vs))\/(∃ o vs,H a=some (.frz o (.lst vs)))\/(∃ kvs,H a=some (.dK kvs))\/∃ φ,H a=some (.ext φ):=by
 cases e:G a with
 |none=>exact absurd e n
 |some o=>
  have q:=hr a o e;cases o with
  |lst xs=>obtain ⟨vs,h1,_⟩:=q;exact .inl ⟨vs,h1⟩
  |frz xs=>obtain ⟨vs,⟨o,h1⟩,_⟩:=q;exact .inr (.inl ⟨o,vs,h1⟩)
  |dct kvs=>obtain ⟨vs,h1,_⟩:=q;exact .inr (.inr (.inl ⟨_,h1⟩))
  |tab ks xs=>obtain ⟨vs,h1,_⟩:=q;exact .inr (.inr (.inl ⟨_,h1⟩))
  |exn C=>exact .inr (.inr (.inr ⟨_,q⟩))
end
def lSx (K:Frg) (sp:Spx):Sp:=λvs H _ E=>∃ ts G dx,HR K G H/\Rps K H ts vs/\sp ts G dx/\∀ C G' H',HR K G' H'->Kp G H G' H'->dx C G'->E (.ref C) none H'
def Hid (G:Gp) (H:Hp) (a:Addr):Prop:=H a≠none/\G a=none/\∀ vs,¬ L2.Rd H a (.tup vs)
def qj7 {P:Program} {w:World} {K:Frg} {mg:Str->Option Value} {base:Heap} {f:Addr} {fd:FuncData} {ps:List Str} {k:Nat} {sp:Spx} (F:FnOk P w K mg base (CXe P w) k f fd ps (qqL K sp)):FnOk P w K mg base (CXe P w) k f fd ps (lSx K sp):=by
 classical
 refine ⟨λvs H Q E ⟨ts,G,dx,h1,h2,h3,h4⟩=>F.len vs H Q (EX K dx) ⟨ts,G,dx,h1,h2,h3,λ_ _ z=>z⟩,λA outer s H args us vs Q E hr e0 hb hv ⟨ts,G,dx,h1,h2,h3,h4⟩=>?_⟩
 let H1:Hp:=λa=>if Hid G H a then none else H a
 have n1:∀ {a},Hid G H a->H1 a=none:=λ{a} h=>if_pos h;have n2:∀ {a},¬ Hid G H a->H1 a=H a:=λ{a} h=>if_neg h;have n3:∀ {a},H a=none->¬ Hid G H a:=λ{a} h z=>z.1 h;have n4:∀ {a},H a=none->H1 a=none:=λ{a} h=>by rw [n2 (n3 h)];exact h
 have n5:∀ {a vs},L2.Rd H a (.tup vs)->¬ Hid G H a:=λ{a vs} h z=>z.2.2 _ h;have n6:∀ {a},G a≠none->¬ Hid G H a:=λ{a} h z=>h z.2.1;have sq:∀ a vs,SqT K H a vs->SqT K H1 a vs:=λa vs h=>by
  rcases h with h|h
  ·have e:=n2 (n5 h);rcases h with h|⟨o,h⟩
   ·exact .inl (.inl (e.trans h))
   ·exact .inl (.inr ⟨o,e.trans h⟩)
  ·exact .inr h
 have ownH:∀ {a b},H b=some (.own a)->Hid G H b:=λ{a b} h=>⟨by rw [h];simp,by
  cases e:G b with
  |none=>rfl
  |some o=>
   rcases h1.kind (a:=b) (by rw [e];simp) with ⟨_,y⟩|⟨_,_,y⟩|⟨_,y⟩|⟨_,y⟩<;>(rw [h] at y;cases y),λvs z=>by
  rcases z with z|⟨o,z⟩<;>(rw [h] at z;cases z)⟩
 have ok1:HOk P w H1 s.heap:=λa o e=>by
  by_cases c:Hid G H a
  ·rw [n1 c] at e;cases e
  ·rw [n2 c] at e;have x:=e0.hok a o e;by_cases g:G a=none
   ·have y:∃ vs,L2.Rd H a (.tup vs):=by
     by_cases z:∃ vs,L2.Rd H a (.tup vs)
     ·exact z
     ·exact absurd ⟨by rw [e];simp,g,λvs y=>z ⟨vs,y⟩⟩ c
    obtain ⟨vs,y⟩:=y;rcases y with y|⟨ob,y⟩
    ·rw [e] at y;cases y;exact x
    ·rw [e] at y;cases y;exact x
   ·rcases h1.kind g with ⟨_,y⟩|⟨_,_,y⟩|⟨_,y⟩|⟨_,y⟩
    ·rw [e] at y;cases y;exact x
    ·rw [e] at y;cases y;exact x
    ·rw [e] at y;cases y;exact x
    ·rw [e] at y;cases y;exact x
 have E0':Env0 P w K mg base A outer s H1:=⟨e0.frames,e0.mod,λb o q=>⟨(e0.bs b o q).1,n4 (e0.bs b o q).2⟩,e0.bsz,e0.funs,λb q=>n4 (e0.frf b q),ok1,e0.bare⟩
 refine codeAny_mono (F.run A outer s H1 args us vs (λ_ _=>False) (EX K dx) hr E0' hb hv ⟨ts,G,dx,h1.sub sq λa u n q=>(n2 (n6 n)).trans q,h2.sub sq,h3,λ_ _ z=>z⟩) λr s' h=>?_;cases r with
 |ok fl=>
  cases fl with
  |ret u=>obtain ⟨_,_,_,_,_,_,_,z⟩:=h;exact z.elim
  |_=>exact h
 |error e=>
  obtain ⟨ea,T,C,a0,H2,rfl,fl,ne,nT,He,HT,os,bare,un,hok,C',G',eC,hr',hd⟩:=h;cases eC
  let H3:Hp:=λa=>if Hid G H a then H a else H2 a
  have m1:∀ {a},Hid G H a->H3 a=H a:=λ{a} h=>if_pos h;have m2:∀ {a},¬ Hid G H a->H3 a=H2 a:=λ{a} h=>if_neg h;have fs:∀ {b},Hid G H b->b∉frs outer:=λ{b} h z=>h.1 (e0.frf b z);have th:∀ {b},Hid G H b->∃ o,s.heap.get? b=some o:=λ{b} h=>by
   cases e:H b with
   |none=>exact absurd e h.1
   |some o=>exact (e0.hok b o e).there
  have kp:∀ {b o},Hid G H b->s.heap.get? b=some o->s'.heap.get? b=some o:=λ{b o} h q=>un.keep b o q (n1 h) (fs h) (by simp);have fr2:∀ {b},Hid G H b->H2 b=none:=λ{b} h=>let ⟨o,q⟩:=th h;un.free b o q (n1 h) (by simp)
  have m3:∀ {a o},H2 a=some o->H3 a=some o:=λ{a o} q=>by
   rw [m2 (λz=>by rw [fr2 z] at q;cases q)];exact q
  have nh:∀ {b},s.heap.get? b=none->¬ Hid G H b:=λ{b} q z=>by obtain ⟨o,y⟩:=th z;rw [q] at y;cases y
  have tp:∀ b xs,H b=some (.tup xs)->H3 b=some (.tup xs):=λb xs q=>m3 (un.tups b xs ((n2 (n5 (.inl q))).trans q));have fz:∀ b o u,H b=some (.frz o u)->H3 b=some (.frz o u):=λb o u q=>by
   by_cases c:Hid G H b
   ·rw [m1 c];exact q
   ·exact m3 (un.frzs b o u ((n2 c).trans q))
  refine ⟨ea,T,C,a0,H3,rfl,fl,ne,nT,(m2 (nh ne)).trans He,(m2 (nh nT)).trans HT,os,bare,?_,?_,h4 C G' H3 ?_ ?_ hd⟩
  ·refine ⟨λb o q n=>un.keep b o q (n4 n),λb o q n=>un.slot b o q (n4 n),λb o q n hx=>(m2 (n3 n)).trans (un.free b o q (n4 n) hx),un.there,tp,fz,λb ps q=>?_⟩;by_cases c:Hid G H b
   ·exact ⟨#[],by rw [m1 c,q];simp⟩
   ·obtain ⟨more,y⟩:=un.tbls b ps ((n2 c).trans q);exact ⟨more,m3 y⟩
  ·intro a o e;by_cases c:Hid G H a
   ·rw [m1 c] at e;refine (e0.hok a o e).stay (λb u y q=>?_) (λb q=>(m1 (ownH q)).trans q) tp;rcases y with rfl|y
    ·exact kp c q
    ·exact kp (ownH y) q
   ·rw [m2 c] at e;exact (hok a o e).stay (λ_ _ _ q=>q) (λb q=>m3 q) λb xs q=>m3 q
  ·refine hr'.sub (λa vs h=>?_) λa u _ q=>m3 q;rcases h with h|h
   ·rcases h with h|⟨o,h⟩
    ·exact .inl (.inl (m3 h))
    ·exact .inl (.inr ⟨o,m3 h⟩)
   ·exact .inr h
  ·intro a o q g;by_cases c:Hid G H a
   ·exact ⟨(m1 c).trans q,hr'.free (fr2 c)⟩
   ·have y:∃ vs,L2.Rd H a (.tup vs):=by
     by_cases z:∃ vs,L2.Rd H a (.tup vs)
     ·exact z
     ·exact absurd ⟨by rw [q];simp,g,λvs y=>z ⟨vs,y⟩⟩ c
    obtain ⟨vs,y⟩:=y;rcases y with y|⟨ob,y⟩
    ·rw [q] at y;cases y;exact ⟨tp a vs q,hr'.noneT (.inl (un.tups a vs ((n2 c).trans q)))⟩
    ·rw [q] at y;cases y;exact ⟨fz a _ _ q,hr'.noneT (.inr ⟨_,un.frzs a _ _ ((n2 c).trans q)⟩)⟩
end L3
namespace L2
open PySem PySem.Spec PyProof.Rows
def qmf {l:List Env} {e T:Addr} {H H':Hp} {h h1 h2:Heap} (u:Un (frs l) [] H H' h h1) (v:Lv l e T h1 h2) (ne:h.get? e=none) (nT:h.get? T=none):Un (frs l) [] H H' h h2:=by
 have n1:∀ {b o},h.get? b=some o->b≠e:=λq z=>by subst z;rw [ne] at q;cases q
 have n2:∀ {b o},h.get? b=some o->b≠T:=λq z=>by subst z;rw [nT] at q;cases q
 refine ⟨λb o q n hb hx=>v.keep b o (u.keep b o q n hb hx) (n1 q) (n2 q) hb,λb o q n hb hx=>?_,u.free,λb o q hx=>?_,u.tups,u.frzs,u.tbls⟩
 ·obtain ⟨sl,q1⟩:=u.slot b o q n hb hx;obtain ⟨sl',q2⟩:=v.slot b _ q1 hb;exact ⟨sl',q2⟩
 ·obtain ⟨o',q1⟩:=u.there b o q hx;by_cases hb:b∈frs l
  ·obtain ⟨sl',q2⟩:=v.slot b _ q1 hb;exact ⟨_,q2⟩
  ·exact ⟨_,v.keep b _ q1 (n1 q) (n2 q) hb⟩
section
variable {X:Cx} {pins:List (Addr×Obj)} {σ:St} {H H':Hp} {s s':Shared}
def qpv {M:Model} {A:Around} {E:Value->Shared->Prop} {base:Heap} {env:Env} {outer:List Env} {L e T:Addr} {cls a0:Value} {Q:Unit->Shared->Prop}
  (hfr:A.frames=some (env::outer)) (hf:env.frame=some L) (hl:s.heap.FunFrames base (env::outer)) (fl:Fly s.heap e T cls a0)
  (hQ:∀ h' T',Fly h' e T' cls a0->(T'=T\/s.heap.get? T'=none)->Lv (env::outer) e T s.heap h'->Q () { s with heap:=h' }):wpAny M A (noteFrame (.ref e) env) (λ_ s2=>wpAny M A (setFlight (.ref e) none) Q E s2) E s:=by
 classical
 obtain ⟨oe,ves,he,hed⟩:=fl.rec1;obtain ⟨oT,vts,hT,hTd⟩:=fl.rec2
 let p:Addr->Bool:=λb=>decide (b=e\/b=T\/b∈frs (env::outer))
 have pe:p e=true:=za2 (.inl rfl);have pT:p T=true:=za2 (.inr (.inl rfl));have hl':s.heap.FunFrames (X5 p s.heap) (env::outer):=jw hl λb hb=>QE (za2 (.inr (.inr hb)));refine wpAny_looks_onW (base:=X5 p s.heap) hfr hf ⟨J8 p _,QE pe,hl',fl.w (QE pT)⟩ λh4 held up4=>?_;refine wpAny_landsW (s:={ s with heap:=h4 }) held λh5 fly up5=>?_;obtain ⟨k1,_,k2,k3⟩:=fly;obtain ⟨T',fl',nT⟩:=NS k3;refine hQ h5 T' fl' ?_ ⟨λb o hb h1 h2 h3=>k1 b o (XI hb (za1 λz=>z.elim h1 λz=>z.elim h2 h3)),λb o hb h3=>?_⟩
 ·rw [ZC] at nT;split at nT
  ·rename_i c;rcases of_decide_eq_true c with c|c|c
   ·obtain ⟨_,_,_,_,_,_,_,_,ne,_⟩:=fl';exact absurd c ne
   ·exact .inl c
   ·obtain ⟨oT',ts',g1,g2⟩:=fl'.rec2;exact absurd c (MS k2 g1 g2)
  ·exact .inr nT
 ·obtain ⟨_,o',e',n⟩:=hl.mem h3;rw [hb] at e';cases e';obtain ⟨sl,q⟩:=up4 b o hb n;obtain ⟨sl',q'⟩:=up5 b _ q n;exact ⟨sl',q'⟩
end
section
variable {M:Model} {A:Around} {E:Value->Shared->Prop}
variable {nm q nm' q':Str} {C N B N':Addr} {bs bm bs' bm':List Value} {hdct hdct':Bool} {sn sn':List Str} {sub sub':List Value} {ab ab':Bool} {col col':Option Bool} {dd dd':Option Addr} {k0 k1 k2 k3 k5 l0 l1 l2 l3 l5:Option Value} {newId newId':String}
def qhQ {h:Heap} {g:Array GenState} {d:Drawn} {t:Nat} {os:OsState} {e:Addr} {oe:Obj} {b:Bool} {Q:Bool->Shared->Prop}
  (hC:h.get? C=some (excClassObj nm q C N bs bm hdct sn sub ab col dd k0 k1 k2 k3 k5 newId)) (hB:h.get? B=some (excClassObj nm' q' B N' bs' bm' hdct' sn' sub' ab' col' dd' l0 l1 l2 l3 l5 newId'))
  (he:h.get? e=some oe) (hcls:oe.cls=.ref C) (hbase:bm'.contains (.type "BaseException")=true) (hin:(Value.ref C::bm).contains (.ref B)=true)
  (hq:Q true ⟨h,g,d,t,os⟩):wpAny M A (excMatches (.ref e) (.ref B)) Q E ⟨h,g,d,t,os⟩:=by
 have hcB:(Value.ref B::bm').contains (.type "BaseException")=true:=by rw [List.contains_cons,hbase,Bool.or_true]
 have f:=tc_notTuple;unfold excMatches
 repeat (first|(with_reducible refine wpAny_loadPart_at he ?_;rw [hcls])|with_reducible refine wpAny_loadPart_at hB ?_|with_reducible refine wpAny_loadPart_at hC ?_|(with_reducible refine wpAny_isSubtype_exc hB ?_;rw [hcB])|(with_reducible refine wpAny_isSubtype_exc hC ?_;rw [hin])|wp_step)
 exact hq
end
open L3 (IsX)
def qnK {h:Heap} {e T C:Addr} {a0:Value} (f:Fly h e T (.ref C) a0):IsX e C h:=
 let ⟨oe,vs,_,_,h1,h2,h3,_⟩:=f;⟨oe,vs,h1,h2.1,h3⟩
def qiR {P:Program} {w:World} {H:Hp} {h:Heap} {a C:Addr} (x:IsX a C h):JW P w H h a (.ext (IsX a C)):=
 ⟨x,let ⟨o,_,e,_⟩:=x;⟨o,e⟩,λh1 h2 ⟨o,vs,e,c,d⟩ k=>⟨o,vs,k _ e,c,d⟩⟩
section
variable {X:Cx} {pins:List (Addr×Obj)} {σ:St} {H:Hp} {s:Shared} {ea:Addr} {o:HO}
def Inv.track (I:Inv X pins σ H s) (h0:H ea=none) (n0:X.s₀.heap.get? ea=none) (nl:ea≠X.env.locals) (nc:∀ x c,X.env.cells.lookup x=some c->c≠ea) (np:∀ p∈X.pn++pins,p.1≠ea)
  (ok:JW X.prog X.w (upd H ea o) s.heap ea o):Inv X pins σ (upd H ea o) s:=by
 have nb:∀ {b u},X.s₀.heap.get? b=some u->b≠ea:=λq z=>by subst z;rw [n0] at q;cases q
 have nu:∀ {b u},H b=some u->b≠ea:=λq z=>by subst z;rw [h0] at q;cases q
 refine ⟨I.ok,I.os,I.bare,⟨I.base.keep,I.base.slot,λb u q n hx=>?_,I.base.there,λb xs q=>?_,λb u v q=>?_,λb ps q=>?_⟩,I.loc,I.cell,?_,λx c e=>?_,λp hp=>?_,λa u e=>?_,I.len⟩
 ·rw [qz (nb q)];exact I.base.free b u q n hx
 ·have y:=I.base.tups b xs q;rw [qz (nu y)];exact y
 ·have y:=I.base.frzs b u v q;rw [qz (nu y)];exact y
 ·obtain ⟨more,y⟩:=I.base.tbls b ps q;exact ⟨more,by rw [qz (nu y)];exact y⟩
 ·rw [qz (Ne.symm nl)];exact I.free
 ·rw [qz (nc x c e)];exact I.freeC x c e
 ·obtain ⟨e,n,ne,nf,d⟩:=I.pin p hp;exact ⟨e,by rw [qz (np p hp)];exact n,ne,nf,d⟩
 ·by_cases z:a=ea
  ·subst z;rw [ze] at e;cases e;exact ok
  ·rw [qz z] at e;exact (I.hok a u e).stay (λ_ _ _ q=>q) (λb q=>by rw [qz (nu q)];exact q) λb xs q=>by rw [qz (nu q)];exact q
def Inv.gone {i:Nat} {n:Str} {m:Str->Option Value} {v:Option Value} {h':Heap} {t:Nat} (I:Inv X pins σ H s) (hN:X.N.Nodup) (hi:X.N[i]?=some n) (hm:s.heap.Ns X.env.locals m)
  (hn:h'.Ns X.env.locals (λx=>if x=n then v else m x)) (sb:Heap.SameBut X.env.locals s.heap h'):Inv X pins (σ.set i none) H { s with heap:=h',toks:=t }:=by
 have k:∀ b u,b≠X.env.locals->s.heap.get? b=some u->h'.get? b=some u:=λb u ne q=>(sb.2 b ne).trans q;have neL:∀ {b u},X.s₀.heap.get? b=some u->b≠X.env.locals:=λe=>u7 (v7 (y4 e) I.ok.above);have trk:∀ {b u},H b=some u->b≠X.env.locals:=λq z=>by subst z;rw [I.free] at q;cases q
 have sz:=sb.1;refine ⟨I.ok,I.os,I.bare,⟨λb u q n hb hx=>k b u (neL q) (I.base.keep b u q n hb hx),λb u q n hb hx=>?_,I.base.free,λb u q hx=>?_,I.base.tups,I.base.frzs,I.base.tbls⟩,⟨_,hn,λj x u e1 e2 e3=>?_⟩,λx c e=>?_,I.free,I.freeC,λp hp=>?_,?_,by rw [List.length_set];exact I.len⟩
 ·obtain ⟨sl,y⟩:=I.base.slot b u q n hb hx;exact ⟨sl,k b _ (neL q) y⟩
 ·obtain ⟨u',y⟩:=I.base.there b u q hx;exact ⟨u',k b _ (neL q) y⟩
 ·rw [getElem?_set] at e2;split at e2
  ·split at e2<;>cases e2
  ·rename_i ne;obtain ⟨m2,hm2,hl⟩:=I.loc;obtain ⟨w,r,l⟩:=hl j x u e1 e2 e3;refine ⟨w,r,?_⟩;rcases l with ⟨l1,l2⟩|⟨l1,c,l2,l3⟩
   ·refine .inl ⟨l1,?_⟩;have nx:x≠n:=λz=>by
     subst z;exact ne ((List.getElem?_inj (za4 hi).1 hN).mp (hi.trans e1.symm))
    have em:m=m2:=hm.eq_nsMap.trans hm2.eq_nsMap.symm;show (if x=n then v else m x)=some w;rw [if_neg nx,em];exact l2
   ·obtain ⟨oc,hc,hd⟩:=l3;exact .inr ⟨l1,c,l2,oc,k c oc (I.cne x c l2) hc,hd⟩
 ·obtain ⟨v',oc,hc,hd⟩:=I.cell x c e;exact ⟨v',oc,k c oc (I.cne x c e) hc,hd⟩
 ·obtain ⟨e,n',ne,nf,d⟩:=I.pin p hp;exact ⟨k _ _ ne e,n',ne,nf,d⟩
 ·exact I.hok.tracked λb u z q=>k b u (λy=>by subst y;exact z I.free) q
end
def qlP {M:Model} {A:Around} {E:Value->Shared->Prop} {s:Shared} {base:Heap} {l:List Env} {e T:Addr} {cls a0:Value} {Q:Unit->Shared->Prop}
  (hl:s.heap.FunFrames base l) (fl:Fly s.heap e T cls a0)
  (hQ:∀ h' T',Fly h' e T' cls a0->(T'=T\/s.heap.get? T'=none)->Lv l e T s.heap h'->Q () { s with heap:=h' }):wpAny M A (setFlight (.ref e) none) Q E s:=by
 classical
 obtain ⟨oe,ves,he,hed⟩:=fl.rec1;obtain ⟨oT,vts,hT,hTd⟩:=fl.rec2
 let p:Addr->Bool:=λb=>decide (b=e\/b=T\/b∈frs l)
 have pe:p e=true:=za2 (.inl rfl);have pT:p T=true:=za2 (.inr (.inl rfl));have hl':s.heap.FunFrames (X5 p s.heap) l:=jw hl λb hb=>QE (za2 (.inr (.inr hb)));refine lands_againW (base:=X5 p s.heap) (l:=l) ⟨J8 p _,QE pe,hl',fl.w (QE pT)⟩ λh5 fly up5=>?_;obtain ⟨k1,_,k2,k3⟩:=fly;obtain ⟨T',fl',nT⟩:=NS k3;refine hQ h5 T' fl' ?_ ⟨λb o hb h1 h2 h3=>k1 b o (XI hb (za1 λz=>z.elim h1 λz=>z.elim h2 h3)),λb o hb h3=>?_⟩
 ·rw [ZC] at nT;split at nT
  ·rename_i c;rcases of_decide_eq_true c with c|c|c
   ·obtain ⟨_,_,_,_,_,_,_,_,ne,_⟩:=fl';exact absurd c ne
   ·exact .inl c
   ·obtain ⟨oT',ts',g1,g2⟩:=fl'.rec2;exact absurd c (MS k2 g1 g2)
  ·exact .inr nT
 ·obtain ⟨_,o',e',n⟩:=hl.mem h3;rw [hb] at e';cases e';exact up5 b o hb n
def Cx.cat (X:Cx) (pins:List (Addr×Obj)) (σ0:St) (E:XK):Cx:={ X with pn:=X.pn++pins,xe:=λe s'=>∃ H1 s1,Inv X pins σ0 H1 s1/\CXe X.prog X.w X.stack H1 s1 E e s' }
def Cx.hdl (X:Cx) (e:Value):Cx:={ X with A:=X.A.mark (some e),calm:=false,xe:=λ_ _=>False }
section
variable {X:Cx} {pins:List (Addr×Obj)} {σ σ0:St} {H:Hp} {s:Shared} {E:XK} {e:Value}
def Inv.cat (I:Inv X pins σ H s):Inv (X.cat pins σ0 E) [] σ H s:=
 ⟨⟨I.ok.mod,I.ok.kind,I.ok.glob,I.ok.blt,I.ok.above,I.ok.inj,I.ok.has,I.ok.cab,I.ok.hd,I.ok.frames,I.ok.stk,I.ok.exf,I.ok.bs,I.ok.bsz,I.ok.noex,I.ok.exfs,I.ok.funs,I.ok.frf⟩,I.os,I.bare,I.base,I.loc,I.cell,I.free,I.freeC,λp hp=>I.pin p (by rw [List.append_nil] at hp;exact hp),I.hok,I.len⟩
def Inv.ofCat {pins':List (Addr×Obj)} (I:Inv (X.cat pins σ0 E) pins' σ H s):Inv X pins σ H s:=
 ⟨⟨I.ok.mod,I.ok.kind,I.ok.glob,I.ok.blt,I.ok.above,I.ok.inj,I.ok.has,I.ok.cab,I.ok.hd,I.ok.frames,I.ok.stk,I.ok.exf,I.ok.bs,I.ok.bsz,I.ok.noex,I.ok.exfs,I.ok.funs,I.ok.frf⟩,I.os,I.bare,I.base,I.loc,I.cell,I.free,I.freeC,λp hp=>I.pin p (List.mem_append_left _ hp),I.hok,I.len⟩
def Inv.hdl (I:Inv X pins σ H s):Inv (X.hdl e) pins σ H s:=
 ⟨⟨I.ok.mod,I.ok.kind,I.ok.glob,I.ok.blt,I.ok.above,I.ok.inj,I.ok.has,I.ok.cab,(λz=>nomatch z),I.ok.frames,I.ok.stk,I.ok.exf,I.ok.bs,I.ok.bsz,I.ok.noex,I.ok.exfs,I.ok.funs,I.ok.frf⟩,I.os,I.bare,I.base,I.loc,I.cell,I.free,I.freeC,I.pin,I.hok,I.len⟩
def Inv.ofHdl (ok:X.Ok) (I:Inv (X.hdl e) pins σ H s):Inv X pins σ H s:=
 ⟨ok,I.os,I.bare,I.base,I.loc,I.cell,I.free,I.freeC,I.pin,I.hok,I.len⟩
end
section
variable {X:Cx} {pins:List (Addr×Obj)} {σ:St} {H:Hp} {s s':Shared} {E:XK} {ev:Value}
def XM (I:Inv X pins σ H s) {ea T C:Addr} {a0:Value} {H':Hp} (os:s'.os=s.os) (bare:AllBare s'.gens) (un:Un (frs X.stack) [] H H' s.heap s'.heap) (hok:HOk X.prog X.w H' s'.heap):Inv X pins σ H' s':=
 I.call' (ch:=[]) os un hok bare (λb z=>absurd z (by simp))
def qfx (I:Inv X pins σ H s) {ea T T' C:Addr} {a0:Value} {H':Hp} {h':Heap} (ne:s.heap.get? ea=none) (nT:s.heap.get? T=none) (He:H' ea=none) (HT:H' T=none) (os:s'.os=s.os) (bare:AllBare s'.gens) (un:Un (frs X.stack) [] H H' s.heap s'.heap)
  (hok:HOk X.prog X.w H' s'.heap) (hE:E (.ref C) none H') (fl':Fly h' ea T' (.ref C) a0) (hT':T'=T\/s'.heap.get? T'=none) (lv:Lv X.stack ea T s'.heap h'):CXe X.prog X.w X.stack H s E (.ref ea) { s' with heap:=h' }:=by
 have I':Inv X pins σ H' s':=XM (ea:=ea) (T:=T) (C:=C) (a0:=a0) I os bare un hok;have hok':HOk X.prog X.w H' h':=hok.tracked λb u z q=>lv.keep b u q (λy=>by subst y;exact z He) (λy=>by subst y;exact z HT) λy=>z (I'.stkFree b y);have gone:s'.heap.get? T'=none->s.heap.get? T'=none:=λq=>by
  cases z:s.heap.get? T' with
  |none=>rfl
  |some o=>obtain ⟨o',y⟩:=un.there T' o z (by simp);rw [q] at y;cases y
 rcases hT' with rfl|hT'
 ·exact ⟨ea,_,C,a0,H',rfl,fl',ne,nT,He,HT,os,bare,qmf un lv ne nT,hok',hE⟩
 ·exact ⟨ea,T',C,a0,H',rfl,fl',ne,gone hT',He,hok.nil hT',os,bare,qmf un lv ne nT,hok',hE⟩
def qdE {E':Value->Shared->Prop} {Q:Unit->Shared->Prop} {L:Addr} (hst:X.stack=X.env::X.outer) (hf:X.env.frame=some L) (I:Inv X pins σ H s) (h:CXe X.prog X.w X.stack H s E ev s')
  (hQ:∀ h',CXe X.prog X.w X.stack H s E ev { s' with heap:=h' }->Q () { s' with heap:=h' }) :
  wpAny (model X.prog X.w) X.A (noteFrame ev X.env) (λ_ s2=>wpAny (model X.prog X.w) X.A (setFlight ev none) Q E' s2) E' s':=by
 obtain ⟨ea,T,C,a0,H',rfl,fl,ne,nT,He,HT,os,bare,un,hok,hE⟩:=h;have I':Inv X pins σ H' s':=XM (ea:=ea) (T:=T) (C:=C) (a0:=a0) I os bare un hok;have hfr:X.A.frames=some (X.env::X.outer):=I.ok.frames.trans (by rw [hst]);have hl:s'.heap.FunFrames X.base (X.env::X.outer):=by rw [← hst];exact I'.stack
 refine qpv hfr hf hl fl λh' T' fl' hT' lv=>?_;rw [← hst] at lv;exact hQ h' (qfx I ne nT He HT os bare un hok hE fl' hT' lv)
def qbf {M:Model} {A:Around} {E':Value->Shared->Prop} {Q:Unit->Shared->Prop} (I:Inv X pins σ H s) (h:CXe X.prog X.w X.stack H s E ev s')
  (hQ:∀ h',CXe X.prog X.w X.stack H s E ev { s' with heap:=h' }->Q () { s' with heap:=h' }):wpAny M A (setFlight ev none) Q E' s':=by
 obtain ⟨ea,T,C,a0,H',rfl,fl,ne,nT,He,HT,os,bare,un,hok,hE⟩:=h;have I':Inv X pins σ H' s':=XM (ea:=ea) (T:=T) (C:=C) (a0:=a0) I os bare un hok;refine qlP I'.stack fl λh' T' fl' hT' lv=>?_;exact hQ h' (qfx I ne nT He HT os bare un hok hE fl' hT' lv)
def ExC (base:Heap) (C:Addr) (mro:List Value):Prop:=∃ nm q N bs bm hdct sn sub ab col dd k0 k1 k2 k3 k5 newId,base.get? C=some (excClassObj nm q C N bs bm hdct sn sub ab col dd k0 k1 k2 k3 k5 newId)/\mro=.ref C::bm
def Ct (base:Heap) (B C:Addr):Prop:=∃ mro,ExC base C mro/\mro.contains (.ref B)=true
def qm5 (base:Heap) (B:Addr) (i:Nat) (ts:TS) (D:Ends) (σ:St):XK:=λcls _ H'=>∃ C,cls=.ref C/\Ct base B C /\
 ∀ e,H' e=none->ts { nx:=λσ' H''=>D.nx (σ'.set i none) H'',rt:=λ_ _=>False } (σ.set i (some (.ref e))) (upd H' e (.ext (IsX e C)))
def qq5 (base:Heap) (B:Addr) (i:Nat) (tn:TS) (tr:St->XK->TS) (ts:TS):TS:=λD σ H=>tn D σ H\/tr σ (qm5 base B i ts D σ) { nx:=λ_ _=>False,rt:=λ_ _=>False } σ H
def qjb {st:Stmt} {x n:Str} {B:Addr} {i:Nat} {mB:List Value} {np hp pos:Pos} {b0:Stmt} {suite:List Stmt} {tn ts:TS} {tr:St->XK->TS} {L:Addr}
  (hst:X.stack=X.env::X.outer) (hf:X.env.frame=some L) (hex:X.ex=[]) (hgl:Gl X x) (hmg:X.mg x=some (.ref B)) (hB:ExC X.base B mB) (hbb:mB.tail.contains (.type "BaseException")=true)
  (hN:X.N.Nodup) (hi:X.N[i]?=some n) (hloc:X.env.kindOf n=some .local) (hlo:X.env.scope.names.lookup n=some .local)
  (hn:PSs X.nox [st] tn) (hx:∀ pins σ0 E,PSs (X.cat pins σ0 E) [st] (tr σ0 E)) (hs:∀ ev,PSs (X.hdl ev) (b0::suite) ts) (hdb:(x==("__debug__" : Str))=false:=by decide) :
  PS X (.Try [st] [.ExceptHandler (some (.Name x np)) (some n) (b0::suite) hp] [] [] pos) (qq5 X.base B i tn tr ts):=by
 intro pins s σ H D I h;refine wpAny_Try_except ?_;rcases h with h|h
 ·refine x8 (hn pins s σ H D (I.wish _) h) (λf s1 q=>?_) λ_ _ z=>z.elim;have q:=q.unwish;cases f with
  |next=>obtain ⟨σ',H',I',q⟩:=q;exact wpAny_execs_nil ⟨σ',H',I',q⟩
  |brk=>exact q
  |cont=>exact q
  |ret u=>exact q
 ·refine x8 (hx pins σ _ [] s σ H _ I.cat h) (λf s1 q=>?_) λe s1 q=>?_
  ·cases f with
   |next=>obtain ⟨_,_,_,z⟩:=q;exact z.elim
   |brk=>obtain ⟨_,_,_,z⟩:=q;exact z.elim
   |cont=>obtain ⟨_,_,_,z⟩:=q;exact z.elim
   |ret u=>obtain ⟨_,_,_,_,_,z⟩:=q;exact z.elim
  ·obtain ⟨H1,s2,I2,q⟩:=q;refine qdE hst hf I2 q λh1 q1=>?_;have nb:e≠byPass:=by obtain ⟨ea,_,_,_,_,rfl,_⟩:=q1;intro z;cases z
   obtain ⟨nmB,qB,NB,bsB,bmB,hdB,snB,subB,abB,colB,ddB,kB0,kB1,kB2,kB3,kB5,nwB,gB,rfl⟩:=hB;refine wpAny_handleBy_cons (codeAny_handlers_test ?_) nb;have hq1:=q1;obtain ⟨ea,T,C,a0,H',rfl,fl,ne,nT,He,HT,os,bare,un,hok,hE⟩:=hq1;have I3:Inv X pins σ H' { s1 with heap:=h1 }:=XM (ea:=ea) (T:=T) (C:=C) (a0:=a0) I2 os bare un hok;have I3h:Inv (X.hdl (.ref ea)) pins σ H' { s1 with heap:=h1 }:=I3.hdl;refine CB (X:=X.hdl (.ref ea)) I3h hgl hmg ?_ hdb;obtain ⟨C',eC,⟨mro,⟨nm,q',N,bs,bm,hd,sn,sub,ab,col,dd,k0,k1,k2,k3,k5,nw,gC,rfl⟩,hin⟩,hgo⟩:=hE;cases eC;obtain ⟨oe,vs,_,_,g1,g2,_⟩:=fl;refine qhQ (b:=true) (I3.bk _ _ gC) (I3.bk _ _ gB) g1 g2.1 hbb hin ?_;refine codeAny_handlers_suite_as ?_;refine qbf I2 q1 λh2 q2=>?_;obtain ⟨ea',T2,C2,a2,H2,e2,fl2,ne2,nT2,He2,HT2,os2,bare2,un2,hok2,hE2⟩:=q2;cases e2;obtain ⟨C3,eC,⟨mro3,ex3,hin3⟩,hgo2⟩:=hE2;cases eC;have I4:Inv X pins σ H2 { s1 with heap:=h2 }:=XM (s':={ s1 with heap:=h2 }) (ea:=ea) (T:=T2) (C:=C2) (a0:=a2) I2 os2 bare2 un2 hok2;have noex:∀ b:Addr,s2.heap.get? b=none->X.s₀.heap.get? b=none:=λb q=>by
    cases z:X.s₀.heap.get? b with
    |none=>rfl
    |some o=>obtain ⟨o',y⟩:=I2.base.there b o z (by rw [hex];simp);rw [q] at y;cases y
   have nl:ea≠X.env.locals:=λz=>by
    obtain ⟨m,⟨o,es,ep,ho,_⟩,_⟩:=I2.loc;rw [← z,ne2] at ho;cases ho
   have nc:∀ y c,X.env.cells.lookup y=some c->c≠ea:=λy c e z=>by
    obtain ⟨v,o,ho,_⟩:=I2.cell y c e;rw [z,ne2] at ho;cases ho
   have np:∀ p∈X.pn++pins,p.1≠ea:=λp hp z=>by
    have y:=(I2.pin p hp).1;rw [z,ne2] at y;cases y
   have I5:Inv X pins σ (upd H2 ea (.ext (IsX ea C2))) { s1 with heap:=h2 }:=I4.track He2 (noex ea ne2) nl nc np (qiR (qnK fl2));refine UE (X:=X.hdl (.ref ea)) (v:=.ref ea) I5.hdl hN hi (.inl hlo) rfl (λs3 I6=>?_) (.inr hlo);refine x8 (hs (.ref ea) pins s3 _ _ _ I6 (hgo2 ea He2)) (λf s4 q=>?_) λ_ _ z=>z.elim;cases f with
   |next=>
    obtain ⟨σ',H'',I7,q⟩:=q;have I7:=I7.ofHdl I.ok;obtain ⟨m,hm,hl⟩:=I7.loc;refine wpAny_nameGoes_keeps hloc hm (by rw [I.ok.kind];rfl) λh8 v hn8 sb=>?_;exact ⟨_,_,I7.gone hN hi hm hn8 sb,q⟩
   |brk=>obtain ⟨_,_,_,z⟩:=q;exact z.elim
   |cont=>obtain ⟨_,_,_,z⟩:=q;exact z.elim
   |ret u=>obtain ⟨_,_,_,_,_,z⟩:=q;exact z.elim
end
end L2
namespace L2
open PySem PySem.Spec PyProof.Rows PySem.W PySem.Calls Builtin Builtin.ObjectAttr Builtin.Getset_descriptor
open L3 (IsX)
structure ExK (K:Frag) (C:Addr):Prop where
 cls:(clsIn K C).isSome=true
 ga:findIn K (.ref C) "__getattribute__" = some (some (.builtin "BaseException.__getattribute__"))
 no:findIn K (.ref C) "__getattr__" = some none
 cl:findIn K (.ref C) "__class__" = some (some (.builtin "object.__class__"))
 ob:mroIn K C (.type "object")=some true
 be:mroIn K C (.type "BaseException")=some true
section
variable {prog:Program} {w:World} {A:Around} {E:Value->Shared->Prop} {K:Frag} {e C:Addr}
def qa5 {M:Model} {h:Heap} (x:IsX e C h):Looks M h (typeOf (.ref e)) (.ref C):=by
 obtain ⟨o,vs,h1,h2,_⟩:=x;exact h2▸(Looks.ld h1).andThen .now
def qaP {R:Result->Shared->Prop} {tp:Value} {s:Shared} (k:ExK K C) (X:K.In s.heap) (x:IsX e C s.heap) (h:R (.ok (.ret (.ref C))) s) :
  codeAny (model prog w) A (.call (.builtin "getset_descriptor.__get__") ⟨[.builtin "object.__class__",.ref e,tp],[]⟩) R s:=by
 obtain ⟨hh,g,dr,t,os⟩:=s;have L0:=qa5 (M:=model prog w) x;have L1:=looks_mroIn (M:=model prog w) X k.ob;refine codeAny_call_builtin KF.slot_gs.plain KF.entry_gs (KF.slot_gs.check _ _ _ _ _ _ _ _ KF.type_class (KF.args_gs _ _ _) ?_);unfold Builtin.«getset_descriptor.__get__» descrGet;rw [dga_obj];refine x5 (x6 ?_);unfold descrGetter descrCheckInstance descrNameAndClass isInstance;simp only [KF.owner_class]
 repeat lk
 refine ⟨Code.quiet_builtin _ (by decide +kernel),codeAny_builtin KF.entry_class ?_⟩;unfold Builtin.«object.__class__» shownTypeOf
 repeat lk
 exact h
def LL {tk:Tok} {Q:Fin->Shared->Prop} {h:Heap} {g:Array GenState} {d:Drawn} {t:Nat} {os:OsState} (k:ExK K C) (X:K.In h) (x:IsX e C h) (hq:Q (.done (.ret (.ref C))) ⟨h,g,d,t,os⟩) :
  wpAny (model prog w) A (Builtin.«object.__getattribute__» ⟨[.ref e,.str "__class__" tk],[]⟩) Q E ⟨h,g,d,t,os⟩:=by
 have L0:=qa5 (M:=model prog w) x;have L1:=looks_findIn (M:=model prog w) X k.cl;have hT5:(⟨h,g,d,t,os⟩:Shared).TypeIs (.builtin "object.__class__") "getset_descriptor" := F.typeOf_object_class;have f5:=F.typeOf_object_class;have f6:=F.slot_gs_get.lookup;have f7:=F.slot_gs_set.lookup;obtain ⟨o,vs,hx,hc,hd⟩:=id x
 repeat (any_goals (first|assumption|(with_reducible refine wpAny_loadPart_at hx ?_;rw [hc])|with_reducible refine L1.at ?_|wp_step))
 refine qaP k X x ?_
 repeat (any_goals (first|assumption|wp_step))
def qcn {M:Model} {nameV:Value} {Q:Unit->Shared->Prop} {h:Heap} {g:Array GenState} {d:Drawn} {t:Nat} {os:OsState} (k:ExK K C) (X:K.In h) (x:IsX e C h) (hq:Q () ⟨h,g,d,t,os⟩) :
  wpAny M A (checkBuiltinCall "BaseException.__getattribute__" ⟨[.ref e,nameV],[]⟩) Q E ⟨h,g,d,t,os⟩:=by
 have hk:builtinKind "BaseException.__getattribute__" = some .slot:=by decide +kernel
 have hsplit:splitId "BaseException.__getattribute__" = some ("BaseException","__getattribute__"):=by decide +kernel
 have L1:=looks_mroIn (M:=M) X k.be;have ha:=F.args_bexc_ga (.ref e) nameV;simp only [checkBuiltinCall,hk,hsplit];obtain ⟨o,vs,hx,hc,hd⟩:=id x;refine x5 ?_
 ·unfold isInstance
  repeat (first|(with_reducible refine wpAny_loadPart_at hx ?_;rw [hc])|with_reducible refine L1.at ?_|wp_step)
  exact hq
def qbP {tk:Tok} {Q:Value->Shared->Prop} {h:Heap} {g:Array GenState} {d:Drawn} {t:Nat} {os:OsState} (k:ExK K C) (X:K.In h) (x:IsX e C h) (hq:Q (.ref C) ⟨h,g,d,t,os⟩) :
  wpAny (model prog w) A (getAttrBy (.ref e) (.str "__class__" tk) false) Q E ⟨h,g,d,t,os⟩:=by
 have f3:bindSpecial (.builtin "BaseException.__getattribute__") (.ref e)=pure (.builtin "BaseException.__getattribute__",[.ref e]):=by kernel_rfl
 have hx2:(Value.builtin "BaseException.__getattribute__" == Value.builtin "object.__getattribute__")=false:=by decide +kernel
 have hx1:(onTheHeap (Value.ref C)&&Value.builtin "BaseException.__getattribute__" == Value.builtin "object.__getattribute__")=false:=by rw [hx2];rfl
 have L1:=looks_findIn (M:=model prog w) X k.ga;have L2:=looks_findIn (M:=model prog w) X k.no;obtain ⟨o,vs,hx,hc,hd⟩:=id x
 repeat (any_goals (first|assumption|(with_reducible refine wpAny_loadPart_at hx ?_;rw [hc])|with_reducible refine L1.at ?_|with_reducible refine L2.at ?_|wp_step))
 refine codeAny_call_builtin (by decide +kernel) F.entry_bexc_ga (qcn k X x (LL k X x ?_))
 repeat (any_goals (first|assumption|wp_step))
def MH {Q:Option Value->Shared->Prop} {s:Shared} (k:ExK K C) (X:K.In s.heap) (x:IsX e C s.heap) (hq:Q (some (.ref C)) { s with toks:=s.toks+1 }):wpAny (model prog w) A (getAttr? (.ref e) "__class__") Q E s:=by
 obtain ⟨h,g,d,t,os⟩:=s;unfold getAttr? getAttrBy?
 repeat (any_goals (first|assumption|with_reducible apply qbP k X x|wp_step))
def qdI (k:ExK K C):KitX K (.ref e) (.ref C) (IsX e C) where
 ty:=λ_ _ _ x=>qa5 x
 it:=λ_ _ X _=>by
  obtain ⟨cd,hc⟩:=Option.isSome_iff_exists.mp k.cls;unfold clsIn at hc;split at hc
  ·rename_i c' d' cd' sl' ho;intro A' Q' E' s' k q;unfold isType loadHead;exact x5 (wpAny_loadPart (k _ _ (X _ _ ho)) (x6 q))
  ·cases hc
 ne:=λh tp dd its n sl X htp=>by
  obtain ⟨cd,hc⟩:=Option.isSome_iff_exists.mp k.cls;refine Bool.eq_false_iff.mpr λq=>?_;have e:C=tp:=Value.ref.inj (beq_iff_eq.mp q);subst e;unfold clsIn at hc;split at hc
  ·rename_i c' d' cd' sl' ho;have z:=(X _ _ ho).symm.trans htp;cases z
  ·cases hc
 ca:=λX x q=>MH k X x q
end
end L2
namespace L3
open PySem PySem.Spec PyProof.Rows L2
abbrev TX3:=X3->St3->Gp->Prop
def lX (K:Frg) (tx:TX3) (σ0:L2.St) (E:XK):TS:=λ_ σ H=>σ=σ0/\∃ τ G dx,Rel K τ G σ H/\tx dx τ G/\∀ C G' H',HR K G' H'->Kp G H G' H'->dx C G'->E (.ref C) none H'
def lXE (K:Frg) (tx:TX3) (σ0:L2.St) (E:XK):TE:=λσ H _=>σ=σ0/\∃ τ G dx,Rel K τ G σ H/\tx dx τ G/\∀ C G' H',HR K G' H'->Kp G H G' H'->dx C G'->E (.ref C) none H'
structure jXE3 (X:Cx) (e:Expr) (tx:TX3):Prop where h:∀ pins σ0 E,PE (X.cat pins σ0 E) e (lXE X.K tx σ0 E)
structure jX3 (X:Cx) (sts:List Stmt) (tx:TX3):Prop where h:∀ pins σ0 E,PSs (X.cat pins σ0 E) sts (lX X.K tx σ0 E)
def Fnx (P:Program) (w:World) (K:Frg) (mg:Str->Option Value) (base:Heap) (k:Nat) (x:Str) (sx:Spx):Prop:=
 ∃ f fd ps,FnOk P w K mg base (CXe P w) k f fd ps (lSx K sx)/\WY K fd ps []/\PySem.W.keepIn K (.ref f)=true/\mg x=some (.ref f)
def Fnx.mono {P:Program} {w:World} {K:Frg} {mg:Str->Option Value} {base:Heap} {j k:Nat} {x:Str} {sx:Spx} (F:Fnx P w K mg base j x sx) (h:j<=k):Fnx P w K mg base k x sx:=
 let ⟨f,fd,ps,a,b,c,d⟩:=F;⟨f,fd,ps,a.mono h,b,c,d⟩
def qhY (sx:Spx) (t:TA3):TX3:=λdx τ G=>t τ G λxs G1=>sx xs G1 dx
section
variable {X:Cx} {k:Nat} {x:Str} {sx:Spx} {p pos:Pos} {e:Expr} {es:List Expr} {ta:TA3} {tx ty:TX3}
def qh7 (F:Fnx X.prog X.w X.K X.mg X.base k x sx) (hr:Room k X.A) (hg:Gl X x) (ha:∀ pins σ0 E,jA3 (X.cat pins σ0 E) (e::es) ta) (hdb:(x==("__debug__" : Str))=false:=by decide)
  (he:starEach (e::es) X.env=(false,eval e X.env)::starEach es X.env:=by rfl) (hpl:(backTo pos (starEach es X.env)).any (·.1)=false:=by rfl):jXE3 X (.Call (.Name x p) (e::es) [] pos) (qhY sx ta):=by
 refine ⟨λpins0 σ0 E=>?_⟩;intro pins s σ H Q I h;obtain ⟨hσ,τ,G,dx,rl,h,af⟩:=h;obtain ⟨f,fd,ps,F,hb,hk,hm⟩:=F;refine wpAny_Call_Name_kw (CB I hg hm ?_ hdb);have hA:=(ha pins0 σ0 E).h pos pins s σ H (λvs H1=>∃ xs G1,sx xs G1 dx/\Rps X.K H1 xs vs/\HR X.K G1 H1/\Kp G H G1 H1) I (JK rl h λxs G1 h1 vs H1 rs hr1 k1 rl1=>⟨xs,G1,h1,rs,hr1,k1⟩);refine PySem.W.callWith_K (h₀:=X.base) I.ok.mod.kin hk (thn hA λus s1 ⟨vs,H1,I1,r,xs,G1,h1,rs,hr1,k1⟩=>⟨I1.kIn,?_⟩) he hpl;have sp:lSx X.K sx vs H1 (λ_ _=>False) E:=⟨xs,G1,dx,hr1,rs,h1,λC G' H' a b c=>af C G' H' a (k1.trans b) c⟩
 have hl:us.length=ps.length:=by rw [← r.length];exact F.len _ _ _ _ sp
 have hb':BindsTo s1 fd ⟨us,[]⟩ (ps.zip us):=by
  have z:=hb s1 us I1.kIn (by rw [List.append_nil];exact hl);rw [List.append_nil] at z;exact z
 refine wpAny_call (codeAny_mono (F.run X.A X.stack s1 H1 ⟨us,[]⟩ us vs (λ_ _=>False) E hr I1.env0 hb' r sp) λr s' hq=>?_);subst hσ;cases r with
 |error e=>exact ⟨H1,s1,I1.ofCat,hq⟩
 |ok fl=>
  cases fl with
  |ret u=>obtain ⟨_,_,_,_,_,_,_,z⟩:=hq;exact z.elim
  |next=>exact False.elim hq
  |brk=>exact False.elim hq
  |cont=>exact False.elim hq
def qk9 (i:Nat) {n:Str} {pos':Pos} (hN:X.N.Nodup) (h:jXE3 X e tx) (hi:X.N[i]?=some n:=by rfl) (hx:Loc X.env.scope n:=by first|exact Or.inl rfl|exact Or.inr rfl) (hs:swapsWith e (some (.Name n pos')) pos.line X.env=pure false:=by rfl) (hf:X.fn n=true\/X.env.scope.names.lookup n=some .local:=by first|exact .inl rfl|exact .inr rfl) :
  jX3 X [.Assign [.Name n pos'] e pos] tx:=
 ⟨λpins σ0 E=>qb0 (qaL (qgr hN hi hx (h.h pins σ0 E) hs hf) λD σ H z=>z)⟩
end
def Rel.del {K:Frg} {τ:St3} {G:Gp} {σ:L2.St} {H:Hp} (r:Rel K τ G σ H) (i:Nat):Rel K (τ.set i none) G (σ.set i none) H:=by
 refine ⟨r.hp,by simp [r.len],λj u e=>?_⟩;by_cases hij:i=j
 ·subst hij;rw [List.getElem?_set_self'] at e;cases q:τ[i]? with
  |none=>rw [q] at e;cases e
  |some z=>rw [q] at e;cases e
 ·rw [List.getElem?_set_ne hij] at e;obtain ⟨w,h1,h2⟩:=r.st j u e;exact ⟨w,by rw [List.getElem?_set_ne hij];exact h1,h2⟩
def HR.newX {K:Frg} {G:Gp} {H:Hp} (hr:HR K G H) {p C:Addr} (hp:H p=none):HR K (gu G p (.exn C)) (upd H p (.ext (IsX p C))):=λa o e=>by
 by_cases ha:a=p
 ·subst ha;rw [qv] at e;cases e;exact ze
 ·rw [zD ha] at e;exact (hr a o e).keep hr (Kp.laid hp) λu h=>by rw [qz ha];exact h
def qqt (i:Nat) (cs:List Addr) (tn:TS3) (tx:TX3) (ts:TS3):TS3:=λd τ G=>tn d τ G ∨
 tx (λC G'=>C∈cs/\∀ e,G' e=none->ts { nx:=λτ' G''=>d.nx (τ'.set i none) G'',rt:=λ_ _=>False } (τ.set i (some (.ref e))) (gu G' e (.exn C))) τ G
def qmM {X:Cx} {st:Stmt} {x n:Str} {B:Addr} {i:Nat} {mB:List Value} {np hp pos:Pos} {b0:Stmt} {suite:List Stmt} {tn ts:TS3} {tx:TX3} {L:Addr} (cs:List Addr)
  (hst:X.stack=X.env::X.outer) (hf:X.env.frame=some L) (hex:X.ex=[]) (hgl:Gl X x) (hmg:X.mg x=some (.ref B)) (hB:ExC X.base B mB) (hbb:mB.tail.contains (.type "BaseException")=true) (hcs:∀ C∈cs,Ct X.base B C)
  (hN:X.N.Nodup) (hi:X.N[i]?=some n) (hloc:X.env.kindOf n=some .local) (hlo:X.env.scope.names.lookup n=some .local)
  (hn:jB3 X.nox [st] tn) (hx:jX3 X [st] tx) (hs:∀ ev,jB3 (X.hdl ev) (b0::suite) ts) (hdb:(x==("__debug__" : Str))=false:=by decide) :
  jS3 X (.Try [st] [.ExceptHandler (some (.Name x np)) (some n) (b0::suite) hp] [] [] pos) (qqt i cs tn tx ts):=by
 refine ⟨qaL (qjb hst hf hex hgl hmg hB hbb hN hi hloc hlo hn.h hx.h (ts:=lS X.K ts) (λev=>(hs ev).h) hdb) λD σ H ⟨τ,G,d,rl,h,af⟩=>?_⟩;rcases h with h|h
 ·exact .inl ⟨τ,G,d,rl,h,af⟩
 ·refine .inr ⟨rfl,τ,G,_,rl,h,λC G' H' hr' k' ⟨hc,hd⟩=>⟨C,rfl,hcs C hc,λe he=>?_⟩⟩;have rl':Rel X.K τ G' σ H':=rl.next hr' k';have hrn:=hr'.newX (C:=C) he;have kn:Kp G' H' (gu G' e (.exn C)) (upd H' e (.ext (IsX e C))):=Kp.newL he;refine ⟨τ.set i (some (.ref e)),gu G' e (.exn C),_,(rl'.next hrn kn).set i (.ref e),hd e (hr'.free he),⟨λτ2 G2 q σ2 H2 r2 k2=>?_,λ_ _ z=>z.elim,λ_ _ z=>z.elim,λ_ _ z=>z.elim⟩⟩;exact af.nx _ _ q _ _ (r2.del i) ((k'.trans kn).trans k2)
structure RaX (mg:Str->Option Value) (base:Heap) (x:Str) (C:Addr):Prop where
 h:OwnCls x C [.type "ValueError",.type "Exception",.type "BaseException",.type "object"] "ValueError.__new__" mg base
def qdH {P:Program} {w:World} {K:Frg} {mg:Str->Option Value} {base:Heap} {N:List Str} {qual:Str} {scope:Scope} {f:Addr} {cd:Value} {A:Around} {outer:List Env} {s0:Shared} {H0:Hp} {E:XK} {x:Str} {C:Addr} {np cpos pos:Pos} {e:Expr} {es:List Expr} {t:TA3} {dx:X3}
  (hE:∀ cls H',EX K dx cls none H'->E cls none H') (O:RaX mg base x C)
  (hc:(VE (CXe P w) P w K mg base N qual scope f cd A outer s0 H0 E).calm=true) (hg:Gl (VE (CXe P w) P w K mg base N qual scope f cd A outer s0 H0 E) x) (ha:jA3 (VE (CXe P w) P w K mg base N qual scope f cd A outer s0 H0 E) (e::es) t)
  (hdb:(x==("__debug__" : Str))=false:=by decide) (he:starEach (e::es) (VE (CXe P w) P w K mg base N qual scope f cd A outer s0 H0 E).env=(false,eval e (VE (CXe P w) P w K mg base N qual scope f cd A outer s0 H0 E).env)::starEach es (VE (CXe P w) P w K mg base N qual scope f cd A outer s0 H0 E).env:=by rfl)
  (hpl:(backTo cpos (starEach es (VE (CXe P w) P w K mg base N qual scope f cd A outer s0 H0 E).env)).any (·.1)=false:=by rfl) :
  jS3 (VE (CXe P w) P w K mg base N qual scope f cd A outer s0 H0 E) (.Raise (some (.Call (.Name x np) (e::es) [] cpos)) none pos) (qaf C dx t):=
 ⟨qhd O.h PySem.F.excBase_ValueError (by first|decide|decide +kernel) PySem.F.excBase_ValueError hc hg ha.h (λpins σ H s ea h' vs I hx z=>qie I hx (hE _ _ z)) hdb he hpl⟩
def qpk (sx:Spx) (dx:X3) (t:TA3):TE3:=λτ G _=>t τ G λxs G1=>sx xs G1 dx
def qdD {P:Program} {w:World} {K:Frg} {mg:Str->Option Value} {base:Heap} {N:List Str} {qual:Str} {scope:Scope} {f:Addr} {cd:Value} {A:Around} {outer:List Env} {s0:Shared} {H0:Hp} {E:XK} {k:Nat} {x:Str} {p pos:Pos} {e:Expr} {es:List Expr} {t:TA3} {dx:X3} {sx:Spx}
  (hE:∀ cls H',EX K dx cls none H'->E cls none H') (F:Fnx P w K mg base k x sx) (hr:Room k (VE (CXe P w) P w K mg base N qual scope f cd A outer s0 H0 E).A) (hg:Gl (VE (CXe P w) P w K mg base N qual scope f cd A outer s0 H0 E) x)
  (ha:jA3 (VE (CXe P w) P w K mg base N qual scope f cd A outer s0 H0 E) (e::es) t) (hdb:(x==("__debug__" : Str))=false:=by decide)
  (he:starEach (e::es) (VE (CXe P w) P w K mg base N qual scope f cd A outer s0 H0 E).env=(false,eval e (VE (CXe P w) P w K mg base N qual scope f cd A outer s0 H0 E).env)::starEach es (VE (CXe P w) P w K mg base N qual scope f cd A outer s0 H0 E).env:=by rfl)
  (hpl:(backTo pos (starEach es (VE (CXe P w) P w K mg base N qual scope f cd A outer s0 H0 E).env)).any (·.1)=false:=by rfl):jE3 (VE (CXe P w) P w K mg base N qual scope f cd A outer s0 H0 E) (.Call (.Name x p) (e::es) [] pos) (qpk sx dx t):=by
 obtain ⟨f',fd,ps,F,hb,hk,hm⟩:=F;refine ⟨WU (qbL (CX:=CXe P w) (E:=E) (dvs:=[]) F hr hg hm hk hb .nil qmT ha.h hdb he hpl) λσ H Q ⟨τ,G,q,rl,h,af⟩=>JK rl h λxs G1 h1 vs H1 rs hr1 k1 rl1=>?_⟩;rw [List.append_nil];exact ⟨xs,G1,dx,hr1,rs,h1,λC G' H' a b c=>hE _ _ ⟨C,G',rfl,a,c⟩⟩
def qgW {P:Program} {w:World} {K:Frg} {mg:Str->Option Value} {base:Heap} {x qual:Str} {st:Stmt} {f:Addr} {fd:FuncData} {N ps:List Str} {k:Nat} {sx:Spx} {t3:X3->TS3} (F:Fun K x qual st f fd) (S:FnScope N ps (qi st)) (bd:WY K fd ps []) (hm:mg x=some (.ref f))
  (body:∀ (dx:X3) (cdv:Value) (A:Around) (outer:List Env) (s:Shared) (H:Hp) (E:XK),(∀ cls H',EX K dx cls none H'->E cls none H')->Room k (A.deeper (envOfC qual (qi st) s.heap.objs.size f cdv)) ->
   jB3 (VE (CXe P w) P w K mg base N qual (qi st) f cdv A outer s H E) (qO st) (t3 dx))
  (read:∀ ts G dx,sx ts G dx->ts.length=ps.length/\t3 dx { nx:=λ_ _=>False,rt:=λ_ _=>False } (qm N ts) G):Fnx P w K mg base (k+1) x sx:=
 ⟨f,fd,ps,qj7 (qlJ F S (λdx cdv A outer s H E hE hr=>(body dx cdv A outer s H E hE hr).h) read),bd,F.kp,hm⟩
def exT (G:Gp):T->Option (Option Addr)
 |.non=>some none
 |.ref e=>match G e with|some (.exn C)=>some (some C)|_=>none
 |_=>none
def qh8 (D:List (Option Addr×Bool)) (te:TE3):TE3:=λτ G q=>te τ G λx G1=>match exT G1 x with|some o=>(match D.lookup o with|some b=>q (.bl b) G1|none=>False)|none=>False
def tyv:Option Addr->Value
 |none=>.type "NoneType"
 |some C=>.ref C
def XD (K:Frg) (cs:List Value) (D:List (Option Addr×Bool)):Prop:=∀ p∈D,(∀ C,p.1=some C->ExK K C)/\PySem.W.kitAny K (tyv p.1) cs=some p.2
def RZ {D:List (Option Addr×Bool)} {o:Option Addr} {b:Bool} (h:D.lookup o=some b):(o,b)∈D:=by
 induction D with
 |nil=>cases h
 |cons p r ih=>
  obtain ⟨a,c⟩:=p;rw [List.lookup_cons] at h;split at h
  ·rename_i z;cases h;rw [beq_iff_eq.mp z];exact u9
  ·exact v5 _ (ih h)
def qab {X:Cx} {pins:List (Addr×Obj)} {σ:L2.St} {G:Gp} {H:Hp} {s:Shared} (I:Inv X pins σ H s) (hr:HR X.K G H) {x:T} {v:V} {u:Value} {o:Option Addr} (r:Rp X.K H x v) (rv:jZ v u) (h:exT G x=some o) (k:∀ C,o=some C->ExK X.K C) :
  ∃ HH,PySem.W.KitX X.K u (tyv o) HH/\HH s.heap/\u≠.builtin "__main__.__loader__#opaque" := by
 cases r with
 |non=>cases h;cases (show u=Value.none from rv);exact ⟨_,PySem.W.kitx_none,trivial,λz=>nomatch z⟩
 |ref a=>
  cases (show u=Value.ref a from rv);unfold exT at h;dsimp only at h;split at h
  ·rename_i C g;cases h;have q:H a=some (.ext (IsX a C)):=hr a _ g;obtain ⟨y,_,_⟩:=(show JW X.prog X.w H s.heap a (.ext (IsX a C)) from I.hok a _ q)
   exact ⟨_,qdI (k C rfl),y,λz=>nomatch z⟩
  ·cases h
 |bl b=>cases h
 |int b=>cases h
 |str b=>cases h
 |tup _ _=>cases h
def qao {K:Frg} {t c:Value} {b:Bool} (h:PySem.W.kitAny K t [c]=some b):PySem.W.kitOne K t c=some b:=by
 unfold PySem.W.kitAny at h;split at h
 ·rename_i q;rw [q,← h]
 ·rename_i q;rw [q,← h];rfl
 ·cases h
def clV:V->Value
 |.ref a=>.ref a
 |.ty n=>.type n
 |_=>.none
structure jCl (X:Cx) (e:Expr) (v:V):Prop where
 h:PE X e (tC v)
 ok:(∃ a,v=.ref a)\/∃ n,v=.ty n
def YV {X:Cx} {x:Str} {a:Addr} {pos:Pos} (hg:Gl X x) (hm:X.mg x=some (.ref a)) (hd:(x==("__debug__" : Str))=false:=by decide):jCl X (.Name x pos) (.ref a):=⟨qg7 hg hm rfl hd,.inl ⟨_,rfl⟩⟩
def qmd {X:Cx} {x:Str} {n:String} {pos:Pos} (hg:Gl X x) (hm:X.mg x=none) (hv:bootBuiltins x=some (.type n)) (hn:x≠"__name__" := by decide) (hd:(x==("__debug__" : Str))=false:=by decide):jCl X (.Name x pos) (.ty n):=⟨T1 hg hm hv rfl hn hd,.inr ⟨_,rfl⟩⟩
inductive jCls (X:Cx):List Expr->List V->Prop
 |nil:jCls X [] []
 |cons {e:Expr} {es:List Expr} {v:V} {vs:List V}:jCl X e v->starEach (e::es) X.env=(false,eval e X.env)::starEach es X.env->jCls X es vs->jCls X (e::es) (v::vs)
def jCls.pa {X:Cx}:∀ {es:List Expr} {vs:List V},jCls X es vs->PA X es (λ_ H Q=>Q vs H)
 |_,_,.nil=>DI
 |_,_,.cons a hs r=>qoi (jV a.h r.pa hs) λσ H Q h=>h
def jCls.vals {X:Cx}:∀ {es:List Expr} {vs:List V},jCls X es vs->∀ {us:List Value},jj vs us->us=vs.map clV
 |_,_,.nil,_,.nil=>rfl
 |_,_,.cons a hs r,_,.cons q qs=>by
  rw [r.vals qs];rcases a.ok with ⟨ad,rfl⟩|⟨n,rfl⟩
  ·cases (show _=Value.ref ad from q);rfl
  ·cases (show _=Value.type n from q);rfl
section
variable {X:Cx} {e ce:Expr} {te:TE3} {p pos:Pos} {D:List (Option Addr×Bool)}
def qec {v:V} (he:jE3 X e te) (hg:Gl X "isinstance") (hm:X.mg "isinstance" = none) (hc:jCl X ce v) (hD:XD X.K [clV v] D)
  (hs:starEach [e,ce] X.env=(false,eval e X.env)::starEach [ce] X.env:=by rfl) (hs2:starEach [ce] X.env=(false,eval ce X.env)::starEach [] X.env:=by rfl) (hpl:(backTo pos (starEach [ce] X.env)).any (·.1)=false:=by rfl) :
  jE3 X (.Call (.Name "isinstance" p) [e,ce] [] pos) (qh8 D te):=by
 refine ⟨WU (UH (r:=λxs H Q=>∃ G x y o b,xs=[y,v]/\HR X.K G H/\Rp X.K H x y/\exT G x=some o/\D.lookup o=some b/\Q (.bl b) H) ?_ hg hm PyProof.Rows.boot_isinstance (jV he.h (jV hc.h DI hs2) hs) (by decide) (by decide) hs hpl)
  λ_ _ _ ⟨τ,G,q,rl,h,af⟩=>z9 rl h λx G1 h1 y H1 rx hr1 k1 rl1=>?_⟩
 ·intro pins s σ H xs us Q I r ⟨G,x,y,o,b,hx,hr,rx,h1,h2,q⟩;subst hx;obtain ⟨u,w,rfl,ru,rc⟩:=LY r;have ew:w=clV v:=by
   rcases hc.ok with ⟨a,rfl⟩|⟨n,rfl⟩
   ·exact rc
   ·exact rc
  subst ew;obtain ⟨d1,d2⟩:=hD _ (RZ h2);obtain ⟨HH,kx,hh,ne⟩:=qab I hr rx ru h1 d1;exact PySem.W.kia_one kx I.kIn hh (qao d2) ne λtk=>⟨.bl _,H,I.tok tk,rfl,q⟩
 ·split at h1
  ·split at h1
   ·rename_i _ o e1 _ b e2;exact ⟨G1,x,y,_,_,rfl,hr1,rx,e1,e2,af _ G1 h1 _ H1 (.bl _) hr1 k1⟩
   ·exact h1.elim
  ·exact h1.elim
def qis {ces:List Expr} {vs:List V} {p4:Pos} {x1} (he:jE3 X e te) (hg:Gl X "isinstance") (hm:X.mg "isinstance" = none) (hc:jCls X ces vs) (hl:vs.length<=sizeLine) (hD:XD X.K (vs.map clV) D)
  (hs:starEach [e,.Tuple ces x1 p4] X.env=(false,eval e X.env)::starEach [.Tuple ces x1 p4] X.env:=by rfl) (hs2:starEach [.Tuple ces x1 p4] X.env=(false,eval (.Tuple ces x1 p4) X.env)::starEach [] X.env:=by rfl) (hpl:(backTo pos (starEach [.Tuple ces x1 p4] X.env)).any (·.1)=false:=by rfl) :
  jE3 X (.Call (.Name "isinstance" p) [e,.Tuple ces x1 p4] [] pos) (qh8 D te):=by
 refine ⟨WU (UH (r:=λxs H Q=>∃ G x y o b pp,xs=[y,.ref pp]/\H pp=some (.tup vs)/\HR X.K G H/\Rp X.K H x y/\exT G x=some o/\D.lookup o=some b/\Q (.bl b) H) ?_ hg hm PyProof.Rows.boot_isinstance (jV he.h (jV (qcR hc.pa) DI hs2) hs) (by decide) (by decide) hs hpl)
  λ_ _ _ ⟨τ,G,q,rl,h,af⟩=>z9 rl h λx G1 h1 y H1 rx hr1 k1 rl1=>⟨hl,λpp hp=>?_⟩⟩
 ·intro pins s σ H xs us Q I r ⟨G,x,y,o,b,pp,hx,hp,hr,rx,h1,h2,q⟩;subst hx;obtain ⟨u,w,rfl,ru,rc⟩:=LY r;cases (show w=Value.ref pp from rc);obtain ⟨_,its,rv,⟨o',ho,hcl,n,hda,_⟩⟩:=(show JW X.prog X.w H s.heap pp (.tup vs) from I.hok pp _ hp)
  have ei:=hc.vals rv;subst ei;obtain ⟨d1,d2⟩:=hD _ (RZ h2);obtain ⟨HH,kx,hh,ne⟩:=qab I hr rx ru h1 d1;obtain ⟨cl,dd,da,sl⟩:=o';cases (show cl=_ from hcl);cases (show da=_ from hda);exact PySem.W.kia_tup kx I.kIn hh ho d2 ne λtk=>⟨.bl _,H,I.tok tk,rfl,q⟩
 ·have kk:Kp G1 H1 G1 (upd H1 pp (.tup vs)):=Kp.laid hp;have hr2:=hr1.laid (ho:=.tup vs) hp;split at h1
  ·split at h1
   ·rename_i _ o e1 _ b e2;exact ⟨G1,x,y,_,_,pp,rfl,ze,hr2,rx.keep hr1 kk,e1,e2,af _ G1 h1 _ _ (.bl _) hr2 (k1.trans kk)⟩
   ·exact h1.elim
  ·exact h1.elim
end
section
variable {X:Cx}
def qrz (ks:List Str):List Key:=ks.map λk=>(Sum.inr k:Key)
def HR.tab {K:Frg} {G:Gp} {H:Hp} (hr:HR K G H) {p:Addr} {ks:List Str} {xs:List T} (g:G p=some (.tab ks xs)):∃ vs,H p=some (.dK ((qrz ks).zip vs))/\Rps K H xs vs:=hr p _ g
end
end L3
namespace L3
open PySem PySem.Spec PyProof.Rows L2 PySem.SeqAt
section
end
section
variable {X:Cx}
end
end L3
namespace L3
open PySem PySem.Spec PyProof.Rows L2
section
variable {X:Cx} {tg a b c:Expr} {pos:Pos}
end
section
variable {X:Cx}
end
section
variable {prog:Program} {w:World} {A:Around} {E:Value->Shared->Prop} {s:Shared}
end
section
variable {X:Cx}
end
section
variable {prog:Program} {w:World} {A:Around} {E:Value->Shared->Prop} {s:Shared}
end
section
variable {prog:Program} {w:World} {A:Around} {E:Value->Shared->Prop} {s:Shared}
end
section
variable {X:Cx}
end
section
variable {X:Cx}
end
section
variable {prog:Program} {w:World} {A:Around} {E:Value->Shared->Prop} {s:Shared}
end
section
variable {X:Cx} {pos:Pos}
end
open PySem.SeqAt
section
variable {X:Cx} {pins:List (Addr×Obj)} {σ:L2.St} {H:Hp} {s:Shared}
end
end L3
namespace L3
open PySem PySem.Spec PyProof.Rows L2
open Builtin Builtin.Str
section
variable {prog:Program} {w:World} {A:Around} {E:Value->Shared->Prop} {s:Shared}
end
section
variable {X:Cx}
end
end L3
namespace L3
open PySem PySem.Spec PyProof.Rows L2
section
variable {prog:Program} {w:World} {A:Around} {E:Value->Shared->Prop} {s:Shared}
end
section
variable {X:Cx} {pos:Pos}
end
section
variable {X:Cx} {tg l:Expr}
end
def D9:Sp3:=λ_ _ _=>False
def ES {P:Program} {w:World} {K:Frg} {mg:Str->Option Value} {base:Heap} {x qual:Str} {st:Stmt} {f:Addr} {fd:FuncData} {ps:List Str} (F:Fun K x qual st f fd) (bd:WY K fd ps []) (hm:mg x=some (.ref f)):Fn3 P w K mg base 0 x D9:=
 ⟨f,fd,ps,⟨λvs H Q E ⟨_,_,_,_,_,h,_⟩=>h.elim,λA outer s H args us vs Q E _ _ _ _ ⟨_,_,_,_,_,h,_⟩=>h.elim⟩,bd,F.kp,hm⟩
def ixT (xs:List T) (i:Int) (G:Gp) (q:Q3):ix3 (.tup xs) (.int i) G q=(match L2.atI xs i with|some z=>q z G|none=>False):=rfl
def ixR (p:Addr) (i:Int) (G:Gp) (q:Q3):ix3 (.ref p) (.int i) G q=(match getL G p with|some xs=>(match L2.atI xs i with|some z=>q z G|none=>False)|none=>False):=rfl
def jU {α:Type} {xs:List α} {i:Int} (h0:0<=i) (h1:i<(xs.length:Int)):L2.atI xs i=xs[i.toNat]?:=by
 unfold L2.atI ixN;have e1:i.toNat<xs.length:=by omega
 simp [h0,e1,h1]
def cm {i j:Int} (h1:-1000000<j) (h2:j<1000000):UM i j:=.inr ⟨by omega,by omega⟩
def cm' {i j:Int} (h1:-1000000<i) (h2:i<1000000):UM i j:=.inl ⟨by omega,by omega⟩
def DH {stay:Gp->Prop} {g:TG3} {tif:TT3} {te:TE3} {q:Q3} (items:List T) (Pv:Nat->List T->St3->Gp->Prop) {τ:St3} {G:Gp} (h0:Pv 0 [] τ G) (hst:∀ i ys τ G,i<=items.length->Pv i ys τ G->stay G)
  (hs:∀ i x ys τ G (R:List T->St3->Gp->Prop),items[i]?=some x->Pv i ys τ G->(∀ ys' τ' G',Pv (i+1) ys' τ' G'->R ys' τ' G') ->
   g x τ G λτ2 G2=>tif τ2 G2 λk G3=>if k=true then te τ2 G3 λy G4=>ys.length<sizeLine/\R (ys++[y]) τ2 G4 else R ys τ2 G3)
  (hd:∀ ys τ G,Pv items.length ys τ G->∀ p,G p=none->q (.ref p) (gu G p (.lst ys))):CL stay g tif te q items [] τ G:=by
 have key:∀ (r:List T) (i:Nat) ys τ G,items.drop i=r->i<=items.length->Pv i ys τ G->CL stay g tif te q r ys τ G:=by
  intro r;induction r with
  |nil=>
   intro i ys τ G e hi p;have:i=items.length:=by have:=congrArg List.length e;simp at this;omega
   subst this;exact ⟨hst _ ys τ G hi p,hd ys τ G p⟩
  |cons x r ih=>
   intro i ys τ G e hi p;have hl:i<items.length:=by
    apply Classical.byContradiction;intro z;rw [List.drop_eq_nil_of_le (by omega)] at e;cases e
   have e':=List.drop_eq_getElem_cons hl;rw [e] at e';injection e' with e1 e2;exact ⟨hst i ys τ G hi p,hs i x ys τ G _ (by rw [y9 hl,e1]) p λys2 τ2 G2 p2=>ih (i+1) ys2 τ2 G2 e2.symm hl p2⟩
 exact key items 0 [] τ G (by simp) (Nat.zero_le _) h0
def N4 {stay:Gp->Prop} {g:TG3} {te:TE3} {q:Q3} {G:Gp} (f:T->T) (Ok:St3->Prop) (hst:stay G):∀ (items ys:List T) (τ:St3),Ok τ ->
  (∀ x∈items,∀ τ,Ok τ->∀ R:St3->T->Gp->Prop,(∀ τ',Ok τ'->R τ' (f x) G)->g x τ G λτ2 G2=>te τ2 G2 λy G4=>R τ2 y G4) ->
  ys.length+items.length<sizeLine->(∀ p,G p=none->q (.ref p) (gu G p (.lst (ys++items.map f))))->CL stay g tt3 te q items ys τ G
 |[],ys,τ,_,_,_,h=>⟨hst,by simpa using h⟩
 |x::r,ys,τ,ok,step,len,h=>by
  refine ⟨hst,?_⟩;have e:(λτ2 G2=>tt3 τ2 G2 λk G3=>if k=true then te τ2 G3 λy G4=>ys.length<sizeLine/\CL stay g tt3 te q r (ys++[y]) τ2 G4 else CL stay g tt3 te q r ys τ2 G3)=(λτ2 G2=>te τ2 G2 λy G4=>ys.length<sizeLine/\CL stay g tt3 te q r (ys++[y]) τ2 G4):=by
   funext τ2 G2;simp [tt3]
  rw [e];rw [length_cons] at len;refine step x u9 τ ok _ λτ' ok'=>⟨by omega,N4 f Ok hst r (ys++[f x]) τ' ok' (λz hz=>step z (v5 _ hz)) (by rw [length_append,List.length_singleton];omega) λp hp=>?_⟩
  simpa using h p hp
def MV {lo:Int} {n i:Nat} {x:T} (h:(M9 lo n)[i]?=some x):i<n/\x=T.int (lo+(i:Int)):=by
 unfold M9 at h;rw [getElem?_map] at h;cases e:(List.range n)[i]? with
 |none=>rw [e] at h;cases h
 |some k=>
  rw [e] at h;obtain ⟨hi,hk⟩:=za4 e;simp at hi hk;subst hk;exact ⟨hi,by simpa using h.symm⟩
def JR (lo:Int) (n:Nat):(M9 lo n).length=n:=by simp [M9]
end L3
namespace Bk
open PySem L2 L3
def CM (zd3:Sp3):TS3:=(qy (qH (o3 ix3 (v3 0) (c3 (.int 0))) (gn3 1)) (qy (zb (tb3 (o3 (zg false) (v3 1) (c3 (.str "bits")))) (qL (q0 (qc (o3 (iC qam (λi j=>i*2 ^ j.toNat)) (c3 (.int 1)) (o3 ix3 (v3 0) (c3 (.int 1)))) (qc (o3 (iC qam (λi j=>i*2 ^ j.toNat)) (c3 (.int 1)) (o3 ix3 (v3 0) (c3 (.int 2)))) (qc (o3 (iC qam (λi j=>i*2 ^ j.toNat)) (c3 (.int 1)) (cb3 jW (qc (o3 ix3 (v3 0) (c3 (.int 3))) qk))) qk))))) qw) (qy (zb (tb3 (o3 (zg false) (v3 1) (c3 (.str "table")))) (qL (q0 (qc (cb3 jW (qc (o3 ix3 (v3 0) (c3 (.int 2))) qk)) (qc (cb3 jW (qc (o3 ix3 (o3 ix3 (v3 0) (c3 (.int 2))) (c3 (.int 0))) qk)) (qc (o3 ix3 (v3 0) (c3 (.int 1))) qk))))) qw) (qy (zb (tb3 (o3 (zg false) (v3 1) (c3 (.str "joined")))) (qy (qH (cb3 zd3 (qc (o3 ix3 (v3 0) (c3 (.int 1))) qk)) (qI 3 (ql (gn3 2) (ql (gn3 3) (ql (gn3 4) qJ))))) (qy (qH (cb3 zd3 (qc (o3 ix3 (v3 0) (c3 (.int 2))) qk)) (qI 3 (ql (gn3 5) (ql (gn3 6) (ql (gn3 7) qJ))))) (qL (q0 (qc (o3 (iC UM (·*·)) (v3 2) (v3 5)) (qc (o3 (iC UM (·*·)) (v3 3) (v3 6)) (qc (o3 (iC UM (·*·)) (v3 4) (v3 7)) qk))))))) qw) (qL (q0 (qc (o3 ix3 (v3 0) (c3 (.int 1))) (qc (o3 ix3 (v3 0) (c3 (.int 2))) (qc (o3 ix3 (v3 0) (c3 (.int 3))) qk)))))))))
def U0 (zd3:Sp3):TS3:=(qy (qH (cb3 zd3 (qc (v3 0) qk)) (qI 3 (ql (gn3 2) (ql (gn3 3) (ql (gn3 4) qJ))))) (qL (o3 zh (o3 (iC UM (·*·)) (o3 ix3 (v3 1) (c3 (.int 0))) (v3 3)) (o3 ix3 (v3 1) (c3 (.int 1))))))
def ZJ:TS3:=(qy (qH (o3 (iI Builtin.bitAnd) (v3 0) (v3 1)) (gn3 2)) (qy (qH (c3 (.int 0)) (gn3 3)) (qy (RD (tb3 (o3 (iB λi j=>decide (j<i)) (v3 2) (c3 (.int 0)))) (qy (VJ 3 (iI (·+·)) (o3 (iI Builtin.bitAnd) (v3 2) (c3 (.int 1)))) (qH (o3 (iC (λ_ j=>0<=j) (λi j=>i/2 ^ j.toNat)) (v3 2) (c3 (.int 1))) (gn3 2)))) (qL (o3 (zg false) (o3 (iI Builtin.bitAnd) (v3 3) (c3 (.int 1))) (c3 (.int 1)))))))
def EH (zd1:Sp3):TS3:=(qL (cb3 qiD (qc (lc3 (EW (qc (v3 0) qk)) (qI 2 (ql (gn3 0) (ql (gn3 1) qJ))) (tb3 (cb3 zd1 (qc (v3 2) (qc (v3 1) qk)))) (o3 (iC qam (λi j=>i*2 ^ j.toNat)) (c3 (.int 1)) (v3 0)) [none,none,some 1]) qk)))
def R8:TS3:=(qy (qH (v3 0) (qI 2 (ql (gn3 3) (ql (gn3 4) qJ)))) (qL (q0 (qc (q0 (qc (o3 (iC MM (·/·)) (v3 3) (v3 1)) (qc (o3 (iC MM (·/·)) (v3 4) (v3 2)) qk))) (qc (q0 (qc (o3 (iC (λ_ j=>0<j) (·%·)) (v3 3) (v3 1)) (qc (o3 (iC (λ_ j=>0<j) (·%·)) (v3 4) (v3 2)) qk))) qk)))))
def YJ (zd3:Sp3) (zd2:Sp3) (zb0:Sp3):TS3:=(qy (qH (cb3 zd3 (qc (v3 1) qk)) (qI 3 (ql (gn3 3) (ql (gn3 4) (ql (gn3 5) qJ))))) (qy (qH (cb3 zd2 (qc (v3 2) (qc (v3 3) (qc (v3 4) qk)))) (qI 2 (ql (gn3 6) (ql (gn3 7) qJ)))) (qL (o3 zh (o3 (iC UM (·*·)) (cb3 zb0 (qc (v3 0) (qc (v3 6) qk))) (v3 5)) (cb3 zb0 (qc (v3 1) (qc (v3 7) qk)))))))
def CF (zd0:Sp3) (zb1:Sp3) (zb2:Sp3):TS3:=(qy (qH (o3 ix3 (v3 0) (c3 (.int 0))) (gn3 2)) (qy (zb (tb3 (o3 (zg false) (v3 2) (c3 (.str "skew")))) (qL (o3 (iC (λ_ j=>0<j) (·%·)) (o3 zh (o3 (iC UM (·*·)) (o3 ix3 (v3 0) (c3 (.int 4))) (o3 ix3 (v3 1) (c3 (.int 0)))) (o3 (iC UM (·*·)) (o3 ix3 (v3 0) (c3 (.int 5))) (o3 ix3 (v3 1) (c3 (.int 1))))) (o3 ix3 (v3 0) (c3 (.int 3))))) qw) (qy (zb (tb3 (o3 (zg false) (v3 2) (c3 (.str "rests")))) (qL (o3 (iC (λ_ j=>0<j) (·%·)) (cb3 zd0 (qc (v3 0) (qc (v3 1) qk))) (o3 ix3 (v3 0) (c3 (.int 3))))) qw) (qy (zb (tb3 (o3 (zg false) (v3 2) (c3 (.str "bits")))) (qL (cb3 zb1 (qc (o3 ix3 (v3 0) (c3 (.int 3))) (qc (cb3 zd0 (qc (v3 0) (qc (v3 1) qk))) qk)))) qw) (qy (zb (tb3 (o3 (zg false) (v3 2) (c3 (.str "table")))) (qL (o3 ix3 (o3 ix3 (o3 ix3 (v3 0) (c3 (.int 2))) (o3 ix3 (v3 1) (c3 (.int 0)))) (o3 ix3 (v3 1) (c3 (.int 1))))) qw) (qL (cb3 zb2 (qc (o3 ix3 (v3 0) (c3 (.int 1))) (qc (o3 ix3 (v3 0) (c3 (.int 2))) (qc (v3 1) qk))))))))))
def XX:TS3:=(qy (qH (o3 (iC (λ_ j=>0<j) (·%·)) (o3 (iC UM (·*·)) (o3 zh (o3 zh (o3 (iC (λ_ j=>0<j) (·%·)) (v3 0) (c3 (.int 2147483629))) (o3 (iC UM (·*·)) (o3 (iC UM (·*·)) (v3 1) (v3 1)) (c3 (.int 7919)))) (c3 (.int 11))) (c3 (.int 48271))) (c3 (.int 2147483647))) (gn3 2)) (qL (o3 (iC (λ_ j=>0<j) (·%·)) (o3 (iC UM (·*·)) (v3 2) (v3 2)) (c3 (.int 1999999973)))))
def D6:TS3:=(qy (qH (if3 (tb3 (o3 (iB λi j=>decide (i<j)) (v3 1) (cb3 jW (qc (v3 0) qk)))) (o3 ix3 (v3 0) (v3 1)) (c3 (.int 0))) (gn3 2)) (qy (qH (if3 (tb3 (o3 (iB λi j=>decide (j<=i)) (cb3 YZ (qc (v3 2) qk)) (o3 (iC qam (λi j=>i ^ j.toNat)) (c3 (.int 10)) (c3 (.int 18))))) (cb3 YZ (qc (v3 2) qk)) (c3 (.int 0))) (gn3 3)) (qL (zF (qc (v3 3) (qc (o3 zh (v3 2) (o3 (iC UM (·*·)) (c3 (.int 1000003)) (v3 1))) (qc (c3 (.int 0)) qk)))))))
def DU (zb9:Sp3):TS3:=(qy (qH (o3 zh (o3 ix3 (v3 0) (c3 (.int 2))) (c3 (.int 1))) (zz (v3 0) (c3 (.int 2)))) (qy (zb (tb3 (o3 (iB λi j=>decide (j<i)) (o3 ix3 (v3 0) (c3 (.int 0))) (c3 (.int 0)))) (qy (qH (o3 (iC (λ_ j=>0<j) (·%·)) (o3 ix3 (v3 0) (c3 (.int 0))) (v3 1)) (gn3 2)) (qy (qH (o3 (iC MM (·/·)) (o3 ix3 (v3 0) (c3 (.int 0))) (v3 1)) (zz (v3 0) (c3 (.int 0)))) (qL (v3 2)))) qw) (qL (o3 (iC (λ_ j=>0<j) (·%·)) (o3 (iC MM (·/·)) (cb3 zb9 (qc (cb3 zb9 (qc (o3 ix3 (v3 0) (c3 (.int 1))) (qc (o3 ix3 (v3 0) (c3 (.int 2))) qk))) (qc (o3 zh (o3 ix3 (v3 0) (c3 (.int 2))) (c3 (.int 64))) qk))) (c3 (.int 64))) (v3 1)))))
def EO (zc1:Sp3):TS3:=(qy (qH (o3 ix3 (zF (qc (c3 (.int 6)) (qc (c3 (.int 6)) (qc (c3 (.int 6)) (qc (c3 (.int 16)) qk))))) (cb3 zc1 (qc (v3 0) (qc (c3 (.int 4)) qk)))) (gn3 1)) (qy (Z1 2 3 (qc (o3 zh (c3 (.int 1)) (cb3 zc1 (qc (v3 0) (qc (v3 1) qk)))) (qc (o3 zh (c3 (.int 1)) (cb3 zc1 (qc (v3 0) (qc (v3 1) qk)))) qk))) (qL (o3 ix3 (zF (qc (q0 (qc (v3 2) (qc (v3 3) qk))) (qc (q0 (qc (v3 2) (qc (v3 3) qk))) (qc (q0 (qc (v3 2) (qc (v3 3) qk))) (qc (q0 (qc (v3 2) (qc (v3 2) qk))) qk))))) (cb3 zc1 (qc (v3 0) (qc (c3 (.int 4)) qk)))))))
def XO:TS3:=(qy (RD (tb3 (o3 (iB λi j=>decide (j<i)) (v3 1) (c3 (.int 0)))) (Z1 0 1 (qc (v3 1) (qc (o3 (iC (λ_ j=>0<j) (·%·)) (v3 0) (v3 1)) qk)))) (qL (v3 0)))
def DQ (zc4:Sp3) (zc1:Sp3):TS3:=(qy (qH (cb3 zc4 (qc (v3 0) qk)) (qI 2 (ql (gn3 1) (ql (gn3 2) qJ)))) (qy (qH (o3 zh (c3 (.int 1)) (cb3 zc1 (qc (v3 0) (qc (o3 ix3 (zF (qc (c3 (.int 8)) (qc (c3 (.int 8)) (qc (c3 (.int 17)) (qc (c3 (.int 32)) qk))))) (cb3 zc1 (qc (v3 0) (qc (c3 (.int 4)) qk)))) qk)))) (gn3 3)) (qy (qH (o3 ix3 (zF (qc (v3 3) (qc (c3 (.int 10)) (qc (c3 (.int 100)) qk)))) (cb3 zc1 (qc (v3 0) (qc (c3 (.int 3)) qk)))) (gn3 4)) (qL (q0 (qc (c3 (.str "skew")) (qc (v3 1) (qc (v3 2) (qc (v3 3) (qc (cb3 zc1 (qc (v3 0) (qc (v3 4) qk))) (qc (cb3 zc1 (qc (v3 0) (qc (v3 4) qk))) qk)))))))))))
def UV (zc4:Sp3) (zc1:Sp3) (zb8:Sp3):TS3:=(qy (qH (cb3 zc4 (qc (v3 0) qk)) (qI 2 (ql (gn3 1) (ql (gn3 2) qJ)))) (qy (qH (o3 zh (c3 (.int 1)) (cb3 zc1 (qc (v3 0) (qc (o3 ix3 (zF (qc (c3 (.int 8)) (qc (c3 (.int 17)) (qc (c3 (.int 32)) qk)))) (cb3 zc1 (qc (v3 0) (qc (c3 (.int 3)) qk)))) qk)))) (gn3 3)) (qy (qH (o3 zh (u3 Z7 (o3 (iC MM (·/·)) (o3 (iC UM (·*·)) (u3 Z7 (v3 1)) (v3 2)) (v3 3))) (cb3 zc1 (qc (v3 0) (qc (c3 (.int 4)) qk)))) (gn3 4)) (qy (WF (zO (qc (c3 (.int 32)) qk)) (gn3 5) (zb (tb3 (o3 (iB λi j=>decide (j<i)) (cb3 zb8 (qc (v3 3) (qc (v3 4) qk))) (c3 (.int 1)))) (qH (o3 zh (v3 4) (c3 (.int 1))) (gn3 4)) qw)) (qL (q0 (qc (c3 (.str "rests")) (qc (v3 1) (qc (v3 2) (qc (v3 3) (qc (v3 4) qk)))))))))))
def DW (zc1:Sp3):TS3:=(qy (Z1 2 3 (qc (cb3 zc1 (qc (v3 0) (qc (o3 zh (v3 1) (c3 (.int 1))) qk))) (qc (cb3 zc1 (qc (v3 0) (qc (o3 zh (v3 1) (c3 (.int 1))) qk))) qk))) (qy (qH (lc3 (zO (qc (cb3 zc1 (qc (v3 0) (qc (c3 (.int 6)) qk))) qk)) (gn3 0) tt3 (cb3 zc1 (qc (v3 1) (qc (c3 (.int 256)) qk))) [none,some 0]) (gn3 4)) (qy (qH (o3 ix3 (zF (qc (c3 (.int 1)) (qc (c3 (.int 2)) (qc (c3 (.int 4)) (qc (c3 (.int 8)) (qc (c3 (.int 16)) (qc (c3 (.int 32)) (qc (c3 (.int 64)) (qc (c3 (.int 128)) (qc (c3 (.int 256)) qk)))))))))) (o3 zh (v3 2) (v3 3))) (gn3 5)) (qL (q0 (qc (c3 (.str "bits")) (qc (v3 2) (qc (v3 3) (qc (cb3 qF (qc (lc3 (YG (v3 4)) (gn3 0) tt3 (o3 (iC (λ_ j=>0<j) (·%·)) (v3 0) (v3 1)) [none,some 5]) qk)) qk)))))))))
def EM (zc4:Sp3) (zc1:Sp3):TS3:=(qy (qH (cb3 zc4 (qc (v3 0) qk)) (qI 2 (ql (gn3 1) (ql (gn3 2) qJ)))) (qy (qH (o3 zh (c3 (.int 1)) (cb3 zc1 (qc (v3 0) (qc (o3 ix3 (zF (qc (c3 (.int 4)) (qc (c3 (.int 9)) (qc (c3 (.int 32)) qk)))) (cb3 zc1 (qc (v3 0) (qc (c3 (.int 3)) qk)))) qk)))) (gn3 3)) (qy (qH (lc3 (zO (qc (v3 1) qk)) (gn3 0) tt3 (cb3 qF (qc (lc3 (zO (qc (v3 3) qk)) (gn3 0) tt3 (cb3 zc1 (qc (v3 1) (qc (v3 2) qk))) [none,some 1,some 2]) qk)) [none,some 0,some 3,some 2]) (gn3 4)) (qL (q0 (qc (c3 (.str "table")) (qc (v3 3) (qc (cb3 qF (qc (v3 4) qk)) qk))))))))
def UW (zc1:Sp3) (zb8:Sp3):TS3:=(qy (qH (q0 (qc (o3 zh (c3 (.int 1)) (cb3 zc1 (qc (v3 0) (qc (c3 (.int 4)) qk)))) (qc (o3 zh (c3 (.int 1)) (cb3 zc1 (qc (v3 0) (qc (c3 (.int 4)) qk)))) (qc (o3 zh (c3 (.int 1)) (cb3 zc1 (qc (v3 0) (qc (c3 (.int 5)) qk)))) qk)))) (qI 3 (ql (gn3 1) (ql (gn3 2) (ql (gn3 3) qJ))))) (qy (qH (cb3 zc1 (qc (v3 0) (qc (c3 (.int 4)) qk))) (gn3 4)) (qy (zb (tb3 (o3 (zg false) (v3 4) (c3 (.int 0)))) (qL (q0 (qc (c3 (.str "skew")) (qc (v3 1) (qc (v3 2) (qc (v3 3) (qc (cb3 zc1 (qc (v3 0) (qc (v3 3) qk))) (qc (cb3 zc1 (qc (v3 0) (qc (c3 (.int 9)) qk))) qk)))))))) qw) (qy (zb (tb3 (o3 (zg false) (v3 4) (c3 (.int 1)))) (qy (Z1 5 6 (qc (cb3 zc1 (qc (v3 0) (qc (c3 (.int 3)) qk))) (qc (cb3 zc1 (qc (v3 0) (qc (c3 (.int 3)) qk))) qk))) (qy (qH (lc3 (zO (qc (cb3 zc1 (qc (v3 0) (qc (c3 (.int 3)) qk))) qk)) (gn3 0) tt3 (cb3 zc1 (qc (v3 1) (qc (c3 (.int 16)) qk))) [none,some 0]) (gn3 7)) (qy (qH (o3 ix3 (zF (qc (c3 (.int 1)) (qc (c3 (.int 2)) (qc (c3 (.int 4)) (qc (c3 (.int 8)) (qc (c3 (.int 16)) qk)))))) (o3 zh (v3 5) (v3 6))) (gn3 8)) (qL (q0 (qc (c3 (.str "bits")) (qc (v3 5) (qc (v3 6) (qc (cb3 qF (qc (lc3 (YG (v3 7)) (gn3 0) tt3 (o3 (iC (λ_ j=>0<j) (·%·)) (v3 0) (v3 1)) [none,some 8]) qk)) qk))))))))) qw) (qy (zb (tb3 (o3 (zg false) (v3 4) (c3 (.int 2)))) (qy (qH (o3 zh (u3 Z7 (o3 (iC MM (·/·)) (o3 (iC UM (·*·)) (u3 Z7 (v3 1)) (v3 2)) (v3 3))) (cb3 zc1 (qc (v3 0) (qc (c3 (.int 3)) qk)))) (gn3 9)) (qy (WF (zO (qc (c3 (.int 9)) qk)) (gn3 10) (zb (tb3 (o3 (iB λi j=>decide (j<i)) (cb3 zb8 (qc (v3 3) (qc (v3 9) qk))) (c3 (.int 1)))) (qH (o3 zh (v3 9) (c3 (.int 1))) (gn3 9)) qw)) (qL (q0 (qc (c3 (.str "rests")) (qc (v3 1) (qc (v3 2) (qc (v3 3) (qc (v3 9) qk))))))))) qw) (qy (qH (lc3 (zO (qc (v3 1) qk)) (gn3 0) tt3 (cb3 qF (qc (lc3 (zO (qc (v3 3) qk)) (gn3 0) tt3 (cb3 zc1 (qc (v3 1) (qc (v3 2) qk))) [none,some 1,some 2]) qk)) [none,some 0,some 3,some 2]) (gn3 11)) (qL (q0 (qc (c3 (.str "table")) (qc (v3 3) (qc (cb3 qF (qc (v3 11) qk)) qk)))))))))))
def YA (zc1:Sp3) (zc6:Sp3) (zc2:Sp3) (zb5:Sp3) (zc9:Sp3) (zc7:Sp3):TS3:=(qy (qH (cb3 zc1 (qc (v3 0) (qc (c3 (.int 8)) qk))) (gn3 1)) (qy (zb (tb3 (o3 (iB λi j=>decide (i<j)) (v3 1) (c3 (.int 2)))) (qL (cb3 zc6 (qc (v3 0) qk))) qw) (qy (zb (tb3 (o3 (zg false) (v3 1) (c3 (.int 2)))) (qL (cb3 zc2 (qc (v3 0) qk))) qw) (qy (zb (tb3 (o3 (zg false) (v3 1) (c3 (.int 3)))) (qL (cb3 zb5 (qc (v3 0) (qc (c3 (.int 4)) qk)))) qw) (qy (zb (tb3 (o3 (zg false) (v3 1) (c3 (.int 4)))) (qL (cb3 zc9 (qc (v3 0) qk))) qw) (qy (zb (tb3 (o3 (zg false) (v3 1) (c3 (.int 5)))) (qy (qH (q0 (qc (c3 (.str "joined")) (qc (q0 (qc (c3 (.str "skew")) (qc (o3 zh (c3 (.int 1)) (cb3 zc1 (qc (v3 0) (qc (c3 (.int 2)) qk)))) (qc (c3 (.int 1)) (qc (c3 (.int 2)) (qc (c3 (.int 1)) (qc (c3 (.int 1)) qk))))))) (qc (q0 (qc (c3 (.str "table")) (qc (c3 (.int 2)) (qc (q0 (qc (q0 (qc (c3 (.int 1)) (qc (c3 (.int 0)) qk))) qk)) qk)))) qk)))) (gn3 2)) (qy (qH (zF (qc (q0 (qc (c3 (.str "joined")) (qc (v3 2) (qc (cb3 zc7 (qc (v3 0) qk)) qk)))) (qc (q0 (qc (c3 (.str "joined")) (qc (cb3 zc7 (qc (v3 0) qk)) (qc (v3 2) qk)))) qk))) (gn3 3)) (qy (qR (bm3 QC (v3 3) (qc (q0 (qc (c3 (.str "joined")) (qc (q0 (qc (c3 (.str "skew")) (qc (c3 (.int 8)) (qc (c3 (.int 1)) (qc (c3 (.int 3)) (qc (c3 (.int 1)) (qc (c3 (.int 1)) qk))))))) (qc (q0 (qc (c3 (.str "rests")) (qc (c3 (.int 2)) (qc (c3 (.int 16)) (qc (c3 (.int 5)) (qc (c3 (.int 7)) qk)))))) qk)))) qk))) (qy (qR (bm3 QC (v3 3) (qc (q0 (qc (c3 (.str "joined")) (qc (q0 (qc (c3 (.str "rests")) (qc (c3 (.int 1)) (qc (c3 (.int 8)) (qc (c3 (.int 3)) (qc (c3 (.int 4)) qk)))))) (qc (q0 (qc (c3 (.str "skew")) (qc (c3 (.int 16)) (qc (c3 (.int 2)) (qc (c3 (.int 5)) (qc (c3 (.int 2)) (qc (c3 (.int 1)) qk))))))) qk)))) qk))) (qL (o3 ix3 (v3 3) (cb3 zc1 (qc (v3 0) (qc (c3 (.int 4)) qk))))))))) qw) (qL (q0 (qc (c3 (.str "joined")) (qc (cb3 zc7 (qc (v3 0) qk)) (qc (cb3 zc7 (qc (v3 0) qk)) qk)))))))))))
def CJ:TS3:=(qy (qH (c3 (.bl false)) (gn3 1)) (qy (WF (zO (qc (c3 (.int 9)) qk)) (gn3 2) (qH (o3 (zg true) (v3 1) (o3 (zg false) (o3 (iC (λ_ j=>0<j) (·%·)) (o3 (iC MM (·/·)) (v3 0) (o3 ix3 (zF (qc (c3 (.int 1)) (qc (c3 (.int 2)) (qc (c3 (.int 4)) (qc (c3 (.int 8)) (qc (c3 (.int 16)) (qc (c3 (.int 32)) (qc (c3 (.int 64)) (qc (c3 (.int 128)) (qc (c3 (.int 256)) qk)))))))))) (v3 2))) (c3 (.int 2))) (c3 (.int 1)))) (gn3 1))) (qL (v3 1))))
def DS (zc5:Sp3) (zc0:Sp3) (zb4:Sp3):TS3:=(qy (qH (cb3 zc5 (qc (v3 0) qk)) (qI 3 (ql (gn3 3) (ql (gn3 4) (ql (gn3 5) qJ))))) (qy (zb (tb3 (o3 (zg false) (o3 ix3 (v3 0) (c3 (.int 0))) (c3 (.str "skew")))) (qL (o3 (iC (λ_ j=>0<j) (·%·)) (o3 zh (o3 (iC UM (·*·)) (o3 ix3 (v3 0) (c3 (.int 4))) (v3 1)) (o3 (iC UM (·*·)) (o3 ix3 (v3 0) (c3 (.int 5))) (v3 2))) (v3 5))) qw) (qy (zb (tb3 (o3 (zg false) (o3 ix3 (v3 0) (c3 (.int 0))) (c3 (.str "rests")))) (qL (o3 (iC (λ_ j=>0<j) (·%·)) (o3 zh (o3 (iC UM (·*·)) (v3 1) (v3 4)) (v3 2)) (v3 5))) qw) (qy (zb (tb3 (o3 (zg false) (o3 ix3 (v3 0) (c3 (.int 0))) (c3 (.str "bits")))) (qy (qH (lc3 (EW (qc (o3 ix3 (v3 0) (c3 (.int 3))) qk)) (qI 2 (ql (gn3 0) (ql (gn3 1) qJ))) (tb3 (cb3 zc0 (qc (o3 (iI Builtin.bitAnd) (o3 zh (o3 (iC UM (·*·)) (v3 3) (v3 4)) (v3 2)) (v3 1)) qk))) (o3 ix3 (zF (qc (c3 (.int 1)) (qc (c3 (.int 2)) (qc (c3 (.int 4)) (qc (c3 (.int 8)) (qc (c3 (.int 16)) qk)))))) (v3 0)) [none,none,some 2,some 1,some 4]) (gn3 6)) (qL (cb3 qiD (qc (v3 6) qk)))) qw) (qy (zb (tb3 (o3 (zg false) (o3 ix3 (v3 0) (c3 (.int 0))) (c3 (.str "table")))) (qL (o3 ix3 (o3 ix3 (o3 ix3 (v3 0) (c3 (.int 2))) (v3 1)) (v3 2))) qw) (qy (qH (cb3 zc5 (qc (o3 ix3 (v3 0) (c3 (.int 2))) qk)) (qI 3 (ql (gn3 7) (ql (gn3 8) (ql (gn3 9) qJ))))) (qL (o3 zh (o3 (iC UM (·*·)) (cb3 zb4 (qc (o3 ix3 (v3 0) (c3 (.int 1))) (qc (o3 (iC MM (·/·)) (v3 1) (v3 7)) (qc (o3 (iC MM (·/·)) (v3 2) (v3 8)) qk)))) (v3 9)) (cb3 zb4 (qc (o3 ix3 (v3 0) (c3 (.int 2))) (qc (o3 (iC (λ_ j=>0<j) (·%·)) (v3 1) (v3 7)) (qc (o3 (iC (λ_ j=>0<j) (·%·)) (v3 2) (v3 8)) qk))))))))))))
def RM (zc3:Sp3):TS3:=(qy (zb (tb3 (QT (λt=>jp t "list" || jp t "tuple") (v3 1))) (qy (zb (or3 (tb3 (o3 (zg true) (QT (λt=>jp t "list") (v3 0)) (QT (λt=>jp t "list") (v3 1)))) (tb3 (o3 (zg true) (QT (λt=>jp t "tuple") (v3 0)) (QT (λt=>jp t "tuple") (v3 1))))) (qL (c3 (.bl false))) qw) (qL (zy (o3 (zg false) (cb3 jW (qc (v3 0) qk)) (cb3 jW (qc (v3 1) qk))) (cb3 YI (qc (lc3 (qaM (qc (v3 0) (qc (v3 1) qk))) (qI 2 (ql (gn3 0) (ql (gn3 1) qJ))) tt3 (cb3 zc3 (qc (v3 0) (qc (v3 1) qk))) [none,none]) qk))))) qw) (qy (zb (or3 (tb3 (o3 (J5 false) (v3 1) (c3 .non))) (tb3 (QT (λt=>jp t "str" || jp t "bool") (v3 1)))) (qL (zy (o3 (zg false) (v3 0) (v3 1)) (zy (o3 (zg false) (QT (λt=>jp t "bool") (v3 0)) (QT (λt=>jp t "bool") (v3 1))) (o3 (zg false) (o3 (J5 false) (v3 0) (c3 .non)) (o3 (J5 false) (v3 1) (c3 .non)))))) qw) (qL (zy (QT (λt=>jp t "int") (v3 0)) (zy (ja (QT (λt=>jp t "bool") (v3 0))) (o3 (zg false) (v3 0) (v3 1)))))))
inductive Dl where
 |skew (r c b x y:Int)
 |rests (r c b p:Int)
 |bits (h l:Nat) (ms:List Int)
 |table (b:Int) (cells:List (List Int))
 |joined (d e:Dl)
def M1 (r:List Int):T:=.tup (r.map T.int)
def Dl.t:Dl->T
 |.skew r c b x y=>.tup [.str "skew",.int r,.int c,.int b,.int x,.int y]
 |.rests r c b p=>.tup [.str "rests",.int r,.int c,.int b,.int p]
 |.bits h l ms=>.tup [.str "bits",.int h,.int l,.tup (ms.map T.int)]
 |.table b cells=>.tup [.str "table",.int b,.tup (cells.map M1)]
 |.joined d e=>.tup [.str "joined",d.t,e.t]
def Dl.R:Dl->Int
 |.skew r _ _ _ _=>r
 |.rests r _ _ _=>r
 |.bits h _ _=>2 ^ h
 |.table _ cells=>cells.length
 |.joined d e=>d.R*e.R
def Dl.C:Dl->Int
 |.skew _ c _ _ _=>c
 |.rests _ c _ _=>c
 |.bits _ l _=>2 ^ l
 |.table _ cells=>((cells[0]?).getD []).length
 |.joined d e=>d.C*e.C
def Dl.B:Dl->Int
 |.skew _ _ b _ _=>b
 |.rests _ _ b _=>b
 |.bits _ _ ms=>2 ^ ms.length
 |.table b _=>b
 |.joined d e=>d.B*e.B
def pop:Nat->Nat->Nat
 |0,_=>0
 |k+1,n=>n%2+pop k (n/2)
def qar (n m:Int):Bool:=pop 64 (Builtin.bitAnd n m).toNat%2==1
def YN (n:Int):Nat->List Int->Int
 |_,[]=>0
 |t,m::ms=>(if qar n m then 2 ^ t else 0)+YN n (t+1) ms
def DA (ms:List Int) (n:Int):Int:=YN n 0 ms
def Dl.bank:Dl->Int->Int->Int
 |.skew _ _ b x y,i,j=>(x*i+y*j)%b
 |.rests _ c b _,i,j=>(i*c+j)%b
 |.bits _ l ms,i,j=>DA ms (i*2 ^ l+j)
 |.table _ cells,i,j=>(((cells[i.toNat]?).getD [])[j.toNat]?).getD 0
 |.joined d e,i,j=>d.bank (i/e.R) (j/e.C)*e.B+e.bank (i%e.R) (j%e.C)
def Dl.Ok:Dl->Prop
 |.skew r c b x y=>1<=r/\r<=60/\1<=c/\c<=60/\1<=b/\b<=1000/\0<=x/\x<=1000/\0<=y/\y<=1000
 |.rests r c b p=>1<=r/\r<=60/\1<=c/\c<=60/\1<=b/\b<=1000/\1<=p/\p<=9999/\Int.gcd b p=1/\r*c<=b*p
 |.bits h l ms=>h<=4/\l<=4/\ms.length<=5/\∀ m∈ms,0<=m/\m<2 ^ (h+l)
 |.table b cells=>1<=b/\b<=1000/\1<=cells.length/\cells.length<=60/\∃ c,1<=c/\c<=60/\∀ row∈cells,row.length=c/\∀ x∈row,0<=x/\x<b
 |.joined d e=>d.Ok/\e.Ok/\d.R*e.R<=4096/\d.C*e.C<=4096/\d.B*e.B<=4096
def Dl.dep:Dl->Nat
 |.joined d e=>max d.dep e.dep+1
 |_=>0
def p2 (n:Nat):((2:Int) ^ n)=((2 ^ n:Nat):Int):=by simp
def EQ (n:Nat):(1:Int)<=2 ^ n:=by
 rw [p2];have:=Nat.one_le_two_pow (n:=n);omega
def EV {n k:Nat} (h:n<=k):(2:Int) ^ n<=2 ^ k:=by
 rw [p2,p2];have:=Nat.pow_le_pow_right (n:=2) (by omega) h;omega
structure Lims (d:Dl):Prop where
 r1:1<=d.R
 r2:d.R<=4096
 c1:1<=d.C
 c2:d.C<=4096
 b1:1<=d.B
 b2:d.B<=4096
def UJ {a b:Int} (h1:1<=a) (h2:1<=b):1<=a*b:=by
 have:=Int.mul_le_mul (a:=1) (b:=1) (c:=a) (d:=b) h1 h2 (by omega) (by omega);omega
def Dl.lims:∀ {d:Dl},d.Ok->Lims d
 |.skew r c b x y,⟨h1,h2,h3,h4,h5,h6,_⟩=>⟨h1,by simp [Dl.R];omega,h3,by simp [Dl.C];omega,h5,by simp [Dl.B];omega⟩
 |.rests r c b x,⟨h1,h2,h3,h4,h5,h6,_⟩=>⟨h1,by simp [Dl.R];omega,h3,by simp [Dl.C];omega,h5,by simp [Dl.B];omega⟩
 |.bits h l ms,⟨h1,h2,h3,_⟩=>by
  have e1:=EV h1;have e2:=EV h2;have e3:=EV h3;refine ⟨EQ _,?_,EQ _,?_,EQ _,?_⟩<;>simp [Dl.R,Dl.C,Dl.B]<;>omega
 |.table b cells,⟨h1,h2,h3,h4,c,h5,h6,h7⟩=>by
  have e0:cells[0]?=some cells[0]:=y9 (by omega);have e1:=(h7 cells[0] (za0 _)).1;have e2:(Dl.table b cells).C=c:=by simp [Dl.C,e0,e1]
  exact ⟨by simp [Dl.R];omega,by simp [Dl.R];omega,by rw [e2];omega,by rw [e2];omega,h1,by simp [Dl.B];omega⟩
 |.joined d e,⟨h1,h2,h3,h4,h5⟩=>by
  have a:=Dl.lims h1;have b:=Dl.lims h2;exact ⟨UJ a.r1 b.r1,h3,UJ a.c1 b.c1,h4,UJ a.b1 b.b1,h5⟩
structure Inn (d:Dl) (i j:Int):Prop where
 i1:0<=i
 i2:i<d.R
 j1:0<=j
 j2:j<d.C
def W6 (d:Dl):T:=.tup [.int d.R,.int d.C,.int d.B]
def wdT (i j:Int):T:=.tup [.int i,.int j]
def jk:Nat->Sp3
 |0=>D9
 |n+1=>λts G q=>∃ d:Dl,ts=[d.t]/\d.dep<=n/\d.Ok/\q (W6 d) G
def WM (n:Nat):Sp3:=λts G q=>∃ (d:Dl) (i j:Int),ts=[d.t,wdT i j]/\d.dep<=n/\d.Ok/\q (.int (i*d.C+j)) G
def VC:Sp3:=λts G q=>∃ (n m:Int),ts=[.int n,.int m]/\0<=n/\0<=m/\m<2 ^ 64/\q (.bl (qar n m)) G
def WV:Sp3:=λts G q=>∃ (ms:List Int) (n:Int),ts=[.tup (ms.map T.int),.int n]/\ms.length<=30/\(∀ m∈ms,0<=m/\m<2 ^ 64)/\0<=n/\∀ G',Ex G G'->q (.int (DA ms n)) G'
def J0:Nat->Sp3
 |0=>D9
 |n+1=>λts G q=>∃ (d:Dl) (i j:Int),ts=[d.t,wdT i j]/\d.dep<=n/\d.Ok/\Inn d i j/\∀ G',Ex G G'->q (.int (d.bank i j)) G'
def K2:Sp3:=λts G q=>∃ (i j r c:Int),ts=[wdT i j,.int r,.int c]/\(0<r/\r<1000000)/\(0<c/\c<1000000)/\q (.tup [wdT (i/r) (j/c),wdT (i%r) (j%c)]) G
def UU (n:Nat):Sp3:=λts G q=>∃ (d e:Dl) (i j:Int),ts=[d.t,e.t,wdT i j]/\(Dl.joined d e).dep<=n/\(Dl.joined d e).Ok/\Inn (.joined d e) i j/\∀ G',Ex G G'->q (.int ((Dl.joined d e).bank i j)) G'
def qai (n:Nat):Sp3:=λts G q=>∃ (d:Dl) (i j:Int),ts=[d.t,wdT i j]/\d.dep<=n/\d.Ok/\Inn d i j/\∀ G',Ex G G'->q (.int (d.bank i j)) G'
abbrev C0 (q:Q3):Ends3:={ nx:=λ_ G'=>q .non G',rt:=q }
def qoa {j:Nat} (h:j<=1000):qam 1 (j:Int):=⟨by omega,by omega,by decide⟩
def ju {A B:TS3} {d:Ends3} {τ:St3} {G:Gp} (h:∀ nx,nx=B d->A { d with nx:=nx } τ G):qy A B d τ G:=h _ rfl
def zK {s l:Str} {i:Nat} {R S:TS3} {d:Ends3} {τ:St3} {G:Gp} (hτ:τ[i]?=some (some (T.str s))):qy (zb (tb3 (o3 (zg false) (v3 i) (c3 (.str l)))) R qw) S d τ G=(if s=l then R { d with nx:=S d } τ G else S d τ G):=by
 simp only [qy,zb,tb3,o3,v3,hτ,c3,zg,qU,qw];by_cases e:s=l<;>simp [e]
def WL (n:Nat):∀ ts G q,jk (n+1) ts G q->ts.length=1/\CM (jk n) (C0 q) (qm ["dealing","kind","rows","columns","banks","other_rows","other_columns","other_banks"] ts) G:=by
 rintro ts G q ⟨d,rfl,hd,ok,h⟩;refine ⟨rfl,?_⟩;unfold CM;refine ju λnx q1=>?_;cases d with
 |skew r c b x y=>
  show nx [some (Dl.skew r c b x y).t,some (.str "skew"),none,none,none,none,none,none] G;rw [q1,zK rfl,if_neg (by decide),zK rfl,if_neg (by decide),zK rfl,if_neg (by decide)];simp [Dl.t,qy,qH,gn3,qL,jn,zb,qR,YS,qw,v3,c3,o3,u3,Z7,L3.ixT,L3.ixR,zh,iI,iC,iB,zg,qU,J5,tb3,UF,or3,JS,zy,VF,ja,if3,ch3,cb3,qc,qk,QT,tyT,jp,q0,zF,VD,np3,sp3,qI,ql,qJ,zz,J4,Z1,qm,bm3,QC,J6,jW,YZ,VG,UR,UO,qF,jm,YI,UL,VJ,L2.atI,ixN,YX,HT.sIx,getL,in3,zr,eqF,gu,y8,getElem?_cons_zero,getElem?_cons_succ];exact h
 |rests r c b x=>
  show nx [some (Dl.rests r c b x).t,some (.str "rests"),none,none,none,none,none,none] G;rw [q1,zK rfl,if_neg (by decide),zK rfl,if_neg (by decide),zK rfl,if_neg (by decide)];simp [Dl.t,qy,qH,gn3,qL,jn,zb,qR,YS,qw,v3,c3,o3,u3,Z7,L3.ixT,L3.ixR,zh,iI,iC,iB,zg,qU,J5,tb3,UF,or3,JS,zy,VF,ja,if3,ch3,cb3,qc,qk,QT,tyT,jp,q0,zF,VD,np3,sp3,qI,ql,qJ,zz,J4,Z1,qm,bm3,QC,J6,jW,YZ,VG,UR,UO,qF,jm,YI,UL,VJ,L2.atI,ixN,YX,HT.sIx,getL,in3,zr,eqF,gu,y8,getElem?_cons_zero,getElem?_cons_succ];exact h
 |bits hh l ms=>
  obtain ⟨k1,k2,k3,_⟩:=ok;show nx [some (Dl.bits hh l ms).t,some (.str "bits"),none,none,none,none,none,none] G;rw [q1,zK rfl,if_pos rfl];simp [Dl.t,qy,qH,gn3,qL,jn,zb,qR,YS,qw,v3,c3,o3,u3,Z7,L3.ixT,L3.ixR,zh,iI,iC,iB,zg,qU,J5,tb3,UF,or3,JS,zy,VF,ja,if3,ch3,cb3,qc,qk,QT,tyT,jp,q0,zF,VD,np3,sp3,qI,ql,qJ,zz,J4,Z1,qm,bm3,QC,J6,jW,YZ,VG,UR,UO,qF,jm,YI,UL,VJ,L2.atI,ixN,YX,HT.sIx,getL,in3,zr,eqF,gu,y8,getElem?_cons_zero,getElem?_cons_succ];exact ⟨qoa (by omega),qoa (by omega),qoa (by omega),h⟩
 |table b cells=>
  have L:=Dl.lims ok;obtain ⟨k1,k2,k3,k4,c,k5,k6,k7⟩:=ok;cases cells with
  |nil=>simp at k3
  |cons row cells=>
   show nx [some (Dl.table b (row::cells)).t,some (.str "table"),none,none,none,none,none,none] G;rw [q1,zK rfl,if_neg (by decide),zK rfl,if_pos rfl];simp [Dl.t,M1,qy,qH,gn3,qL,jn,zb,qR,YS,qw,v3,c3,o3,u3,Z7,L3.ixT,L3.ixR,zh,iI,iC,iB,zg,qU,J5,tb3,UF,or3,JS,zy,VF,ja,if3,ch3,cb3,qc,qk,QT,tyT,jp,q0,zF,VD,np3,sp3,qI,ql,qJ,zz,J4,Z1,qm,bm3,QC,J6,jW,YZ,VG,UR,UO,qF,jm,YI,UL,VJ,L2.atI,ixN,YX,HT.sIx,getL,in3,zr,eqF,gu,y8,getElem?_cons_zero,getElem?_cons_succ];simpa [W6,Dl.R,Dl.C,Dl.B] using h
 |joined d e=>
  have Ld:=Dl.lims ok.1;have Le:=Dl.lims ok.2.1;have:1<=n:=by simp [Dl.dep] at hd;omega
  obtain ⟨m,rfl⟩:∃ m,n=m+1:=⟨n-1,by omega⟩
  show nx [some (Dl.joined d e).t,some (.str "joined"),none,none,none,none,none,none] G;rw [q1,zK rfl,if_neg (by decide),zK rfl,if_neg (by decide),zK rfl,if_pos rfl];simp [Dl.t,qy,qH,gn3,qL,jn,zb,qR,YS,qw,v3,c3,o3,u3,Z7,L3.ixT,L3.ixR,zh,iI,iC,iB,zg,qU,J5,tb3,UF,or3,JS,zy,VF,ja,if3,ch3,cb3,qc,qk,QT,tyT,jp,q0,zF,VD,np3,sp3,qI,ql,qJ,zz,J4,Z1,qm,bm3,QC,J6,jW,YZ,VG,UR,UO,qF,jm,YI,UL,VJ,L2.atI,ixN,YX,HT.sIx,getL,in3,zr,eqF,gu,y8,getElem?_cons_zero,getElem?_cons_succ];refine ⟨d,rfl,by simp [Dl.dep] at hd;omega,ok.1,?_⟩;simp [W6];refine ⟨e,rfl,by simp [Dl.dep] at hd;omega,ok.2.1,?_⟩;have e1:=Le.r1;have e2:=Le.r2;have e3:=Le.c1;have e4:=Le.c2;have e5:=Le.b1;have e6:=Le.b2;simp [W6];exact ⟨cm (by omega) (by omega),cm (by omega) (by omega),cm (by omega) (by omega),h⟩
def XE:∀ k,pop k 0=0
 |0=>rfl
 |k+1=>by simp [pop,XE k]
def XF:∀ (k n:Nat),n<2 ^ k->pop (k+1) n=pop k n
 |0,n,h=>by simp at h;subst h;simp [pop]
 |k+1,n,h=>by
  rw [pop,XF k (n/2) (by rw [Nat.pow_succ] at h;omega)];rfl
def VW (n:Nat):∀ ts G q,WM n ts G q->ts.length=2/\U0 (jk (n+1)) (C0 q) (qm ["dealing","word","rows","columns","banks"] ts) G:=by
 rintro ts G q ⟨d,i,j,rfl,hd,ok,h⟩;refine ⟨rfl,?_⟩;have L:=Dl.lims ok;simp [U0,qy,qH,gn3,qL,jn,zb,qR,YS,qw,v3,c3,o3,u3,Z7,L3.ixT,L3.ixR,zh,iI,iC,iB,zg,qU,J5,tb3,UF,or3,JS,zy,VF,ja,if3,ch3,cb3,qc,qk,QT,tyT,jp,q0,zF,VD,np3,sp3,qI,ql,qJ,zz,J4,Z1,qm,bm3,QC,J6,jW,YZ,VG,UR,UO,qF,jm,YI,UL,VJ,L2.atI,ixN,YX,HT.sIx,getL,in3,zr,eqF,gu,y8,getElem?_cons_zero,getElem?_cons_succ];refine ⟨d,rfl,hd,ok,?_⟩;simp [W6,wdT,qy,qH,gn3,qL,jn,zb,qR,YS,qw,v3,c3,o3,u3,Z7,L3.ixT,L3.ixR,zh,iI,iC,iB,zg,qU,J5,tb3,UF,or3,JS,zy,VF,ja,if3,ch3,cb3,qc,qk,QT,tyT,jp,q0,zF,VD,np3,sp3,qI,ql,qJ,zz,J4,Z1,qm,bm3,QC,J6,jW,YZ,VG,UR,UO,qF,jm,YI,UL,VJ,L2.atI,ixN,YX,HT.sIx,getL,in3,zr,eqF,gu,y8,getElem?_cons_zero,getElem?_cons_succ];exact ⟨cm (by have:=L.c1;omega) (by have:=L.c2;omega),h⟩
def W9:∀ ts G q,VC ts G q->ts.length=2/\ZJ (C0 q) (qm ["number","mask","common","many"] ts) G:=by
 rintro ts G q ⟨n,m,rfl,hn,hm,hm2,h⟩;refine ⟨rfl,?_⟩;have hr:=PyProof.Rows.bitAnd_range n hm;simp [ZJ,qy,qH,gn3,qL,jn,zb,qR,YS,qw,v3,c3,o3,u3,Z7,L3.ixT,L3.ixR,zh,iI,iC,iB,zg,qU,J5,tb3,UF,or3,JS,zy,VF,ja,if3,ch3,cb3,qc,qk,QT,tyT,jp,q0,zF,VD,np3,sp3,qI,ql,qJ,zz,J4,Z1,qm,bm3,QC,J6,jW,YZ,VG,UR,UO,qF,jm,YI,UL,VJ,L2.atI,ixN,YX,HT.sIx,getL,in3,zr,eqF,gu,y8,getElem?_cons_zero,getElem?_cons_succ,RD];refine ⟨λk τ G'=>G'=G/\∃ c y:Nat,τ=[some (.int n),some (.int m),some (.int (c:Int)),some (.int (y:Int))]/\c<2 ^ k/\y+pop k c=pop 64 (Builtin.bitAnd n m).toNat,
  ⟨64,rfl,(Builtin.bitAnd n m).toNat,0,by simp;omega,by omega,by simp⟩,?_⟩
 rintro k τ G' ⟨rfl,c,y,rfl,hc,e⟩;simp [PyProof.Rows.bitAnd_m1];by_cases h0:0<c
 ·have hk:1<=k:=by
   rcases Nat.eq_zero_or_pos k with z|z
   ·subst z;simp at hc;omega
   ·exact z
  obtain ⟨k',rfl⟩:∃ k',k=k'+1:=⟨k-1,by omega⟩
  simp [h0];refine ⟨λτ' G''=>G''=G'/\∃ c y:Nat,τ'=[some (.int n),some (.int m),some (.int (c:Int)),some (.int (y:Int))]/\c<2 ^ k'/\y+pop k' c=pop 64 (Builtin.bitAnd n m).toNat,?_,rfl,c/2,y+c%2,?_,?_,?_⟩
  ·rintro τ' G'' ⟨e1,c',y',e2,e3,e4⟩;exact ⟨k',by omega,e1,c',y',e2,e3,e4⟩
  ·simp
  ·rw [Nat.pow_succ] at hc;omega
  ·rw [pop] at e;omega
 ·have hc0:c=0:=by omega
  subst hc0;simp;rw [XE] at e;have e':(qar n m)=decide ((y:Int)%2=1):=by
   unfold qar;rw [← e,Nat.add_zero];by_cases hy:y%2=1
   ·have:(y:Int)%2=1:=by omega
    simp [hy,this]
   ·have:¬ (y:Int)%2=1:=by omega
    simp [hy,this]
  rw [← e'];exact h
def zJ (n:Int):Nat->List Int->List Int
 |_,[]=>[]
 |t,m::ms=>(if qar n m then [2 ^ t] else [])++zJ n (t+1) ms
def YF (n:Int):∀ (t:Nat) (xs ys:List Int),zJ n t (xs++ys)=zJ n t xs++zJ n (t+xs.length) ys
 |_,[],_=>by simp [zJ]
 |t,x::xs,ys=>by simp [zJ,YF n (t+1) xs ys,Nat.add_assoc,Nat.add_comm 1]
def UG (n:Int):∀ (t:Nat) (ms:List Int),(zJ n t ms).sum=YN n t ms
 |_,[]=>rfl
 |t,m::ms=>by
  simp only [zJ,YN,List.sum_append,UG n (t+1) ms];split<;>simp
def Q9 (n:Int):∀ (t:Nat) (ms:List Int),(zJ n t ms).length<=ms.length
 |_,[]=>by simp [zJ]
 |t,m::ms=>by
  have:=Q9 n (t+1) ms;simp only [zJ,length_append,length_cons];split<;>simp<;>omega
def UK (n:Int):∀ (t:Nat) (ms:List Int) (x:Int),x∈zJ n t ms->∃ k,k<t+ms.length/\x=2 ^ k
 |_,[],_,h=>by simp [zJ] at h
 |t,m::ms,x,h=>by
  simp only [zJ,List.mem_append] at h;rcases h with h|h
  ·split at h
   ·simp at h;exact ⟨t,by simp,h⟩
   ·simp at h
  ·obtain ⟨k,h1,h2⟩:=UK n (t+1) ms x h;exact ⟨k,by simp;omega,h2⟩
def KZ:∀ ts G q,WV ts G q->ts.length=2/\EH VC (C0 q) (qm ["masks","number"] ts) G:=by
 rintro ts G q ⟨ms,n,rfl,hl,hm,hn,h⟩;refine ⟨rfl,?_⟩;simp [EH,lc3,EW,jP,cap,qy,qH,gn3,qL,jn,zb,qR,YS,qw,v3,c3,o3,u3,Z7,L3.ixT,L3.ixR,zh,iI,iC,iB,zg,qU,J5,tb3,UF,or3,JS,zy,VF,ja,if3,ch3,cb3,qc,qk,QT,tyT,jp,q0,zF,VD,np3,sp3,qI,ql,qJ,zz,J4,Z1,qm,bm3,QC,J6,jW,YZ,VG,UR,UO,qF,jm,YI,UL,VJ,L2.atI,ixN,YX,HT.sIx,getL,in3,zr,eqF,gu,y8,getElem?_cons_zero,getElem?_cons_succ];refine DH _ (λi ys τ G'=>G'=G/\ys=(zJ n 0 (ms.take i)).map T.int/\∃ x0 x1,τ=[x0,x1,some (.int n)]) ⟨rfl,by simp [zJ],none,none,rfl⟩ (λi ys τ G' _ hp=>by simp [jP]) ?_ ?_
 ·rintro i z ys τ G' R hz ⟨rfl,rfl,x0,x1,rfl⟩ hR;obtain ⟨a,ha,rfl⟩:=DL hz;rw [getElem?_map] at ha;cases e:ms[i]? with
  |none=>rw [e] at ha;cases ha
  |some m=>
   rw [e] at ha;have:a=T.int m:=by simpa using ha.symm
   subst this;obtain ⟨hi,hm'⟩:=za4 e;have mm:m∈ms:=by rw [← hm'];exact za0 hi
   simp [qy,qH,gn3,qL,jn,zb,qR,YS,qw,v3,c3,o3,u3,Z7,L3.ixT,L3.ixR,zh,iI,iC,iB,zg,qU,J5,tb3,UF,or3,JS,zy,VF,ja,if3,ch3,cb3,qc,qk,QT,tyT,jp,q0,zF,VD,np3,sp3,qI,ql,qJ,zz,J4,Z1,qm,bm3,QC,J6,jW,YZ,VG,UR,UO,qF,jm,YI,UL,VJ,L2.atI,ixN,YX,HT.sIx,getL,in3,zr,eqF,gu,y8,getElem?_cons_zero,getElem?_cons_succ];refine ⟨n,m,rfl,hn,(hm m mm).1,(hm m mm).2,?_⟩;have tk:ms.take (i+1)=ms.take i++[m]:=by rw [List.take_succ_eq_append_getElem hi,hm']
   have lt:(ms.take i).length=i:=by rw [List.length_take];omega
   have st:zJ n 0 (ms.take (i+1))=zJ n 0 (ms.take i)++(if qar n m then [2 ^ i] else []):=by
    rw [tk,YF,lt];simp [zJ]
   have cl:=Q9 n 0 (ms.take i);cases ho:qar n m with
   |true=>
    simp;refine ⟨qoa (by omega),by omega,hR _ _ _ ⟨rfl,?_,_,_,rfl⟩⟩;rw [st,ho];simp
   |false=>
    simp;refine hR _ _ _ ⟨rfl,?_,_,_,rfl⟩;rw [st,ho];simp
 ·rintro ys τ G' ⟨rfl,rfl,x0,x1,rfl⟩ p hp;rw [CS,length_map,List.take_length];simp [qiD,getL,qv,XN];refine ⟨⟨by have:=Q9 n 0 ms;omega,λx hx=>?_⟩,?_⟩
  ·obtain ⟨k,h1,rfl⟩:=UK n 0 ms x hx;have:=EQ k;have:=EV (n:=k) (k:=30) (by omega);omega
  ·rw [UG];exact h _ (j4 hp)
def M2 {h l:Nat} {i j:Int} (i1:0<=i) (j1:0<=j):0<=i*2 ^ l+j:=by
 have:=Int.mul_nonneg i1 (show (0:Int)<=2 ^ l by have:=EQ l;omega);omega
def WG (n:Nat):∀ ts G q,J0 (n+1) ts G q->ts.length=2/\CF (WM n) WV (UU n) (C0 q) (qm ["dealing","word","kind"] ts) G:=by
 rintro ts G q ⟨d,i,j,rfl,hd,ok,I,h⟩;refine ⟨rfl,?_⟩;unfold CF;refine ju λnx q1=>?_;have h:=h;have i1:=I.i1;have i2:=I.i2;have j1:=I.j1;have j2:=I.j2;have L:=Dl.lims ok;have r2:=L.r2;have c2:=L.c2;cases d with
 |skew r c b x y=>
  have k:=ok;obtain ⟨k1,k2,k3,k4,k5,k6,k7,k8,k9,k10⟩:=ok;show nx [some (Dl.skew r c b x y).t,some (wdT i j),some (.str "skew")] G;rw [q1,zK rfl,if_pos rfl];simp [Dl.t,wdT,qy,qH,gn3,qL,jn,zb,qR,YS,qw,v3,c3,o3,u3,Z7,L3.ixT,L3.ixR,zh,iI,iC,iB,zg,qU,J5,tb3,UF,or3,JS,zy,VF,ja,if3,ch3,cb3,qc,qk,QT,tyT,jp,q0,zF,VD,np3,sp3,qI,ql,qJ,zz,J4,Z1,qm,bm3,QC,J6,jW,YZ,VG,UR,UO,qF,jm,YI,UL,VJ,L2.atI,ixN,YX,HT.sIx,getL,in3,zr,eqF,gu,y8,getElem?_cons_zero,getElem?_cons_succ];exact ⟨cm' (by omega) (by omega),cm' (by omega) (by omega),by omega,h _ Ex.refl⟩
 |rests r c b x=>
  have k:=ok;obtain ⟨k1,k2,k3,k4,k5,k6,k7,k8,k9⟩:=ok;show nx [some (Dl.rests r c b x).t,some (wdT i j),some (.str "rests")] G;rw [q1,zK rfl,if_neg (by decide),zK rfl,if_pos rfl];simp [Dl.t,wdT,qy,qH,gn3,qL,jn,zb,qR,YS,qw,v3,c3,o3,u3,Z7,L3.ixT,L3.ixR,zh,iI,iC,iB,zg,qU,J5,tb3,UF,or3,JS,zy,VF,ja,if3,ch3,cb3,qc,qk,QT,tyT,jp,q0,zF,VD,np3,sp3,qI,ql,qJ,zz,J4,Z1,qm,bm3,QC,J6,jW,YZ,VG,UR,UO,qF,jm,YI,UL,VJ,L2.atI,ixN,YX,HT.sIx,getL,in3,zr,eqF,gu,y8,getElem?_cons_zero,getElem?_cons_succ];refine ⟨.rests r c b x,i,j,rfl,hd,k,?_⟩;simp;exact ⟨by omega,h _ Ex.refl⟩
 |bits hh l ms=>
  have k:=ok;obtain ⟨k1,k2,k3,k4⟩:=ok;show nx [some (Dl.bits hh l ms).t,some (wdT i j),some (.str "bits")] G;rw [q1,zK rfl,if_neg (by decide),zK rfl,if_neg (by decide),zK rfl,if_pos rfl];simp [Dl.t,wdT,qy,qH,gn3,qL,jn,zb,qR,YS,qw,v3,c3,o3,u3,Z7,L3.ixT,L3.ixR,zh,iI,iC,iB,zg,qU,J5,tb3,UF,or3,JS,zy,VF,ja,if3,ch3,cb3,qc,qk,QT,tyT,jp,q0,zF,VD,np3,sp3,qI,ql,qJ,zz,J4,Z1,qm,bm3,QC,J6,jW,YZ,VG,UR,UO,qF,jm,YI,UL,VJ,L2.atI,ixN,YX,HT.sIx,getL,in3,zr,eqF,gu,y8,getElem?_cons_zero,getElem?_cons_succ];refine ⟨.bits hh l ms,i,j,rfl,hd,k,?_⟩;refine ⟨ms,_,rfl,by omega,λm hm=>⟨(k4 m hm).1,?_⟩,M2 (h:=hh) i1 j1,λG' E=>h G' E⟩;have:=(k4 m hm).2;have:=EV (n:=hh+l) (k:=10) (by omega);omega
 |table b cells=>
  obtain ⟨k1,k2,k3,k4,c,k5,k6,k7⟩:=ok;have e0:cells[0]?=some cells[0]:=y9 (by omega);have eC:(Dl.table b cells).C=c:=by simp [Dl.C,e0,(k7 cells[0] (za0 _)).1]
  have eR:(Dl.table b cells).R=cells.length:=rfl;rw [eR] at i2;rw [eC] at j2;have hi:i.toNat<cells.length:=by omega
  have hrow:=k7 cells[i.toNat] (za0 hi);have hj:j.toNat<cells[i.toNat].length:=by rw [hrow.1];omega
  show nx [some (Dl.table b cells).t,some (wdT i j),some (.str "table")] G;rw [q1,zK rfl,if_neg (by decide),zK rfl,if_neg (by decide),zK rfl,if_neg (by decide),zK rfl,if_pos rfl];simp [Dl.t,wdT,qy,qH,gn3,qL,jn,zb,qR,YS,qw,v3,c3,o3,u3,Z7,L3.ixT,L3.ixR,zh,iI,iC,iB,zg,qU,J5,tb3,UF,or3,JS,zy,VF,ja,if3,ch3,cb3,qc,qk,QT,tyT,jp,q0,zF,VD,np3,sp3,qI,ql,qJ,zz,J4,Z1,qm,bm3,QC,J6,jW,YZ,VG,UR,UO,qF,jm,YI,UL,VJ,YX,HT.sIx,getL,in3,zr,eqF,gu,y8,getElem?_cons_zero,getElem?_cons_succ,jU (xs:=[T.str (Str.ofString "table"),.int b,.tup (cells.map M1)]) (i:=2) (by omega) (by simp),jU (xs:=[T.str (Str.ofString "table"),.int b,.tup (cells.map M1)]) (i:=0) (by omega) (by simp),jU (xs:=[T.int i,.int j]) (i:=0) (by omega) (by simp),jU (xs:=[T.int i,.int j]) (i:=1) (by omega) (by simp)];rw [jU i1 (by simpa using i2)];simp [hi,M1,L3.ixT];rw [jU j1 (by simp;omega)];simp [hj];have:=h G Ex.refl;simpa [Dl.bank,hi,hj] using this
 |joined d e=>
  show nx [some (Dl.joined d e).t,some (wdT i j),some (.str "joined")] G;rw [q1,zK rfl,if_neg (by decide),zK rfl,if_neg (by decide),zK rfl,if_neg (by decide),zK rfl,if_neg (by decide)];simp [Dl.t,wdT,qy,qH,gn3,qL,jn,zb,qR,YS,qw,v3,c3,o3,u3,Z7,L3.ixT,L3.ixR,zh,iI,iC,iB,zg,qU,J5,tb3,UF,or3,JS,zy,VF,ja,if3,ch3,cb3,qc,qk,QT,tyT,jp,q0,zF,VD,np3,sp3,qI,ql,qJ,zz,J4,Z1,qm,bm3,QC,J6,jW,YZ,VG,UR,UO,qF,jm,YI,UL,VJ,L2.atI,ixN,YX,HT.sIx,getL,in3,zr,eqF,gu,y8,getElem?_cons_zero,getElem?_cons_succ];exact ⟨d,e,i,j,rfl,hd,ok,I,h⟩
def qeq {i a b:Int} (h0:0<=i) (h1:i<a*b) (hb:1<=b):0<=i/b/\i/b<a/\0<=i%b/\i%b<b:=
 ⟨Int.ediv_nonneg h0 (by omega),Int.ediv_lt_of_lt_mul (by omega) h1,Int.emod_nonneg _ (by omega),Int.emod_lt_of_pos _ (by omega)⟩
def Inn.up {d e:Dl} {i j:Int} (I:Inn (.joined d e) i j) (Le:Lims e):Inn d (i/e.R) (j/e.C)/\Inn e (i%e.R) (j%e.C):=by
 obtain ⟨i1,i2,j1,j2⟩:=I;obtain ⟨a1,a2,a3,a4⟩:=qeq i1 i2 Le.r1;obtain ⟨b1,b2,b3,b4⟩:=qeq j1 j2 Le.c1;exact ⟨⟨a1,a2,b1,b2⟩,⟨a3,a4,b3,b4⟩⟩
def qa7:∀ ts G q,K2 ts G q->ts.length=3/\R8 (C0 q) (qm ["word","rows","columns","i","j"] ts) G:=by
 rintro ts G q ⟨i,j,r,c,rfl,hr,hc,h⟩;refine ⟨rfl,?_⟩;simp [R8,wdT,qy,qH,gn3,qL,jn,zb,qR,YS,qw,v3,c3,o3,u3,Z7,L3.ixT,L3.ixR,zh,iI,iC,iB,zg,qU,J5,tb3,UF,or3,JS,zy,VF,ja,if3,ch3,cb3,qc,qk,QT,tyT,jp,q0,zF,VD,np3,sp3,qI,ql,qJ,zz,J4,Z1,qm,bm3,QC,J6,jW,YZ,VG,UR,UO,qF,jm,YI,UL,VJ,L2.atI,ixN,YX,HT.sIx,getL,in3,zr,eqF,gu,y8,getElem?_cons_zero,getElem?_cons_succ];exact ⟨⟨by omega,by omega⟩,⟨by omega,by omega⟩,by omega,by omega,h⟩
def JQ (n:Nat):∀ ts G q,UU n ts G q->ts.length=3/\YJ (jk (n+1)) K2 (J0 n) (C0 q) (qm ["one","other","word","rows","columns","banks","upper","lower"] ts) G:=by
 rintro ts G q ⟨d,e,i,j,rfl,hd,ok,I,h⟩;refine ⟨rfl,?_⟩;obtain ⟨kd,ke,kr,kc,kb⟩:=ok;have Le:=Dl.lims ke;obtain ⟨I1,I2⟩:=I.up Le;have:1<=n:=by simp [Dl.dep] at hd;omega
 obtain ⟨m,rfl⟩:∃ m,n=m+1:=⟨n-1,by omega⟩
 have r1:=Le.r1;have r2:=Le.r2;have c1:=Le.c1;have c2:=Le.c2;have b1:=Le.b1;have b2:=Le.b2;simp [YJ,qy,qH,gn3,qL,jn,zb,qR,YS,qw,v3,c3,o3,u3,Z7,L3.ixT,L3.ixR,zh,iI,iC,iB,zg,qU,J5,tb3,UF,or3,JS,zy,VF,ja,if3,ch3,cb3,qc,qk,QT,tyT,jp,q0,zF,VD,np3,sp3,qI,ql,qJ,zz,J4,Z1,qm,bm3,QC,J6,jW,YZ,VG,UR,UO,qF,jm,YI,UL,VJ,L2.atI,ixN,YX,HT.sIx,getL,in3,zr,eqF,gu,y8,getElem?_cons_zero,getElem?_cons_succ];refine ⟨e,rfl,by simp [Dl.dep] at hd;omega,ke,?_⟩;simp [W6];refine ⟨i,j,_,_,rfl,⟨by omega,by omega⟩,⟨by omega,by omega⟩,?_⟩;simp;refine ⟨d,_,_,rfl,by simp [Dl.dep] at hd;omega,kd,I1,λG1 E1=>?_⟩;simp;refine ⟨cm (by omega) (by omega),e,_,_,rfl,by simp [Dl.dep] at hd;omega,ke,I2,λG2 E2=>?_⟩;simp;exact h _ (E1.trans E2)
def Lf (G:Gp) (a:Addr) (n:Int):Prop:=∃ o c m,G a=some (.lst [.int o,.int c,.int m])/\0<=o/\0<=m/\m<=n
def Ext (a:Addr) (G G':Gp):Prop:=∀ b o,b≠a->G b=some o->G' b=some o
def Lf.ne {G:Gp} {a p:Addr} {n:Int} (h:Lf G a n) (hp:G p=none):p≠a:=by
 rintro rfl;obtain ⟨o,c,m,e,_⟩:=h;rw [hp] at e;cases e
def Lf.new {G:Gp} {a p:Addr} {n:Int} {ob:O} (h:Lf G a n) (hp:p≠a):Lf (gu G p ob) a n:=by
 obtain ⟨o,c,m,e,r⟩:=h;exact ⟨o,c,m,by rw [zD (Ne.symm hp)];exact e,r⟩
def Lf.mono {G:Gp} {a:Addr} {n k:Int} (h:Lf G a n) (hk:n<=k):Lf G a k:=by
 obtain ⟨o,c,m,e,h1,h2,h3⟩:=h;exact ⟨o,c,m,e,h1,h2,by omega⟩
def Lf.ex {G G':Gp} {a:Addr} {n:Int} (h:Lf G a n) (e:Ex G G'):Lf G' a n:=by
 obtain ⟨o,c,m,e1,h1⟩:=h;exact ⟨o,c,m,e _ _ e1,h1⟩
def Ext.refl {a:Addr} {G:Gp}:Ext a G G:=λ_ _ _ e=>e
def Ext.trans {a:Addr} {G G1 G2:Gp} (x:Ext a G G1) (y:Ext a G1 G2):Ext a G G2:=λb o hb e=>y b o hb (x b o hb e)
def jx {a p:Addr} {G:Gp} {ob:O} (hp:G p=none):Ext a G (gu G p ob):=λb o _ e=>by
 rw [zD (by rintro rfl;rw [hp] at e;cases e)];exact e
def EU {a:Addr} {G G':Gp} (h:Ex G G'):Ext a G G':=λb o _ e=>h b o e
def RK:Sp3:=λts G q=>∃ c k,ts=[.int c,.int k]/\0<=k/\k<4294967296/\∀ m,0<=m->m<1999999973->q (.int m) G
def YB:Sp3:=λts G q=>∃ (a:Addr) (k:Int) (ns:List Int),ts=[.ref a,.int k]/\G a=some (.frz (ns.map T.int))/\ns.length<=63/\0<=k/\k<=63/\∀ p o c,G p=none->0<=o->q (.ref p) (gu G p (.lst [.int o,.int c,.int 0]))
def qV:Sp3:=λts G q=>∃ a n many,ts=[.ref a,.int many]/\1<=many/\many<1073741824/\Lf G a n/\n<1073741824/\∀ d G',0<=d->d<many->Lf G' a (n+1)->Ext a G G'->q (.int d) G'
def JF:Sp3:=λts G q=>∃ a n,ts=[.ref a]/\Lf G a n/\n<100000000/\∀ r c G',1<=r->r<=16->1<=c->c<=16->Lf G' a (n+4)->Ext a G G'->q (.tup [.int r,.int c]) G'
def Q8:Sp3:=λts G q=>∃ x y:Int,ts=[.int x,.int y]/\0<=x/\0<=y/\q (.int (Int.gcd x y:Nat)) G
structure Dr (d:Dl) (r c b:Int):Prop where
 ok:d.Ok
 r2:d.R<=r
 c2:d.C<=c
 b2:d.B<=b
def X0:Sp3:=λts G q=>∃ a n,ts=[.ref a]/\Lf G a n/\n<10000000/\∀ r c b x y G',Dr (.skew r c b x y) 16 16 32->Lf G' a (n+10)->Ext a G G'->q (Dl.skew r c b x y).t G'
def WS:Sp3:=λts G q=>∃ a n,ts=[.ref a]/\Lf G a n/\n<10000000/\∀ r c b p G',Dr (.rests r c b p) 16 16 32->Lf G' a (n+10)->Ext a G G'->q (Dl.rests r c b p).t G'
def zq {a:Addr} {n many:Int} {G:Gp} {q:Q3} (hL:Lf G a n) (h1:1<=many) (h2:many<1073741824) (hn:n<1073741824) (h:∀ d G',0<=d->d<many->Lf G' a (n+1)->Ext a G G'->q (.int d) G'):qV [.ref a,.int many] G q:=⟨a,n,many,rfl,h1,h2,hL,hn,h⟩
def qap:∀ ts G q,RK ts G q->ts.length=2/\XX (C0 q) (qm ["_law_cell","_law_k","_law_m"] ts) G:=by
 rintro ts G q ⟨c,k,rfl,h1,h2,h⟩;refine ⟨rfl,?_⟩;simp only [XX,qy,qH,o3,v3,qm,map_cons,List.map_nil,length_cons,length_nil,Nat.zero_add,Nat.reduceAdd,Nat.reduceSub,List.replicate_one,cons_append,List.nil_append,v0,getElem?_pos,getElem_cons_zero,c3,iC,Int.reduceLT,Nat.reduceLT,getElem_cons_succ,zh,gn3,qL,set_cons_succ,set_cons_zero,u8,true_and];exact ⟨.inl ⟨by omega,by omega⟩,cm (by omega) (by omega),cm (by omega) (by omega),.inl ⟨by omega,by omega⟩,h _ (Int.emod_nonneg _ (by omega)) (Int.emod_lt_of_pos _ (by omega))⟩
def cp:qam 10 18:=⟨by decide,by decide,by decide⟩
def MI:∀ ts G q,YB ts G q->ts.length=2/\D6 (C0 q) (qm ["_law_script","_law_k","_law_cell","_law_own"] ts) G:=by
 rintro ts G q ⟨a,k,ns,rfl,hG,hl,h1,h2,h⟩;refine ⟨rfl,?_⟩;simp only [D6,qy,qH,if3,tb3,o3,v3,qm,map_cons,List.map_nil,length_cons,length_nil,Nat.zero_add,Nat.reduceAdd,Nat.reduceSub,List.reduceReplicate,cons_append,List.nil_append,Nat.reduceLT,getElem?_pos,getElem_cons_succ,getElem_cons_zero,cb3,qc,v0,qk,jW,getL,hG,iB,length_map,decide_eq_true_eq,gn3,set_cons_succ,set_cons_zero,YZ,c3,iC,Int.reduceToNat,Int.reducePow,qL,zF,u8,zh,ne_eq,y8,Nat.reduceLeDiff,true_and,gu,ixR,atI,ixN,getElem?_map,Int.lt_irrefl,↓reduceIte,Int.reduceLE,decide_false,Bool.false_eq_true,Int.zero_add];have ck:UM 1000003 k:=cm (by omega) (by omega);by_cases hk:k<ns.length
 ·have hk':k.toNat<ns.length:=by omega
  simp [hk,h1,hk',cp,ck];split
  ·split
   ·exact λp hp=>h p (-ns[k.toNat]) _ hp (by omega)
   ·exact λp hp=>h p 0 _ hp (by omega)
  ·split
   ·exact λp hp=>h p ns[k.toNat] _ hp (by omega)
   ·exact λp hp=>h p 0 _ hp (by omega)
 ·simp [hk,cp,ck];exact λp hp=>h p 0 _ hp (by omega)
def LZ:∀ ts G q,qV ts G q->ts.length=2/\DU RK (C0 q) (qm ["_law_left_here","_law_many","_law_digit"] ts) G:=by
 rintro ts G q ⟨a,n,many,rfl,m1,m2,⟨o,c,m,hG,ho,hm,hn⟩,h3,h⟩;refine ⟨rfl,?_⟩;unfold DU;refine ju λnx1 q1=>?_;simp only [qH,o3,v3,qm,map_cons,List.map_nil,length_cons,length_nil,Nat.zero_add,Nat.reduceAdd,Nat.reduceSub,List.replicate_one,cons_append,List.nil_append,v0,getElem?_pos,getElem_cons_zero,c3,zh,ne_eq,y8,zz,J4,ixN,Int.zero_le_ofNat,↓reduceIte,Int.reduceToNat,tb3,iB,decide_eq_true_eq,Nat.reduceLT,getElem_cons_succ,iC,gn3,set_cons_succ,set_cons_zero,Std.le_refl,Int.natCast_pos,Int.toNat_zero,qL,u8,ixR,getL,atI,qw,cb3,qc,qk,Int.toNat_one,List.length_set,hG,Int.cast_ofNat_Int,Int.reduceLT,Option.bind_some,qv];rw [q1];clear q1;refine ju λnx2 q2=>?_;simp only [zb,qH,o3,v3,qm,map_cons,List.map_nil,length_cons,length_nil,Nat.zero_add,Nat.reduceAdd,Nat.reduceSub,List.replicate_one,cons_append,List.nil_append,v0,getElem?_pos,getElem_cons_zero,c3,zh,ne_eq,y8,zz,J4,ixN,Int.zero_le_ofNat,↓reduceIte,Int.reduceToNat,tb3,iB,decide_eq_true_eq,Nat.reduceLT,getElem_cons_succ,iC,gn3,set_cons_succ,set_cons_zero,Std.le_refl,Int.natCast_pos,Int.toNat_zero,qL,u8,ixR,getL,atI,qw,cb3,qc,qk,Int.toNat_one,List.length_set,hG,Int.cast_ofNat_Int,Int.reduceLT,Option.bind_some,qv];split
 ·simp only [qy,qH,o3,v3,length_cons,length_nil,Nat.zero_add,Nat.reduceAdd,v0,getElem?_pos,getElem_cons_zero,c3,Nat.reduceLT,getElem_cons_succ,iC,gn3,set_cons_succ,set_cons_zero,zz,J4,ixN,Std.le_refl,↓reduceIte,Int.natCast_pos,Int.toNat_zero,qL,u8,ixR,getL,atI,qv,Int.cast_ofNat_Int,Int.reduceLT,Option.bind_some];refine ⟨by omega,⟨by omega,m2⟩,h _ _ (Int.emod_nonneg _ (by omega)) (Int.emod_lt_of_pos _ (by omega)) ⟨o/many,c,m+1,qv,Int.ediv_nonneg ho (by omega),by omega,by omega⟩ λb ob hb e=>?_⟩;rw [zD hb,zD hb];exact e
 ·rw [q2];clear q2;simp only [qH,o3,v3,qm,map_cons,List.map_nil,length_cons,length_nil,Nat.zero_add,Nat.reduceAdd,Nat.reduceSub,List.replicate_one,cons_append,List.nil_append,v0,getElem?_pos,getElem_cons_zero,c3,zh,ne_eq,y8,zz,J4,ixN,Int.zero_le_ofNat,↓reduceIte,Int.reduceToNat,tb3,iB,decide_eq_true_eq,Nat.reduceLT,getElem_cons_succ,iC,gn3,set_cons_succ,set_cons_zero,Std.le_refl,Int.natCast_pos,Int.toNat_zero,qL,u8,ixR,getL,atI,qw,cb3,qc,qk,Int.toNat_one,List.length_set,hG,Int.cast_ofNat_Int,Int.reduceLT,Option.bind_some,qv];refine ⟨c,m+1,rfl,by omega,by omega,λu u1 u2=>?_⟩;simp only [qH,o3,v3,qm,map_cons,List.map_nil,length_cons,length_nil,Nat.zero_add,Nat.reduceAdd,Nat.reduceSub,List.replicate_one,cons_append,List.nil_append,v0,getElem?_pos,getElem_cons_zero,c3,zh,ne_eq,y8,zz,J4,ixN,Int.zero_le_ofNat,↓reduceIte,Int.reduceToNat,tb3,iB,decide_eq_true_eq,Nat.reduceLT,getElem_cons_succ,iC,gn3,set_cons_succ,set_cons_zero,Std.le_refl,Int.natCast_pos,Int.toNat_zero,qL,u8,ixR,getL,atI,qw,cb3,qc,qk,Int.toNat_one,List.length_set,hG,Int.cast_ofNat_Int,Int.reduceLT,Option.bind_some,qv];refine ⟨u,m+1+64,rfl,by omega,by omega,λv v1 v2=>?_⟩;refine ⟨⟨by omega,by omega⟩,by omega,h _ _ (Int.emod_nonneg _ (by omega)) (Int.emod_lt_of_pos _ (by omega)) ⟨o,c,m+1,qv,ho,by omega,by omega⟩ λb ob hb e=>?_⟩;rw [zD hb];exact e
def qdl {x y:Int} (hy:0<y):Int.gcd y (x%y)=Int.gcd x y:=by
 rw [Int.emod_def,Int.gcd_comm x y];simp
def qaz:∀ ts G q,Q8 ts G q->ts.length=2/\XO (C0 q) (qm ["_law_one","_law_other"] ts) G:=by
 rintro ts G q ⟨x,y,rfl,hx,hy,h⟩;refine ⟨rfl,?_⟩;simp only [XO,qy,RD,qm,map_cons,List.map_nil,length_cons,length_nil,Nat.zero_add,Nat.reduceAdd,Nat.sub_self,List.replicate_zero,List.append_nil,tb3,o3,v3,c3,iB,decide_eq_true_eq,Z1,qc,iC,qk,qL];refine ⟨λn τ G'=>G'=G/\∃ u v:Int,τ=[some (.int u),some (.int v)]/\n=v.toNat/\0<=u/\0<=v/\Int.gcd u v=Int.gcd x y,⟨_,rfl,x,y,rfl,rfl,hx,hy,rfl⟩,?_⟩;rintro n τ G' ⟨eG,u,v,rfl,rfl,hu,hv,e⟩;simp;by_cases h0:0<v
 ·simp [h0];refine ⟨λτ' G'=>G'=G/\∃ x' y':Int,τ'=[some (.int x'),some (.int y')]/\y'.toNat<v.toNat/\0<=x'/\0<=y'/\Int.gcd x' y'=Int.gcd x y,λτ' G' ⟨e1,x',y',e2,e3,e4,e5,e6⟩=>⟨y'.toNat,by omega,e1,x',y',e2,rfl,e4,e5,e6⟩,eG,v,u%v,rfl,?_,hv,Int.emod_nonneg _ (by omega),by rw [qdl h0,e]⟩;have:=Int.emod_lt_of_pos u h0;omega
 ·have:v=0:=by omega
  subst this;simp at e;simp [eG];have:u=(Int.gcd x y:Nat):=by omega
  rw [this];exact h
def qnT {d:Int} (h1:0<=d) (h2:d<4) {x0 x1 x2 x3:T} {P:T->Prop} (p0:P x0) (p1:P x1) (p2:P x2) (p3:P x3):∃ x,L2.atI [x0,x1,x2,x3] d=some x/\P x:=by
 have:d=0\/d=1\/d=2\/d=3:=by omega
 rcases this with rfl|rfl|rfl|rfl
 ·exact ⟨x0,rfl,p0⟩
 ·exact ⟨x1,rfl,p1⟩
 ·exact ⟨x2,rfl,p2⟩
 ·exact ⟨x3,rfl,p3⟩
def qpo {d:Int} (h1:0<=d) (h2:d<3) {x0 x1 x2:T} {P:T->Prop} (p0:P x0) (p1:P x1) (p2:P x2):∃ x,L2.atI [x0,x1,x2] d=some x/\P x:=by
 have:d=0\/d=1\/d=2:=by omega
 rcases this with rfl|rfl|rfl
 ·exact ⟨x0,rfl,p0⟩
 ·exact ⟨x1,rfl,p1⟩
 ·exact ⟨x2,rfl,p2⟩
def LN:∀ ts G q,JF ts G q->ts.length=1/\EO qV (C0 q) (qm ["_law_left_here","_law_wide","_law_rows","_law_columns"] ts) G:=by
 rintro ts G q ⟨a,n,rfl,hL,hn,h⟩;refine ⟨rfl,?_⟩;unfold EO;refine ju λnx1 q1=>?_;simp only [qH,o3,zF,qc,c3,qk,length_cons,length_nil,Nat.zero_add,Nat.reduceAdd,y8,Nat.reduceLeDiff,cb3,v3,qm,map_cons,List.map_nil,Nat.add_one_sub_one,List.reduceReplicate,cons_append,List.nil_append,v0,getElem?_pos,getElem_cons_zero,gn3,set_cons_succ,set_cons_zero,true_and];intro p hp;have hpa:=hL.ne hp;refine zq (hL.new hpa) (by decide) (by decide) (by omega) λd G1 d1 d2 L1 E1=>?_;have g1:=E1 p _ hpa qv;obtain ⟨w,hw,w',rfl,w1,w2⟩:=qnT d1 d2 (P:=λt=>∃ w,t=T.int w/\1<=w/\w<=16) ⟨6,rfl,by decide⟩ ⟨6,rfl,by decide⟩ ⟨6,rfl,by decide⟩ ⟨16,rfl,by decide⟩;simp only [ixR,getL,g1,hw];rw [q1];clear q1;refine ju λnx2 q2=>?_;simp only [Z1,qc,o3,c3,cb3,v3,length_cons,length_nil,Nat.zero_add,Nat.reduceAdd,v0,getElem?_pos,getElem_cons_zero,Nat.reduceLT,getElem_cons_succ,qk,zh,ne_eq,y8,set_cons_succ,set_cons_zero];refine zq L1 w1 (by omega) (by omega) λr G2 r1 r2 L2' E2=>?_;simp only [iI,qy,qH,o3,zF,qc,c3,qk,length_cons,length_nil,Nat.zero_add,Nat.reduceAdd,y8,Nat.reduceLeDiff,cb3,v3,qm,map_cons,List.map_nil,Nat.add_one_sub_one,List.reduceReplicate,cons_append,List.nil_append,v0,getElem?_pos,getElem_cons_zero,gn3,Z1,set_cons_succ,set_cons_zero,Nat.reduceLT,getElem_cons_succ,zh,ne_eq,qL,q0,u8,true_and,gu];refine zq L2' w1 (by omega) (by omega) λc G3 c1 c2 L3' E3=>?_;simp only [iI,qy,qH,o3,zF,qc,c3,qk,length_cons,length_nil,Nat.zero_add,Nat.reduceAdd,y8,Nat.reduceLeDiff,cb3,v3,qm,map_cons,List.map_nil,Nat.add_one_sub_one,List.reduceReplicate,cons_append,List.nil_append,v0,getElem?_pos,getElem_cons_zero,gn3,Z1,set_cons_succ,set_cons_zero,Nat.reduceLT,getElem_cons_succ,zh,ne_eq,qL,q0,u8,true_and,gu];rw [q2];clear q2;simp only [qL,o3,zF,qc,q0,v3,length_cons,length_nil,Nat.zero_add,Nat.reduceAdd,Nat.reduceLT,getElem?_pos,getElem_cons_succ,getElem_cons_zero,u8,qk,y8,Nat.reduceLeDiff,cb3,v0,c3,true_and];intro p2 hp2;have hpa2:=L3'.ne hp2;refine zq (L3'.new hpa2) (by decide) (by decide) (by omega) λe G4 e1 e2 L4 E4=>?_;have g4:=E4 p2 _ hpa2 qv;have x1:1<=1+r:=by omega
 have x2:1+r<=16:=by omega
 have x3:1<=1+c:=by omega
 have x4:1+c<=16:=by omega
 obtain ⟨t,ht,r',c',rfl,z1,z2,z3,z4⟩:=qnT e1 e2 (P:=λt=>∃ r' c',t=T.tup [.int r',.int c']/\1<=r'/\r'<=16/\1<=c'/\c'<=16) ⟨1+r,1+c,rfl,x1,x2,x3,x4⟩ ⟨1+r,1+c,rfl,x1,x2,x3,x4⟩ ⟨1+r,1+c,rfl,x1,x2,x3,x4⟩ ⟨1+r,1+r,rfl,x1,x2,x1,x2⟩;simp only [ixR,getL,g4,ht];exact h r' c' G4 z1 z2 z3 z4 (L4.mono (by omega)) ((((jx hp).trans E1).trans (E2.trans E3)).trans ((jx hp2).trans E4))
def MO:∀ ts G q,X0 ts G q->ts.length=1/\DQ JF qV (C0 q) (qm ["_law_left_here","_law_rows","_law_columns","_law_banks","_law_wide"] ts) G:=by
 rintro ts G q ⟨a,n,rfl,hL,hn,h⟩;refine ⟨rfl,?_⟩;unfold DQ;refine ju λnx1 q1=>?_;simp only [qH,cb3,qc,v3,qm,map_cons,List.map_nil,length_cons,length_nil,Nat.zero_add,Nat.reduceAdd,Nat.add_one_sub_one,List.reduceReplicate,cons_append,List.nil_append,v0,getElem?_pos,getElem_cons_zero,qk,qI,ql,gn3,qJ,set_cons_succ,set_cons_zero];refine ⟨a,n,rfl,hL,by omega,λr c G1 r1 r2 c1 c2 L1 E1=>?_⟩;simp only [length_cons,length_nil,Nat.zero_add,Nat.reduceAdd,true_and];rw [q1];clear q1;refine ju λnx2 q2=>?_;simp only [qH,o3,c3,cb3,qc,v3,length_cons,length_nil,Nat.zero_add,Nat.reduceAdd,v0,getElem?_pos,getElem_cons_zero,zF,qk,y8,Nat.reduceLeDiff,zh,ne_eq,gn3,set_cons_succ,set_cons_zero,true_and];intro p hp;have hpa:=L1.ne hp;refine zq (L1.new hpa) (by decide) (by decide) (by omega) λd G2 d1 d2 L2' E2=>?_;have g2:=E2 p _ hpa qv;obtain ⟨w,hw,w',rfl,w1,w2⟩:=qnT d1 d2 (P:=λt=>∃ w,t=T.int w/\1<=w/\w<=32) ⟨8,rfl,by decide⟩ ⟨8,rfl,by decide⟩ ⟨17,rfl,by decide⟩ ⟨32,rfl,by decide⟩;simp only [ixR,getL,g2,hw];refine zq L2' w1 (by omega) (by omega) λb G3 b1 b2 L3' E3=>?_;simp [qy,qH,gn3,qL,jn,zb,qR,YS,qw,v3,c3,o3,u3,Z7,L3.ixT,L3.ixR,zh,iI,iC,iB,zg,qU,J5,tb3,UF,or3,JS,zy,VF,ja,if3,ch3,cb3,qc,qk,QT,tyT,jp,q0,zF,VD,np3,sp3,qI,ql,qJ,zz,J4,Z1,qm,bm3,QC,J6,jW,YZ,VG,UR,UO,qF,jm,YI,UL,VJ,YX,HT.sIx,getL,in3,zr,eqF,gu,y8,getElem?_cons_zero,getElem?_cons_succ];rw [q2];clear q2;refine ju λnx3 q3=>?_;simp only [qH,o3,zF,qc,v3,length_cons,length_nil,Nat.zero_add,Nat.reduceAdd,Nat.reduceLT,getElem?_pos,getElem_cons_succ,getElem_cons_zero,c3,qk,y8,Nat.reduceLeDiff,cb3,v0,gn3,set_cons_succ,set_cons_zero,true_and];intro p2 hp2;have hpa2:=L3'.ne hp2;refine zq (L3'.new hpa2) (by decide) (by decide) (by omega) λe G4 e1 e2 L4 E4=>?_;have g4:=E4 p2 _ hpa2 qv;obtain ⟨u,hu,u',rfl,u1,u2⟩:=qpo e1 e2 (P:=λt=>∃ w,t=T.int w/\1<=w/\w<=100) ⟨1+b,rfl,by omega,by omega⟩ ⟨10,rfl,by decide⟩ ⟨100,rfl,by decide⟩;simp only [ixR,getL,g4,hu];rw [q3];clear q3;simp only [qL,q0,qc,c3,v3,length_cons,length_nil,Nat.zero_add,Nat.reduceAdd,Nat.reduceLT,getElem?_pos,getElem_cons_succ,getElem_cons_zero,cb3,v0,u8,qk,y8,Nat.reduceLeDiff,true_and];refine zq L4 u1 (by omega) (by omega) λx G5 x1 x2 L5 E5=>?_
 try simp [qy,qH,gn3,qL,jn,zb,qR,YS,qw,v3,c3,o3,u3,Z7,L3.ixT,L3.ixR,zh,iI,iC,iB,zg,qU,J5,tb3,UF,or3,JS,zy,VF,ja,if3,ch3,cb3,qc,qk,QT,tyT,jp,q0,zF,VD,np3,sp3,qI,ql,qJ,zz,J4,Z1,qm,bm3,QC,J6,jW,YZ,VG,UR,UO,qF,jm,YI,UL,VJ,YX,HT.sIx,getL,in3,zr,eqF,gu,y8,getElem?_cons_zero,getElem?_cons_succ]
 refine zq L5 u1 (by omega) (by omega) λy G6 y1 y2 L6 E6=>?_
 try simp [qy,qH,gn3,qL,jn,zb,qR,YS,qw,v3,c3,o3,u3,Z7,L3.ixT,L3.ixR,zh,iI,iC,iB,zg,qU,J5,tb3,UF,or3,JS,zy,VF,ja,if3,ch3,cb3,qc,qk,QT,tyT,jp,q0,zF,VD,np3,sp3,qI,ql,qJ,zz,J4,Z1,qm,bm3,QC,J6,jW,YZ,VG,UR,UO,qF,jm,YI,UL,VJ,YX,HT.sIx,getL,in3,zr,eqF,gu,y8,getElem?_cons_zero,getElem?_cons_succ]
 exact h r c (1+b) x y G6 ⟨⟨r1,by omega,c1,by omega,by omega,by omega,x1,by omega,y1,by omega⟩,r2,c2,by show 1+b<=32;omega⟩ (L6.mono (by omega)) (E1.trans (((jx hp).trans E2).trans (E3.trans (((jx hp2).trans E4).trans (E5.trans E6)))))
def cop {b p:Int} (hb:1<=b):∃ k:Nat,(k:Int)<b/\Int.gcd b (p+k)=1:=by
 refine ⟨((1-p)%b).toNat,?_,?_⟩
 ·have:=Int.emod_nonneg (1-p) (show b≠0 by omega);have:=Int.emod_lt_of_pos (1-p) (show 0<b by omega);omega
 ·have h1:=Int.emod_nonneg (1-p) (show b≠0 by omega);have h2:=Int.emod_add_mul_ediv (1-p) b;have e:p+(((1-p)%b).toNat:Int)=1+b*(-((1-p)/b)):=by
   rw [Int.toNat_of_nonneg h1,Int.mul_neg];omega
  rw [e];simp
structure Plc (b p0 pl:Int) (i:Nat):Prop where
 lo:p0<=pl
 hi:pl<=p0+i
 at_:Int.gcd b pl=1\/(pl=p0+i/\∀ k:Nat,k<i->Int.gcd b (p0+k)≠1)
def Plc.done {b p0 pl:Int} {n:Nat} (h:Plc b p0 pl n) (hb:1<=b) (hn:b<=n):Int.gcd b pl=1:=by
 rcases h.at_ with h|⟨_,h⟩
 ·exact h
 ·obtain ⟨k,h1,h2⟩:=cop (p:=p0) hb;exact absurd h2 (h k (by omega))
def Plc.next {b p0 pl:Int} {i:Nat} (h:Plc b p0 pl i) (hb:1<=b) (hp:1<=p0) (hg:(1:Int)<(Int.gcd b pl:Nat)):Plc b p0 (pl+1) (i+1):=by
 rcases h.at_ with z|⟨z1,z2⟩
 ·rw [z] at hg;simp at hg
 ·refine ⟨by have:=h.lo;omega,by omega,.inr ⟨by omega,λk hk=>?_⟩⟩;rcases Nat.lt_or_ge k i with q|q
  ·exact z2 k q
  ·have:k=i:=by omega
   subst this;rw [← z1];omega
def Plc.stay {b p0 pl:Int} {i:Nat} (h:Plc b p0 pl i) (hb:1<=b) (hp:1<=p0) (hg:¬ (1:Int)<(Int.gcd b pl:Nat)):Plc b p0 pl (i+1):=by
 have g0:0<Int.gcd b pl:=Int.gcd_pos_of_ne_zero_left _ (by omega);exact ⟨h.lo,by have:=h.hi;omega,.inl (by omega)⟩
def NW {r c b:Int} (hr:1<=r) (hc:1<=c) (hb:1<=b):1<=-(-r*c/b)/\r*c<=b*-(-r*c/b)/\-(-r*c/b)<=r*c:=by
 have h1:=UJ hr hc;have e:-r*c=-(r*c):=Int.neg_mul ..;rw [e];have h2:=Int.ediv_neg_of_neg_of_pos (a:=-(r*c)) (b:=b) (by omega) (by omega);have h3:=Int.mul_ediv_self_le (x:=-(r*c)) (k:=b) (by omega);have h4:-(r*c)<=-(r*c)/b:=by
  have:=Int.le_ediv_of_mul_le (a:=-(r*c)) (b:=-(r*c)) (c:=b) (by omega) (by
   have:=Int.mul_le_mul_of_nonneg_left hb (show (0:Int)<=r*c by omega);rw [Int.neg_mul];omega)
  exact this
 rw [Int.mul_neg];omega
def KW:∀ ts G q,WS ts G q->ts.length=1/\UV JF qV Q8 (C0 q) (qm ["_law_left_here","_law_rows","_law_columns","_law_banks","_law_places","_law_turn"] ts) G:=by
 rintro ts G q ⟨a,n,rfl,hL,hn,h⟩;refine ⟨rfl,?_⟩;unfold UV;refine ju λnx1 q1=>?_;simp only [qH,cb3,qc,v3,qm,map_cons,List.map_nil,length_cons,length_nil,Nat.zero_add,Nat.reduceAdd,Nat.add_one_sub_one,List.reduceReplicate,cons_append,List.nil_append,v0,getElem?_pos,getElem_cons_zero,qk,qI,ql,gn3,qJ,set_cons_succ,set_cons_zero];refine ⟨a,n,rfl,hL,by omega,λr c G1 r1 r2 c1 c2 L1 E1=>?_⟩;simp only [length_cons,length_nil,Nat.zero_add,Nat.reduceAdd,true_and];rw [q1];clear q1;refine ju λnx2 q2=>?_;simp only [qH,o3,c3,cb3,qc,v3,length_cons,length_nil,Nat.zero_add,Nat.reduceAdd,v0,getElem?_pos,getElem_cons_zero,zF,qk,y8,Nat.reduceLeDiff,zh,ne_eq,gn3,set_cons_succ,set_cons_zero,true_and];intro p hp;have hpa:=L1.ne hp;refine zq (L1.new hpa) (by decide) (by decide) (by omega) λd G2 d1 d2 L2' E2=>?_;have g2:=E2 p _ hpa qv;obtain ⟨w,hw,w',rfl,w1,w2⟩:=qpo d1 d2 (P:=λt=>∃ w,t=T.int w/\1<=w/\w<=32) ⟨8,rfl,by decide⟩ ⟨17,rfl,by decide⟩ ⟨32,rfl,by decide⟩;simp only [ixR,getL,g2,hw];refine zq L2' w1 (by omega) (by omega) λb G3 b1 b2 L3' E3=>?_;simp [qy,qH,gn3,qL,jn,zb,qR,YS,qw,v3,c3,o3,u3,Z7,L3.ixT,L3.ixR,zh,iI,iC,iB,zg,qU,J5,tb3,UF,or3,JS,zy,VF,ja,if3,ch3,cb3,qc,qk,QT,tyT,jp,q0,zF,VD,np3,sp3,qI,ql,qJ,zz,J4,Z1,qm,bm3,QC,J6,jW,YZ,VG,UR,UO,qF,jm,YI,UL,VJ,YX,HT.sIx,getL,in3,zr,eqF,gu,y8,getElem?_cons_zero,getElem?_cons_succ];rw [q2];clear q2;refine ju λnx3 q3=>?_;simp only [qH,o3,u3,v3,length_cons,length_nil,Nat.zero_add,Nat.reduceAdd,Nat.reduceLT,getElem?_pos,getElem_cons_succ,getElem_cons_zero,Z7,iC,cb3,qc,v0,c3,qk,zh,ne_eq,y8,gn3,set_cons_succ,set_cons_zero];refine ⟨cm (by omega) (by omega),⟨by omega,by omega⟩,zq L3' (by omega) (by omega) (by omega) λe G4 e1 e2 L4 E4=>?_⟩;obtain ⟨u1,u2,u3⟩:=NW r1 c1 (show 1<=1+b by omega);have rc:r*c<=16*16:=Int.mul_le_mul r2 c2 (by omega) (by omega);simp [qy,qH,gn3,qL,jn,zb,qR,YS,qw,v3,c3,o3,u3,Z7,L3.ixT,L3.ixR,zh,iI,iC,iB,zg,qU,J5,tb3,UF,or3,JS,zy,VF,ja,if3,ch3,cb3,qc,qk,QT,tyT,jp,q0,zF,VD,np3,sp3,qI,ql,qJ,zz,J4,Z1,qm,bm3,QC,J6,jW,YZ,VG,UR,UO,qF,jm,YI,UL,VJ,YX,HT.sIx,getL,in3,zr,eqF,gu,y8,getElem?_cons_zero,getElem?_cons_succ];rw [q3];clear q3;simp only [qy,WF,zO,qc,c3,qk,Int.reducePow,Int.reduceNeg,Int.neg_ofNat_le_ofNat,Int.reduceLT,and_self,Int.reduceToNat,true_and];obtain ⟨p0,hp0⟩:∃ p0,p0=-(-r*c/(1+b))+e:=⟨_,rfl⟩
 refine ER _ (λi τ G'=>G'=G4/\∃ (pl:Int) (x:Option T),τ=[some (.ref a),some (.int r),some (.int c),some (.int (1+b)),some (.int pl),x]/\Plc (1+b) p0 pl i) ⟨rfl,_,none,by rw [← hp0],⟨by omega,by omega,.inr ⟨by omega,by omega⟩⟩⟩ (λ_ _ _ _ _=>True.intro) ?_ ?_
 ·rintro i x τ G' nx hx ⟨rfl,pl,y,rfl,P⟩ hn;simp only [gn3,zb,tb3,o3,cb3,qc,v3,set_cons_succ,set_cons_zero,length_cons,length_nil,Nat.zero_add,Nat.reduceAdd,Nat.reduceLT,getElem?_pos,getElem_cons_succ,getElem_cons_zero,qk,c3,iB,decide_eq_true_eq,qH,zh,qw];refine ⟨1+b,pl,rfl,by omega,by have:=P.lo;omega,?_⟩;simp;split
  ·rename_i hg;exact hn _ _ ⟨rfl,_,_,rfl,P.next (by omega) (by omega) (by omega)⟩
  ·rename_i hg;exact hn _ _ ⟨rfl,_,_,rfl,P.stay (by omega) (by omega) (by omega)⟩
 ·rintro τ G' ⟨rfl,pl,x,rfl,P⟩;simp only [qL,q0,qc,c3,v3,length_cons,length_nil,Nat.zero_add,Nat.reduceAdd,Nat.reduceLT,getElem?_pos,getElem_cons_succ,getElem_cons_zero,qk,y8,Nat.reduceLeDiff,true_and];rw [JR] at P;have lo:=P.lo;have hi:=P.hi;have m1:(1+b)*-(-r*c/(1+b))<=(1+b)*pl:=Int.mul_le_mul_of_nonneg_left (by omega) (by omega);exact h r c (1+b) pl G' ⟨⟨r1,by omega,c1,by omega,by omega,by omega,by omega,by omega,P.done (by omega) (by omega),by omega⟩,r2,c2,by show 1+b<=32;omega⟩ (L4.mono (by omega)) (E1.trans (((jx hp).trans E2).trans (E3.trans E4)))
def WE:Nat->PyData->Prop
 |_,.none=>True
 |_,.bool _=>True
 |_,.int _=>True
 |_,.str _=>True
 |n+1,.list ds=>ds.length<=1000000/\∀ d∈ds,WE n d
 |n+1,.tuple ds=>ds.length<=1000000/\∀ d∈ds,WE n d
 |_,_=>False
def j8:Nat->Sp3
 |0=>D9
 |n+1=>λts G q=>∃ (x y:T) (d:PyData),ts=[x,y]/\Dp G x d/\Dp G y d/\WE n d/\∀ G',Ex G G'->q (.bl true) G'
def M5 {G G':Gp} (e:Ex G G') {x:T} {us:List T} (h:jP G x=some us):jP G' x=some us:=by
 cases x<;>simp [jP] at h ⊢
 ·exact h
 ·exact e.getL h
def qdF (n:Nat):qiy (List.replicate n (.bl true))=some true:=by
 induction n with
 |zero=>rfl
 |succ n ih=>rw [List.replicate_succ];simp [qiy,ih]
def NN {G:Gp} {n:Nat} {x y:T} {us vs:List T} {ds:List PyData} {q:Q3} (hx:jP G x=some us) (hy:jP G y=some vs) (du:Dps G us ds) (dv:Dps G vs ds) (hl:us.length<=1000000) (hd:∀ d∈ds,∃ m,n=m+1/\WE m d) (h:∀ G',Ex G G'->q (.bl true) G') :
  CL (λG=>jP G x=some us/\jP G y=some vs) (qI 2 (ql (gn3 0) (ql (gn3 1) qJ))) tt3 (cb3 (j8 n) (qc (v3 0) (qc (v3 1) qk))) (λx G1=>YI [x] G1 q) (qbE us vs) [] [none,none] G:=by
 have e1:=du.length;have e2:=dv.length;refine DH _ (λi ys τ G'=>Ex G G'/\ys=List.replicate i (.bl true)/\∃ x0 x1,τ=[x0,x1]) ⟨Ex.refl,rfl,none,none,rfl⟩ (λi ys τ G' _ hp=>⟨M5 hp.1 hx,M5 hp.1 hy⟩) ?_ ?_
 ·rintro i z ys τ G' R hz ⟨E,rfl,x0,x1,rfl⟩ hR;obtain ⟨a,b,ha,hb,rfl⟩:=T6 hz;obtain ⟨d,hd1,da⟩:=du.get ha;obtain ⟨d',hd2,db⟩:=dv.get hb;rw [hd1] at hd2;cases hd2;obtain ⟨m,rfl,dl⟩:=hd d (v8 hd1);have hi:=(za4 ha).1;simp only [qI,length_cons,length_nil,Nat.zero_add,Nat.reduceAdd,ql,gn3,qJ,tt3,↓reduceIte,cb3,qc,v3,set_cons_zero,set_cons_succ,v0,getElem?_pos,getElem_cons_zero,u8,getElem_cons_succ,qk,List.length_replicate,y8,true_and];refine ⟨a,b,d,rfl,da.up E,db.up E,dl,λG2 E2=>⟨by omega,hR _ _ _ ⟨E.trans E2,?_,_,_,rfl⟩⟩⟩;rw [List.replicate_succ']
 ·rintro ys τ G' ⟨E,rfl,x0,x1,rfl⟩ p hp;simp [YI,getL,qv,qdF];exact h _ (E.trans (j4 hp))
def qdm {n:Nat} {ds:List PyData} (h:WE n (.list ds)):ds.length<=1000000/\∀ d∈ds,∃ m,n=m+1/\WE m d:=by
 cases n with
 |zero=>exact h.elim
 |succ n=>exact ⟨h.1,λd hd=>⟨n,rfl,h.2 d hd⟩⟩
def qcC {n:Nat} {ds:List PyData} (h:WE n (.tuple ds)):ds.length<=1000000/\∀ d∈ds,∃ m,n=m+1/\WE m d:=by
 cases n with
 |zero=>exact h.elim
 |succ n=>exact ⟨h.1,λd hd=>⟨n,rfl,h.2 d hd⟩⟩
def qm8 {x:T} {G:Gp} {q:Q3} (h:qU x x=some true) (k:q (.bl true) G):zg false x x G q:=by
 unfold zg;rw [h];exact k
def qbA {ta tb:TE3} {e:Ends3} {τ:St3} {G:Gp} {x:T} (h:∀ q',q' x G->ta τ G q') (k:x=.bl true) (h2:tb τ G e.rt):qL (zy ta tb) e τ G:=h _ (by subst k;exact h2)
def qqu {ta tb:TE3} {τ:St3} {G:Gp} {x:T} (ha:∀ q',q' x G->ta τ G q') (hb:∀ q',q' x G->tb τ G q') (h:qU x x=some true):∀ q',q' (.bl true) G->o3 (zg false) ta tb τ G q':=λq' k=>ha _ (hb _ (qm8 h k))
def qaG {c:TT3} {a b:TS3} {e:Ends3} {τ:St3} {G:Gp} (h:∀ A,A=a->zb c A b e τ G):zb c a b e τ G:=h _ rfl
def Z0 (n:Nat):∀ ts G q,j8 (n+1) ts G q->ts.length=2/\RM (j8 n) (C0 q) (qm ["_law_found","_law_due"] ts) G:=by
 rintro ts G q ⟨x,y,d,rfl,hx,hy,hd,h⟩;refine ⟨rfl,?_⟩;have h0:=h G Ex.refl;cases hx with
 |non=>cases hy;exact h0
 |bl b=>cases hy;cases b<;>exact h0
 |int i=>cases hy;exact qm8 (x:=.int i) (by simp [qU]) h0
 |str s=>
  cases hy;refine ju λnx1 q1=>?_;refine qaG λA1 hA=>?_;clear hA;show nx1 _ _;rw [q1];clear q1;refine ju λnx2 q2=>?_;refine qaG λA2 hA=>?_;show A2 _ _ _;rw [hA];exact qbA (qqu (x:=.str s) (λ_ k=>k) (λ_ k=>k) (by simp [qU])) rfl h0
 |tup dx=>
  cases hy with
  |tup dy=>
   rename_i xs ds ys;have e1:=dx.length;have e2:=dy.length;obtain ⟨l1,l2⟩:=qcC hd;have key:=NN (n:=n) (x:=.tup xs) (y:=.tup ys) (us:=xs) (vs:=ys) (q:=q) rfl rfl dx dy (by omega) l2 h;have e3:xs.length=ys.length:=by omega
   refine ju λnx1 q1=>?_;clear q1;refine qaG λA1 hA=>?_;show A1 _ _ _;rw [hA];clear hA;refine ju λnx2 q2=>?_;refine qaG λA2 hA=>?_;show nx2 _ _;rw [q2];clear q2;exact qbA (qqu (x:=.int ys.length) (λ_ k=>by rw [← e3] at k;exact k) (λ_ k=>k) (by simp [qU])) rfl key
 |lst gx dx=>
  cases hy with
  |lst gy dy=>
   rename_i p1 xs ds p2 ys;have e1:=dx.length;have e2:=dy.length;obtain ⟨l1,l2⟩:=qdm hd;have key:=NN (n:=n) (x:=.ref p1) (y:=.ref p2) (us:=xs) (vs:=ys) (q:=q) gx gy dx dy (by omega) l2 h;have e3:xs.length=ys.length:=by omega
   refine ju λnx1 q1=>?_;clear q1;refine qaG λA1 hA=>?_;simp only [zb,tb3,QT,v3,qm,map_cons,List.map_nil,length_cons,length_nil,Nat.zero_add,Nat.reduceAdd,Nat.sub_self,List.replicate_zero,List.append_nil,u8,getElem?_pos,getElem_cons_succ,getElem_cons_zero,tyT,gx,gy,Option.isSome_some,↓reduceIte,jp,BEq.rfl,String.reduceBEq,Bool.and_self,Bool.or_false,Bool.or_self,or3,o3,v0,zg,qU,decide_true,Bool.not_true,Bool.false_eq_true,qw];rw [hA];clear hA;refine ju λnx2 q2=>?_;refine qaG λA2 hA=>?_;clear hA;simp only [zb,tb3,QT,v3,qm,map_cons,List.map_nil,length_cons,length_nil,Nat.zero_add,Nat.reduceAdd,Nat.sub_self,List.replicate_zero,List.append_nil,u8,getElem?_pos,getElem_cons_succ,getElem_cons_zero,tyT,gx,gy,Option.isSome_some,↓reduceIte,jp,BEq.rfl,String.reduceBEq,Bool.and_self,Bool.or_false,Bool.or_self,or3,o3,v0,zg,qU,decide_true,Bool.not_true,Bool.false_eq_true,qw];rw [q2];clear q2;simp only [jP,YI,qm,map_cons,List.map_nil,length_cons,length_nil,Nat.zero_add,Nat.reduceAdd,Nat.sub_self,List.replicate_zero,List.append_nil,u8,getElem?_pos,getElem_cons_succ,getElem_cons_zero,gy,↓reduceIte,o3,v3,v0,gx,zg,qU,decide_true,Bool.false_eq_true,qL,zy,cb3,qc,qk,jW,e3,lc3,qaM,cap] at key ⊢;exact key
def j6:Nat->Sp3
 |0=>D9
 |n+1=>λts G q=>∃ d:Dl,ts=[d.t]/\d.dep<=n/\d.Ok/\∀ G',Ex G G'->q (W6 d) G'
def NG:∀ {d:Nat},d<=8->L2.atI [T.int 1,.int 2,.int 4,.int 8,.int 16,.int 32,.int 64,.int 128,.int 256] (d:Int)=some (.int (2 ^ d))
 |0,_=>rfl
 |1,_=>rfl
 |2,_=>rfl
 |3,_=>rfl
 |4,_=>rfl
 |5,_=>rfl
 |6,_=>rfl
 |7,_=>rfl
 |8,_=>rfl
 |k+9,h=>absurd h (Nat.not_le.mpr (v7 (Nat.lt_succ_self _) (Nat.le_add_left _ _)))
def NR:∀ {d:Nat},d<=4->L2.atI [T.int 1,.int 2,.int 4,.int 8,.int 16] (d:Int)=some (.int (2 ^ d))
 |0,_=>rfl
 |1,_=>rfl
 |2,_=>rfl
 |3,_=>rfl
 |4,_=>rfl
 |k+5,h=>absurd h (Nat.not_le.mpr (v7 (Nat.lt_succ_self _) (Nat.le_add_left _ _)))
def qbg {α:Type} {x:α} {xs:List α}:L2.atI (x::xs) 0=some x:=by simp [L2.atI,ixN]
def qdZ {α:Type} {x y:α} {xs:List α}:L2.atI (x::y::xs) 1=some y:=by
 rw [jU (by omega) (by simp;omega)];rfl
def qbn {α:Type} {x y z:α} {xs:List α}:L2.atI (x::y::z::xs) 2=some z:=by
 rw [jU (by omega) (by simp;omega)];rfl
def qjX {α:Type} {x y z w:α} {xs:List α}:L2.atI (x::y::z::w::xs) 3=some w:=by
 rw [jU (by omega) (by simp;omega)];rfl
def zM {s l:Str} {xs:List T} {R S:TS3} {d:Ends3} {τ:St3} {G:Gp} (hτ:τ[0]?=some (some (T.tup (.str s::xs)))):qy (zb (tb3 (o3 (zg false) (o3 ix3 (v3 0) (c3 (.int 0))) (c3 (.str l)))) R qw) S d τ G=(if s=l then R { d with nx:=S d } τ G else S d τ G):=by
 simp only [qy,zb,tb3,o3,v3,hτ,c3,L3.ixT,qbg,zg,qU,qw];by_cases e:s=l<;>simp [e]
def TM {te:TE3} {q:Q3} {a:Addr} {n many:Int} {QS:St3} {items:List T} {x0:Option T} {G:Gp} (hte:∀ x0 G3 (Q:T->Gp->Prop),qV [.ref a,.int many] G3 Q->te (x0::QS) G3 Q) (hL:Lf G a n) (m1:1<=many) (m2:many<1073741824) (hl:items.length<=1000) (hn:n<1000000000)
  (h:∀ (ds:List Int) G' p,ds.length=items.length->(∀ d∈ds,0<=d/\d<many)->Lf G' a (n+items.length)->Ext a G G'->G' p=none->q (.ref p) (gu G' p (.lst (ds.map T.int)))) :
  CL (λ_=>True) (gn3 0) tt3 te q items [] (x0::QS) G:=by
 refine DH _ (λi ys τ G'=>∃ (ds:List Int) (x0:Option T),τ=x0::QS/\ys=ds.map T.int/\ds.length=i/\(∀ d∈ds,0<=d/\d<many)/\Lf G' a (n+i)/\Ext a G G') ⟨[],x0,rfl,rfl,rfl,by simp,by simpa using hL,Ext.refl⟩ (λ_ _ _ _ _ _=>True.intro) ?_ ?_
 ·rintro i z ys τ G' R hz ⟨ds,x0,rfl,rfl,e,hd,hL',E⟩ hR;have hi:=(za4 hz).1;simp only [gn3,tt3,set_cons_zero,if_true];refine hte _ _ _ (zq hL' m1 m2 (by omega) λd G2 d1 d2 L2 E2=>⟨by simp [y8];omega,hR _ _ _ ⟨ds++[d],_,rfl,by simp,by simp [e],λx hx=>?_,L2.mono (by omega),E.trans E2⟩⟩);rcases List.mem_append.mp hx with hx|hx
  ·exact hd x hx
  ·simp at hx;subst hx;exact ⟨d1,d2⟩
 ·rintro ys τ G' ⟨ds,x0,rfl,rfl,e,hd,hL',E⟩ p hp;exact h ds G' p e hd hL' E hp
def X6:Sp3:=λts G q=>∃ a n most,ts=[.ref a,.int most]/\Lf G a n/\n<10000000/\0<=most/\most<=4/\∀ (h l:Nat) (ms:List Int) G',(h:Int)<=most->(l:Int)<=most->(Dl.bits h l ms).Ok->Lf G' a (n+10)->Ext a G G'->q (Dl.bits h l ms).t G'
def NL {wide:Int} {p:Addr} {ds:List Int} {x0:Option T} {G:Gp} {q:Q3} (hw:0<wide) (hl:ds.length<=1000) (hG:getL G p=some (ds.map T.int)) (h:∀ p2,G p2=none->q (.ref p2) (gu G p2 (.lst ((ds.map (·%wide)).map T.int)))) :
  CL (λG=>getL G p=some (ds.map T.int)) (gn3 0) tt3 (o3 (iC (λ_ j=>0<j) (·%·)) (v3 0) (v3 1)) q (ds.map T.int) [] [x0,some (.int wide)] G:=by
 refine N4 (λt=>match t with|.int m=>T.int (m%wide)|t=>t) (λτ=>∃ x0,τ=[x0,some (.int wide)]) hG _ _ _ ⟨_,rfl⟩ ?_ (by simp [y8];omega) λp2 hp2=>?_
 ·rintro z hz τ ⟨x0,rfl⟩ R hR;rw [mem_map] at hz;obtain ⟨m,_,rfl⟩:=hz;simp [gn3,o3,v3,iC];exact ⟨hw,hR _ ⟨_,rfl⟩⟩
 ·have:=h p2 hp2;simpa [map_map,Function.comp_def] using this
def MP:∀ ts G q,X6 ts G q->ts.length=2/\DW qV (C0 q) (qm ["_law_left_here","_law_most","_law_high","_law_low","_law_masks","_law_wide"] ts) G:=by
 rintro ts G q ⟨a,n,most,rfl,hL,hn,m1,m2,h⟩;refine ⟨rfl,?_⟩;simp only [DW,qy,Z1,qc,cb3,v3,qm,map_cons,List.map_nil,length_cons,length_nil,Nat.zero_add,Nat.reduceAdd,Nat.reduceSub,List.reduceReplicate,cons_append,List.nil_append,v0,getElem?_pos,getElem_cons_zero,o3,Nat.reduceLT,getElem_cons_succ,c3,zh,qk,qH,set_cons_succ,set_cons_zero,gn3,zF,y8,Nat.reduceLeDiff,ne_eq,qL,q0,qF,true_and,getL,gu,ixR,↓reduceIte];refine zq hL (by omega) (by omega) (by omega) λhi G1 h1 h2 L1 E1=>?_
 try simp
 refine zq L1 (by omega) (by omega) (by omega) λlo G2 l1 l2 L2' E2=>?_;simp only [lc3,zO,qc,cb3,v3,length_cons,length_nil,Nat.zero_add,Nat.reduceAdd,v0,getElem?_pos,getElem_cons_zero,c3,qk,Int.reducePow,Int.reduceNeg,cap,map_cons,u8,getElem_cons_succ,Option.join_some,List.map_nil];refine zq L2' (by omega) (by omega) (by omega) λk G3 k1 k2 L3' E3=>?_;refine ⟨⟨by omega,by omega⟩,TM (many:=256) (λx0 G3 Q hq=>by simpa [cb3,qc,v3,c3,qk] using hq) L3' (by omega) (by omega) (by rw [JR];omega) (by omega) λds G4 p e1 e2 L4 E4 hp=>?_⟩;rw [JR] at e1 L4;obtain ⟨H,rfl⟩:=Int.eq_ofNat_of_zero_le h1;obtain ⟨W,rfl⟩:=Int.eq_ofNat_of_zero_le l1;have hpa:=L4.ne hp
 try simp
 intro p2 hp2;have pp:p≠p2:=by rintro rfl;rw [qv] at hp2;cases hp2
 have e3:((H:Int)+(W:Int))=((H+W:Nat):Int):=by omega
 have w1:=EQ (H+W);have hG:∀ B,getL (gu (gu G4 p (.lst (ds.map T.int))) p2 B) p=some (ds.map T.int):=λB=>by simp only [getL,zD pp,qv]
 rw [e3,NG (d:=H+W) (by omega)];simp only [YG,v3,getElem?_cons_zero,getElem?_cons_succ,hG];refine NL (by omega) (by omega) (hG _) λp3 hp3=>?_;simp only [qv];refine h H W _ _ (by omega) (by omega) ⟨by omega,by omega,by simp;omega,λm hm=>?_⟩ ((((L4.new hpa).new ((L4.new hpa).ne hp2)).new (((L4.new hpa).new ((L4.new hpa).ne hp2)).ne hp3)).mono (by omega)) (((E1.trans E2).trans (E3.trans E4)).trans (((jx hp).trans (jx hp2)).trans (jx hp3)));rw [mem_map] at hm;obtain ⟨x,_,rfl⟩:=hm;exact ⟨Int.emod_nonneg _ (by omega),Int.emod_lt_of_pos _ (by omega)⟩
structure Cells (cells:List (List Int)) (r c b:Int):Prop where
 r:(cells.length:Int)=r
 c:∀ row∈cells,(row.length:Int)=c/\∀ x∈row,0<=x/\x<b
def ND {q:Q3} {a:Addr} {n r c b:Int} {x0:Option T} {G:Gp} (hL:Lf G a n) (hn:n<100000000) (r1:1<=r) (r2:r<=16) (c1:1<=c) (c2:c<=16) (b1:1<=b) (b2:b<=1000)
  (h:∀ cells G' p,Cells cells r c b->Lf G' a (n+256)->Ext a G G'->G' p=none->q (.ref p) (gu G' p (.lst (cells.map M1)))) :
  CL (λ_=>True) (gn3 0) tt3 (cb3 qF (qc (lc3 (zO (qc (v3 3) qk)) (gn3 0) tt3 (cb3 qV (qc (v3 1) (qc (v3 2) qk))) [none,some 1,some 2]) qk)) q (M9 0 r.toNat) [] [x0,some (.ref a),some (.int b),some (.int c)] G:=by
 refine DH _ (λi ys τ G'=>∃ (cells:List (List Int)) (x0:Option T),τ=[x0,some (.ref a),some (.int b),some (.int c)]/\ys=cells.map M1/\Cells cells i c b/\Lf G' a (n+16*i)/\Ext a G G') ⟨[],x0,rfl,rfl,⟨rfl,by simp⟩,by simpa using hL,Ext.refl⟩ (λ_ _ _ _ _ _=>True.intro) ?_ ?_
 ·rintro i z ys τ G' R hz ⟨cells,x0,rfl,rfl,C,hL',E⟩ hR;obtain ⟨hi,rfl⟩:=MV hz;have hc:=C.r;simp only [gn3,tt3,↓reduceIte,cb3,qc,lc3,zO,v3,Int.zero_add,set_cons_zero,length_cons,length_nil,Nat.zero_add,Nat.reduceAdd,u8,getElem?_pos,getElem_cons_succ,getElem_cons_zero,qk,Int.reducePow,Int.reduceNeg,qF,length_map,y8,getL,cap,map_cons,Nat.reduceLT,Option.join_some,List.map_nil];refine ⟨⟨by omega,by omega⟩,TM (many:=b) (λx0 G3 Q hq=>by simpa [cb3,qc,v3,c3,qk] using hq) hL' (by omega) (by omega) (by rw [JR];omega) (by omega) λds G4 p e1 e2 L4 E4 hp=>?_⟩;rw [JR] at e1 L4;simp only [qv];refine ⟨by omega,hR _ _ _ ⟨cells++[ds],_,rfl,by simp [M1],⟨by simp;omega,λrow hrow=>?_⟩,((L4.new (L4.ne hp)).mono (by omega)),(E.trans E4).trans (jx hp)⟩⟩;rcases List.mem_append.mp hrow with hr|hr
  ·exact C.c row hr
  ·simp at hr;subst hr;exact ⟨by omega,e2⟩
 ·rintro ys τ G' ⟨cells,x0,rfl,rfl,C,hL',E⟩ p hp;rw [JR] at C hL';exact h cells G' p ⟨by have:=C.r;omega,C.c⟩ (hL'.mono (by omega)) E hp
def Cells.ok {cells:List (List Int)} {r c b:Int} (C:Cells cells r c b) (r1:1<=r) (r2:r<=60) (c1:1<=c) (c2:c<=60) (b1:1<=b) (b2:b<=1000):(Dl.table b cells).Ok/\(Dl.table b cells).R=r/\(Dl.table b cells).C=c:=by
 have hl:=C.r;have ok:(Dl.table b cells).Ok:=⟨b1,b2,by omega,by omega,c.toNat,by omega,by omega,λrow hr=>⟨by have:=(C.c row hr).1;omega,(C.c row hr).2⟩⟩
 have e0:cells[0]?=some cells[0]:=y9 (by omega);exact ⟨ok,hl,by simp [Dl.C,e0];exact (C.c cells[0] (za0 _)).1⟩
def WW:Sp3:=λts G q=>∃ a n,ts=[.ref a]/\Lf G a n/\n<10000000/\∀ (d:Dl) G',Dr d 4 4 5->d.dep=0->Lf G' a (n+300)->Ext a G G'->q d.t G'
def KJ:∀ ts G q,WW ts G q->ts.length=1/\UW qV Q8 (C0 q) (qm ["_law_left_here","_law_rows","_law_columns","_law_banks","_law_way","_law_high","_law_low","_law_masks","_law_wide","_law_places","_law_turn","_law_cells"] ts) G:=by
 rintro ts G q ⟨a,n,rfl,hL,hn,h⟩;refine ⟨rfl,?_⟩;unfold UW;refine ju λnx1 q1=>?_;simp only [qH,q0,qc,o3,c3,cb3,v3,qm,map_cons,List.map_nil,length_cons,length_nil,Nat.zero_add,Nat.reduceAdd,Nat.add_one_sub_one,List.reduceReplicate,cons_append,List.nil_append,v0,getElem?_pos,getElem_cons_zero,qk,zh,ne_eq,y8,Nat.reduceLeDiff,qI,ql,gn3,qJ,set_cons_succ,set_cons_zero,true_and];refine zq hL (by omega) (by omega) (by omega) λr G1 r1 r2 L1 E1=>?_
 try simp
 refine zq L1 (by omega) (by omega) (by omega) λc G2 c1 c2 L2' E2=>?_
 try simp
 refine zq L2' (by omega) (by omega) (by omega) λb G3 b1 b2 L3' E3=>?_
 try simp
 rw [q1];refine ju λnx2 q2=>?_;simp only [qH,cb3,qc,v3,length_cons,length_nil,Nat.zero_add,Nat.reduceAdd,v0,getElem?_pos,getElem_cons_zero,c3,qk,gn3,set_cons_succ,set_cons_zero];refine zq L3' (by omega) (by omega) (by omega) λway G4 w1 w2 L4 E4=>?_;have EE:=(E1.trans E2).trans (E3.trans E4);rw [q2];refine ju λnx3 q3=>?_;by_cases k0:way=0
 ·subst k0;simp only [zb,tb3,o3,v3,length_cons,length_nil,Nat.zero_add,Nat.reduceAdd,Nat.reduceLT,getElem?_pos,getElem_cons_succ,getElem_cons_zero,c3,zg,qU,decide_true,Bool.false_eq_true,↓reduceIte,qL,q0,qc,cb3,v0,qk,y8,Nat.reduceLeDiff,true_and];refine zq L4 (by omega) (by omega) (by omega) λx G5 x1 x2 L5 E5=>?_
  try simp
  refine zq L5 (by omega) (by omega) (by omega) λy G6 y1 y2 L6 E6=>?_
  try simp
  exact h (.skew (1+r) (1+c) (1+b) x y) G6 ⟨⟨by omega,by omega,by omega,by omega,by omega,by omega,by omega,by omega,by omega,by omega⟩,by show 1+r<=4;omega,by show 1+c<=4;omega,by show 1+b<=5;omega⟩ rfl (L6.mono (by omega)) (EE.trans (E5.trans E6))
 simp only [zb,tb3,o3,v3,c3,zg,qU,getElem?_cons_zero,getElem?_cons_succ,k0,decide_false,Bool.false_eq_true,if_false,qw];rw [q3];refine ju λnx4 q4=>?_;by_cases k1:way=1
 ·subst k1;simp only [zb,tb3,o3,v3,length_cons,length_nil,Nat.zero_add,Nat.reduceAdd,Nat.reduceLT,getElem?_pos,getElem_cons_succ,getElem_cons_zero,c3,zg,qU,decide_true,Bool.false_eq_true,↓reduceIte,qy,Z1,qc,cb3,v0,qk,qH,set_cons_succ,set_cons_zero,gn3,zF,y8,Nat.reduceLeDiff,zh,ne_eq,qL,q0,qF,true_and,getL,gu,ixR];refine zq L4 (by omega) (by omega) (by omega) λhi G5 h1 h2 L5 E5=>?_
  try simp
  refine zq L5 (by omega) (by omega) (by omega) λlo G6 l1 l2 L6 E6=>?_;simp only [lc3,zO,qc,cb3,v3,length_cons,length_nil,Nat.zero_add,Nat.reduceAdd,v0,getElem?_pos,getElem_cons_zero,c3,qk,Int.reducePow,Int.reduceNeg,cap,map_cons,Nat.reduceLT,getElem_cons_succ,Option.join_some,List.map_nil];refine zq L6 (by omega) (by omega) (by omega) λk G7 k1 k2 L7 E7=>?_;refine ⟨⟨by omega,by omega⟩,TM (many:=16) (λx0 G3 Q hq=>by simpa [cb3,qc,v3,c3,qk] using hq) L7 (by omega) (by omega) (by rw [JR];omega) (by omega) λds G8 p e1 e2 L8 E8 hp=>?_⟩;rw [JR] at e1 L8;obtain ⟨H,rfl⟩:=Int.eq_ofNat_of_zero_le h1;obtain ⟨W,rfl⟩:=Int.eq_ofNat_of_zero_le l1;have hpa:=L8.ne hp
  try simp
  intro p2 hp2;have pp:p≠p2:=by rintro rfl;rw [qv] at hp2;cases hp2
  have e3:((H:Int)+(W:Int))=((H+W:Nat):Int):=by omega
  have w1:=EQ (H+W);have hG:∀ B,getL (gu (gu G8 p (.lst (ds.map T.int))) p2 B) p=some (ds.map T.int):=λB=>by simp only [getL,zD pp,qv]
  rw [e3,NR (d:=H+W) (by omega)];simp only [YG,v3,getElem?_cons_zero,getElem?_cons_succ,hG];refine NL (by omega) (by omega) (hG _) λp3 hp3=>?_;simp only [qv];have bl:(Dl.bits H W (ds.map (·%2 ^ (H+W)))).Ok:=⟨by omega,by omega,by simp;omega,λm hm=>by
   rw [mem_map] at hm;obtain ⟨x,_,rfl⟩:=hm;exact ⟨Int.emod_nonneg _ (by omega),Int.emod_lt_of_pos _ (by omega)⟩⟩
  have q1:=EV (n:=H) (k:=2) (by omega);have q2:=EV (n:=W) (k:=2) (by omega);have q3:=EV (n:=ds.length) (k:=2) (by omega);exact h (.bits H W _) _ ⟨bl,by show (2:Int) ^ H<=4;omega,by show (2:Int) ^ W<=4;omega,by simp [Dl.B];omega⟩ rfl ((((L8.new hpa).new ((L8.new hpa).ne hp2)).new (((L8.new hpa).new ((L8.new hpa).ne hp2)).ne hp3)).mono (by omega)) (EE.trans (((E5.trans E6).trans (E7.trans E8)).trans (((jx hp).trans (jx hp2)).trans (jx hp3))))
 simp only [zb,tb3,o3,v3,c3,zg,qU,getElem?_cons_zero,getElem?_cons_succ,k1,decide_false,Bool.false_eq_true,if_false,qw];rw [q4];refine ju λnx5 q5=>?_;by_cases k2:way=2
 ·subst k2;simp only [zb,tb3,o3,v3,length_cons,length_nil,Nat.zero_add,Nat.reduceAdd,Nat.reduceLT,getElem?_pos,getElem_cons_succ,getElem_cons_zero,c3,zg,qU,decide_true,Bool.false_eq_true,↓reduceIte,qy,qH,u3,Z7,iC,cb3,qc,v0,qk,zh,ne_eq,y8,gn3,set_cons_succ,set_cons_zero];refine ⟨cm (by omega) (by omega),⟨by omega,by omega⟩,zq L4 (by omega) (by omega) (by omega) λe G5 e1 e2 L5 E5=>?_⟩;obtain ⟨u1,u2,u3⟩:=NW (show 1<=1+r by omega) (show 1<=1+c by omega) (show 1<=1+b by omega);have rc:(1+r)*(1+c)<=4*4:=Int.mul_le_mul (by omega) (by omega) (by omega) (by omega);simp only [WF,zO,qc,c3,qk,Int.reducePow,Int.reduceNeg,Int.neg_ofNat_le_ofNat,Int.reduceLT,and_self,Int.reduceToNat,true_and];obtain ⟨p0,hp0⟩:∃ p0,p0=-(-(1+r)*(1+c)/(1+b))+e:=⟨_,rfl⟩
  refine ER _ (λi τ G'=>G'=G5/\∃ (pl:Int) (x:Option T),τ=[some (.ref a),some (.int (1+r)),some (.int (1+c)),some (.int (1+b)),some (.int 2),none,none,none,none,some (.int pl),x,none]/\Plc (1+b) p0 pl i) ⟨rfl,_,none,by rw [← hp0],⟨by omega,by omega,.inr ⟨by omega,by omega⟩⟩⟩ (λ_ _ _ _ _=>True.intro) ?_ ?_
  ·rintro i x τ G' nx hx ⟨rfl,pl,y,rfl,P⟩ hn;simp only [gn3,zb,tb3,o3,cb3,qc,v3,set_cons_succ,set_cons_zero,length_cons,length_nil,Nat.zero_add,Nat.reduceAdd,Nat.reduceLT,getElem?_pos,getElem_cons_succ,getElem_cons_zero,qk,c3,iB,decide_eq_true_eq,qH,zh,qw];refine ⟨1+b,pl,rfl,by omega,by have:=P.lo;omega,?_⟩;simp;split
   ·exact hn _ _ ⟨rfl,_,_,rfl,P.next (by omega) (by omega) (by omega)⟩
   ·exact hn _ _ ⟨rfl,_,_,rfl,P.stay (by omega) (by omega) (by omega)⟩
  ·rintro τ G' ⟨rfl,pl,x,rfl,P⟩;simp only [qL,q0,qc,c3,v3,length_cons,length_nil,Nat.zero_add,Nat.reduceAdd,Nat.reduceLT,getElem?_pos,getElem_cons_succ,getElem_cons_zero,qk,y8,Nat.reduceLeDiff,true_and];rw [JR] at P;have lo:=P.lo;have hi:=P.hi;have m1:(1+b)*-(-(1+r)*(1+c)/(1+b))<=(1+b)*pl:=Int.mul_le_mul_of_nonneg_left (by omega) (by omega);exact h (.rests (1+r) (1+c) (1+b) pl) G' ⟨⟨by omega,by omega,by omega,by omega,by omega,by omega,by omega,by omega,P.done (by omega) (by omega),by omega⟩,by show 1+r<=4;omega,by show 1+c<=4;omega,by show 1+b<=5;omega⟩ rfl (L5.mono (by omega)) (EE.trans E5)
 ·simp only [zb,tb3,o3,v3,c3,zg,qU,getElem?_cons_zero,getElem?_cons_succ,k2,decide_false,Bool.false_eq_true,if_false,qw];rw [q5];simp only [qy,qH,lc3,zO,qc,v3,length_cons,length_nil,Nat.zero_add,Nat.reduceAdd,Nat.reduceLT,getElem?_pos,getElem_cons_succ,getElem_cons_zero,qk,Int.reducePow,Int.reduceNeg,gn3,qL,q0,c3,set_cons_succ,set_cons_zero,cb3,u8,qF,y8,Nat.reduceLeDiff,true_and,getL,cap,map_cons,v0,Option.join_some,List.map_nil];refine ⟨⟨by omega,by omega⟩,ND L4 (by omega) (by omega) (by omega) (by omega) (by omega) (by omega) (by omega) λcells G5 p C L5 E5 hp=>?_⟩;obtain ⟨ok,eR,eC⟩:=C.ok (by omega) (by omega) (by omega) (by omega) (by omega) (by omega);simp only [qv];exact h (.table (1+b) cells) _ ⟨ok,by omega,by omega,by show 1+b<=5;omega⟩ rfl ((L5.new (L5.ne hp)).mono (by omega)) (EE.trans (E5.trans (jx hp)))
def WN:Sp3:=λts G q=>∃ a n,ts=[.ref a]/\Lf G a n/\n<10000000/\∀ (b:Int) cells r c G',Cells cells r c b->Dr (.table b cells) 16 16 32->(Dl.table b cells).R=r->(Dl.table b cells).C=c->Lf G' a (n+300)->Ext a G G'->q (Dl.table b cells).t G'
def K9:∀ ts G q,WN ts G q->ts.length=1/\EM JF qV (C0 q) (qm ["_law_left_here","_law_rows","_law_columns","_law_banks","_law_cells"] ts) G:=by
 rintro ts G q ⟨a,n,rfl,hL,hn,h⟩;refine ⟨rfl,?_⟩;simp only [EM,qy,qH,cb3,qc,v3,qm,map_cons,List.map_nil,length_cons,length_nil,Nat.zero_add,Nat.reduceAdd,Nat.add_one_sub_one,List.reduceReplicate,cons_append,List.nil_append,v0,getElem?_pos,getElem_cons_zero,qk,qI,ql,gn3,qJ,o3,c3,set_cons_succ,set_cons_zero,zF,y8,Nat.reduceLeDiff,zh,ne_eq,qL,q0,Nat.reduceLT,getElem_cons_succ,u8,qF,true_and,getL];refine ⟨a,n,rfl,hL,by omega,λr c G1 r1 r2 c1 c2 L1 E1=>?_⟩;simp;intro p hp;have hpa:=L1.ne hp;refine zq (L1.new hpa) (by omega) (by omega) (by omega) λd G2 d1 d2 L2' E2=>?_;have g2:=E2 p _ hpa qv;obtain ⟨w,hw,w',rfl,w1,w2⟩:=qpo d1 d2 (P:=λt=>∃ w,t=T.int w/\1<=w/\w<=32) ⟨4,rfl,by omega,by omega⟩ ⟨9,rfl,by omega,by omega⟩ ⟨32,rfl,by omega,by omega⟩;simp only [ixR,getL,g2,hw];refine zq L2' w1 (by omega) (by omega) λb G3 b1 b2 L3' E3=>?_;simp only [lc3,zO,qc,v3,length_cons,length_nil,Nat.zero_add,Nat.reduceAdd,Nat.reduceLT,getElem?_pos,getElem_cons_succ,getElem_cons_zero,qk,Int.reducePow,Int.reduceNeg,cap,map_cons,v0,Option.join_some,List.map_nil];refine ⟨⟨by omega,by omega⟩,ND L3' (by omega) (by omega) (by omega) (by omega) (by omega) (by omega) (by omega) λcells G5 p C L5 E5 hp5=>?_⟩;obtain ⟨ok,eR,eC⟩:=C.ok (by omega) (by omega) (by omega) (by omega) (by omega) (by omega);simp only [qv];exact h (1+b) cells r c _ C ⟨ok,by omega,by omega,by show 1+b<=32;omega⟩ eR eC ((L5.new (L5.ne hp5)).mono (by omega)) (E1.trans (((jx hp).trans E2).trans (E3.trans (E5.trans (jx hp5)))))
def MF {a b x y:Int} (h0:1<=a) (h1:a<=x) (h2:1<=b) (h3:b<=y):a*b<=x*y:=Int.mul_le_mul h1 h3 (by omega) (by omega)
def Dr.join {d e:Dl} {r c b r' c' b':Int} (D:Dr d r c b) (E:Dr e r' c' b') (h1:r*r'<=4096) (h2:c*c'<=4096) (h3:b*b'<=4096):Dr (.joined d e) (r*r') (c*c') (b*b'):=by
 have Ld:=Dl.lims D.ok;have Le:=Dl.lims E.ok;have a1:=MF Ld.r1 D.r2 Le.r1 E.r2;have a2:=MF Ld.c1 D.c2 Le.c1 E.c2;have a3:=MF Ld.b1 D.b2 Le.b1 E.b2;exact ⟨⟨D.ok,E.ok,by omega,by omega,by omega⟩,a1,a2,a3⟩
def Dr.mono {d:Dl} {r c b r' c' b':Int} (D:Dr d r c b) (h1:r<=r') (h2:c<=c') (h3:b<=b'):Dr d r' c' b':=⟨D.ok,by have:=D.r2;omega,by have:=D.c2;omega,by have:=D.b2;omega⟩
def QB:Sp3:=λts G q=>∃ a n,ts=[.ref a]/\Lf G a n/\n<1000000/\∀ (d:Dl) G',Dr d 16 16 32->d.dep<=2->Lf G' a (n+1000)->Ext a G G'->q d.t G'
def qdc {x:Int} (h0:0<=x) (h1:x<2):Dr (.joined (.skew (1+x) 1 2 1 1) (.table 2 [[1,0]])) 2 2 4:=by
 have a:Dr (.skew (1+x) 1 2 1 1) 2 1 2:=⟨⟨by omega,by omega,by omega,by omega,by omega,by omega,by omega,by omega,by omega,by omega⟩,by show 1+x<=2;omega,Int.le_refl 1,Int.le_refl 2⟩
 have b:Dr (.table 2 [[1,0]]) 1 2 2:=⟨⟨by decide,by decide,by decide,by decide,2,by decide,by decide,by simp⟩,by decide,by decide,by decide⟩
 exact (a.join b (by decide) (by decide) (by decide)).mono (by decide) (by decide) (by decide)
def qrn:Dr (.joined (.skew 8 1 3 1 1) (.rests 2 16 5 7)) 16 16 15:=by
 have a:Dr (.skew 8 1 3 1 1) 8 1 3:=⟨⟨by decide,by decide,by decide,by decide,by decide,by decide,by decide,by decide,by decide,by decide⟩,by decide,by decide,by decide⟩
 have b:Dr (.rests 2 16 5 7) 2 16 5:=⟨⟨by decide,by decide,by decide,by decide,by decide,by decide,by decide,by decide,by decide,by decide⟩,by decide,by decide,by decide⟩
 exact (a.join b (by decide) (by decide) (by decide)).mono (by decide) (by decide) (by decide)
def qrB:Dr (.joined (.rests 1 8 3 4) (.skew 16 2 5 2 1)) 16 16 15:=by
 have a:Dr (.rests 1 8 3 4) 1 8 3:=⟨⟨by decide,by decide,by decide,by decide,by decide,by decide,by decide,by decide,by decide,by decide⟩,by decide,by decide,by decide⟩
 have b:Dr (.skew 16 2 5 2 1) 16 2 5:=⟨⟨by decide,by decide,by decide,by decide,by decide,by decide,by decide,by decide,by decide,by decide⟩,by decide,by decide,by decide⟩
 exact (a.join b (by decide) (by decide) (by decide)).mono (by decide) (by decide) (by decide)
def C9:∀ ts G q,QB ts G q->ts.length=1/\YA qV X0 WS X6 WN WW (C0 q) (qm ["_law_left_here","_law_way","_law_inner","_law_some"] ts) G:=by
 rintro ts G q ⟨a,n,rfl,hL,hn,h⟩;refine ⟨rfl,?_⟩;unfold YA;refine ju λnx1 q1=>?_;simp only [qH,cb3,qc,v3,qm,map_cons,List.map_nil,length_cons,length_nil,Nat.zero_add,Nat.reduceAdd,Nat.add_one_sub_one,List.reduceReplicate,cons_append,List.nil_append,v0,getElem?_pos,getElem_cons_zero,c3,qk,gn3,set_cons_succ,set_cons_zero];refine zq hL (by omega) (by omega) (by omega) λw G1 w1 w2 L1 E1=>?_
 try simp
 rw [q1];clear q1;refine ju λnx2 q2=>?_;by_cases k0:w<2
 ·simp only [zb,tb3,o3,v3,length_cons,length_nil,Nat.zero_add,Nat.reduceAdd,Nat.reduceLT,getElem?_pos,getElem_cons_succ,getElem_cons_zero,c3,iB,k0,decide_true,↓reduceIte,qL,cb3,qc,v0,qk];exact ⟨a,n+1,rfl,L1,by omega,λr c b x y G2 D L2' E2=>h _ G2 D (Nat.zero_le _) (L2'.mono (by omega)) (E1.trans E2)⟩
 simp only [zb,tb3,o3,v3,c3,iB,getElem?_cons_zero,getElem?_cons_succ,k0,decide_false,Bool.false_eq_true,if_false,qw];rw [q2];clear q2;refine ju λnx3 q3=>?_;by_cases k1:w=2
 ·subst k1;simp only [zb,tb3,o3,v3,length_cons,length_nil,Nat.zero_add,Nat.reduceAdd,Nat.reduceLT,getElem?_pos,getElem_cons_succ,getElem_cons_zero,c3,zg,qU,decide_true,Bool.false_eq_true,↓reduceIte,qL,cb3,qc,v0,qk];exact ⟨a,n+1,rfl,L1,by omega,λr c b p G2 D L2' E2=>h _ G2 D (Nat.zero_le _) (L2'.mono (by omega)) (E1.trans E2)⟩
 simp only [zb,tb3,o3,v3,c3,zg,qU,getElem?_cons_zero,getElem?_cons_succ,k1,decide_false,Bool.false_eq_true,if_false,qw];rw [q3];clear q3;refine ju λnx4 q4=>?_;by_cases k2:w=3
 ·subst k2;simp only [zb,tb3,o3,v3,length_cons,length_nil,Nat.zero_add,Nat.reduceAdd,Nat.reduceLT,getElem?_pos,getElem_cons_succ,getElem_cons_zero,c3,zg,qU,decide_true,Bool.false_eq_true,↓reduceIte,qL,cb3,qc,v0,qk];refine ⟨a,n+1,4,rfl,L1,by omega,by omega,by omega,λhh l ms G2 h1 h2 ok L2' E2=>h _ G2 ⟨ok,?_,?_,?_⟩ (Nat.zero_le _) (L2'.mono (by omega)) (E1.trans E2)⟩
  ·have:=EV (n:=hh) (k:=4) (by omega);show (2:Int) ^ hh<=16;omega
  ·have:=EV (n:=l) (k:=4) (by omega);show (2:Int) ^ l<=16;omega
  ·have:=EV ok.2.2.1;show (2:Int) ^ ms.length<=32;omega
 simp only [zb,tb3,o3,v3,c3,zg,qU,getElem?_cons_zero,getElem?_cons_succ,k2,decide_false,Bool.false_eq_true,if_false,qw];rw [q4];clear q4;refine ju λnx5 q5=>?_;by_cases k3:w=4
 ·subst k3;simp only [zb,tb3,o3,v3,length_cons,length_nil,Nat.zero_add,Nat.reduceAdd,Nat.reduceLT,getElem?_pos,getElem_cons_succ,getElem_cons_zero,c3,zg,qU,decide_true,Bool.false_eq_true,↓reduceIte,qL,cb3,qc,v0,qk];exact ⟨a,n+1,rfl,L1,by omega,λb cells r c G2 C D eR eC L2' E2=>h _ G2 D (Nat.zero_le _) (L2'.mono (by omega)) (E1.trans E2)⟩
 simp only [zb,tb3,o3,v3,c3,zg,qU,getElem?_cons_zero,getElem?_cons_succ,k3,decide_false,Bool.false_eq_true,if_false,qw];rw [q5];clear q5;refine ju λnx6 q6=>?_;by_cases k4:w=5
 ·subst k4;simp only [zb,tb3,o3,v3,length_cons,length_nil,Nat.zero_add,Nat.reduceAdd,Nat.reduceLT,getElem?_pos,getElem_cons_succ,getElem_cons_zero,c3,zg,qU,decide_true,Bool.false_eq_true,↓reduceIte,qy,qH,q0,qc,cb3,v0,qk,zh,ne_eq,y8,Nat.reduceLeDiff,gn3,zF,set_cons_succ,set_cons_zero,qR,bm3,u8,getL,gu,Option.isSome_some,QC,cons_append,List.nil_append,qL,true_and];refine zq L1 (by omega) (by omega) (by omega) λx G2 x1 x2 L2' E2=>?_;have I:=qdc x1 x2
  try simp
  refine ⟨a,n+1+1,rfl,L2',by omega,λd G3 Dd dd L3' E3=>?_⟩
  try simp
  refine ⟨a,n+1+1+300,rfl,L3',by omega,λe G4 De de L4 E4=>?_⟩
  try simp
  intro p hp;have hpa:=L4.ne hp;refine zq (((L4.new hpa).new hpa).new hpa) (by omega) (by omega) (by omega) λk G5 k1 k2 L5 E5=>?_;have g5:=E5 p _ hpa qv;have EE:Ext a G G5:=(E1.trans E2).trans ((E3.trans E4).trans (Ext.trans (λb o hb e=>by
   have hbp:b≠p:=by rintro rfl;rw [hp] at e;cases e
   rw [zD hbp,zD hbp,zD hbp];exact e) E5))
  have P1:∃ d':Dl,(Dl.joined (.joined (.skew (1+x) 1 2 1 1) (.table 2 [[1,0]])) d).t=d'.t/\Dr d' 16 16 32/\d'.dep<=2:=⟨_,rfl,(I.join Dd (by decide) (by decide) (by decide)).mono (by decide) (by decide) (by decide),by simp [Dl.dep,dd]⟩
  have P2:∃ d':Dl,(Dl.joined e (.joined (.skew (1+x) 1 2 1 1) (.table 2 [[1,0]]))).t=d'.t/\Dr d' 16 16 32/\d'.dep<=2:=⟨_,rfl,(De.join I (by decide) (by decide) (by decide)).mono (by decide) (by decide) (by decide),by simp [Dl.dep,de]⟩
  have P3:∃ d':Dl,(Dl.joined (.skew 8 1 3 1 1) (.rests 2 16 5 7)).t=d'.t/\Dr d' 16 16 32/\d'.dep<=2:=⟨_,rfl,qrn.mono (by decide) (by decide) (by decide),by simp [Dl.dep]⟩
  have P4:∃ d':Dl,(Dl.joined (.rests 1 8 3 4) (.skew 16 2 5 2 1)).t=d'.t/\Dr d' 16 16 32/\d'.dep<=2:=⟨_,rfl,qrB.mono (by decide) (by decide) (by decide),by simp [Dl.dep]⟩
  obtain ⟨t,ht,d',rfl,D',dl⟩:=qnT k1 k2 (P:=λt=>∃ d':Dl,t=d'.t/\Dr d' 16 16 32/\d'.dep<=2) P1 P2 P3 P4;have hg:getL G5 p=some [(Dl.joined (.joined (.skew (1+x) 1 2 1 1) (.table 2 [[1,0]])) d).t,(Dl.joined e (.joined (.skew (1+x) 1 2 1 1) (.table 2 [[1,0]]))).t,(Dl.joined (.skew 8 1 3 1 1) (.rests 2 16 5 7)).t,(Dl.joined (.rests 1 8 3 4) (.skew 16 2 5 2 1)).t]:=by
   unfold getL;rw [g5];rfl
  rw [L3.ixR,hg];simp only [ht];exact h d' G5 D' dl (L5.mono (by omega)) EE
 ·simp only [zb,tb3,o3,v3,c3,zg,qU,getElem?_cons_zero,getElem?_cons_succ,k4,decide_false,Bool.false_eq_true,if_false,qw];rw [q6];simp only [qL,q0,qc,c3,cb3,v3,length_cons,length_nil,Nat.zero_add,Nat.reduceAdd,v0,getElem?_pos,getElem_cons_zero,qk,y8,Nat.reduceLeDiff,true_and];refine ⟨a,n+1,rfl,L1,by omega,λd G3 Dd dd L3' E3=>?_⟩;refine ⟨a,n+1+300,rfl,L3',by omega,λe G4 De de L4 E4=>?_⟩
  try simp
  exact h (.joined d e) G4 ((Dd.join De (by decide) (by decide) (by decide)).mono (by decide) (by decide) (by decide)) (by simp [Dl.dep];omega) (L4.mono (by omega)) (E1.trans (E3.trans E4))
def qcF:∀ (k n:Nat),pop (k+1) n=pop k n+n/2 ^ k%2
 |0,n=>by simp [pop]
 |k+1,n=>by
  have e1:pop (k+2) n=n%2+pop (k+1) (n/2):=rfl;have e2:pop (k+1) n=n%2+pop k (n/2):=rfl;rw [e1,e2,qcF k (n/2),Nat.div_div_eq_div_mul,show 2*2 ^ k=2 ^ (k+1) by rw [Nat.pow_succ,Nat.mul_comm]];omega
def qmJ {k k' n:Nat} (h:n<2 ^ k) (hk:k<=k'):pop k' n=pop k n:=by
 induction hk with
 |refl=>rfl
 |step hk ih=>rw [XF _ n (v7 h (Nat.pow_le_pow_right (by omega) hk)),ih]
def DR:Sp3:=λts G q=>∃ n:Int,ts=[.int n]/\0<=n/\n<512/\∀ G',Ex G G'->q (.bl (pop 64 n.toNat%2==1)) G'
def qaB:∀ ts G q,DR ts G q->ts.length=1/\CJ (C0 q) (qm ["_law_number","_law_found","_law_t"] ts) G:=by
 rintro ts G q ⟨n,rfl,n0,n1,h⟩;refine ⟨rfl,?_⟩;obtain ⟨m,rfl⟩:=Int.eq_ofNat_of_zero_le n0;simp only [CJ,qy,qH,c3,gn3,WF,zO,qc,qk,Int.reducePow,Int.reduceNeg,Int.neg_ofNat_le_ofNat,Int.reduceLT,and_self,Int.reduceToNat,qm,map_cons,List.map_nil,length_cons,length_nil,Nat.zero_add,Nat.reduceAdd,Nat.add_one_sub_one,List.reduceReplicate,cons_append,List.nil_append,set_cons_succ,set_cons_zero,true_and];refine ER _ (λi τ G'=>Ex G G'/\∃ x2,τ=[some (.int m),some (.bl (pop i m%2==1)),x2]) ⟨Ex.refl,none,rfl⟩ (λ_ _ _ _ _=>True.intro) ?_ ?_
 ·rintro i z τ G' nx hz ⟨E,x2,rfl⟩ hn;obtain ⟨hi,rfl⟩:=MV hz;have hi9:i<=8:=Nat.le_of_lt_succ hi;simp only [gn3,qH,o3,v3,Int.zero_add,set_cons_succ,set_cons_zero,length_cons,length_nil,Nat.zero_add,Nat.reduceAdd,Nat.reduceLT,getElem?_pos,getElem_cons_succ,getElem_cons_zero,v0,zF,qc,c3,qk,y8,Nat.reduceLeDiff,u8,iC,Int.reduceLT,zg,qU,Bool.false_eq_true,↓reduceIte,true_and,ixR,getL,gu];intro p hp;rw [NG hi9];have hp2:=EQ i;have hp3:=EV (n:=i) (k:=8) hi9;simp only;refine ⟨⟨by omega,by omega⟩,hn _ _ ⟨E.trans (j4 hp),some (.int i),?_⟩⟩;have e1:((m:Int)/2 ^ i)=((m/2 ^ i:Nat):Int):=by rw [p2];exact (Int.natCast_ediv _ _).symm
  have e2:decide ((m:Int)/2 ^ i%2=1)=(m/2 ^ i%2==1):=by
   rw [e1];by_cases hb:m/2 ^ i%2=1
   ·have z:((m/2 ^ i:Nat):Int)%2=1:=by omega
    rw [za2 z,hb];rfl
   ·have z:¬ ((m/2 ^ i:Nat):Int)%2=1:=by omega
    rw [za1 z];exact (beq_eq_false_iff_ne.mpr hb).symm
  have e3:(pop (i+1) m%2==1)=!(decide ((pop i m%2==1)=decide ((m:Int)/2 ^ i%2=1))):=by
   rw [e2,qcF];have h1:pop i m%2=0\/pop i m%2=1:=by omega
   have h2:m/2 ^ i%2=0\/m/2 ^ i%2=1:=by omega
   rcases h1 with h1|h1<;>rcases h2 with h2|h2<;>simp [Nat.add_mod,h1,h2]
  rw [e3]
  all_goals try simp
 ·rintro τ G' ⟨E,x2,rfl⟩;rw [JR];simp only [qL,v3,length_cons,length_nil,Nat.zero_add,Nat.reduceAdd,Nat.reduceLT,getElem?_pos,getElem_cons_succ,getElem_cons_zero];have:=h G' E;rw [show (m:Int).toNat=m from rfl,qmJ (k:=9) (k':=64) (by omega) (by omega)] at this;simpa using this
def ZK:Nat->Sp3
 |0=>D9
 |n+1=>λts G q=>∃ (d:Dl) (i j:Int),ts=[d.t,.int i,.int j]/\d.dep<=n/\d.Ok/\Inn d i j/\∀ G',Ex G G'->q (.int (d.bank i j)) G'
def qir {ms:List Int} {i j c:Int} {n:Int} {G:Gp} {q:Q3} (hn:n=i*c+j) (hc:UM i c) (h0:0<=n) (hl:ms.length<=5) (hm:∀ m∈ms,0<=m/\m<512) (h:∀ p G',Ex G G'->G' p=none->q (.ref p) (gu G' p (.lst ((zJ n 0 ms).map T.int)))) :
  CL (λG=>jP G (.tup (ms.map T.int))=some (ms.map T.int)) (qI 2 (ql (gn3 0) (ql (gn3 1) qJ))) (tb3 (cb3 DR (qc (o3 (iI Builtin.bitAnd) (o3 zh (o3 (iC UM (·*·)) (v3 3) (v3 4)) (v3 2)) (v3 1)) qk))) (o3 ix3 (zF (qc (c3 (.int 1)) (qc (c3 (.int 2)) (qc (c3 (.int 4)) (qc (c3 (.int 8)) (qc (c3 (.int 16)) qk)))))) (v3 0)) q (qbJ (ms.map T.int)) [] [none,none,some (.int j),some (.int i),some (.int c)] G:=by
 refine DH _ (λk ys τ G'=>Ex G G'/\ys=(zJ n 0 (ms.take k)).map T.int/\∃ x0 x1,τ=[x0,x1,some (.int j),some (.int i),some (.int c)]) ⟨Ex.refl,by simp [zJ],none,none,rfl⟩ (λ_ ys τ G' _ hp=>rfl) ?_ ?_
 ·rintro k z ys τ G' R hz ⟨E,rfl,x0,x1,rfl⟩ hR;obtain ⟨a,ha,rfl⟩:=DL hz;rw [getElem?_map] at ha;cases e:ms[k]? with
  |none=>rw [e] at ha;cases ha
  |some m=>
   rw [e] at ha;have:a=T.int m:=by simpa using ha.symm
   subst this;obtain ⟨hi,hm'⟩:=za4 e;have mm:=hm m (by rw [← hm'];exact za0 hi);have hr:=PyProof.Rows.bitAnd_range n mm.1;simp [qy,qH,gn3,qL,jn,zb,qR,YS,qw,v3,c3,o3,u3,Z7,L3.ixT,L3.ixR,zh,iI,iC,iB,zg,qU,J5,tb3,UF,or3,JS,zy,VF,ja,if3,ch3,cb3,qc,qk,QT,tyT,jp,q0,zF,VD,np3,sp3,qI,ql,qJ,zz,J4,Z1,qm,bm3,QC,J6,jW,YZ,VG,UR,UO,qF,jm,YI,UL,VJ,YX,HT.sIx,getL,in3,zr,eqF,gu,y8,getElem?_cons_zero,getElem?_cons_succ,hc,← hn];refine ⟨_,rfl,hr.1,by omega,λG2 E2=>?_⟩;have tk:ms.take (k+1)=ms.take k++[m]:=by rw [List.take_succ_eq_append_getElem hi,hm']
   have lt:(ms.take k).length=k:=by rw [List.length_take];omega
   have st:zJ n 0 (ms.take (k+1))=zJ n 0 (ms.take k)++(if qar n m then [2 ^ k] else []):=by
    rw [tk,YF,lt];simp [zJ]
   have cl:=Q9 n 0 (ms.take k);have eo:(pop 64 (Builtin.bitAnd n m).toNat%2==1)=qar n m:=rfl;rw [eo];cases ho:qar n m with
   |true=>
    simp;intro p hp;have e5:=NR (d:=k) (by omega);simp [L3.ixR,getL,qv,e5];refine ⟨by omega,hR _ _ _ ⟨E.trans (E2.trans (j4 hp)),?_,_,_,rfl⟩⟩;rw [st,ho];simp
   |false=>
    simp;refine hR _ _ _ ⟨E.trans E2,?_,_,_,rfl⟩;rw [st,ho];simp
 ·rintro ys τ G' ⟨E,rfl,x0,x1,rfl⟩ p hp;rw [CS,length_map,List.take_length];exact h p G' E hp
def UZ (n:Nat):∀ ts G q,ZK (n+1) ts G q->ts.length=3/\DS (j6 (n+1)) DR (ZK n) (C0 q) (qm ["_law_dealing_here","_law_i","_law_j","_law_rows","_law_columns","_law_banks","_law_some","_law_high","_law_wide","_law_more"] ts) G:=by
 rintro ts G q ⟨d,i,j,rfl,hd,ok,I,h⟩;refine ⟨rfl,?_⟩;have i1:=I.i1;have i2:=I.i2;have j1:=I.j1;have j2:=I.j2;have L:=Dl.lims ok;have r2:=L.r2;have c1:=L.c1;have c2:=L.c2;have b1:=L.b1;have b2:=L.b2;unfold DS;refine ju λnx1 q1=>?_;simp only [qH,cb3,qc,qk,v3,qm,List.map,List.length,cons_append,getElem?_cons_zero];refine ⟨d,rfl,hd,ok,λG1 E1=>?_⟩;simp [W6,qI,ql,qJ,gn3];cases d with
 |skew r c b x y=>
  obtain ⟨k1,k2,k3,k4,k5,k6,k7,k8,k9,k10⟩:=ok;simp only [Dl.t];rw [q1,zM rfl,if_pos rfl];simp [L2.atI,ixN,qy,qH,gn3,qL,jn,zb,qR,YS,qw,v3,c3,o3,u3,Z7,L3.ixT,L3.ixR,zh,iI,iC,iB,zg,qU,J5,tb3,UF,or3,JS,zy,VF,ja,if3,ch3,cb3,qc,qk,QT,tyT,jp,q0,zF,VD,np3,sp3,qI,ql,qJ,zz,J4,Z1,qm,bm3,QC,J6,jW,YZ,VG,UR,UO,qF,jm,YI,UL,VJ,YX,HT.sIx,getL,in3,zr,eqF,gu,y8,getElem?_cons_zero,getElem?_cons_succ];exact ⟨cm' (by omega) (by omega),cm' (by omega) (by omega),by simp only [Dl.B];omega,h _ E1⟩
 |rests r c b x=>
  simp only [Dl.t];rw [q1,zM rfl,if_neg (by decide),zM rfl,if_pos rfl];simp [qy,qH,gn3,qL,jn,zb,qR,YS,qw,v3,c3,o3,u3,Z7,L3.ixT,L3.ixR,zh,iI,iC,iB,zg,qU,J5,tb3,UF,or3,JS,zy,VF,ja,if3,ch3,cb3,qc,qk,QT,tyT,jp,q0,zF,VD,np3,sp3,qI,ql,qJ,zz,J4,Z1,qm,bm3,QC,J6,jW,YZ,VG,UR,UO,qF,jm,YI,UL,VJ,YX,HT.sIx,getL,in3,zr,eqF,gu,y8,getElem?_cons_zero,getElem?_cons_succ];exact ⟨cm (by omega) (by omega),by omega,h _ E1⟩
 |bits hh l ms=>
  obtain ⟨k1,k2,k3,k4⟩:=ok;simp only [Dl.t];rw [q1,zM rfl,if_neg (by decide),zM rfl,if_neg (by decide),zM rfl,if_pos rfl];refine ju λnx2 q2=>?_;simp [qbg,qjX,lc3,EW,cap,qy,qH,gn3,qL,jn,zb,qR,YS,qw,v3,c3,o3,u3,Z7,L3.ixT,L3.ixR,zh,iI,iC,iB,zg,qU,J5,tb3,UF,or3,JS,zy,VF,ja,if3,ch3,cb3,qc,qk,QT,tyT,jp,q0,zF,VD,np3,sp3,qI,ql,qJ,zz,J4,Z1,qm,bm3,QC,J6,jW,YZ,VG,UR,UO,qF,jm,YI,UL,VJ,YX,HT.sIx,getL,in3,zr,eqF,gu,y8,getElem?_cons_zero,getElem?_cons_succ];refine qir (n:=i*2 ^ l+j) rfl (cm (by omega) (by omega)) (M2 (h:=hh) i1 j1) k3 (λm hm=>⟨(k4 m hm).1,?_⟩) λp G2 E2 hp=>?_
  ·have:=(k4 m hm).2;have:=EV (n:=hh+l) (k:=8) (by omega);omega
  ·try rw [q2]
   simp [qiD,getL,qv,XN,qy,qH,gn3,qL,jn,zb,qR,YS,qw,v3,c3,o3,u3,Z7,L3.ixT,L3.ixR,zh,iI,iC,iB,zg,qU,J5,tb3,UF,or3,JS,zy,VF,ja,if3,ch3,cb3,qc,qk,QT,tyT,jp,q0,zF,VD,np3,sp3,qI,ql,qJ,zz,J4,Z1,qm,bm3,QC,J6,jW,YZ,VG,UR,UO,qF,jm,YI,UL,VJ,YX,HT.sIx,getL,in3,zr,eqF,gu,y8,getElem?_cons_zero,getElem?_cons_succ];refine ⟨⟨by have:=Q9 (i*2 ^ l+j) 0 ms;omega,λx hx=>?_⟩,?_⟩
   ·obtain ⟨k,h1,rfl⟩:=UK _ 0 ms x hx;have:=EQ k;have:=EV (n:=k) (k:=30) (by omega);omega
   ·rw [UG];exact h _ (E1.trans (E2.trans (j4 hp)))
 |table b cells=>
  obtain ⟨k1,k2,k3,k4,c,k5,k6,k7⟩:=ok;have e0:cells[0]?=some cells[0]:=y9 (by omega);have eC:(Dl.table b cells).C=c:=by simp [Dl.C,e0,(k7 cells[0] (za0 _)).1]
  have eR:(Dl.table b cells).R=cells.length:=rfl;rw [eR] at i2;rw [eC] at j2;have hi:i.toNat<cells.length:=by omega
  have hrow:=k7 cells[i.toNat] (za0 hi);have hj:j.toNat<cells[i.toNat].length:=by rw [hrow.1];omega
  simp only [Dl.t];rw [q1,zM rfl,if_neg (by decide),zM rfl,if_neg (by decide),zM rfl,if_neg (by decide),zM rfl,if_pos rfl];simp [qbn,qy,qH,gn3,qL,jn,zb,qR,YS,qw,v3,c3,o3,u3,Z7,L3.ixT,L3.ixR,zh,iI,iC,iB,zg,qU,J5,tb3,UF,or3,JS,zy,VF,ja,if3,ch3,cb3,qc,qk,QT,tyT,jp,q0,zF,VD,np3,sp3,qI,ql,qJ,zz,J4,Z1,qm,bm3,QC,J6,jW,YZ,VG,UR,UO,qF,jm,YI,UL,VJ,YX,HT.sIx,getL,in3,zr,eqF,gu,y8,getElem?_cons_zero,getElem?_cons_succ];rw [jU i1 (by simpa using i2)];simp [hi,M1,L3.ixT];rw [jU j1 (by simp;omega)];simp [hj];have:=h G1 E1;simpa [Dl.bank,hi,hj] using this
 |joined d e=>
  obtain ⟨kd,ke,kr,kc,kb⟩:=ok;have Le:=Dl.lims ke;obtain ⟨I1,I2⟩:=I.up Le;have:1<=n:=by simp [Dl.dep] at hd;omega
  obtain ⟨m,rfl⟩:∃ m,n=m+1:=⟨n-1,by omega⟩
  have r1:=Le.r1;have r2:=Le.r2;have c1:=Le.c1;have c2:=Le.c2;have b1:=Le.b1;have b2:=Le.b2;simp only [Dl.t];rw [q1,zM rfl,if_neg (by decide),zM rfl,if_neg (by decide),zM rfl,if_neg (by decide),zM rfl,if_neg (by decide)];simp [qdZ,qbn,qy,qH,gn3,qL,jn,zb,qR,YS,qw,v3,c3,o3,u3,Z7,L3.ixT,L3.ixR,zh,iI,iC,iB,zg,qU,J5,tb3,UF,or3,JS,zy,VF,ja,if3,ch3,cb3,qc,qk,QT,tyT,jp,q0,zF,VD,np3,sp3,qI,ql,qJ,zz,J4,Z1,qm,bm3,QC,J6,jW,YZ,VG,UR,UO,qF,jm,YI,UL,VJ,YX,HT.sIx,getL,in3,zr,eqF,gu,y8,getElem?_cons_zero,getElem?_cons_succ];refine ⟨e,rfl,by simp [Dl.dep] at hd;omega,ke,λG2 E2=>?_⟩;simp [W6];refine ⟨⟨by omega,by omega⟩,⟨by omega,by omega⟩,d,_,_,rfl,by simp [Dl.dep] at hd;omega,kd,I1,λG3 E3=>?_⟩;simp;refine ⟨cm (by omega) (by omega),by omega,by omega,e,_,_,rfl,by simp [Dl.dep] at hd;omega,ke,I2,λG4 E4=>?_⟩;simp;exact h _ (E1.trans (E2.trans (E3.trans E4)))
structure SD (k n:Nat) (d:PyData):Prop where
 sh:d.showable=true
 nd:d.hasDict=false
 dp:d.depth<=k
 lv:d.leavesShort 13=true
 bk:d.bulk<=n
def SD.ok {k n:Nat} {d:PyData} (h:SD k n d) (hk:k<=40) (hn:n<=2 ^ 20):ShOk d:=⟨h.sh,h.nd,v9 h.dp hk,h.lv,v9 h.bk hn⟩
def SD.w {k n:Nat} {d:PyData} (h:SD k n d) (hk:k<=40) (hn:n<=2 ^ 20):ShW d:=(h.ok hk hn).w
def SD.mono {k n k' n':Nat} {d:PyData} (h:SD k n d) (hk:k<=k') (hn:n<=n'):SD k' n' d:=⟨h.sh,h.nd,v9 h.dp hk,h.lv,v9 h.bk hn⟩
def Z8 (k n:Nat) {i:Int} (h:-1000000<=i/\i<=1000000):SD k n (.int i):=by
 refine ⟨?_,rfl,Nat.zero_le _,?_,Nat.zero_le _⟩
 ·simp only [PyData.showable];have:i.natAbs<2 ^ 20:=by omega
  have h2:i.natAbs.log2<20\/i.natAbs=0:=by
   rcases Nat.eq_zero_or_pos i.natAbs with z|z
   ·exact .inr z
   ·exact .inl ((Nat.log2_lt (by omega)).mpr this)
  rcases h2 with h2|h2
  ·simp;omega
  ·simp [h2]
 ·have:=PyProof.Rows.intsShortAll_ints2 [i] (by intro n hn;simp at hn;subst hn;omega);simpa [PyData.intsShortAll,PyData.intsShort,PyData.leavesShort] using this
def RJ (k n:Nat) {x:Str} (h:x.cps.size<=n) (hc:(x.cps.toList.all λc=>decide (c<16 ^ 8))=true):SD k n (.str x):=⟨rfl,rfl,Nat.zero_le _,hc,h⟩
structure SDs (k n:Nat) (ds:List PyData):Prop where
 sh:PyData.showableAll ds=true
 nd:PyData.hasDictAll ds=false
 dp:PyData.depthAll ds<=k
 lv:PyData.leavesShortAll 13 ds=true
 bk:PyData.bulkAll ds<=n
def U9 (k n:Nat):SDs k n []:=⟨rfl,rfl,Nat.zero_le _,rfl,Nat.zero_le _⟩
def qW {k n m s:Nat} {d:PyData} {ds:List PyData} (h:SD k n d) (t:SDs k m ds) (hs:n+1+m<=s):SDs k s (d::ds):=by
 refine ⟨?_,?_,?_,?_,?_⟩
 ·simp [PyData.showableAll,h.sh,t.sh]
 ·simp [PyData.hasDictAll,h.nd,t.nd]
 ·simp only [PyData.depthAll];exact Nat.max_le.mpr ⟨h.dp,t.dp⟩
 ·simp [PyData.leavesShortAll,h.lv,t.lv]
 ·simp only [PyData.bulkAll];have:=h.bk;have:=t.bk;omega
def Q7 {k n:Nat} {ds:List PyData} (t:SDs k n ds):SD (k+1) n (.tuple ds):=by
 refine ⟨?_,?_,?_,?_,?_⟩
 ·simpa [PyData.showable] using t.sh
 ·simpa [PyData.hasDict] using t.nd
 ·simp only [PyData.depth];have:=t.dp;omega
 ·simpa [PyData.leavesShort] using t.lv
 ·simp only [PyData.bulk];exact t.bk
def TJ {k n:Nat}:∀ {ds:List PyData},(∀ d∈ds,SD k n d)->SDs k (ds.length*(n+1)) ds
 |[],_=>U9 _ _
 |d::ds,h=>qW (h d (by simp)) (TJ λx hx=>h x (by simp [hx])) (by rw [length_cons,Nat.succ_mul];omega)
def TN {k:Nat} {ns:List Int} (h:∀ n∈ns,-1000000<=n/\n<=1000000):SDs k ns.length (ns.map PyData.int):=by
 have:=TJ (k:=k) (n:=0) (ds:=ns.map PyData.int) (by intro d hd;obtain ⟨i,hi,rfl⟩:=mem_map.mp hd;exact Z8 _ _ (h i hi));simpa using this
def _root_.L3.Dps.append {G:Gp}:∀ {xs ys:List T} {ds es:List PyData},Dps G xs ds->Dps G ys es->Dps G (xs++ys) (ds++es)
 |_,_,_,_,.nil,b=>b
 |_,_,_,_,.cons a t,b=>.cons a (L3.Dps.append t b)
def _root_.L3.Dps.take {G:Gp}:∀ {xs:List T} {ds:List PyData} (i:Nat),Dps G xs ds->Dps G (xs.take i) (ds.take i)
 |_,_,0,_=>.nil
 |_,_,_+1,.nil=>.nil
 |_,_,i+1,.cons a t=>.cons a (L3.Dps.take i t)
def _root_.L3.Dps.drop {G:Gp}:∀ {xs:List T} {ds:List PyData} (i:Nat),Dps G xs ds->Dps G (xs.drop i) (ds.drop i)
 |_,_,0,h=>h
 |_,_,_+1,.nil=>.nil
 |_,_,i+1,.cons a t=>L3.Dps.drop i t
def pT (p:Int×Int):T:=.tup [.int p.1,.int p.2]
end Bk
namespace Pu
open PySem L2 L3
def cif {α:Type} (P:Prop) (a b:α):α:=@ite α P (Classical.propDecidable P) a b
def jy {α:Type} {P:Prop} {a b:α} (h:P):cif P a b=a:=@if_pos P (Classical.propDecidable P) h α a b
def qh2 {α:Type} {P:Prop} {a b:α} (h:¬ P):cif P a b=b:=@if_neg P (Classical.propDecidable P) h α a b
structure Tru (b:Bool):Prop where
 h:b=true
mutual
inductive Dq (G:Gp):T->PyData->Prop
 |non:Dq G .non .none
 |bl (b:Bool):Dq G (.bl b) (.bool b)
 |int (i:Int):Dq G (.int i) (.int i)
 |str (x:Str):Dq G (.str x) (.str x)
 |tup {xs:List T} {ds:List PyData}:Dqs G xs ds->Dq G (.tup xs) (.tuple ds)
 |lst {p:Addr} {xs:List T} {ds:List PyData}:G p=some (.lst xs)->Dqs G xs ds->Dq G (.ref p) (.list ds)
inductive Dqs (G:Gp):List T->List PyData->Prop
 |nil:Dqs G [] []
 |cons {x:T} {d:PyData} {xs:List T} {ds:List PyData}:Dq G x d->Dqs G xs ds->Dqs G (x::xs) (d::ds)
end
mutual
def Dq.up {G G':Gp} (e:Ex G G'):∀ {x:T} {d:PyData},Dq G x d->Dq G' x d
 |_,_,.non=>.non
 |_,_,.bl b=>.bl b
 |_,_,.int i=>.int i
 |_,_,.str x=>.str x
 |_,_,.tup h=>.tup (Dqs.up e h)
 |_,_,.lst h1 h2=>.lst (e _ _ h1) (Dqs.up e h2)
def Dqs.up {G G':Gp} (e:Ex G G'):∀ {x:List T} {d:List PyData},Dqs G x d->Dqs G' x d
 |_,_,.nil=>.nil
 |_,_,.cons a b=>.cons (Dq.up e a) (Dqs.up e b)
end
def zE {G:Gp} {p:Addr} {xs:List T} (h:G p=some (.lst xs)):getL G p=some xs:=by unfold getL;rw [h]
mutual
def Dq.dp {G:Gp}:∀ {x:T} {d:PyData},Dq G x d->Dp G x d
 |_,_,.non=>.non
 |_,_,.bl b=>.bl b
 |_,_,.int i=>.int i
 |_,_,.str x=>.str x
 |_,_,.tup h=>.tup (Dqs.dp h)
 |_,_,.lst h1 h2=>.lst (zE h1) (Dqs.dp h2)
def Dqs.dp {G:Gp}:∀ {x:List T} {d:List PyData},Dqs G x d->Dps G x d
 |_,_,.nil=>.nil
 |_,_,.cons a b=>.cons (Dq.dp a) (Dqs.dp b)
end
def Dqs.length {G:Gp}:∀ {xs:List T} {ds:List PyData},Dqs G xs ds->xs.length=ds.length
 |_,_,.nil=>rfl
 |_,_,.cons _ b=>by simp [Dqs.length b]
def Dqs.get {G:Gp}:∀ {xs:List T} {ds:List PyData} {i:Nat} {d:PyData},Dqs G xs ds->ds[i]?=some d->∃ x,xs[i]?=some x/\Dq G x d
 |_,_,_,_,.nil,e=>by simp at e
 |_,_,0,_,.cons r _,e=>by simp at e;subst e;exact ⟨_,rfl,r⟩
 |_,_,i+1,d,.cons _ t,e=>by
  obtain ⟨u,h1,h2⟩:=Dqs.get (i:=i) (d:=d) t (by simpa using e);exact ⟨u,by simpa using h1,h2⟩
def Dqs.append {G:Gp}:∀ {xs:List T} {ds:List PyData} {ys:List T} {es:List PyData},Dqs G xs ds->Dqs G ys es->Dqs G (xs++ys) (ds++es)
 |_,_,_,_,.nil,h=>h
 |_,_,_,_,.cons a b,h=>.cons a (Dqs.append b h)
def Dqs.ints {G:Gp}:∀ {ns:List Int} {xs:List T},Dqs G xs (ns.map PyData.int)->xs=ns.map T.int
 |[],_,.nil=>rfl
 |n::ns,_,.cons a b=>by cases a;rw [Dqs.ints b];rfl
def Dqs.ofInts {G:Gp}:∀ (ns:List Int),Dqs G (ns.map T.int) (ns.map PyData.int)
 |[]=>.nil
 |n::r=>.cons (.int n) (Dqs.ofInts r)
def rs (D:Addr->Prop) (G:Gp):Gp:=λb=>cif (D b) none (G b)
def zj {D:Addr->Prop} {G:Gp} {b:Addr} {o:O} (h:rs D G b=some o):¬ D b/\G b=some o:=by
 unfold rs cif at h;split at h
 ·cases h
 ·rename_i n;exact ⟨n,h⟩
def QU {D:Addr->Prop} {G:Gp} {b:Addr} (n:¬ D b):rs D G b=G b:=by unfold rs;exact qh2 n
def V3 {D:Addr->Prop} {G:Gp}:Ex (rs D G) G:=λb o h=>(zj h).2
def VL {D:Addr->Prop} {G G':Gp} (e:Ex G G'):Ex (rs D G) (rs D G'):=λb o h=>by
 obtain ⟨n,h⟩:=zj h;rw [QU n];exact e _ _ h
def jd {D D':Addr->Prop} {G:Gp} (h:∀ b,D' b->D b):Ex (rs D G) (rs D' G):=λb o e=>by
 obtain ⟨n,e⟩:=zj e;rw [QU λz=>n (h b z)];exact e
def Dom (D:Addr->Prop) (G:Gp):Prop:=∀ b,D b->G b≠none
def Dom.up {D:Addr->Prop} {G G':Gp} (h:Dom D G) (e:Ex G G'):Dom D G':=λb d z=>by
 cases g:G b with
 |none=>exact h b d g
 |some o=>rw [e _ _ g] at z;cases z
def qjL {D:Addr->Prop} {G:Gp} {p:Addr} {o:O} (hd:Dom D G) (hp:G p=none):rs D (gu G p o) p=some o:=by
 rw [QU λz=>hd p z hp,qv]
inductive Sl where
 |un|sh (d:PyData)|ow (ds:List PyData)|dc (kvs:List (Int×PyData))|on (dss:List (List PyData))
abbrev Rho:=List Sl
def Sl.d:Sl->Option PyData
 |.un=>none|.sh d=>some d|.ow ds=>some (.list ds)|.dc _=>none|.on dss=>some (.list (dss.map PyData.list))
def vw (ρ:Rho) (i:Nat):Option PyData:=(ρ[i]?).bind Sl.d
def C7 (fv:List Nat) (D:Addr->Prop) (G:Gp) (τ:St3) (ρ:Rho):Prop:=∀ i∈fv,∀ d,vw ρ i=some d->∃ t,τ[i]?=some (some t)/\Dq (rs D G) t d
def C7.up {fv:List Nat} {D:Addr->Prop} {G G':Gp} {τ:St3} {ρ:Rho} (h:C7 fv D G τ ρ) (e:Ex G G'):C7 fv D G' τ ρ:=λi hi d hd=>
 let ⟨t,a,b⟩:=h i hi d hd;⟨t,a,b.up (VL e)⟩
def C7.l {fv gv:List Nat} {D:Addr->Prop} {G:Gp} {τ:St3} {ρ:Rho} (h:C7 (fv++gv) D G τ ρ):C7 fv D G τ ρ:=λi hi=>h i (by simp [hi])
def C7.r {fv gv:List Nat} {D:Addr->Prop} {G:Gp} {τ:St3} {ρ:Rho} (h:C7 (fv++gv) D G τ ρ):C7 gv D G τ ρ:=λi hi=>h i (by simp [hi])
def qc3:PyData->Bool
 |.none=>true|.bool _=>true|.int _=>true|.str _=>true|_=>false
def Nw (D:Addr->Prop) (G G':Gp) (x:T) (d:PyData):Prop:=qc3 d=true\/∃ p xs ds,x=.ref p/\d=.list ds/\G p=none/\G' p=some (.lst xs)/\Dqs (rs (λb=>D b\/b=p) G') xs ds
def Nw.back {D:Addr->Prop} {G0 G G':Gp} {x:T} {d:PyData} (h:Nw D G G' x d) (e:Ex G0 G):Nw D G0 G' x d:=by
 rcases h with h|⟨p,xs,ds,a,b,c,r⟩
 ·exact .inl h
 refine .inr ⟨p,xs,ds,a,b,?_,r⟩;cases z:G0 p with
 |none=>rfl
 |some o=>rw [e _ _ z] at c;cases c
structure PuE (t:TE3) where
 f:Rho->Option PyData
 fv:List Nat
 nw:Bool
 ok:∀ {D τ ρ G} {q:Q3} {d},C7 fv D G τ ρ->Dom D G->f ρ=some d->(∀ x G',Ex G G'->Dq (rs D G') x d->(nw=true->Nw D G G' x d)->q x G')->t τ G q
structure PuC (t:TT3) where
 f:Rho->Option Bool
 fv:List Nat
 ok:∀ {D τ ρ G} {q:Bool->Gp->Prop} {k},C7 fv D G τ ρ->Dom D G->f ρ=some k->(∀ G',Ex G G'->q k G')->t τ G q
structure PuA (t:TA3) where
 f:Rho->Option (List PyData)
 fv:List Nat
 n:Nat
 ln:∀ {ρ d},f ρ=some d->d.length=n
 ok:∀ {D τ ρ G} {q:List T->Gp->Prop} {d},C7 fv D G τ ρ->Dom D G->f ρ=some d->(∀ x G',Ex G G'->Dqs (rs D G') x d->q x G')->t τ G q
structure PuI (t:TI3) where
 f:Rho->Option (List PyData)
 fv:List Nat
 /-- numbers alone -/
 nm:Bool
 ok:∀ {D τ ρ G} {r:List T->(Gp->Prop)->Gp->Prop} {ds},C7 fv D G τ ρ->Dom D G->f ρ=some ds ->
  (∀ items stay G',Ex G G'->Dqs (rs D G') items ds->(∀ G'',(nm=true\/Ex (rs D G') G'')->stay G'')->(nm=true->∃ ns:List Int,ds=ns.map PyData.int)->r items stay G')->t τ G r
structure OpD (r:R3) where
 f:PyData->PyData->Option PyData
 nw:Bool
 ok:∀ {D G x y d e v} {q:Q3},Dq (rs D G) x d->Dq (rs D G) y e->Dom D G->f d e=some v->(∀ z G',Ex G G'->Dq (rs D G') z v->(nw=true->Nw D G G' z v)->q z G')->r x y G q
structure FnD (r:List T->Gp->Q3->Prop) where
 f:List PyData->Option PyData
 nw:Bool
 ok:∀ {D G xs ds v} {q:Q3},Dqs (rs D G) xs ds->Dom D G->f ds=some v->(∀ z G',Ex G G'->Dq (rs D G') z v->(nw=true->Nw D G G' z v)->q z G')->r xs G q
def bV (i:Nat):PuE (v3 i):=⟨λρ=>vw ρ i,[i],false,λhv hd hf k=>by
 obtain ⟨t,e,h⟩:=hv i (by simp) _ hf;unfold v3;rw [e];exact k t _ Ex.refl h (λz=>by cases z)⟩
def j3 (i:Int):PuE (c3 (.int i)):=⟨λ_=>some (.int i),[],false,λhv hd hf k=>by cases hf;exact k _ _ Ex.refl (.int i) (λz=>by cases z)⟩
def bBl (i:Bool):PuE (c3 (.bl i)):=⟨λ_=>some (.bool i),[],false,λhv hd hf k=>by cases hf;exact k _ _ Ex.refl (.bl i) (λz=>by cases z)⟩
def qc5 (i:Str):PuE (c3 (.str i)):=⟨λ_=>some (.str i),[],false,λhv hd hf k=>by cases hf;exact k _ _ Ex.refl (.str i) (λz=>by cases z)⟩
def bO {r:R3} {ta tb:TE3} (R:OpD r) (a:PuE ta) (b:PuE tb):PuE (o3 r ta tb):=
 ⟨λρ=>(a.f ρ).bind λx=>(b.f ρ).bind λy=>R.f x y,a.fv++b.fv,R.nw,λhv hd hf k=>by
  obtain ⟨x,e1,hf⟩:=obb hf;obtain ⟨y,e2,hf⟩:=obb hf;exact a.ok hv.l hd e1 λx' G1 E1 D1 _=>b.ok (hv.r.up E1) (hd.up E1) e2 λy' G2 E2 D2 _=>R.ok (D1.up (VL E2)) D2 ((hd.up E1).up E2) hf λz G3 E3 D3 N3=>k z G3 ((E1.trans E2).trans E3) D3 λh=>(N3 h).back (E1.trans E2)⟩
def zx:PuA qk:=⟨λ_=>some [],[],0,(λh=>by cases h;rfl),λhv hd hf k=>by cases hf;exact k _ _ Ex.refl .nil⟩
def qu {ta:TE3} {tr:TA3} (a:PuE ta) (r:PuA tr):PuA (qc ta tr):=
 ⟨λρ=>(a.f ρ).bind λx=>(r.f ρ).bind λxs=>some (x::xs),a.fv++r.fv,r.n+1,(λhf=>by
  obtain ⟨x,e1,hf⟩:=obb hf;obtain ⟨xs,e2,hf⟩:=obb hf;cases hf;simp [r.ln e2]),λhv hd hf k=>by
  obtain ⟨x,e1,hf⟩:=obb hf;obtain ⟨xs,e2,hf⟩:=obb hf;cases hf;exact a.ok hv.l hd e1 λx' G1 E1 D1 _=>r.ok (hv.r.up E1) (hd.up E1) e2 λy' G2 E2 D2=>k _ G2 (E1.trans E2) (.cons (D1.up (VL E2)) D2)⟩
def few {n:Nat} (h:Tru (Nat.ble n 1000)):n<=sizeLine:=v9 (Nat.le_of_ble_eq_true h.h) (by rw [y8];omega)
def qay {t:TA3} (a:PuA t) (hn:Tru (Nat.ble a.n 1000)):PuE (q0 t):=⟨λρ=>(a.f ρ).map .tuple,a.fv,false,λhv hd hf k=>by
 obtain ⟨xs,e1,rfl⟩:=za3 hf;exact a.ok hv hd e1 λx G1 E1 D1=>⟨by rw [D1.length,a.ln e1];exact few hn,k _ _ E1 (.tup D1) (λz=>by cases z)⟩⟩
def M3 {D:Addr->Prop} {G:Gp} {p:Addr} {xs:List T} {ds:List PyData} (hp:G p=none) (h:Dqs (rs D G) xs ds):Nw D G (gu G p (.lst xs)) (.ref p) (.list ds):=
 .inr ⟨p,xs,ds,rfl,rfl,hp,qv,h.up λb o e=>by
  obtain ⟨n,e⟩:=zj e;have:b≠p:=by rintro rfl;rw [hp] at e;cases e
  rw [QU (by rintro (z|z);exact n z;exact this z),zD this];exact e⟩
def KK {D:Addr->Prop} {G:Gp} {p:Addr} {xs:List T} {ds:List PyData} (hd:Dom D G) (hp:G p=none) (h:Dqs (rs D G) xs ds):Dq (rs D (gu G p (.lst xs))) (.ref p) (.list ds):=
 .lst (qjL hd hp) (h.up (VL (j4 hp)))
def qbc {t:TA3} (a:PuA t) (hn:Tru (Nat.ble a.n 1000)):PuE (zF t):=⟨λρ=>(a.f ρ).map .list,a.fv,true,λhv hd hf k=>by
 obtain ⟨xs,e1,rfl⟩:=za3 hf;exact a.ok hv hd e1 λx G1 E1 D1=>⟨by rw [D1.length,a.ln e1];exact few hn,λp hp=>k _ _ (E1.trans (j4 hp)) (KK (hd.up E1) hp D1) λ_=>(M3 hp D1).back E1⟩⟩
def jY {r:List T->Gp->Q3->Prop} {t:TA3} (R:FnD r) (a:PuA t):PuE (cb3 r t):=
 ⟨λρ=>(a.f ρ).bind R.f,a.fv,R.nw,λhv hd hf k=>by
  obtain ⟨x,e1,hf⟩:=obb hf;exact a.ok hv hd e1 λx' G1 E1 D1=>R.ok D1 (hd.up E1) hf λz G3 E3 D3 N3=>k z G3 (E1.trans E3) D3 λh=>(N3 h).back E1⟩
def asB:PyData->Option Bool
 |.bool b=>some b
 |_=>none
def asI:PyData->Option Int
 |.int b=>some b
 |_=>none
def qeH {d:PyData} {b:Bool} (h:asB d=some b):d=.bool b:=by cases d<;>simp [asB] at h;subst h;rfl
def qeP {d:PyData} {b:Int} (h:asI d=some b):d=.int b:=by cases d<;>simp [asI] at h;subst h;rfl
def bTb {t:TE3} (a:PuE t):PuC (tb3 t):=⟨λρ=>(a.f ρ).bind asB,a.fv,λhv hd hf k=>by
 obtain ⟨x,e1,hf⟩:=obb hf;have:=qeH hf;subst this;exact a.ok hv hd e1 λx' G1 E1 D1 _=>by cases D1;exact k G1 E1⟩
def bOr {t u:TT3} (a:PuC t) (b:PuC u):PuC (or3 t u):=⟨λρ=>(a.f ρ).bind λk=>if k then some true else b.f ρ,a.fv++b.fv,λhv hd hf k=>by
 obtain ⟨x,e1,hf⟩:=obb hf;refine a.ok hv.l hd e1 λG1 E1=>?_;cases x with
 |false=>exact b.ok (hv.r.up E1) (hd.up E1) hf λG2 E2=>k G2 (E1.trans E2)
 |true=>cases hf;exact k G1 E1⟩
def qnX {t:TT3} (a:PuC t):PuC (JS t):=⟨λρ=>(a.f ρ).map (! ·),a.fv,λhv hd hf k=>by
 obtain ⟨x,e1,hf⟩:=za3 hf;subst hf;exact a.ok hv hd e1 λG1 E1=>k G1 E1⟩
def bTt:PuC tt3:=⟨λ_=>some true,[],λhv hd hf k=>by cases hf;exact k _ Ex.refl⟩
def qnZ {ta tb:TE3} (a:PuE ta) (b:PuE tb):PuE (VF ta tb):=⟨λρ=>((a.f ρ).bind asB).bind λk=>if k then some (.bool true) else b.f ρ,a.fv++b.fv,false,λhv hd hf k=>by
 obtain ⟨x,e1,hf⟩:=obb hf;obtain ⟨y,e1,e2⟩:=obb e1;have:=qeH e2;subst this;refine a.ok hv.l hd e1 λx' G1 E1 D1 _=>?_;cases D1;cases x with
 |false=>exact b.ok (hv.r.up E1) (hd.up E1) hf λz G2 E2 D2 _=>k z G2 (E1.trans E2) D2 (λz=>by cases z)
 |true=>cases hf;exact k _ G1 E1 (.bl true) (λz=>by cases z)⟩
def bIf {t:TT3} {ta tb:TE3} (c:PuC t) (a:PuE ta) (b:PuE tb):PuE (if3 t ta tb):=⟨λρ=>(c.f ρ).bind λk=>if k then a.f ρ else b.f ρ,c.fv++(a.fv++b.fv),false,λhv hd hf k=>by
 obtain ⟨x,e1,hf⟩:=obb hf;refine c.ok hv.l hd e1 λG1 E1=>?_;cases x with
 |true=>exact a.ok (hv.r.l.up E1) (hd.up E1) hf λz G2 E2 D2 _=>k z G2 (E1.trans E2) D2 (λz=>by cases z)
 |false=>exact b.ok (hv.r.r.up E1) (hd.up E1) hf λz G2 E2 D2 _=>k z G2 (E1.trans E2) D2 (λz=>by cases z)⟩
def qn9 {ta:TE3} (a:PuE ta):PuE (u3 Z7 ta):=⟨λρ=>((a.f ρ).bind asI).map λi=>.int (-i),a.fv,false,λhv hd hf k=>by
 obtain ⟨x,e1,hf⟩:=za3 hf;obtain ⟨y,e1,e2⟩:=obb e1;have:=qeP e2;subst this;subst hf;refine a.ok hv hd e1 λx' G1 E1 D1 _=>?_;cases D1;exact k _ G1 E1 (.int _) (λz=>by cases z)⟩
def tyD:PyData->Option String
 |.none=>some "NoneType" |.bool _=>some "bool" |.int _=>some "int" |.str _=>some "str" |.tuple _=>some "tuple" |.list _=>some "list" |.dict _=>none
def qqW {ta:TE3} (g:String->Bool) (a:PuE ta):PuE (QT g ta):=⟨λρ=>(a.f ρ).bind λd=>(tyD d).map λt=>.bool (g t),a.fv,false,λhv hd hf k=>by
 obtain ⟨x,e1,hf⟩:=obb hf;obtain ⟨y,e2,hf⟩:=za3 hf;subst hf;refine a.ok hv hd e1 λx' G1 E1 D1 _=>?_;have:tyT G1 x'=some y:=by
  cases D1 with
  |lst h _=>have g:=zE (zj h).2;simp [tyT,g];simpa [tyD] using e2
  |_=>simpa [tyT,tyD] using e2
 simp only [this];exact k _ G1 E1 (.bl _) (λz=>by cases z)⟩
def WK:List PyData->Option (List Int)
 |[]=>some []
 |.int i::r=>(WK r).map (i::·)
 |_=>none
def qa0 (ns:List Int):WK (ns.map PyData.int)=some ns:=by
 induction ns with
 |nil=>rfl
 |cons n r ih=>simp [WK,ih]
def M8:∀ {xs:List PyData} {ns:List Int},WK xs=some ns->xs=ns.map PyData.int
 |[],_,h=>by simp [WK] at h;subst h;rfl
 |.int i::r,ns,h=>by
  simp only [WK] at h;obtain ⟨ms,e,rfl⟩:=za3 h;rw [M8 e];rfl
 |.none::r,ns,h=>by simp [WK] at h
 |.bool _::r,ns,h=>by simp [WK] at h
 |.str _::r,ns,h=>by simp [WK] at h
 |.list _::r,ns,h=>by simp [WK] at h
 |.tuple _::r,ns,h=>by simp [WK] at h
 |.dict _::r,ns,h=>by simp [WK] at h
def qbV (d:PyData):Option PyData:=match d with
 |.list ds=>(WK ds).bind λns=>cif (ns.length<4000) (some (.int (R4 ns))) none
 |_=>none
def qhq {te:TE3} (a:PuE te):PuE (qd3 te):=⟨λρ=>(a.f ρ).bind qbV,a.fv,false,λhv hd hf k=>by
 obtain ⟨d,e1,hf⟩:=obb hf;refine a.ok hv hd e1 λx' G1 E1 D1 _=>?_;unfold qbV at hf;cases D1 with
 |lst g hs=>
  simp only at hf;obtain ⟨ns,en,hf⟩:=obb hf;unfold cif at hf;split at hf
  ·rename_i hl;cases hf;have:=M8 en;subst this;have:=hs.ints;subst this;simp only [zE (zj g).2,XN];exact ⟨hl,k _ _ E1 (.int _) (λz=>by cases z)⟩
  ·cases hf
 |_=>simp at hf⟩
def cI (C:Int->Int->Prop) (g:Int->Int->Int) (d e:PyData):Option PyData:=match d,e with|.int i,.int j=>cif (C i j) (some (.int (g i j))) none|_,_=>none
def opC (C:Int->Int->Prop) (g:Int->Int->Int):OpD (iC C g):=⟨cI C g,false,λ{D G x y d e v q} hx hy hd hf k=>by
 unfold cI at hf;cases hx<;>try (simp at hf;done)
 cases hy<;>try (simp at hf;done)
 simp only [cif] at hf;split at hf
 ·rename_i c;cases hf;exact ⟨c,k _ _ Ex.refl (.int _) (λz=>by cases z)⟩
 ·cases hf⟩
def opB (g:Int->Int->Bool):OpD (iB g):=⟨λd e=>match d,e with|.int i,.int j=>some (.bool (g i j))|_,_=>none,false,λ{D G x y d e v q} hx hy hd hf k=>by
 cases hx<;>try (simp at hf;done)
 cases hy<;>try (simp at hf;done)
 cases hf;exact k _ _ Ex.refl (.bl _) (λz=>by cases z)⟩
def qc7:PyData->PyData->Option Bool
 |.none,.none=>some true|.none,.int _=>some false|.int _,.none=>some false|.none,.bool _=>some false|.bool _,.none=>some false|.none,.str _=>some false|.str _,.none=>some false
 |.int i,.int j=>some (decide (i=j))|.bool i,.bool j=>some (decide (i=j))|.str i,.str j=>some (decide (i=j))
 |.int _,.str _=>some false|.str _,.int _=>some false|.bool _,.str _=>some false|.str _,.bool _=>some false
 |_,_=>none
def qcc {G:Gp} {x y:T} {d e:PyData} (hx:Dq G x d) (hy:Dq G y e):qU x y=qc7 d e:=by
 cases hx<;>cases hy<;>rfl
def eqD (neg:Bool) (d e:PyData):Option PyData:=match qc7 d e with
 |some k=>some (.bool (if neg then !k else k))
 |none=>cif (dpt d<=40/\dpt d≠0) ((jX d e).map λb=>.bool (if neg then !b else b)) none
def qaW (neg:Bool):OpD (zg neg):=⟨eqD neg,false,λ{D G x y d e v q} hx hy hd hf k=>by
 unfold zg;rw [qcc hx hy];unfold eqD at hf;cases h:qc7 d e with
 |some b=>rw [h] at hf;cases hf;exact k _ _ Ex.refl (.bl _) (λz=>by cases z)
 |none=>
  rw [h] at hf;simp only [cif] at hf ⊢;split at hf
  ·rename_i c;obtain ⟨b,e1,rfl⟩:=za3 hf;exact ⟨d,e,b,(hx.up V3).dp,(hy.up V3).dp,e1,c.1,c.2,k _ _ Ex.refl (.bl _) (λz=>by cases z)⟩
  ·cases hf⟩
def ixD (d e:PyData):Option PyData:=match d,e with
 |.tuple xs,.int i=>atI xs i
 |.list xs,.int i=>atI xs i
 |_,_=>none
def Dqs.atI {G:Gp} {xs:List T} {ds:List PyData} {i:Int} {d:PyData} (h:Dqs G xs ds) (e:L2.atI ds i=some d):∃ x,L2.atI xs i=some x/\Dq G x d:=by
 unfold L2.atI at e ⊢;rw [h.length];obtain ⟨j,e1,e2⟩:=obb e;obtain ⟨x,hx,r⟩:=h.get e2;exact ⟨x,by rw [e1];exact hx,r⟩
def qdn:OpD ix3:=⟨ixD,false,λ{D G x y d e v q} hx hy hd hf k=>by
 unfold ixD at hf;cases hx with
 |tup hs=>
  cases hy<;>try (simp at hf;done)
  obtain ⟨x,e1,r⟩:=hs.atI hf;simp only [ix3,e1];exact k _ _ Ex.refl r (λz=>by cases z)
 |lst g hs=>
  cases hy<;>try (simp at hf;done)
  obtain ⟨x,e1,r⟩:=hs.atI hf;simp only [ix3,zE (zj g).2,e1];exact k _ _ Ex.refl r (λz=>by cases z)
 |_=>simp at hf⟩
def qnP (d e:PyData):Option PyData:=match d,e with
 |.tuple xs,.tuple ys=>cif (xs≠[]/\xs.length+ys.length<=sizeLine) (some (.tuple (xs++ys))) none
 |.list xs,.list ys=>cif (xs.length+ys.length<=sizeLine) (some (.list (xs++ys))) none
 |.int i,.int j=>some (.int (i+j))
 |_,_=>none
def C1:OpD zh:=⟨qnP,false,λ{D G x y d e v q} hx hy hd hf k=>by
  unfold qnP at hf;cases hx with
  | int i => cases hy <;> try (simp at hf;done)
             cases hf;exact k _ _ Ex.refl (.int _) (λz=>by cases z)
  |tup hs=>
    cases hy<;>try (simp at hf;done)
    rename_i hs2;simp only [cif] at hf;split at hf
    · rename_i c;cases hf;refine ⟨?_,by rw [hs.length,hs2.length];exact c.2,k _ _ Ex.refl (.tup (hs.append hs2)) (λz=>by cases z)⟩;rintro rfl;cases hs;exact c.1 rfl
    · cases hf
  |lst g hs=>
    cases hy<;>try (simp at hf;done)
    rename_i g2 hs2;simp only [cif] at hf;split at hf
    · rename_i c;cases hf;simp only [zh,(zj g).2,(zj g2).2];exact ⟨by rw [hs.length,hs2.length];exact c,λp hp=>k _ _ (j4 hp) (KK hd hp (hs.append hs2)) (λz=>by cases z)⟩
    · cases hf
  |_=>simp at hf⟩
def qgS (d e:PyData):Option PyData:=match d,e with
 |.list xs,.list ys=>cif (xs.length+ys.length<=sizeLine) (some (.list (xs++ys))) none
 |_,_=>none
def qb3:OpD zh:=⟨qgS,true,λ{D G x y d e v q} hx hy hd hf k=>by
 unfold qgS at hf;cases hx with
 |lst g hs=>
  cases hy<;>try (simp at hf;done)
  rename_i g2 hs2;simp only [cif] at hf;split at hf
  ·rename_i c;cases hf;simp only [zh,(zj g).2,(zj g2).2];exact ⟨by rw [hs.length,hs2.length];exact c,λp hp=>k _ _ (j4 hp) (KK hd hp (hs.append hs2)) λ_=>M3 hp (hs.append hs2)⟩
  ·cases hf
 |_=>simp at hf⟩
def qnR:List PyData->Option PyData
 |[.tuple xs]=>some (.int xs.length)
 |[.list xs]=>some (.int xs.length)
 |_=>none
def qeG:FnD jW:=⟨qnR,false,λ{D G xs ds v q} hx hd hf k=>by
 unfold qnR at hf;split at hf
 ·cases hx with
  |cons a b=>cases b;cases a;rename_i hs;cases hf;simp only [jW];rw [hs.length];exact k _ _ Ex.refl (.int _) (λz=>by cases z)
 ·cases hx with
  |cons a b=>cases b;cases a;rename_i g hs;cases hf;simp only [jW,zE (zj g).2];rw [hs.length];exact k _ _ Ex.refl (.int _) (λz=>by cases z)
 ·cases hf⟩
def qn0:List PyData->Option PyData
 |[.tuple xs]=>some (.tuple xs)
 |[.list xs]=>some (.tuple xs)
 |_=>none
def qnS:FnD qF:=⟨qn0,false,λ{D G xs ds v q} hx hd hf k=>by
 unfold qn0 at hf;split at hf
 ·cases hx with
  |cons a b=>cases b;cases a;rename_i hs;cases hf;exact k _ _ Ex.refl (.tup hs) (λz=>by cases z)
 ·cases hx with
  |cons a b=>cases b;cases a;rename_i g hs;cases hf;simp only [qF,zE (zj g).2];exact k _ _ Ex.refl (.tup hs) (λz=>by cases z)
 ·cases hf⟩
def PSp (F:List PyData->Option PyData) (fr:Bool):Sp3:=λts G q=>∃ (D:Addr->Prop) (ds:List PyData) (d:PyData),Dqs (rs D G) ts ds/\Dom D G/\F ds=some d/\∀ x G',Ex G G'->Dq (rs D G') x d->(fr=true->Nw D G G' x d)->q x G'
def X9 (F:List PyData->Option PyData) (fr:Bool):FnD (PSp F fr):=⟨F,fr,λ{D G xs ds v q} hx hd hf k=>⟨D,ds,v,hx,hd,hf,k⟩⟩
def qaQ:PyData->Option (List PyData)
 |.tuple xs=>some xs
 |.list xs=>some xs
 |_=>none
def qh5 {t:TE3} (a:PuE t):PuI (YG t):=⟨λρ=>(a.f ρ).bind qaQ,a.fv,false,λ{D τ ρ G r ds} hv hd hf k=>by
 obtain ⟨d,e1,hf⟩:=obb hf;refine a.ok hv hd e1 λx G1 E1 D1 _=>?_;unfold qaQ at hf;cases D1 with
 |tup hs=>cases hf;exact k _ _ _ E1 hs (λ_ _=>trivial) (λz=>by cases z)
 |lst g hs=>
  cases hf;simp only [zE (zj g).2];refine k _ _ _ E1 hs (λG2 h=>?_) (λz=>by cases z);rcases h with h|h
  ·cases h
  ·exact zE (h _ _ g)
 |_=>simp at hf⟩
def J7 (lo:Int) (n:Nat):List Int:=(List.range n).map λ(i:Nat)=>lo+(i:Int)
def N8 (lo:Int) (n:Nat):M9 lo n=(J7 lo n).map T.int:=by simp [M9,J7,map_map,Function.comp_def]
def qbM:List PyData->Option (List PyData)
 |[.int j]=>cif (-(2 ^ 62)<=j/\j<2 ^ 62) (some ((J7 0 j.toNat).map PyData.int)) none
 |[.int i,.int j]=>cif (-(2 ^ 62)<=i/\i<2 ^ 62/\-(2 ^ 62)<=j/\j<2 ^ 62) (some ((J7 i (j-i).toNat).map PyData.int)) none
 |_=>none
def qaS {t:TA3} (a:PuA t):PuI (zO t):=⟨λρ=>(a.f ρ).bind qbM,a.fv,true,λ{D τ ρ G r ds} hv hd hf k=>by
 obtain ⟨d,e1,hf⟩:=obb hf;refine a.ok hv hd e1 λx G1 E1 D1=>?_;unfold qbM at hf;split at hf
 ·unfold cif at hf;split at hf
  ·rename_i c;cases hf;cases D1 with
   |cons a b=>cases b;cases a;simp only;rw [N8];exact ⟨c,k _ _ _ E1 (Dqs.ofInts _) (λ_ _=>trivial) λ_=>⟨_,rfl⟩⟩
  ·cases hf
 ·unfold cif at hf;split at hf
  ·rename_i c;cases hf;cases D1 with
   |cons a b=>cases b with
    |cons b c'=>cases c';cases a;cases b;simp only;rw [N8];exact ⟨c,k _ _ _ E1 (Dqs.ofInts _) (λ_ _=>trivial) λ_=>⟨_,rfl⟩⟩
  ·cases hf
 ·cases hf⟩
def qp0 (us vs:List PyData):List PyData:=(us.zip vs).map λp=>.tuple [p.1,p.2]
def Dqs.zip {G:Gp}:∀ {xs:List T} {ds:List PyData} {ys:List T} {es:List PyData},Dqs G xs ds->Dqs G ys es->Dqs G (qbE xs ys) (qp0 ds es)
 |_,_,_,_,.nil,_=>by simp [qbE,qp0];exact .nil
 |_,_,_,_,.cons _ _,.nil=>by simp [qbE,qp0];exact .nil
 |_,_,_,_,.cons a b,.cons c d=>.cons (.tup (.cons a (.cons c .nil))) (Dqs.zip b d)
def qdz {G:Gp} {x:T} {d:PyData} {ds:List PyData} (h:Dq G x d) (e:qaQ d=some ds):∃ us,jP G x=some us/\Dqs G us ds:=by
 unfold qaQ at e;cases h with
 |tup hs=>cases e;exact ⟨_,rfl,hs⟩
 |lst g hs=>cases e;exact ⟨_,zE g,hs⟩
 |_=>simp at e
def qgk {G G':Gp} {x:T} {us:List T} (e:Ex G G') (h:jP G x=some us):jP G' x=some us:=by
 cases x with
 |tup xs=>exact h
 |ref p=>exact e.getL h
 |_=>cases h
def enD (k:Nat):List PyData->List PyData
 |[]=>[]
 |x::r=>.tuple [.int (k:Int),x]::enD (k+1) r
def Dqs.enum {G:Gp}:∀ {xs:List T} {ds:List PyData} (k:Nat),Dqs G xs ds->Dqs G (Q4 k xs) (enD k ds)
 |_,_,_,.nil=>.nil
 |_,_,k,.cons a b=>.cons (.tup (.cons (.int _) (.cons a .nil))) (Dqs.enum (k+1) b)
def qdj {t:TA3} (a:PuA t):PuI (EW t):=⟨λρ=>(a.f ρ).bind λds=>match ds with|[d]=>(qaQ d).map λus=>enD 0 us|_=>none,a.fv,false,λ{D τ ρ G r ds} hv hd hf k=>by
 obtain ⟨d,e1,hf⟩:=obb hf;refine a.ok hv hd e1 λx G1 E1 D1=>?_;split at hf
 ·obtain ⟨us,e2,rfl⟩:=za3 hf;cases D1 with
  |cons a b=>
   cases b;obtain ⟨us',h1,h2⟩:=qdz a e2;simp only [qgk V3 h1];refine k _ _ _ E1 (h2.enum 0) (λG2 h=>?_) (λz=>by cases z);rcases h with h|h
   ·cases h
   ·exact qgk h h1
 ·cases hf⟩
inductive Bd (H:Gp):List (Nat×T)->List (Nat×PyData)->Prop
 |nil:Bd H [] []
 |cons {i:Nat} {x:T} {d:PyData} {ts:List (Nat×T)} {bs:List (Nat×PyData)}:Dq H x d->Bd H ts bs->Bd H ((i,x)::ts) ((i,d)::bs)
def Bd.append {H:Gp}:∀ {ts:List (Nat×T)} {bs:List (Nat×PyData)} {us:List (Nat×T)} {cs:List (Nat×PyData)},Bd H ts bs->Bd H us cs->Bd H (ts++us) (bs++cs)
 |_,_,_,_,.nil,h=>h
 |_,_,_,_,.cons a b,h=>.cons a (Bd.append b h)
def Bd.up {H H':Gp} (e:Ex H H'):∀ {ts:List (Nat×T)} {bs:List (Nat×PyData)},Bd H ts bs->Bd H' ts bs
 |_,_,.nil=>.nil
 |_,_,.cons a b=>.cons (a.up e) (Bd.up e b)
def sets:St3->List (Nat×T)->St3
 |τ,[]=>τ
 |τ,p::r=>sets (τ.set p.1 (some p.2)) r
def Q1:Rho->List (Nat×PyData)->Rho
 |ρ,[]=>ρ
 |ρ,p::r=>Q1 (ρ.set p.1 (.sh p.2)) r
def NT:∀ (τ:St3) (a b:List (Nat×T)),sets τ (a++b)=sets (sets τ a) b
 |τ,[],b=>rfl
 |τ,p::a,b=>by simp only [cons_append,sets];exact NT _ a b
structure PuG (g:TG3) where
 f:PyData->Option (List (Nat×PyData))
 tg:List Nat
 at':∀ {d bs},f d=some bs->∀ p∈bs,p.1∈tg
 ok:∀ {H x d bs},Dq H x d->f d=some bs->∃ ts,Bd H ts bs/\∀ τ G (q:St3->Gp->Prop),q (sets τ ts) G->g x τ G q
structure PuGs (g:LV) where
 f:List PyData->Option (List (Nat×PyData))
 tg:List Nat
 at':∀ {d bs},f d=some bs->∀ p∈bs,p.1∈tg
 ok:∀ {H x d bs},Dqs H x d->f d=some bs->∃ ts,Bd H ts bs/\∀ τ G (q:St3->Gp->Prop),q (sets τ ts) G->g x τ G q
def gN (i:Nat):PuG (gn3 i):=⟨λd=>some [(i,d)],[i],λh p hp=>by cases h;simp at hp;subst hp;simp,λhx h=>by cases h;exact ⟨_,.cons hx .nil,λτ G q hq=>hq⟩⟩
def qaV:PuGs qJ:=⟨λds=>match ds with|[]=>some []|_=>none,[],(λh p hp=>by split at h;cases h;cases hp;cases h),λhx h=>by
 split at h
 ·cases h;cases hx;exact ⟨[],.nil,λτ G q hq=>hq⟩
 ·cases h⟩
def Q5 {t:TG3} {u:LV} (a:PuG t) (b:PuGs u):PuGs (ql t u):=⟨λds=>match ds with|d::r=>(a.f d).bind λx=>(b.f r).map λy=>x++y|[]=>none,a.tg++b.tg,(λh p hp=>by
 split at h
 ·obtain ⟨x,e1,h⟩:=obb h;obtain ⟨y,e2,rfl⟩:=za3 h;rcases List.mem_append.mp hp with z|z
  ·exact List.mem_append.mpr (.inl (a.at' e1 p z))
  ·exact List.mem_append.mpr (.inr (b.at' e2 p z))
 ·cases h),λhx h=>by
 split at h
 ·obtain ⟨x,e1,h⟩:=obb h;obtain ⟨y,e2,rfl⟩:=za3 h;cases hx with
  |cons hx hr=>
   obtain ⟨ts,b1,k1⟩:=a.ok hx e1;obtain ⟨us,b2,k2⟩:=b.ok hr e2;refine ⟨ts++us,b1.append b2,λτ G q hq=>k1 τ G _ (k2 _ G q ?_)⟩;rw [← NT];exact hq
 ·cases h⟩
def qaR {u:LV} (n:Nat) (b:PuGs u):PuG (qI n u):=⟨λd=>match d with|.tuple ds=>if ds.length=n then b.f ds else none|_=>none,b.tg,(λh p hp=>by
 split at h
 ·split at h
  ·exact b.at' h p hp
  ·cases h
 ·cases h),λhx h=>by
 split at h
 ·split at h
  ·rename_i c;cases hx with
   |tup hs=>
    obtain ⟨ts,b1,k1⟩:=b.ok hs h;exact ⟨ts,b1,λτ G q hq=>⟨by rw [hs.length];exact c,k1 τ G q hq⟩⟩
  ·cases h
 ·cases h⟩
structure VA (D:Addr->Prop) (G:Gp) (τ:St3) (ρ:Rho):Prop where
 len:ρ.length=τ.length
 vw:∀ i d,vw ρ i=some d->∃ t,τ[i]?=some (some t)/\Dq (rs D G) t d
def VA.view {D:Addr->Prop} {G:Gp} {τ:St3} {ρ:Rho} (h:VA D G τ ρ) (fv:List Nat):C7 fv D G τ ρ:=λi _ d e=>h.vw i d e
def VA.upx {D:Addr->Prop} {G G':Gp} {τ:St3} {ρ:Rho} (h:VA D G τ ρ) (e:Ex (rs D G) (rs D G')):VA D G' τ ρ:=⟨h.len,λi d hd=>let ⟨t,a,b⟩:=h.vw i d hd;⟨t,a,b.up e⟩⟩
def VA.up {D:Addr->Prop} {G G':Gp} {τ:St3} {ρ:Rho} (h:VA D G τ ρ) (e:Ex G G'):VA D G' τ ρ:=h.upx (VL e)
def qei {ρ:Rho} {i j:Nat} {s:Sl}:vw (ρ.set i s) j=if i=j then (if i<ρ.length then s.d else none) else vw ρ j:=by
 unfold vw;rw [getElem?_set];split
 ·subst j;split
  ·rfl
  ·rfl
 ·rfl
def VA.set {D:Addr->Prop} {G:Gp} {τ:St3} {ρ:Rho} (h:VA D G τ ρ) {i:Nat} {x:T} {d:PyData} (hx:Dq (rs D G) x d):VA D G (τ.set i (some x)) (ρ.set i (.sh d)):=by
 refine ⟨by simp [h.len],λj e he=>?_⟩;rw [qei] at he;split at he
 ·subst j;split at he
  ·rename_i l;cases he;refine ⟨x,?_,hx⟩;rw [getElem?_set,if_pos rfl,if_pos (by rw [← h.len];exact l)]
  ·cases he
 ·rename_i n;obtain ⟨t,a,b⟩:=h.vw j e he;exact ⟨t,by rw [getElem?_set,if_neg n];exact a,b⟩
def VA.sets {D:Addr->Prop} {G:Gp}:∀ {ts:List (Nat×T)} {bs:List (Nat×PyData)} {τ:St3} {ρ:Rho},VA D G τ ρ->Bd (rs D G) ts bs->VA D G (Pu.sets τ ts) (Q1 ρ bs)
 |_,_,_,_,h,.nil=>h
 |_,_,_,_,h,.cons a b=>by unfold Pu.sets Q1;exact VA.sets (h.set a) b
def VA.keep {D:Addr->Prop} {G:Gp} {ρ:Rho}:∀ {ts:List (Nat×T)} {τ:St3},VA D G τ ρ->(∀ p∈ts,Pu.vw ρ p.1=none)->VA D G (Pu.sets τ ts) ρ
 |[],_,h,_=>h
 |p::r,τ,h,hn=>VA.keep (ts:=r) ⟨by rw [List.length_set];exact h.len,λj d hd=>by
   have:p.1≠j:=by rintro rfl;rw [hn p (by simp)] at hd;cases hd
   obtain ⟨t,a,b⟩:=h.vw j d hd;exact ⟨t,by rw [getElem?_set,if_neg this];exact a,b⟩⟩ λq hq=>hn q (by simp [hq])
def RQ (m:List (Option Nat)) (ρ:Rho):Rho:=m.map λo=>match o with|some j=>(match vw ρ j with|some d=>.sh d|none=>.un)|none=>.un
def VA.cap {m:List (Option Nat)} {D:Addr->Prop} {G:Gp} {τ:St3} {ρ:Rho} (h:C7 (m.filterMap id) D G τ ρ):VA D G (L3.cap m τ) (RQ m ρ):=by
 refine ⟨by simp [RQ,L3.cap],λi d hd=>?_⟩;unfold Pu.vw RQ at hd;rw [getElem?_map] at hd;cases e:m[i]? with
 |none=>rw [e] at hd;cases hd
 |some o=>
  rw [e] at hd;cases o with
  |none=>cases hd
  |some j=>
   simp only [Option.map_some,Option.bind_some] at hd;cases e2:Pu.vw ρ j with
   |none=>rw [e2] at hd;cases hd
   |some d'=>
    rw [e2] at hd;have hd':d'=d:=by simpa [Sl.d] using hd
    subst hd';obtain ⟨t,a,b⟩:=h j (List.mem_filterMap.mpr ⟨some j,v8 e,rfl⟩) d' e2;refine ⟨t,?_,b⟩;unfold L3.cap;rw [getElem?_map,e];simp [a]
def SQ {m:List (Option Nat)} {ρ:Rho} {i:Nat} (h:m[i]?=some none):vw (RQ m ρ) i=none:=by
 unfold vw RQ;rw [getElem?_map,h];rfl
def lcP (h:PyData->Option (Option PyData)):List PyData->Option (List PyData)
 |[]=>some []
 |d::r=>(h d).bind λo=>(lcP h r).bind λys=>some (match o with|some y=>y::ys|none=>ys)
def lcH (gf:PyData->Option (List (Nat×PyData))) (cf:Rho->Option Bool) (ef:Rho->Option PyData) (ρ:Rho) (d:PyData):Option (Option PyData):=
 (gf d).bind λbs=>(cf (Q1 ρ bs)).bind λk=>if k then (ef (Q1 ρ bs)).map some else some none
def L9 {h:PyData->Option (Option PyData)} {α:Type} {g:α->PyData} {k:α->PyData} {xs:List α} (hh:∀ a∈xs,h (g a)=some (some (k a))):lcP h (xs.map g)=some (xs.map k):=by
 induction xs with
 |nil=>rfl
 |cons a r ih=>simp only [map_cons,lcP,hh a (by simp),Option.bind_some,ih λb hb=>hh b (by simp [hb])]
def qat {h:PyData->Option (Option PyData)} {α:Type} {g:α->PyData} {k:α->PyData} {c:α->Bool} {xs:List α} (hh:∀ a∈xs,h (g a)=some (if c a then some (k a) else none)):lcP h (xs.map g)=some ((xs.filter c).map k):=by
 induction xs with
 |nil=>rfl
 |cons a r ih=>
  simp only [map_cons,lcP,hh a (by simp),Option.bind_some,ih λb hb=>hh b (by simp [hb])];cases e:c a with
  |true=>simp [e]
  |false=>simp [e]
def qbx {H:Gp}:∀ {ts:List (Nat×T)} {bs:List (Nat×PyData)},Bd H ts bs->∀ p∈ts,∃ q∈bs,q.1=p.1
 |_,_,.nil,p,hp=>by cases hp
 |_,_,.cons a b,p,hp=>by
  rcases mem_cons.mp hp with rfl|hp
  ·exact ⟨_,u9,rfl⟩
  ·obtain ⟨q,hq,e⟩:=qbx b p hp;exact ⟨q,by simp [hq],e⟩
def qgX {stay:Gp->Prop} {g:TG3} {tif:TT3} {te:TE3} {q:Q3} (pg:PuG g) (pc:PuC tif) (pe:PuE te) {D:Addr->Prop} {ρ0:Rho} {G0:Gp} (hs:∀ G,Ex G0 G->stay G) (hm:∀ i∈pg.tg,vw ρ0 i=none) (fin:List PyData) (hfin:fin.length<=sizeLine)
  (k:∀ G ys,Ex G0 G->Dqs (rs D G) ys fin->∀ p,G p=none->q (.ref p) (gu G p (.lst ys))) :
  ∀ (ds:List PyData) (items ys:List T) (es fs:List PyData) (τ:St3) (G:Gp),Dqs (rs D G0) items ds->VA D G τ ρ0->Ex G0 G->Dom D G->Dqs (rs D G) ys es->lcP (lcH pg.f pc.f pe.f ρ0) ds=some fs->es++fs=fin->CL stay g tif te q items ys τ G
 |_,_,ys,es,fs,τ,G,.nil,va,E,hd,hy,hf,hl=>by
  cases hf;rw [List.append_nil] at hl;subst hl;exact ⟨hs G E,k G ys E hy⟩
 |d::ds,x::items,ys,es,fs,τ,G,.cons hx hr,va,E,hd,hy,hf,hl=>by
  unfold lcP at hf;obtain ⟨o,e1,hf⟩:=obb hf;obtain ⟨QS,e2,hf⟩:=obb hf;unfold lcH at e1;obtain ⟨bs,e3,e1⟩:=obb e1;obtain ⟨c,e4,e1⟩:=obb e1;obtain ⟨ts,bd,kg⟩:=pg.ok (hx.up (VL E)) e3;refine ⟨hs G E,kg τ G _ ?_⟩;have va1:=va.sets bd;have va2:=va.keep (ts:=ts) λp hp=>by
   obtain ⟨q,hq,e⟩:=qbx bd p hp;rw [← e];exact hm _ (pg.at' e3 q hq)
  refine pc.ok (va1.view _) hd e4 λG1 E1=>?_;cases c with
  |true=>
   rw [if_pos rfl];rw [if_pos rfl] at e1;obtain ⟨y,e5,rfl⟩:=za3 e1;simp only [Option.some.injEq] at hf;subst hf;refine pe.ok ((va1.up E1).view _) (hd.up E1) e5 λz G2 E2 D2 _=>⟨?_,?_⟩
   ·rw [hy.length];rw [← hl] at hfin;simp at hfin;omega
   ·refine qgX pg pc pe hs hm fin hfin k ds items (ys++[z]) (es++[y]) QS _ G2 hr ((va2.up E1).up E2) (E.trans (E1.trans E2)) ((hd.up E1).up E2) (((hy.up (VL E1)).up (VL E2)).append (.cons D2 .nil)) e2 ?_;rw [← hl];simp
  |false=>
   rw [if_neg y6];simp at e1;subst e1;simp only [Option.some.injEq] at hf;subst hf;exact qgX pg pc pe hs hm fin hfin k ds items ys es QS _ G1 hr (va2.up E1) (E.trans E1) (hd.up E1) (hy.up (VL E1)) e2 hl
def lcF (pi:Rho->Option (List PyData)) (h:Rho->PyData->Option (Option PyData)) (m:List (Option Nat)) (ρ:Rho):Option PyData:=
 (pi ρ).bind λds=>(lcP (h (RQ m ρ)) ds).bind λfs=>cif (fs.length<=sizeLine) (some (.list fs)) none
def bLc {wi:TI3} {g:TG3} {tif:TT3} {te:TE3} (pi:PuI wi) (pg:PuG g) (pc:PuC tif) (pe:PuE te) (m:List (Option Nat)) (hm:Tru (pg.tg.all λi=>m[i]?==some none)):PuE (lc3 wi g tif te m):=
 ⟨lcF pi.f (lcH pg.f pc.f pe.f) m,pi.fv++m.filterMap id,true,λ{D τ ρ G q d} hv hd hf k=>by
  unfold lcF at hf;obtain ⟨ds,e1,hf⟩:=obb hf;obtain ⟨fs,e2,hf⟩:=obb hf;unfold cif at hf;split at hf
  ·rename_i hl;cases hf;refine pi.ok hv.l hd e1 λitems stay G1 E1 D1 hs _=>?_;have va:=(VA.cap (m:=m) hv.r).up E1;refine qgX pg pc pe (D:=D) (ρ0:=RQ m ρ) (G0:=G1) (λG2 E2=>hs G2 (.inr (V3.trans E2))) (λi hi=>SQ ?_) fs hl (λG2 ys E2 D2 p hp=>?_) ds items [] [] fs _ G1 D1 va Ex.refl (hd.up E1) .nil e2 (by simp)
   ·have:=List.all_eq_true.mp hm.h i hi;simpa using this
   ·exact k _ _ ((E1.trans E2).trans (j4 hp)) (KK ((hd.up E1).up E2) hp D2) λ_=>(M3 hp D2).back (E1.trans E2)
  ·cases hf⟩
def E0 (p:Addr) (G G':Gp):Prop:=∀ b o,b≠p->G b=some o->G' b=some o
def E0.refl {p:Addr} {G:Gp}:E0 p G G:=λ_ _ _ e=>e
def E0.trans {p:Addr} {G G1 G2:Gp} (a:E0 p G G1) (b:E0 p G1 G2):E0 p G G2:=λx o n e=>b x o n (a x o n e)
def E0.of {p:Addr} {G G1:Gp} (a:Ex G G1):E0 p G G1:=λx o _ e=>a x o e
def E0.wr {p:Addr} {G:Gp} {o:O}:E0 p G (gu G p o):=λb ob n e=>by rw [zD n];exact e
def E0.rs {p:Addr} {D:Addr->Prop} {G G1:Gp} (a:E0 p G G1):Ex (rs (λb=>D b\/b=p) G) (rs (λb=>D b\/b=p) G1):=λb o h=>by
 obtain ⟨n,h⟩:=zj h;rw [QU n];exact a b o (λz=>n (.inr z)) h
def qk4 {D:Addr->Prop} {G:Gp} {p:Addr} {o:O} (h:Dom D G):Dom D (gu G p o):=λb d z=>by
 by_cases e:b=p
 ·subst e;rw [qv] at z;cases z
 ·rw [zD e] at z;exact h b d z
def qgV {p:Addr} {stay:Gp->Prop} {g:TG3} {tif:TT3} {te:TE3} {N:St3->Gp->Prop} (pg:PuG g) (pc:PuC tif) (pe:PuE te) {D:Addr->Prop} {ρ0:Rho} {G0:Gp} (hs:∀ G,Ex (rs (λb=>D b\/b=p) G0) G->stay G) (hm:∀ i∈pg.tg,vw ρ0 i=none) (fin:List PyData) (hfin:fin.length<=sizeLine)
  (k:∀ τ G ys,VA (λb=>D b\/b=p) G τ ρ0->E0 p G0 G->Dom (λb=>D b\/b=p) G->G p=some (.lst ys)->Dqs (rs (λb=>D b\/b=p) G) ys fin->N τ G) :
  ∀ (ds:List PyData) (items ys:List T) (es fs:List PyData) (τ:St3) (G:Gp),Dqs (rs (λb=>D b\/b=p) G0) items ds->VA (λb=>D b\/b=p) G τ ρ0->E0 p G0 G->Dom (λb=>D b\/b=p) G->G p=some (.lst ys)->Dqs (rs (λb=>D b\/b=p) G) ys es->lcP (lcH pg.f pc.f pe.f ρ0) ds=some fs->es++fs=fin->qiA p stay g tif te N items τ G
 |_,_,ys,es,fs,τ,G,.nil,va,E,hd,gp,hy,hf,hl=>by
  cases hf;rw [List.append_nil] at hl;subst hl;exact ⟨hs G (E.rs.trans V3),k τ G ys va E hd gp hy⟩
 |d::ds,x::items,ys,es,fs,τ,G,.cons hx hr,va,E,hd,gp,hy,hf,hl=>by
  unfold lcP at hf;obtain ⟨o,e1,hf⟩:=obb hf;obtain ⟨QS,e2,hf⟩:=obb hf;unfold lcH at e1;obtain ⟨bs,e3,e1⟩:=obb e1;obtain ⟨c,e4,e1⟩:=obb e1;obtain ⟨ts,bd,kg⟩:=pg.ok (hx.up E.rs) e3;refine ⟨hs G (E.rs.trans V3),kg τ G _ ?_⟩;have va1:=va.sets bd;have va2:=va.keep (ts:=ts) λp hp=>by
   obtain ⟨q,hq,e⟩:=qbx bd p hp;rw [← e];exact hm _ (pg.at' e3 q hq)
  refine pc.ok (va1.view _) hd e4 λG1 E1=>?_;cases c with
  |true=>
   rw [if_pos rfl];rw [if_pos rfl] at e1;obtain ⟨y,e5,rfl⟩:=za3 e1;simp only [Option.some.injEq] at hf;subst hf;refine pe.ok ((va1.up E1).view _) (hd.up E1) e5 λz G2 E2 D2 _=>?_;simp only [E2 _ _ (E1 _ _ gp)];have W:E0 p G2 (gu G2 p (.lst (ys++[z]))):=E0.wr;refine ⟨?_,?_⟩
   ·rw [hy.length];rw [← hl] at hfin;simp at hfin;omega
   ·refine qgV pg pc pe hs hm fin hfin k ds items (ys++[z]) (es++[y]) QS _ _ hr (((va2.up E1).up E2).upx W.rs) ((E.trans (E0.of (E1.trans E2))).trans W) (qk4 ((hd.up E1).up E2)) qv ((((hy.up (VL E1)).up (VL E2)).append (.cons D2 .nil)).up W.rs) e2 ?_;rw [← hl];simp
  |false=>
   rw [if_neg y6];simp at e1;subst e1;simp only [Option.some.injEq] at hf;subst hf;exact qgV pg pc pe hs hm fin hfin k ds items ys es QS _ G1 hr (va2.up E1) (E.trans (E0.of E1)) (hd.up E1) (E1 _ _ gp) (hy.up (VL E1)) e2 hl
def qiq (h:PyData->Option (Option (List PyData))):List PyData->Option (List PyData)
 |[]=>some []
 |d::r=>(h d).bind λo=>(qiq h r).bind λys=>some (match o with|some y=>y++ys|none=>ys)
def qnw (gf:PyData->Option (List (Nat×PyData))) (cf:Rho->Option Bool) (it:Rho->Option (List PyData)) (h:Rho->PyData->Option (Option PyData)) (ρ:Rho) (d:PyData):Option (Option (List PyData)):=
 (gf d).bind λbs=>(cf (Q1 ρ bs)).bind λk=>if k then ((it (Q1 ρ bs)).bind λds=>lcP (h (Q1 ρ bs)) ds).map some else some none
def TR:∀ {bs:List (Nat×PyData)} {ρ:Rho} {i:Nat},(∀ p∈bs,p.1≠i)->vw (Q1 ρ bs) i=vw ρ i
 |[],_,_,_=>rfl
 |p::r,ρ,i,h=>by
  unfold Q1;rw [TR (λq hq=>h q (by simp [hq])),qei,if_neg (h p (by simp))]
def NC:∀ (bs:List (Nat×PyData)) (ρ:Rho),(Q1 ρ bs).length=ρ.length
 |[],τ=>rfl
 |p::r,τ=>by unfold Q1;rw [NC r];simp
def qb2 {p:Addr} {stay:Gp->Prop} {g g2:TG3} {tif tif2:TT3} {wi2:TI3} {te:TE3} {q:Q3} (pg:PuG g) (pc:PuC tif) (pi2:PuI wi2) (pg2:PuG g2) (pc2:PuC tif2) (pe:PuE te) {D:Addr->Prop} {ρ0:Rho} {G0:Gp} (hs:∀ G,Ex (rs (λb=>D b\/b=p) G0) G->stay G) (hm:∀ i∈pg.tg,vw ρ0 i=none) (hm2:∀ i∈pg2.tg,vw ρ0 i=none) (hdj:∀ i∈pg2.tg,i∉pg.tg) (fin:List PyData) (hfin:fin.length<=sizeLine)
  (k:∀ G ys,E0 p G0 G->G p=some (.lst ys)->Dqs (rs (λb=>D b\/b=p) G) ys fin->q (.ref p) G) :
  ∀ (ds:List PyData) (items ys:List T) (es fs:List PyData) (τ:St3) (G:Gp),Dqs (rs (λb=>D b\/b=p) G0) items ds->VA (λb=>D b\/b=p) G τ ρ0->E0 p G0 G->Dom (λb=>D b\/b=p) G->G p=some (.lst ys)->Dqs (rs (λb=>D b\/b=p) G) ys es->qiq (qnw pg.f pc.f pi2.f (lcH pg2.f pc2.f pe.f) ρ0) ds=some fs->es++fs=fin->qcV p stay g tif wi2 g2 tif2 te q items τ G
 |_,_,ys,es,fs,τ,G,.nil,va,E,hd,gp,hy,hf,hl=>by
  cases hf;rw [List.append_nil] at hl;subst hl;exact ⟨hs G (E.rs.trans V3),k G ys E gp hy⟩
 |d::ds,x::items,ys,es,fs,τ,G,.cons hx hr,va,E,hd,gp,hy,hf,hl=>by
  unfold qiq at hf;obtain ⟨o,e1,hf⟩:=obb hf;obtain ⟨QS,e2,hf⟩:=obb hf;unfold qnw at e1;obtain ⟨bs,e3,e1⟩:=obb e1;obtain ⟨c,e4,e1⟩:=obb e1;obtain ⟨ts,bd,kg⟩:=pg.ok (hx.up E.rs) e3;refine ⟨hs G (E.rs.trans V3),kg τ G _ ?_⟩;have va1:=va.sets bd;have va2:=va.keep (ts:=ts) λp hp=>by
   obtain ⟨q,hq,e⟩:=qbx bd p hp;rw [← e];exact hm _ (pg.at' e3 q hq)
  refine pc.ok (va1.view _) hd e4 λG1 E1=>?_;cases c with
  |true=>
   rw [if_pos rfl];rw [if_pos rfl] at e1;obtain ⟨y,e5,rfl⟩:=za3 e1;obtain ⟨ds2,e6,e5⟩:=obb e5;simp only [Option.some.injEq] at hf;subst hf;refine pi2.ok ((va1.up E1).view _) (hd.up E1) e6 λitems2 stay2 G2 E2 D2 hs2 _=>?_;have l2:(es++y).length<=sizeLine:=by
    rw [← hl] at hfin;simp at hfin ⊢;omega
   refine qgV pg2 pc2 pe (ρ0:=Q1 ρ0 bs) (G0:=G2) (λG3 E3=>hs2 G3 (.inr E3)) (λi hi=>?_) (es++y) l2 (λτ3 G3 zs va3 E3 hd3 gp3 hz=>?_) ds2 items2 ys es y _ G2 D2 ((va1.up E1).up E2) E0.refl ((hd.up E1).up E2) (E2 _ _ (E1 _ _ gp)) ((hy.up (VL E1)).up (VL E2)) e5 rfl
   ·rw [TR λq hq e=>hdj i hi (by rw [← e];exact pg.at' e3 q hq)];exact hm2 i hi
   ·have E4:E0 p G G3:=(E0.of (E1.trans E2)).trans E3;have va4:VA (λb=>D b\/b=p) G3 τ3 ρ0:=⟨by rw [← va3.len,NC],λi d' hd'=>va3.vw i d' (by
     rw [TR λq hq e=>?_];exact hd';rw [← e,hm _ (pg.at' e3 q hq)] at hd';cases hd')⟩
    exact qb2 pg pc pi2 pg2 pc2 pe hs hm hm2 hdj fin hfin k ds items zs (es++y) QS τ3 G3 hr va4 (E.trans E4) hd3 gp3 hz e2 (by rw [← hl];simp)
  |false=>
   rw [if_neg y6];simp at e1;subst e1;simp only [Option.some.injEq] at hf;subst hf;exact qb2 pg pc pi2 pg2 pc2 pe hs hm hm2 hdj fin hfin k ds items ys es QS _ G1 hr (va2.up E1) (E.trans (E0.of E1)) (hd.up E1) (E1 _ _ gp) (hy.up (VL E1)) e2 hl
def qnz (pi:Rho->Option (List PyData)) (h:Rho->PyData->Option (Option (List PyData))) (m:List (Option Nat)) (ρ:Rho):Option PyData:=
 (pi ρ).bind λds=>(qiq (h (RQ m ρ)) ds).bind λfs=>cif (fs.length<=sizeLine) (some (.list fs)) none
def NV {h:PyData->Option (Option (List PyData))} {α:Type} {g:α->PyData} {k:α->List PyData} {xs:List α} (hh:∀ a∈xs,h (g a)=some (some (k a))):qiq h (xs.map g)=some (xs.flatMap k):=by
 induction xs with
 |nil=>rfl
 |cons a r ih=>simp only [map_cons,qiq,hh a (by simp),Option.bind_some,ih λb hb=>hh b (by simp [hb]),List.flatMap_cons]
def qn8 {wi wi2:TI3} {g g2:TG3} {tif tif2:TT3} {te:TE3} (pi:PuI wi) (pg:PuG g) (pc:PuC tif) (pi2:PuI wi2) (pg2:PuG g2) (pc2:PuC tif2) (pe:PuE te) (m:List (Option Nat)) (hm:Tru (pg.tg.all λi=>m[i]?==some none)) (hm2:Tru (pg2.tg.all λi=>m[i]?==some none)) (hdj:Tru (pg2.tg.all λi=>!pg.tg.contains i)):PuE (qlp wi g tif wi2 g2 tif2 te m):=
 ⟨qnz pi.f (qnw pg.f pc.f pi2.f (lcH pg2.f pc2.f pe.f)) m,pi.fv++m.filterMap id,true,λ{D τ ρ G q d} hv hd hf k=>by
  unfold qnz at hf;obtain ⟨ds,e1,hf⟩:=obb hf;obtain ⟨fs,e2,hf⟩:=obb hf;unfold cif at hf;split at hf
  ·rename_i hl;cases hf;refine pi.ok hv.l hd e1 λitems stay G1 E1 D1 hs _ p hp=>?_;have va:=(VA.cap (m:=m) hv.r).up E1;have np:∀ {b o},G1 b=some o->b≠p:=λe=>by rintro rfl;rw [hp] at e;cases e
   have X1:Ex (rs D G1) (rs (λb=>D b\/b=p) (gu G1 p (.lst []))):=λb o e=>by
    obtain ⟨n,e⟩:=zj e;rw [QU (by rintro (z|z);exact n z;exact np e z),zD (np e)];exact e
   refine qb2 pg pc pi2 pg2 pc2 pe (D:=D) (ρ0:=RQ m ρ) (G0:=gu G1 p (.lst [])) (p:=p) (λG2 E2=>hs G2 (.inr (X1.trans E2))) (λi hi=>SQ ?_) (λi hi=>SQ ?_) (λi hi hj=>?_) fs hl (λG2 ys E2 gp D2=>?_) ds items [] [] fs _ _ (D1.up X1) ⟨va.len,λi d hd=>let ⟨t,a,b⟩:=va.vw i d hd;⟨t,a,b.up X1⟩⟩ E0.refl ?_ qv .nil e2 (by simp)
   ·simpa using List.all_eq_true.mp hm.h i hi
   ·simpa using List.all_eq_true.mp hm2.h i hi
   ·have:=List.all_eq_true.mp hdj.h i hi;simp at this;exact this hj
   ·have EE:Ex G1 G2:=λb o e=>E2 b o (np e) (by rw [zD (np e)];exact e);have hdp:¬ D p:=λz=>(hd.up E1) p z hp;refine k _ _ (E1.trans EE) (.lst (by rw [QU hdp];exact gp) (D2.up (jd λb z=>.inl z))) λ_=>Nw.back (.inr ⟨p,ys,fs,rfl,rfl,hp,gp,D2⟩) E1
   ·intro b hb z;by_cases e:b=p
    ·subst e;rw [qv] at z;cases z
    ·rw [zD e] at z;rcases hb with hb|hb
     ·exact (hd.up E1) b hb z
     ·exact e hb
  ·cases hf⟩
def AD (D:Addr->Prop) (A:Nat->Addr->Prop) (b:Addr):Prop:=D b\/∃ i,A i b
def Ons (R G:Gp) (B:Addr->Prop) (qs:List Addr) (dss:List (List PyData)):Prop:=qs.length=dss.length/\∀ (j:Nat) (q:Addr) (ds:List PyData),qs[j]?=some q->dss[j]?=some ds->B q/\∃ ys,G q=some (.lst ys)/\Dqs R ys ds
def SlR (R G:Gp) (B:Addr->Prop) (t:Option (Option T)):Sl->Prop
 |.un=>True
 |.sh d=>∃ x,t=some (some x)/\Dq R x d
 |.ow ds=>∃ p xs,B p/\t=some (some (.ref p))/\G p=some (.lst xs)/\Dqs R xs ds
 |.dc kvs=>∃ p ks,B p/\t=some (some (.ref p))/\G p=some (.dct ks)/\ks.map (λq=>q.1)=kvs.map (λq=>q.1)/\Dqs R (ks.map λq=>q.2) (kvs.map λq=>q.2)
 |.on dss=>∃ p qs,B p/\t=some (some (.ref p))/\G p=some (.lst (qs.map T.ref))/\(p::qs).Nodup/\Ons R G B qs dss
section
variable {R R' G G':Gp} {B B':Addr->Prop} {t:Option (Option T)} {s:Sl}
def Ons.mono {qs:List Addr} {dss:List (List PyData)} (h:Ons R G B qs dss) (hr:Ex R R') (hg:∀ q∈qs,∀ o,B q->G q=some o->G' q=some o) (hb:∀ p,B p->B' p):Ons R' G' B' qs dss:=
 ⟨h.1,λj q ds a b=>let ⟨c,ys,d,e⟩:=h.2 j q ds a b;⟨hb _ c,ys,hg _ (v8 a) _ c d,e.up hr⟩⟩
def SlR.mono (h:SlR R G B t s) (hr:Ex R R') (hg:s≠.un->∀ p o,B p->G p=some o->G' p=some o) (hb:∀ p,B p->B' p):SlR R' G' B' t s:=by
 by_cases n:s=.un
 ·subst n;trivial
 replace hg:=hg n
 cases s with
 |un=>trivial
 |sh d=>obtain ⟨x,a,b⟩:=h;exact ⟨x,a,b.up hr⟩
 |ow ds=>obtain ⟨p,xs,a,b,c,d⟩:=h;exact ⟨p,xs,hb _ a,b,hg _ _ a c,d.up hr⟩
 |dc ds=>obtain ⟨p,xs,a,b,c,d,e⟩:=h;exact ⟨p,xs,hb _ a,b,hg _ _ a c,d,e.up hr⟩
 |on ds=>obtain ⟨p,xs,a,b,c,d,e⟩:=h;exact ⟨p,xs,hb _ a,b,hg _ _ a c,d,e.mono hr (λq _=>hg q) hb⟩
def Ons.dqs:∀ {qs:List Addr} {dss:List (List PyData)},Ons R G B qs dss->Ex R R'->(∀ p o,B p->G p=some o->R' p=some o)->Dqs R' (qs.map T.ref) (dss.map PyData.list)
 |[],[],_,_,_=>.nil
 |q::qs,ds::dss,h,hr,hg=>by
  obtain ⟨a,ys,b,c⟩:=h.2 0 q ds rfl rfl;exact .cons (.lst (hg _ _ a b) (c.up hr)) (Ons.dqs ⟨by simpa using h.1,λj q ds x y=>h.2 (j+1) q ds x y⟩ hr hg)
 |[],_::_,h,_,_=>by cases h.1
 |_::_,[],h,_,_=>by cases h.1
def SlR.vis (h:SlR R G B t s) {d:PyData} (hs:s.d=some d) (hr:Ex R R') (hg:∀ p o,B p->G p=some o->R' p=some o):∃ x,t=some (some x)/\Dq R' x d:=by
 cases s with
 |un=>cases hs
 |sh d=>cases hs;obtain ⟨x,a,b⟩:=h;exact ⟨x,a,b.up hr⟩
 |ow ds=>cases hs;obtain ⟨p,xs,a,b,c,d⟩:=h;exact ⟨_,b,.lst (hg _ _ a c) (d.up hr)⟩
 |dc ds=>cases hs
 |on ds=>cases hs;obtain ⟨p,xs,a,b,c,d,e⟩:=h;exact ⟨_,b,.lst (hg _ _ a c) (e.dqs hr hg)⟩
end
structure RS (D:Addr->Prop) (G0:Gp) (A:Nat->Addr->Prop) (τ:St3) (ρ:Rho) (G:Gp):Prop where
 ex:Ex G0 G
 dm:Dom D G0
 fr:∀ i p,A i p->G0 p=none
 da:∀ i p,A i p->G p≠none
 inj:∀ i j p,A i p->A j p->i=j
 len:ρ.length=τ.length
 sl:∀ (i:Nat) (s:Sl),ρ[i]?=some s->SlR (rs (AD D A) G) G (A i) τ[i]? s
section
variable {D:Addr->Prop} {G0 G G':Gp} {A A':Nat->Addr->Prop} {τ:St3} {ρ:Rho}
def RS.sh (h:RS D G0 A τ ρ G) (i:Nat) (d:PyData) (e:ρ[i]?=some (Sl.sh d)):∃ t,τ[i]?=some (some t)/\Dq (rs (AD D A) G) t d:=h.sl i _ e
def RS.ow (h:RS D G0 A τ ρ G) (i:Nat) (ds:List PyData) (e:ρ[i]?=some (Sl.ow ds)):∃ p xs,A i p/\τ[i]?=some (some (.ref p))/\G p=some (.lst xs)/\Dqs (rs (AD D A) G) xs ds:=h.sl i _ e
def RS.nd (h:RS D G0 A τ ρ G) {i:Nat} {p:Addr} (e:A i p):¬ D p:=λz=>h.dm p z (h.fr i p e)
def RS.dom (h:RS D G0 A τ ρ G):Dom (AD D A) G:=λb hb=>by
 rcases hb with hb|⟨i,hi⟩
 ·exact (h.dm.up h.ex) b hb
 ·exact h.da i b hi
def RS.domD (h:RS D G0 A τ ρ G):Dom D G:=h.dm.up h.ex
def RS.keep (h:RS D G0 A τ ρ G) {W:Addr->Prop} (hg:∀ b o,¬ W b->G b=some o->G' b=some o) (hW:∀ b,W b->∃ j,A j b/\ρ[j]?=some Sl.un/\G' b≠none):RS D G0 A τ ρ G':=by
 have out:∀ b,W b->AD D A b:=λb z=>let ⟨j,a,_⟩:=hW b z;.inr ⟨j,a⟩
 have X:Ex (rs (AD D A) G) (rs (AD D A) G'):=λb o e=>by
  obtain ⟨n,e⟩:=zj e;rw [QU n];exact hg b o (λz=>n (out b z)) e
 refine ⟨λb o e=>hg b o (λz=>?_) (h.ex b o e),h.dm,h.fr,λi p a z=>?_,h.inj,h.len,λi s e=>(h.sl i s e).mono X (λnu p o a g=>hg p o (λz=>?_) g) λ_ z=>z⟩
 ·obtain ⟨j,a,_⟩:=hW b z;rw [h.fr j b a] at e;cases e
 ·by_cases c:W p
  ·obtain ⟨j,_,_,n⟩:=hW p c;exact n z
  ·cases g:G p with
   |none=>exact h.da i p a g
   |some o=>rw [hg p o c g] at z;cases z
 ·obtain ⟨j,b,u,_⟩:=hW p z;have:=h.inj i j p a b;subst this;rw [u] at e;cases e;exact nu rfl
def RS.up (h:RS D G0 A τ ρ G) (e:Ex G G'):RS D G0 A τ ρ G':=h.keep (W:=λ_=>False) (λb o _ z=>e b o z) λ_ z=>z.elim
def RS.viewAll (h:RS D G0 A τ ρ G) (fv:List Nat):C7 fv D G τ ρ:=λi _ d hd=>by
 unfold vw at hd;obtain ⟨s,e,hd⟩:=obb hd;exact (h.sl i s e).vis hd (jd λb z=>.inl z) λp o a g=>by rw [QU (h.nd a)];exact g
def RS.view (h:RS D G0 A τ ρ G) {fv:List Nat} (hn:∀ i∈fv,∀ p,¬ A i p):C7 fv (AD D A) G τ ρ:=λi hi d hd=>by
 unfold vw at hd;obtain ⟨s,e,hd⟩:=obb hd;exact (h.sl i s e).vis hd (λ_ _ z=>z) λp o a=>(hn i hi p a).elim
def Sl.dem:Sl->Sl
 |.ow ds=>.sh (.list ds)
 |.dc _=>.un
 |.on dss=>.sh (.list (dss.map PyData.list))
 |s=>s
def dm:List Bool->Rho->Rho
 |b::m,s::r=>(match b with|true=>s.dem|false=>s)::dm m r
 |_,r=>r
def mkb (m:List Bool) (i:Nat):Bool:=(m[i]?).getD false
def qbm:∀ (m:List Bool) (ρ:Rho) (i:Nat),(dm m ρ)[i]?=(ρ[i]?).map λs=>if mkb m i=true then s.dem else s
 |[],ρ,i=>by simp [dm,mkb]
 |b::m,[],i=>by simp [dm]
 |b::m,s::r,0=>by cases b<;>simp [dm,mkb]
 |b::m,s::r,i+1=>by
  have:=qbm m r i;simp only [dm,getElem?_cons_succ,mkb] at this ⊢;exact this
def qom (s:Sl):s.dem.d=s.d:=by cases s<;>rfl
def qpe (m:List Bool) (ρ:Rho) (i:Nat):vw (dm m ρ) i=vw ρ i:=by
 unfold vw;rw [qbm];cases ρ[i]? with
 |none=>rfl
 |some s=>
  simp only [Option.map_some,Option.bind_some];split
  ·exact qom s
  ·rfl
def qf1:∀ (m:List Bool) (ρ:Rho),(dm m ρ).length=ρ.length
 |[],ρ=>rfl
 |b::m,[]=>rfl
 |b::m,s::r=>by simp [dm,qf1 m r]
def Ad (m:List Bool) (A:Nat->Addr->Prop):Nat->Addr->Prop:=λi p=>A i p/\mkb m i=false
def qkC (s:Sl):s.dem=.un\/∃ d,s.dem=.sh d/\s.d=some d:=by cases s<;>simp [Sl.dem,Sl.d]
def RS.dem (h:RS D G0 A τ ρ G) (m:List Bool):RS D G0 (Ad m A) τ (Pu.dm m ρ) G:=by
 have less:Ex (rs (AD D A) G) (rs (AD D (Ad m A)) G):=jd λb z=>by
  rcases z with z|⟨i,z⟩
  ·exact .inl z
  ·exact .inr ⟨i,z.1⟩
 refine ⟨h.ex,h.dm,λi p e=>h.fr i p e.1,λi p e=>h.da i p e.1,λi j p a b=>h.inj i j p a.1 b.1,by rw [qf1];exact h.len,λi s e=>?_⟩;rw [qbm] at e;obtain ⟨s',e1,rfl⟩:=za3 e;have q:=h.sl i s' e1;split
 ·rename_i hm;rcases qkC s' with z|⟨d,z,hd⟩<;>rw [z]
  ·trivial
  ·refine q.vis hd less λp o a g=>?_;rw [QU]
   ·exact g
   ·rintro (z|⟨j,z⟩)
    ·exact h.nd a z
    ·have:=h.inj i j p a z.1;subst this;rw [z.2] at hm;cases hm
 ·rename_i hm;exact q.mono less (λ_ _ _ _ z=>z) λp z=>⟨z,by simpa using hm⟩
def RS.viewD (h:RS D G0 A τ ρ G) {m:List Bool} {fv:List Nat} (hm:Tru (fv.all (mkb m))):C7 fv (AD D (Ad m A)) G τ ρ:=by
 have:=(h.dem m).view (fv:=fv) λi hi p z=>by have q:=List.all_eq_true.mp hm.h i hi;rw [z.2] at q;cases q
 intro i hi d hd;exact this i hi d (by rw [qpe];exact hd)
def Rg (A:Nat->Addr->Prop) (i:Nat) (B:Addr->Prop):Nat->Addr->Prop:=λj p=>(j=i/\B p)\/(j≠i/\A j p)
def RS.upd (h:RS D G0 A τ ρ G) (i:Nat) {x:T} {s:Sl} {B W:Addr->Prop} (hg:∀ b o,¬ W b->G b=some o->G' b=some o) (hW:∀ b,W b->∃ j,A j b/\(j=i\/(ρ[j]?=some Sl.un/\G' b≠none))) (hB:∀ b,B b->(A i b\/G b=none)/\G' b≠none)
  (hs:Ex (rs (AD D A) G) (rs (AD D (Rg A i B)) G')->SlR (rs (AD D (Rg A i B)) G') G' B (some (some x)) s):RS D G0 (Rg A i B) (τ.set i (some x)) (ρ.set i s) G':=by
 have X:Ex (rs (AD D A) G) (rs (AD D (Rg A i B)) G'):=λb o e=>by
  obtain ⟨n,e⟩:=zj e;rw [QU]
  ·exact hg b o (λz=>let ⟨j,a,_⟩:=hW b z;n (.inr ⟨j,a⟩)) e
  ·rintro (z|⟨j,⟨rfl,z⟩|⟨_,z⟩⟩)
   ·exact n (.inl z)
   ·rcases (hB b z).1 with z|z
    ·exact n (.inr ⟨j,z⟩)
    ·rw [z] at e;cases e
   ·exact n (.inr ⟨j,z⟩)
 have ng:∀ p,G p=none->G0 p=none:=λp g=>by
  cases z:G0 p with
  |none=>rfl
  |some o=>rw [h.ex _ _ z] at g;cases g
 refine ⟨λb o e=>hg b o (λz=>?_) (h.ex b o e),h.dm,λj p e=>?_,λj p e=>?_,λj k p a b=>?_,by simp [h.len],λj s' e=>?_⟩
 ·obtain ⟨j,a,_⟩:=hW b z;rw [h.fr j b a] at e;cases e
 ·rcases e with ⟨rfl,z⟩|⟨_,z⟩
  ·rcases (hB p z).1 with z|z
   ·exact h.fr j p z
   ·exact ng p z
  ·exact h.fr j p z
 ·rcases e with ⟨rfl,z⟩|⟨n,z⟩
  ·exact (hB p z).2
  ·intro g;by_cases c:W p
   ·obtain ⟨k,a,b|⟨_,b⟩⟩:=hW p c
    ·exact n ((h.inj j k p z a).trans b)
    ·exact b g
   ·cases g':G p with
    |none=>exact h.da j p z g'
    |some o=>rw [hg p o c g'] at g;cases g
 ·rcases a with ⟨rfl,a⟩|⟨n,a⟩<;>rcases b with ⟨rfl,b⟩|⟨n',b⟩
  ·rfl
  ·rcases (hB p a).1 with z|z
   ·exact h.inj _ _ p z b
   ·exact absurd z (h.da k p b)
  ·rcases (hB p b).1 with z|z
   ·exact h.inj _ _ p a z
   ·exact absurd z (h.da j p a)
  ·exact h.inj j k p a b
 ·rw [getElem?_set] at e ⊢;split at e
  ·rename_i hj;subst hj;split at e
   ·rename_i hl;cases e;rw [if_pos rfl,if_pos (by rw [← h.len];exact hl)];exact (hs X).mono (λ_ _ z=>z) (λ_ _ _ _ z=>z) λp z=>.inl ⟨rfl,z⟩
   ·cases e
  ·rename_i hj;rw [if_neg hj];refine (h.sl j s' e).mono X (λnu p o a g=>hg p o (λz=>?_) g) λp z=>.inr ⟨λy=>hj y.symm,z⟩;obtain ⟨k,b,y|⟨y,_⟩⟩:=hW p z
   ·exact hj ((h.inj j k p a b).trans y).symm
   ·have:=h.inj j k p a b;subst this;rw [e] at y;cases y;exact nu rfl
abbrev Er (A:Nat->Addr->Prop) (i:Nat):Nat->Addr->Prop:=Rg A i λ_=>False
def qfv {i j:Nat} {p:Addr} (h:Er A i j p):A j p/\j≠i:=by
 rcases h with ⟨_,z⟩|⟨n,z⟩
 ·exact z.elim
 ·exact ⟨z,n⟩
def RS.put (h:RS D G0 A τ ρ G) (i:Nat) {x:T} {d:PyData} (hx:Dq (rs (AD D A) G) x d):RS D G0 (Er A i) (τ.set i (some x)) (ρ.set i (.sh d)) G:=
 h.upd i (W:=λ_=>False) (λ_ _ _ z=>z) (λ_ z=>z.elim) (λ_ z=>z.elim) λX=>⟨x,rfl,hx.up X⟩
def RS.puts:∀ {ts:List (Nat×T)} {bs:List (Nat×PyData)} {A:Nat->Addr->Prop} {τ:St3} {ρ:Rho},RS D G0 A τ ρ G->Bd (rs (AD D A) G) ts bs->∃ A',RS D G0 A' (sets τ ts) (Q1 ρ bs) G
 |_,_,A,_,_,h,.nil=>⟨A,h⟩
 |_,_,A,_,_,h,.cons (i:=i) a b=>by
  unfold sets Q1;exact RS.puts (h.put i a) (b.up (jd λb z=>by
   rcases z with z|⟨j,z⟩
   ·exact .inl z
   ·exact .inr ⟨j,(qfv z).1⟩))
def RS.putN (h:RS D G0 A τ ρ G) (i:Nat) {x:T} {d:PyData} {ds:List PyData} (hd:d=.list ds) (E:Ex G G') (hx:Nw (AD D A) G G' x d):RS D G0 (Rg A i λb=>x=.ref b) (τ.set i (some x)) (ρ.set i (.ow ds)) G':=by
 rcases hx with hx|⟨p,xs,ds',rfl,e',gp,gp',hs⟩
 ·rw [hd] at hx;cases hx
 rw [hd] at e';cases e';refine h.upd i (W:=λ_=>False) (λb o _ z=>E b o z) (λ_ z=>z.elim) (λb z=>by cases z;exact ⟨.inr gp,by rw [gp'];simp⟩) λ_=>⟨p,xs,rfl,rfl,gp',hs.up (jd λb z=>?_)⟩
 rcases z with z|⟨j,⟨_,z⟩|⟨_,z⟩⟩
 ·exact .inl (.inl z)
 ·cases z;exact .inr rfl
 ·exact .inl (.inr ⟨j,z⟩)
def XH {i:Nat} {t:Option T} (h:τ[i]?=some t):τ.set i t=τ:=by
 apply List.ext_getElem?;intro j;rw [getElem?_set];split
 ·rename_i e;subst e;split
  ·exact h.symm
  ·rename_i n;rw [List.getElem?_eq_none (by omega)] at h;cases h
 ·rfl
def ME {i:Nat}:Rg A i (A i)=A:=funext λj=>funext λp=>propext ⟨λz=>by
 rcases z with ⟨rfl,z⟩|⟨_,z⟩<;>exact z,λz=>by
 by_cases c:j=i
 ·subst c;exact .inl ⟨rfl,z⟩
 ·exact .inr ⟨c,z⟩⟩
def RS.wr (h:RS D G0 A τ ρ G) {i:Nat} {p:Addr} {xs:List T} {ds:List PyData} (hi:A i p) (ht:τ[i]?=some (some (.ref p))) (hs:Dqs (rs (AD D A) G) xs ds):RS D G0 A τ (ρ.set i (.ow ds)) (gu G p (.lst xs)):=by
 have:=h.upd i (G':=gu G p (.lst xs)) (x:=.ref p) (s:=.ow ds) (B:=A i) (W:=λb=>b=p) (λb o n z=>by rw [zD n];exact z) (λb z=>⟨i,by rw [z];exact hi,.inl rfl⟩) (λb z=>⟨.inl z,by
  by_cases c:b=p
  ·rw [c,qv];simp
  ·rw [zD c];exact h.da i b z⟩) λX=>⟨p,xs,hi,rfl,qv,hs.up X⟩
 rw [XH ht,ME] at this;exact this
def RS.base {Gb:Gp} (h:RS D Gb A τ ρ G) (e:Ex G0 Gb) (hd:Dom D G0):RS D G0 A τ ρ G:=
 ⟨e.trans h.ex,hd,(λi p a=>by
  cases z:G0 p with
  |none=>rfl
  |some o=>have:=h.fr i p a;rw [e _ _ z] at this;cases this),h.da,h.inj,h.len,h.sl⟩
end
inductive Ot where
 |nx (ρ:Rho)|bk (ρ:Rho)|ct (ρ:Rho)|rt (d:PyData) (fr:Bool)
def qiE (D:Addr->Prop) (G0:Gp) (e:Ends3):Ot->Prop
 |.nx ρ=>∀ A τ G,RS D G0 A τ ρ G->e.nx τ G
 |.bk ρ=>∀ A τ G,RS D G0 A τ ρ G->e.bk τ G
 |.ct ρ=>∀ A τ G,RS D G0 A τ ρ G->e.ct τ G
 |.rt d fr=>∀ x G,Ex G0 G->Dq (rs D G) x d->(fr=true->Nw D G0 G x d)->e.rt x G
def qiE.base {D:Addr->Prop} {G0 Gb:Gp} {e:Ends3} {o:Ot} (h:qiE D G0 e o) (x:Ex G0 Gb) (hd:Dom D G0):qiE D Gb e o:=by
 cases o with
 |nx ρ=>exact λA τ G r=>h A τ G (r.base x hd)
 |bk ρ=>exact λA τ G r=>h A τ G (r.base x hd)
 |ct ρ=>exact λA τ G r=>h A τ G (r.base x hd)
 |rt d fr=>exact λy G a b c=>h y G (x.trans a) b λz=>(c z).back x
structure PuS (t:TS3) where
 f:Nat->Rho->Option Ot
 ok:∀ {D G0 A τ ρ G n o} {e:Ends3},RS D G0 A τ ρ G->f n ρ=some o->qiE D G0 e o->t e τ G
def qcQ:PuS qw:=⟨λ_ ρ=>some (.nx ρ),λh hf k=>by cases hf;exact k _ _ _ h⟩
def qqO:PuS YS:=⟨λ_ ρ=>none,λh hf k=>by cases hf⟩
def qnQ (a b:Nat->Rho->Option Ot) (n:Nat) (ρ:Rho):Option Ot:=(a n ρ).bind λo=>match o with|.nx ρ'=>b n ρ'|o=>some o
def qc4 {t u:TS3} (a:PuS t) (b:PuS u):PuS (qy t u):=⟨qnQ a.f b.f,λ{D G0 A τ ρ G n o e} h hf k=>by
 unfold qnQ at hf;obtain ⟨o1,e1,hf⟩:=obb hf;refine a.ok h e1 ?_;cases o1 with
 |nx ρ'=>exact λA' τ' G' h'=>b.ok h' hf k
 |bk ρ'=>cases hf;exact k
 |ct ρ'=>cases hf;exact k
 |rt d fr=>cases hf;exact k⟩
def sIf {c:TT3} {t u:TS3} (pc:PuC c) (a:PuS t) (b:PuS u):PuS (zb c t u):=⟨λn ρ=>(pc.f ρ).bind λk=>if k then a.f n ρ else b.f n ρ,λh hf k=>by
 obtain ⟨o1,e1,hf⟩:=obb hf;refine pc.ok (h.viewAll _) h.domD e1 λG1 E1=>?_;cases o1 with
 |true=>exact a.ok (h.up E1) hf k
 |false=>exact b.ok (h.up E1) hf k⟩
def qgt {t:TE3} (a:PuE t):PuS (qL t):=⟨λ_ ρ=>(a.f ρ).map λd=>.rt d a.nw,λh hf k=>by
 obtain ⟨d,e1,rfl⟩:=za3 hf;exact a.ok (h.viewAll _) h.domD e1 λx G1 E1 D1 N1=>k x G1 (h.ex.trans E1) D1 λz=>(N1 z).back h.ex⟩
def qiB (ρ:Rho) (i:Nat):Option Ot:=match ρ[i]? with|some (.ow ds)=>some (.rt (.list ds) true)|some (.sh d)=>some (.rt d false)|_=>none
def qnq (i:Nat):PuS (qL (v3 i)):=⟨λ_ ρ=>qiB ρ i,λh hf k=>by
 unfold qiB at hf;split at hf
 ·rename_i ds e;cases hf;obtain ⟨p,xs,b,c,g,f⟩:=h.ow i _ e;simp only [qL,v3,c];refine k _ _ h.ex (.lst (by rw [QU (h.nd b)];exact g) (f.up (jd λb z=>.inl z))) λ_=>.inr ⟨p,xs,ds,rfl,rfl,h.fr i p b,g,f.up (jd λq z=>?_)⟩;rcases z with z|z
  ·exact .inl z
  ·subst z;exact .inr ⟨i,b⟩
 ·rename_i d e;cases hf;obtain ⟨t,b,c⟩:=h.sh i _ e;simp only [qL,v3,b];exact k _ _ h.ex (c.up (jd λb z=>.inl z)) (λz=>by cases z)
 ·cases hf⟩
def LS {H H':Gp} {x:T} {d:PyData} (h:Dq H x d) (s:qc3 d=true):Dq H' x d:=by
 cases h<;>first|(constructor;done)|(simp [qc3] at s;done)
def qq3:PyData->Sl
 |.list ds=>.ow ds
 |d=>.sh d
def qbR (m:List Bool) (nw:Bool) (i:Nat) (d:PyData) (ρ:Rho):Rho:=if qc3 d then ρ.set i (.sh d) else (dm m ρ).set i (if nw then qq3 d else .sh d)
def qn7 {t:TE3} (a:PuE t) (i:Nat) (m:List Bool) (hm:Tru (a.fv.all (mkb m))):PuS (qH t (gn3 i)):=⟨λ_ ρ=>(a.f ρ).map λd=>.nx (qbR m a.nw i d ρ),λ{D G0 A τ ρ G n o e} h hf k=>by
 obtain ⟨d,e1,rfl⟩:=za3 hf;refine a.ok (h.viewD hm) (h.dem m).dom e1 λx G1 E1 D1 N1=>?_;unfold qbR at k;show e.nx (τ.set i (some x)) G1;split at k
 ·rename_i hs;exact k _ _ _ ((h.up E1).put i (LS D1 hs))
 ·split at k
  ·rename_i hn;have N:=N1 hn;rcases id N with h2|⟨p,xs,ds,h1,h2,_⟩
   ·exact absurd h2 (by assumption)
   subst h2;exact k _ _ _ ((h.dem m).putN i rfl E1 N)
  ·exact k _ _ _ (((h.dem m).up E1).put i D1)⟩
def qhX {t:TE3} {g:TG3} (a:PuE t) (pg:PuG g) (m:List Bool) (hm:Tru (a.fv.all (mkb m))):PuS (qH t g):=⟨λ_ ρ=>(a.f ρ).bind λd=>(pg.f d).map λbs=>.nx (Q1 (dm m ρ) bs),λ{D G0 A τ ρ G n o e} h hf k=>by
 obtain ⟨d,e1,hf⟩:=obb hf;obtain ⟨bs,e2,rfl⟩:=za3 hf;refine a.ok (h.viewD hm) (h.dem m).dom e1 λx G1 E1 D1 N1=>?_;obtain ⟨ts,bd,kg⟩:=pg.ok D1 e2;refine kg _ _ _ ?_;obtain ⟨A',h'⟩:=((h.dem m).up E1).puts bd;exact k _ _ _ h'⟩
def qps {D:Addr->Prop} {A:Nat->Addr->Prop} {G:Gp} {i:Nat}:Ex (rs (AD D A) G) (rs (AD D (Er A i)) G):=jd λb z=>by
 rcases z with z|⟨j,z⟩
 ·exact .inl z
 ·exact .inr ⟨j,(qfv z).1⟩
def slot (ρ:Rho) (i:Nat):Option (List PyData):=match ρ[i]? with|some (.ow ds)=>some ds|_=>none
def qhf {ρ:Rho} {i:Nat} {ds:List PyData} (h:slot ρ i=some ds):ρ[i]?=some (.ow ds):=by
 unfold slot at h;split at h
 ·rename_i e;cases h;exact e
 ·cases h
def dmS (m:List Bool) (d:PyData) (ρ:Rho):Rho:=if qc3 d then ρ else dm m ρ
def RS.evalS {D:Addr->Prop} {G0 G:Gp} {A:Nat->Addr->Prop} {τ:St3} {ρ:Rho} (h:RS D G0 A τ ρ G) {t:TE3} (a:PuE t) (m:List Bool) (hm:Tru (a.fv.all (mkb m))) {d:PyData} (hf:a.f ρ=some d):∃ A1,RS D G0 A1 τ (dmS m d ρ) G/\∀ q:Q3,(∀ x G',Ex G G'->Dq (rs (AD D A1) G') x d->q x G')->t τ G q:=by
 unfold dmS;by_cases hs:qc3 d=true
 ·rw [if_pos hs];exact ⟨A,h,λq k=>a.ok (h.viewAll _) h.domD hf λx G1 E1 D1 _=>k x G1 E1 (LS D1 hs)⟩
 ·rw [if_neg hs];exact ⟨Ad m A,h.dem m,λq k=>a.ok (h.viewD hm) (h.dem m).dom hf λx G1 E1 D1 _=>k x G1 E1 D1⟩
def qiz (i:Nat) (d:PyData) (ρ:Rho):Option Ot:=match d with|.list es=>(slot ρ i).bind λds=>cif (ds.length+es.length<=sizeLine) (some (.nx (ρ.set i (.ow (ds++es))))) none|_=>none
def qqe {t:TE3} (a:PuE t) (i:Nat) (m:List Bool) (hm:Tru (a.fv.all (mkb m))):PuS (qR (bm3 J6 (v3 i) (qc t qk))):=⟨λ_ ρ=>(a.f ρ).bind λd=>qiz i d (dmS m d ρ),λ{D G0 A τ ρ G n o e} h hf k=>by
 obtain ⟨d,e1,hf⟩:=obb hf;obtain ⟨A1,h1,ev⟩:=h.evalS a m hm e1;unfold qiz at hf;split at hf
 ·obtain ⟨ds,e2,hf⟩:=obb hf;unfold cif at hf;split at hf
  ·rename_i hl;cases hf;obtain ⟨p,xs,b,c,g,f⟩:=h1.ow i _ (qhf e2);simp only [qR,bm3,v3,c,zE g];refine ⟨rfl,ev _ λx G1 E1 D1=>?_⟩;cases D1 with
   |lst g2 hs2=>
    simp only [qk,J6,E1 _ _ g,(zj g2).2];exact ⟨by rw [f.length,hs2.length];exact hl,k _ _ _ ((h1.up E1).wr b c ((f.up (VL E1)).append hs2))⟩
  ·cases hf
 ·cases hf⟩
def qlq {t:TE3} (a:PuE t):PuS (qR t):=⟨λ_ ρ=>(a.f ρ).map λ_=>.nx ρ,λh hf k=>by
 obtain ⟨d,e1,rfl⟩:=za3 hf;exact a.ok (h.viewAll _) h.domD e1 λx G1 E1 D1 N1=>k _ _ _ (h.up E1)⟩
def T7 (gf:PyData->Option (List (Nat×PyData))) (bf:Rho->Option Ot):List PyData->Rho->Option Ot
 |[],ρ=>some (.nx ρ)
 |d::r,ρ=>(gf d).bind λbs=>(bf (Q1 ρ bs)).bind λo=>match o with
  |.nx ρ'=>T7 gf bf r ρ'
  |.ct ρ'=>T7 gf bf r ρ'
  |.bk ρ'=>some (.nx ρ')
  |.rt d b=>some (.rt d b)
def NA {stay:Gp->Prop} {g:TG3} {tb:TS3} {e:Ends3} (pg:PuG g) (pb:PuS tb) {D:Addr->Prop} {G0:Gp} {n:Nat} {o:Ot} {items0:List T} (hs:∀ A τ ρ G,RS D G0 A τ ρ G->stay G) (k:qiE D G0 e o) :
  ∀ (ds:List PyData) (items:List T),(∀ A τ ρ G,RS D G0 A τ ρ G->Dqs (rs (AD D A) G) items ds)->∀ A τ ρ G,RS D G0 A τ ρ G->T7 pg.f (pb.f n) ds ρ=some o->RA stay g tb e items τ G
 |[],items,hi,A,τ,ρ,G,h,hf=>by
  cases hf;have:=hi _ _ _ _ h;cases this;exact ⟨hs _ _ _ _ h,k _ _ _ h⟩
 |d::ds,items,hi,A,τ,ρ,G,h,hf=>by
  have hh:=hi _ _ _ _ h;cases hh with
  |cons hx hr=>
   rename_i x items;unfold T7 at hf;obtain ⟨bs,e1,hf⟩:=obb hf;obtain ⟨o1,e2,hf⟩:=obb hf;obtain ⟨ts,bd,kg⟩:=pg.ok hx e1;refine ⟨hs _ _ _ _ h,kg _ _ _ ?_⟩;obtain ⟨A',h'⟩:=h.puts bd;refine pb.ok h' e2 ?_;have hi':∀ A τ ρ G,RS D G0 A τ ρ G->Dqs (rs (AD D A) G) items ds:=λA τ ρ G h=>by
    have:=hi _ _ _ _ h;cases this with
    |cons a b=>exact b
   cases o1 with
   |nx ρ'=>exact λA2 τ2 G2 h2=>NA (items0:=items0) pg pb hs k ds items hi' _ _ _ _ h2 hf
   |ct ρ'=>exact λA2 τ2 G2 h2=>NA (items0:=items0) pg pb hs k ds items hi' _ _ _ _ h2 hf
   |bk ρ'=>cases hf;exact k
   |rt d fr=>cases hf;exact k
def qli (pi:Rho->Option (List PyData)) (nm:Bool) (m:List Bool) (gf:PyData->Option (List (Nat×PyData))) (bf:Nat->Rho->Option Ot) (n:Nat) (ρ:Rho):Option Ot:=(pi ρ).bind λds=>T7 gf (bf n) ds (if nm then ρ else dm m ρ)
def qiu {wi:TI3} {g:TG3} {tb:TS3} (pi:PuI wi) (pg:PuG g) (pb:PuS tb) (m:List Bool) (hm:Tru (pi.fv.all (mkb m))):PuS (WF wi g tb):=⟨qli pi.f pi.nm m pg.f pb.f,λ{D G0 A τ ρ G n o e} h hf k=>by
 unfold qli at hf;obtain ⟨ds,e1,hf⟩:=obb hf;refine pi.ok (h.viewD hm) (h.dem m).dom e1 λitems stay G1 E1 D1 hs hnm=>?_;cases hb:pi.nm with
 |true=>
  rw [hb,if_pos rfl] at hf;obtain ⟨ns,rfl⟩:=hnm hb;have:=D1.ints;subst this;exact NA (items0:=[]) pg pb (λ_ _ _ _ _=>hs _ (.inl hb)) k _ _ (λA τ ρ G _=>Dqs.ofInts _) _ _ _ _ (h.up E1) hf
 |false=>
  rw [hb,if_neg y6] at hf;have h1:=(h.dem m).up E1;have b1:Ex G0 (rs (λb=>∃ i,Ad m A i b) G1):=λb o e=>by
   rw [QU]
   ·exact h1.ex _ _ e
   ·rintro ⟨i,z⟩;rw [h1.fr i _ z] at e;cases e
  have h2:RS D (rs (λb=>∃ i,Ad m A i b) G1) (Ad m A) τ (dm m ρ) G1:=⟨V3,h.dm.up b1,λi p z=>by unfold rs;exact jy ⟨i,z⟩,h1.da,h1.inj,h1.len,h1.sl⟩
  have X:∀ A2 τ2 ρ2 G2,RS D (rs (λb=>∃ i,Ad m A i b) G1) A2 τ2 ρ2 G2->Ex (rs (AD D (Ad m A)) G1) (rs (AD D A2) G2):=λA2 τ2 ρ2 G2 r b o e=>by
   obtain ⟨n1,e⟩:=zj e;have eb:rs (λb=>∃ i,Ad m A i b) G1 b=some o:=by rw [QU (λz=>n1 (.inr z))];exact e
   rw [QU]
   ·exact r.ex _ _ eb
   ·rintro (z|⟨i,z⟩)
    ·exact n1 (.inl z)
    ·rw [r.fr i _ z] at eb;cases eb
  exact NA (items0:=[]) pg pb (λA2 τ2 ρ2 G2 r=>hs _ (.inr ((X _ _ _ _ r).trans V3))) (k.base b1 h.dm) _ _ (λA2 τ2 ρ2 G2 r=>D1.up (X _ _ _ _ r)) _ _ _ _ h2 hf⟩
def KA (fr:Bool):Option Ot->Option PyData
 |some (.rt d b)=>if fr=true/\b=false then (match d with|.none=>some .none|_=>none) else some d
 |some (.nx _)=>if fr then none else some .none
 |_=>none
def st (ds:List PyData) (N:Nat):Rho:=ds.map Sl.sh++List.replicate (N-ds.length) .un
def qhI {D:Addr->Prop} {G:Gp} {ts:List T} {ds:List PyData} (N:List Str) (hs:Dqs (rs D G) ts ds) (hd:Dom D G):RS D G (λ_ _=>False) (qm N ts) (st ds N.length) G:=by
 refine ⟨Ex.refl,hd,(λi p e=>e.elim),(λi p e=>e.elim),(λi j p e=>e.elim),(by simp [st,qm,hs.length]),λi s e=>?_⟩;unfold st at e;unfold qm;by_cases hi:i<ds.length
 ·rw [List.getElem?_append_left (by simpa using hi),getElem?_map] at e;obtain ⟨d2,e3,rfl⟩:=za3 e;obtain ⟨x,e5,hx⟩:=hs.get e3;refine ⟨x,?_,hx.up (jd λb z=>?_)⟩
  ·rw [List.getElem?_append_left (by simp [hs.length];exact hi),getElem?_map,e5];rfl
  ·rcases z with z|⟨i,z⟩
   ·exact z
   ·exact z.elim
 ·rw [List.getElem?_append_right (by simpa using hi),List.getElem?_replicate] at e;split at e<;>cases e
  trivial
def run (f:Nat->Rho->Option Ot) (k N n:Nat) (fr:Bool) (ds:List PyData):Option PyData:=if ds.length=k then KA fr (f n (st ds N)) else none
def VR {t:TS3} (b:PuS t) (N:List Str) (k n:Nat) (fr:Bool):∀ ts G q,PSp (run b.f k N.length n fr) fr ts G q->ts.length=k/\t { nx:=λ_ G'=>q .non G',rt:=q } (qm N ts) G:=by
 rintro ts G q ⟨D,ds,d,hs,hd,hf,h⟩;unfold run at hf;split at hf
 ·rename_i hk;refine ⟨by rw [hs.length];exact hk,?_⟩;have r:=qhI N hs hd;unfold KA at hf;split at hf
  ·rename_i d' b' e;split at hf
   ·split at hf
    ·cases hf;exact b.ok r e λx G' a c z=>h x G' a c λ_=>.inl rfl
    ·cases hf
   ·rename_i hb;cases hf;exact b.ok r e λx G' a c z=>h x G' a c λw=>z (by
     cases b' with
     |true=>rfl
     |false=>exact absurd ⟨w,rfl⟩ hb)
  ·rename_i ρ' e;split at hf
   ·cases hf
   ·rename_i hb;cases hf;exact b.ok r e λA τ G' r'=>h .non G' r'.ex .non λw=>absurd w hb
  ·cases hf
 ·cases hf
def qqD {i:Nat}:(bV i).f=λρ=>vw ρ i:=id rfl
def qey {i:Int}:(j3 i).f=λ_=>some (.int i):=id rfl
def qm6 {i:Bool}:(bBl i).f=λ_=>some (.bool i):=id rfl
def qfE {i:Str}:(qc5 i).f=λ_=>some (.str i):=id rfl
def qqQ {r:R3} {ta tb:TE3} {R:OpD r} {a:PuE ta} {b:PuE tb}:(bO R a b).f=λρ=>(a.f ρ).bind λx=>(b.f ρ).bind λy=>R.f x y:=id rfl
def qgn:zx.f=λ_=>some []:=id rfl
def qcP {ta:TE3} {tr:TA3} {a:PuE ta} {r:PuA tr}:(qu a r).f=λρ=>(a.f ρ).bind λx=>(r.f ρ).bind λxs=>some (x::xs):=id rfl
def qeh {t:TA3} {a:PuA t} {hn:Tru (Nat.ble a.n 1000)}:(qay a hn).f=λρ=>(a.f ρ).map .tuple:=id rfl
def qeA {t:TA3} {a:PuA t} {hn:Tru (Nat.ble a.n 1000)}:(qbc a hn).f=λρ=>(a.f ρ).map .list:=id rfl
def qb7 {r:List T->Gp->Q3->Prop} {t:TA3} {R:FnD r} {a:PuA t}:(jY R a).f=λρ=>(a.f ρ).bind R.f:=id rfl
def qjt {t:TE3} {a:PuE t}:(bTb a).f=λρ=>(a.f ρ).bind asB:=id rfl
def qnr {t u:TT3} {a:PuC t} {b:PuC u}:(bOr a b).f=λρ=>(a.f ρ).bind λk=>if k then some true else b.f ρ:=id rfl
def qfN {t:TT3} {a:PuC t}:(qnX a).f=λρ=>(a.f ρ).map (! ·):=id rfl
def qkF:bTt.f=λ_=>some true:=id rfl
def qew {ta tb:TE3} {a:PuE ta} {b:PuE tb}:(qnZ a b).f=λρ=>((a.f ρ).bind asB).bind λk=>if k then some (.bool true) else b.f ρ:=id rfl
def qnd {t:TT3} {ta tb:TE3} {c:PuC t} {a:PuE ta} {b:PuE tb}:(bIf c a b).f=λρ=>(c.f ρ).bind λk=>if k then a.f ρ else b.f ρ:=id rfl
def qem {ta:TE3} {a:PuE ta}:(qn9 a).f=λρ=>((a.f ρ).bind asI).map λi=>.int (-i):=id rfl
def qgl {ta:TE3} {g:String->Bool} {a:PuE ta}:(qqW g a).f=λρ=>(a.f ρ).bind λd=>(tyD d).map λt=>.bool (g t):=id rfl
def qb5 {te:TE3} {a:PuE te}:(qhq a).f=λρ=>(a.f ρ).bind qbV:=id rfl
def ql2 {wi:TI3} {g:TG3} {tif:TT3} {te:TE3} {pi:PuI wi} {pg:PuG g} {pc:PuC tif} {pe:PuE te} {m:List (Option Nat)} {hm:Tru (pg.tg.all λi=>m[i]?==some none)}:(bLc pi pg pc pe m hm).f=lcF pi.f (lcH pg.f pc.f pe.f) m:=id rfl
def qfs {wi wi2:TI3} {g g2:TG3} {tif tif2:TT3} {te:TE3} {pi:PuI wi} {pg:PuG g} {pc:PuC tif} {pi2:PuI wi2} {pg2:PuG g2} {pc2:PuC tif2} {pe:PuE te} {m:List (Option Nat)} {hm:Tru (pg.tg.all λi=>m[i]?==some none)} {hm2:Tru (pg2.tg.all λi=>m[i]?==some none)} {hdj:Tru (pg2.tg.all λi=>!pg.tg.contains i)}:(qn8 pi pg pc pi2 pg2 pc2 pe m hm hm2 hdj).f=qnz pi.f (qnw pg.f pc.f pi2.f (lcH pg2.f pc2.f pe.f)) m:=id rfl
def qeC:qeG.f=qnR:=id rfl
def qfh:qnS.f=qn0:=id rfl
def qa9 {F:List PyData->Option PyData} {fr:Bool}:(X9 F fr).f=F:=id rfl
def qll {g:Int->Int->Bool} {i j:Int}:(opB g).f (.int i) (.int j)=some (.bool (g i j)):=id rfl
def qkr {C:Int->Int->Prop} {g:Int->Int->Int}:(opC C g).f=cI C g:=id rfl
def qgb {n:Bool}:(qaW n).f=eqD n:=id rfl
def qfB:qdn.f=ixD:=id rfl
def qb4:C1.f=qnP:=id rfl
def qag:qb3.f=qgS:=id rfl
def qgH {t:TE3} {a:PuE t}:(qh5 a).f=λρ=>(a.f ρ).bind qaQ:=id rfl
def qef {t:TA3} {a:PuA t}:(qaS a).f=λρ=>(a.f ρ).bind qbM:=id rfl
def qb9 {t:TA3} {a:PuA t}:(qdj a).f=λρ=>(a.f ρ).bind λds=>match ds with|[d]=>(qaQ d).map λus=>enD 0 us|_=>none:=id rfl
def qci {t:TE3} {a:PuE t}:(qh5 a).nm=false:=id rfl
def N6 {t:TA3} {a:PuA t}:(qdj a).nm=false:=id rfl
def qbW {t:TA3} {a:PuA t}:(qaS a).nm=true:=id rfl
def qqg {i:Nat}:(gN i).f=λd=>some [(i,d)]:=id rfl
def qes:qaV.f []=some []:=id rfl
def qbk {t:TG3} {u:LV} {a:PuG t} {b:PuGs u} {d:PyData} {r:List PyData}:(Q5 a b).f (d::r)=(a.f d).bind λx=>(b.f r).map λy=>x++y:=id rfl
def qgy {u:LV} {n:Nat} {b:PuGs u} {ds:List PyData}:(qaR n b).f (.tuple ds)=if ds.length=n then b.f ds else none:=id rfl
def qch:qcQ.f=λ_ ρ=>some (.nx ρ):=id rfl
def qfH {t u:TS3} {a:PuS t} {b:PuS u}:(qc4 a b).f=qnQ a.f b.f:=id rfl
def qjY {c:TT3} {t u:TS3} {pc:PuC c} {a:PuS t} {b:PuS u}:(sIf pc a b).f=λn ρ=>(pc.f ρ).bind λk=>if k then a.f n ρ else b.f n ρ:=id rfl
def qeN {t:TE3} {a:PuE t}:(qgt a).f=λ_ ρ=>(a.f ρ).map λd=>.rt d a.nw:=id rfl
def qbX {i:Nat}:(qnq i).f=λ_ ρ=>qiB ρ i:=id rfl
def qgf {t:TE3} {a:PuE t} {i:Nat} {m:List Bool} {hm:Tru (a.fv.all (mkb m))}:(qn7 a i m hm).f=λ_ ρ=>(a.f ρ).map λd=>.nx (qbR m a.nw i d ρ):=id rfl
def qcb {t:TE3} {g:TG3} {a:PuE t} {pg:PuG g} {m:List Bool} {hm:Tru (a.fv.all (mkb m))}:(qhX a pg m hm).f=λ_ ρ=>(a.f ρ).bind λd=>(pg.f d).map λbs=>.nx (Q1 (dm m ρ) bs):=id rfl
def qfV {t:TE3} {a:PuE t} {i:Nat} {m:List Bool} {hm:Tru (a.fv.all (mkb m))}:(qqe a i m hm).f=λ_ ρ=>(a.f ρ).bind λd=>qiz i d (dmS m d ρ):=id rfl
def qcl {t:TE3} {a:PuE t}:(qlq a).f=λ_ ρ=>(a.f ρ).map λ_=>.nx ρ:=id rfl
def qfa {wi:TI3} {g:TG3} {tb:TS3} {pi:PuI wi} {pg:PuG g} {pb:PuS tb} {m:List Bool} {hm:Tru (pi.fv.all (mkb m))}:(qiu pi pg pb m hm).f=qli pi.f pi.nm m pg.f pb.f:=id rfl
def qgD {i:Bool}:(bBl i).nw=false:=id rfl
def qnL {r:R3} {ta tb:TE3} {R:OpD r} {a:PuE ta} {b:PuE tb}:(bO R a b).nw=R.nw:=id rfl
def qbT {t:TA3} {a:PuA t} {hn:Tru (Nat.ble a.n 1000)}:(qay a hn).nw=false:=id rfl
def qce {t:TA3} {a:PuA t} {hn:Tru (Nat.ble a.n 1000)}:(qbc a hn).nw=true:=id rfl
def NO {r:List T->Gp->Q3->Prop} {t:TA3} {R:FnD r} {a:PuA t}:(jY R a).nw=R.nw:=id rfl
def NJ {F:List PyData->Option PyData} {fr:Bool}:(X9 F fr).nw=fr:=id rfl
def qcu {ta tb:TE3} {a:PuE ta} {b:PuE tb}:(qnZ a b).nw=false:=id rfl
def qgC {t:TT3} {ta tb:TE3} {c:PuC t} {a:PuE ta} {b:PuE tb}:(bIf c a b).nw=false:=id rfl
def qbB {ta:TE3} {a:PuE ta}:(qn9 a).nw=false:=id rfl
def qcG {wi wi2:TI3} {g g2:TG3} {tif tif2:TT3} {te:TE3} {pi:PuI wi} {pg:PuG g} {pc:PuC tif} {pi2:PuI wi2} {pg2:PuG g2} {pc2:PuC tif2} {pe:PuE te} {m:List (Option Nat)} {hm:Tru (pg.tg.all λi=>m[i]?==some none)} {hm2:Tru (pg2.tg.all λi=>m[i]?==some none)} {hdj:Tru (pg2.tg.all λi=>!pg.tg.contains i)}:(qn8 pi pg pc pi2 pg2 pc2 pe m hm hm2 hdj).nw=true:=id rfl
def qbw:qeG.nw=false:=id rfl
def NE:C1.nw=false:=id rfl
def qa8 {n:Bool}:(qaW n).nw=false:=id rfl
def qqk {s:Sl} {r:Rho}:vw (s::r) 0=s.d:=id rfl
def qqo {s:Sl} {r:Rho} {i:Nat}:vw (s::r) (i+1)=vw r i:=id rfl
def qmK {d:PyData}:(Sl.sh d).d=some d:=id rfl
def qjq {ds:List PyData}:(Sl.ow ds).d=some (.list ds):=id rfl
def qm3:Sl.un.d=none:=id rfl
def qbe {r:Rho} {d:PyData}:qiB (.sh d::r) 0=some (.rt d false):=id rfl
def qfT {s:Sl} {r:Rho} {i:Nat}:qiB (s::r) (i+1)=qiB r i:=id rfl
def qlw {xs:List PyData} {i:Int}:ixD (.tuple xs) (.int i)=L2.atI xs i:=id rfl
def qm9 {xs:List PyData} {i:Int}:ixD (.list xs) (.int i)=L2.atI xs i:=id rfl
def at0 {α:Type} {a:α} {r:List α}:L2.atI (a::r) 0=some a:=by simp [L2.atI,ixN]
def at1 {α:Type} {a b:α} {r:List α}:L2.atI (a::b::r) 1=some b:=by
 have h:ixN (a::b::r).length 1=some 1:=by unfold ixN;rw [if_pos (by omega),if_pos (by simp;omega)];rfl
 unfold L2.atI;rw [h];rfl
def atN {α:Type} {xs:List α} {k:Nat} (h:k<xs.length):L2.atI xs (k:Int)=xs[k]?:=by
 have e:ixN xs.length (k:Int)=some k:=by unfold ixN;rw [if_pos (by omega),if_pos (by omega)];rfl
 unfold L2.atI;rw [e];rfl
def eqS {n:Bool} {a b:Str}:eqD n (.str a) (.str b)=some (.bool (if n then !decide (a=b) else decide (a=b))):=id rfl
def eqI {n:Bool} {a b:Int}:eqD n (.int a) (.int b)=some (.bool (if n then !decide (a=b) else decide (a=b))):=id rfl
def qhw {C:Int->Int->Prop} {g:Int->Int->Int} {i j:Int} (h:C i j):cI C g (.int i) (.int j)=some (.int (g i j)):=by simp only [cI];exact jy h
def qik {i j:Int} (h:-1000000<i/\i<1000000):cI UM (·*·) (.int i) (.int j)=some (.int (i*j)):=qhw (.inl ⟨by omega,by omega⟩)
def qmU {i j:Int} (h:0<j):cI (λ_ j=>0<j) (·%·) (.int i) (.int j)=some (.int (i%j)):=qhw h
def qkk {i j:Int} (h:0<j/\j<1073741824):cI MM (·/·) (.int i) (.int j)=some (.int (i/j)):=qhw h
def qqj {i j:Int}:qnP (.int i) (.int j)=some (.int (i+j)):=id rfl
def qhm {j:Int} (h:-1000000000<=j/\j<1000000000):qbM [.int j]=some ((J7 0 j.toNat).map PyData.int):=by simp only [qbM];exact jy ⟨by omega,by omega⟩
def qqv {i j:Int} (h:-1000000000<=i/\i<1000000000/\-1000000000<=j/\j<1000000000):qbM [.int i,.int j]=some ((J7 i (j-i).toNat).map PyData.int):=by simp only [qbM];exact jy ⟨by omega,by omega,by omega,by omega⟩
def N7 {pi:Rho->Option (List PyData)} {h:Rho->PyData->Option (Option PyData)} {m:List (Option Nat)} {ρ:Rho} {ds fs:List PyData} (h1:pi ρ=some ds) (h2:lcP (h (RQ m ρ)) ds=some fs) (h3:fs.length<=16777216):lcF pi h m ρ=some (.list fs):=by unfold lcF;rw [h1];simp only [Option.bind_some,h2];exact jy h3
def qbO {pi:Rho->Option (List PyData)} {h:Rho->PyData->Option (Option (List PyData))} {m:List (Option Nat)} {ρ:Rho} {ds fs:List PyData} (h1:pi ρ=some ds) (h2:qiq (h (RQ m ρ)) ds=some fs) (h3:fs.length<=16777216):qnz pi h m ρ=some (.list fs):=by unfold qnz;rw [h1];simp only [Option.bind_some,h2];exact jy h3
def qdV {gf:PyData->Option (List (Nat×PyData))} {bf:Rho->Option Ot} {α:Type} {g:α->PyData} (xs:List α) (I:Nat->Rho->Prop) {ρ:Rho} (h0:I 0 ρ)
  (hs:∀ i x ρ,xs[i]?=some x->I i ρ->∃ bs ρ',gf (g x)=some bs/\(bf (Q1 ρ bs)=some (.nx ρ')\/bf (Q1 ρ bs)=some (.ct ρ'))/\I (i+1) ρ'):∃ ρ',T7 gf bf (xs.map g) ρ=some (.nx ρ')/\I xs.length ρ':=by
 have key:∀ (r:List α) (i:Nat) (ρ:Rho),xs.drop i=r->i<=xs.length->I i ρ->∃ ρ',T7 gf bf (r.map g) ρ=some (.nx ρ')/\I xs.length ρ':=by
  intro r;induction r with
  |nil=>
   intro i ρ e hi h;have:i=xs.length:=by
    have:=congrArg List.length e;simp at this;omega
   subst this;exact ⟨ρ,rfl,h⟩
  |cons x r ih=>
   intro i ρ e hi h;have hl:i<xs.length:=by
    have:=congrArg List.length e;simp at this;omega
   have e':=List.drop_eq_getElem_cons hl;rw [e] at e';injection e' with e1 e2;obtain ⟨bs,ρ',h1,h2,h3⟩:=hs i x ρ (by rw [y9 hl,e1]) h;obtain ⟨ρ2,h4,h5⟩:=ih (i+1) ρ' e2.symm hl h3;refine ⟨ρ2,?_,h5⟩;simp only [map_cons,T7,h1,Option.bind_some];rcases h2 with h2|h2<;>(rw [h2];exact h4)
 exact key xs 0 ρ (by simp) (Nat.zero_le _) h0
def qcO {gf:PyData->Option (List (Nat×PyData))} {bf:Rho->Option Ot} {α:Type} {g:α->PyData} (xs:List α) (n:Nat) (x:α) (hn:xs[n]?=some x) (I:Nat->Rho->Prop) {ρ:Rho} {o:Ot} (h0:I 0 ρ)
  (hs:∀ i x ρ,i<n->xs[i]?=some x->I i ρ->∃ bs ρ',gf (g x)=some bs/\(bf (Q1 ρ bs)=some (.nx ρ')\/bf (Q1 ρ bs)=some (.ct ρ'))/\I (i+1) ρ')
  (he:∀ ρ,I n ρ->∃ bs,gf (g x)=some bs/\((∃ d b,o=.rt d b/\bf (Q1 ρ bs)=some (.rt d b))\/∃ ρ',o=.nx ρ'/\bf (Q1 ρ bs)=some (.bk ρ'))):T7 gf bf (xs.map g) ρ=some o:=by
 have hl:=(za4 hn).1;have key:∀ (k i:Nat) (ρ:Rho),i+k=n->I i ρ->T7 gf bf ((xs.drop i).map g) ρ=some o:=by
  intro k;induction k with
  |zero=>
   intro i ρ e h;have:i=n:=by omega
   subst this;obtain ⟨bs,h1,h2⟩:=he ρ h;rw [List.drop_eq_getElem_cons hl];have ex:xs[i]=x:=by
    rw [y9 hl] at hn;exact Option.some.inj hn
   rw [ex];simp only [map_cons,T7,h1,Option.bind_some];rcases h2 with ⟨d,b,rfl,h2⟩|⟨ρ',rfl,h2⟩<;>(rw [h2];rfl)
  |succ k ih=>
   intro i ρ e h;have hi:i<xs.length:=by omega
   obtain ⟨bs,ρ',h1,h2,h3⟩:=hs i xs[i] ρ (by omega) (y9 hi) h;rw [List.drop_eq_getElem_cons hi];simp only [map_cons,T7,h1,Option.bind_some];rcases h2 with h2|h2<;>(rw [h2];exact ih (i+1) ρ' (by omega) h3)
 exact key n 0 ρ (by omega) h0
def sqk (b:Nat->Rho->Option Ot) (n:Nat) (o:Ot):Option Ot:=match o with|.nx ρ'=>b n ρ'|o=>some o
def qfj {a b:Nat->Rho->Option Ot} {n:Nat} {ρ:Rho}:qnQ a b n ρ=(a n ρ).bind (sqk b n):=id rfl
def qgI {b:Nat->Rho->Option Ot} {n:Nat} {ρ:Rho}:sqk b n (.nx ρ)=b n ρ:=id rfl
def qgm {b:Nat->Rho->Option Ot} {n:Nat} {d:PyData} {f:Bool}:sqk b n (.rt d f)=some (.rt d f):=id rfl
def qa3 {d:PyData}:KA true (some (.rt d true))=some d:=id rfl
def qeD {d:PyData} {b:Bool}:KA false (some (.rt d b))=some d:=by simp [KA]
def qbK {ρ:Rho}:KA false (some (.nx ρ))=some .none:=id rfl
def qm0 {b:Bool}:asB (.bool b)=some b:=id rfl
def qkL {b:Int}:asI (.int b)=some b:=id rfl
def qev {xs:List PyData}:qnR [.list xs]=some (.int xs.length):=id rfl
def qfK {xs:List PyData}:qn0 [.list xs]=some (.tuple xs):=id rfl
def qcs {xs:List Int} (h:xs.length<4000):qbV (.list (xs.map PyData.int))=some (.int (R4 xs)):=by simp only [qbV,qa0,Option.bind_some];exact jy h
def qgA {xs:List PyData}:qaQ (.tuple xs)=some xs:=id rfl
def qfY {xs:List PyData}:qaQ (.list xs)=some xs:=id rfl
def qjk {i:Str}:tyD (.str i)=some "str" := id rfl
def qnx {i:List PyData}:tyD (.list i)=some "list" := id rfl
def qmQ {m:List Bool} {nw:Bool} {i:Nat} {v:Int} {ρ:Rho}:qbR m nw i (.int v) ρ=ρ.set i (.sh (.int v)):=id rfl
def qkW {m:List Bool} {nw:Bool} {i:Nat} {v:Str} {ρ:Rho}:qbR m nw i (.str v) ρ=ρ.set i (.sh (.str v)):=id rfl
def qfC {m:List Bool} {i:Nat} {v:List PyData} {ρ:Rho}:qbR m true i (.list v) ρ=(dm m ρ).set i (.ow v):=id rfl
def qke {m:List Bool} {v:List PyData} {ρ:Rho}:dmS m (.tuple v) ρ=dm m ρ:=id rfl
def qqV {ρ:Rho}:dm [] ρ=ρ:=id rfl
def qqi {m:List Bool} {s:Sl} {ρ:Rho}:dm (true::m) (s::ρ)=s.dem::dm m ρ:=id rfl
def qqc {m:List Bool} {s:Sl} {ρ:Rho}:dm (false::m) (s::ρ)=s::dm m ρ:=id rfl
def qkH {d:PyData}:(Sl.sh d).dem=.sh d:=id rfl
def qi8 {ρ:Rho}:RQ [] ρ=[]:=id rfl
def qjv {m:List (Option Nat)} {ρ:Rho}:RQ (none::m) ρ=.un::RQ m ρ:=id rfl
def cp (o:Option PyData):Sl:=match o with|some d=>.sh d|none=>.un
def qmy {m:List (Option Nat)} {j:Nat} {ρ:Rho}:RQ (some j::m) ρ=cp (vw ρ j)::RQ m ρ:=id rfl
def qqd {d:PyData}:cp (some d)=.sh d:=id rfl
def qgJ {pi:Rho->Option (List PyData)} {m:List Bool} {gf:PyData->Option (List (Nat×PyData))} {bf:Nat->Rho->Option Ot} {n:Nat} {ρ:Rho}:qli pi true m gf bf n ρ=(pi ρ).bind λds=>T7 gf (bf n) ds ρ:=id rfl
def qgK {pi:Rho->Option (List PyData)} {m:List Bool} {gf:PyData->Option (List (Nat×PyData))} {bf:Nat->Rho->Option Ot} {n:Nat} {ρ:Rho}:qli pi false m gf bf n ρ=(pi ρ).bind λds=>T7 gf (bf n) ds (dm m ρ):=id rfl
def qe6 {ρ:Rho}:Q1 ρ []=ρ:=id rfl
def qf8 {ρ:Rho} {i:Nat} {d:PyData} {r:List (Nat×PyData)}:Q1 ρ ((i,d)::r)=Q1 (ρ.set i (.sh d)) r:=id rfl
def qak {gf:PyData->Option (List (Nat×PyData))} {cf:Rho->Option Bool} {ef:Rho->Option PyData} {ρ:Rho} {d:PyData}:lcH gf cf ef ρ d=(gf d).bind λbs=>(cf (Q1 ρ bs)).bind λk=>if k then (ef (Q1 ρ bs)).map some else some none:=id rfl
def qed {gf:PyData->Option (List (Nat×PyData))} {cf:Rho->Option Bool} {it:Rho->Option (List PyData)} {h:Rho->PyData->Option (Option PyData)} {ρ:Rho} {d:PyData}:qnw gf cf it h ρ d=(gf d).bind λbs=>(cf (Q1 ρ bs)).bind λk=>if k then ((it (Q1 ρ bs)).bind λds=>lcP (h (Q1 ρ bs)) ds).map some else some none:=id rfl
def Nx (o:Option Ot) (P:Rho->Prop):Prop:=match o with|some (.nx ρ)=>P ρ|some (.ct ρ)=>P ρ|_=>False
def ql1 {ρ:Rho} {P:Rho->Prop}:Nx (some (.nx ρ)) P=P ρ:=id rfl
def qiU {o:Option Ot} {P:Rho->Prop} (h:Nx o P):∃ ρ,(o=some (.nx ρ)\/o=some (.ct ρ))/\P ρ:=by
 unfold Nx at h;split at h
 ·exact ⟨_,.inl rfl,h⟩
 ·exact ⟨_,.inr rfl,h⟩
 ·exact h.elim
section
variable {gf:PyData->Option (List (Nat×PyData))} {bf:Rho->Option Ot} {α:Type} {g:α->PyData} {ρ:Rho} {Q:Option Ot->Prop} {F:Ot->Option Ot}
def XG (xs:List α) (I:Nat->Rho->Prop) (h0:I 0 ρ) (hs:∀ i x ρ,xs[i]?=some x->I i ρ->Nx ((gf (g x)).bind λbs=>bf (Q1 ρ bs)) (I (i+1))) (k:∀ ρ',I xs.length ρ'->Q (some (.nx ρ'))):Q (T7 gf bf (xs.map g) ρ):=by
 obtain ⟨ρ',e,h⟩:=qdV (gf:=gf) (bf:=bf) (g:=g) xs I h0 λi x ρ hx hi=>by
  obtain ⟨ρ2,e,h⟩:=qiU (hs i x ρ hx hi);cases e1:gf (g x) with
  |none=>rw [e1] at e;rcases e with e|e<;>cases e
  |some bs=>rw [e1] at e;exact ⟨bs,ρ2,rfl,e,h⟩
 rw [e];exact k ρ' h
def qbo (xs:List α) (I:Nat->Rho->Prop) (h0:I 0 ρ) (hs:∀ i x ρ,xs[i]?=some x->I i ρ->Nx ((gf (g x)).bind λbs=>bf (Q1 ρ bs)) (I (i+1))) (k:∀ ρ',I xs.length ρ'->Q (F (.nx ρ'))):Q ((T7 gf bf (xs.map g) ρ).bind F):=
 XG (Q:=λo=>Q (o.bind F)) xs I h0 hs k
def LH (xs:List α) (n:Nat) (x:α) (d:PyData) (b:Bool) (hn:xs[n]?=some x) (I:Nat->Rho->Prop) (h0:I 0 ρ) (hs:∀ i x ρ,i<n->xs[i]?=some x->I i ρ->Nx ((gf (g x)).bind λbs=>bf (Q1 ρ bs)) (I (i+1))) (he:∀ ρ,I n ρ->((gf (g x)).bind λbs=>bf (Q1 ρ bs))=some (.rt d b)) (k:Q (some (.rt d b))):Q (T7 gf bf (xs.map g) ρ):=by
 rw [qcO (gf:=gf) (bf:=bf) (g:=g) xs n x hn I h0 (λi x ρ hi hx hI=>by
  obtain ⟨ρ2,e,h⟩:=qiU (hs i x ρ hi hx hI);cases e1:gf (g x) with
  |none=>rw [e1] at e;rcases e with e|e<;>cases e
  |some bs=>rw [e1] at e;exact ⟨bs,ρ2,rfl,e,h⟩) (o:=.rt d b) λρ hI=>by
  have:=he ρ hI;cases e1:gf (g x) with
  |none=>rw [e1] at this;cases this
  |some bs=>rw [e1] at this;exact ⟨bs,rfl,.inl ⟨d,b,rfl,this⟩⟩]
 exact k
def qgO (xs:List α) (n:Nat) (x:α) (d:PyData) (b:Bool) (hn:xs[n]?=some x) (I:Nat->Rho->Prop) (h0:I 0 ρ) (hs:∀ i x ρ,i<n->xs[i]?=some x->I i ρ->Nx ((gf (g x)).bind λbs=>bf (Q1 ρ bs)) (I (i+1))) (he:∀ ρ,I n ρ->((gf (g x)).bind λbs=>bf (Q1 ρ bs))=some (.rt d b)) (k:Q (F (.rt d b))):Q ((T7 gf bf (xs.map g) ρ).bind F):=
 LH (Q:=λo=>Q (o.bind F)) xs n x d b hn I h0 hs he k
end
def qqP {α:Type} {us:List α} (h:us.length=1):∃ a0,us=[a0]:=List.length_eq_one_iff.mp h
def qqS {α:Type} {us:List α} (h:us.length=2):∃ a0 a1,us=[a0,a1]:=by
 obtain ⟨a0,r,rfl⟩:=List.exists_cons_of_length_pos (show 0<us.length by omega);obtain ⟨a1,rfl⟩:=qqP (show r.length=1 by simpa using h);exact ⟨a0,a1,rfl⟩
def qqF {α:Type} {us:List α} (h:us.length=3):∃ a0 a1 a2,us=[a0,a1,a2]:=by
 obtain ⟨a0,r,rfl⟩:=List.exists_cons_of_length_pos (show 0<us.length by omega);obtain ⟨a1,a2,rfl⟩:=qqS (show r.length=2 by simpa using h);exact ⟨a0,a1,a2,rfl⟩
def qqr {α:Type} {us:List α} (h:us.length=4):∃ a0 a1 a2 a3,us=[a0,a1,a2,a3]:=by
 obtain ⟨a0,r,rfl⟩:=List.exists_cons_of_length_pos (show 0<us.length by omega);obtain ⟨a1,a2,a3,rfl⟩:=qqF (show r.length=3 by simpa using h);exact ⟨a0,a1,a2,a3,rfl⟩
def qqK {α:Type} {us:List α} (h:us.length=5):∃ a0 a1 a2 a3 a4,us=[a0,a1,a2,a3,a4]:=by
 obtain ⟨a0,r,rfl⟩:=List.exists_cons_of_length_pos (show 0<us.length by omega);obtain ⟨a1,a2,a3,a4,rfl⟩:=qqr (show r.length=4 by simpa using h);exact ⟨a0,a1,a2,a3,a4,rfl⟩
def qrp {α:Type} {us:List α} (h:us.length=6):∃ a0 a1 a2 a3 a4 a5,us=[a0,a1,a2,a3,a4,a5]:=by
 obtain ⟨a0,r,rfl⟩:=List.exists_cons_of_length_pos (show 0<us.length by omega);obtain ⟨a1,a2,a3,a4,a5,rfl⟩:=qqK (show r.length=5 by simpa using h);exact ⟨a0,a1,a2,a3,a4,a5,rfl⟩
def qgY {X:Addr->Prop} {G:Gp} {p:Addr} {o:O} (hp:G p=none):Ex (rs X G) (rs (λb=>X b\/b=p) (gu G p o)):=λb o' e=>by
 obtain ⟨n,e⟩:=zj e;have bp:b≠p:=by rintro rfl;rw [hp] at e;cases e
 rw [QU (by rintro (z|z);exact n z;exact bp z),zD bp];exact e
end Pu
namespace Pv
open PySem L2 L3 Pu
open Bk (Dl)
def pD (p:Int×Int):PyData:=.tuple [.int p.1,.int p.2]
def qdP (r:List Int):PyData:=.tuple (r.map PyData.int)
def dlD:Dl->PyData
 |.skew r c b x y=>.tuple [.str "skew",.int r,.int c,.int b,.int x,.int y]
 |.rests r c b p=>.tuple [.str "rests",.int r,.int c,.int b,.int p]
 |.bits h l ms=>.tuple [.str "bits",.int h,.int l,.tuple (ms.map PyData.int)]
 |.table b cells=>.tuple [.str "table",.int b,.tuple (cells.map qdP)]
 |.joined d e=>.tuple [.str "joined",dlD d,dlD e]
def qcd (G:Gp):∀ (cs:List (List Int)),Dqs G (cs.map Bk.M1) (cs.map qdP)
 |[]=>.nil
 |r::cs=>.cons (.tup (Dqs.ofInts r)) (qcd G cs)
def qh3 (G:Gp):∀ (d:Dl),Dq G d.t (dlD d)
 |.skew r c b x y=>.tup (.cons (.str _) (.cons (.int _) (.cons (.int _) (.cons (.int _) (.cons (.int _) (.cons (.int _) .nil))))))
 |.rests r c b p=>.tup (.cons (.str _) (.cons (.int _) (.cons (.int _) (.cons (.int _) (.cons (.int _) .nil)))))
 |.bits h l ms=>.tup (.cons (.str _) (.cons (.int _) (.cons (.int _) (.cons (.tup (Dqs.ofInts ms)) .nil))))
 |.table b cells=>.tup (.cons (.str _) (.cons (.int _) (.cons (.tup (qcd G cells)) .nil)))
 |.joined d e=>.tup (.cons (.str _) (.cons (qh3 G d) (.cons (qh3 G e) .nil)))
end Pv
namespace Pu
open PySem L2 L3
open Bk (Lf Ext)
section
variable {D:Addr->Prop} {a:Addr} {G G' G0:Gp} {n n':Nat} {fv gv:List Nat} {l:Nat} {τ:St3} {ρ:Rho}
def DF (e:Ext a G G') (h:D a):Ex (rs D G) (rs D G'):=λb o x=>by
 obtain ⟨n,x⟩:=zj x;rw [QU n];exact e b o (by rintro rfl;exact n h) x
def WI {k:Int} (h:Lf G a k):G a≠none:=by
 obtain ⟨o,c,m,e,_⟩:=h;rw [e];simp
def QW {k:Int} (hd:Dom D G) (e:Ext a G G') (lf:Lf G' a k):Dom D G':=λb hb z=>by
 by_cases h:b=a
 ·subst h;exact WI lf z
 ·cases g:G b with
  |none=>exact hd b hb g
  |some o=>rw [e b o h g] at z;cases z
def Nw.backx {x:T} {d:PyData} {k:Int} (h:Nw D G G' x d) (e:Ext a G0 G) (lf:Lf G a k):Nw D G0 G' x d:=by
 rcases h with h|⟨p,xs,ds,h1,h2,c,r⟩
 ·exact .inl h
 refine .inr ⟨p,xs,ds,h1,h2,?_,r⟩;cases z:G0 p with
 |none=>rfl
 |some o=>
  by_cases hp:p=a
  ·subst hp;exact absurd c (WI lf)
  ·rw [e p o hp z] at c;cases c
structure Ln (fv:List Nat) (l:Nat) (D:Addr->Prop) (G:Gp) (τ:St3) (ρ:Rho) (a:Addr) (n:Nat):Prop where
 v:C7 fv D G τ ρ
 d:Dom D G
 da:D a
 tl:τ[l]?=some (some (.ref a))
 ul:vw ρ l=none
 lf:Lf G a n
def Ln.up (h:Ln fv l D G τ ρ a n) (e:Ext a G G') (lf:Lf G' a n'):Ln fv l D G' τ ρ a n':=
 ⟨λi hi d hd=>let ⟨t,x,y⟩:=h.v i hi d hd;⟨t,x,y.up (DF e h.da)⟩,QW h.d e lf,h.da,h.tl,h.ul,lf⟩
def Ln.fst (h:Ln (fv++gv) l D G τ ρ a n):Ln fv l D G τ ρ a n:=⟨h.v.l,h.d,h.da,h.tl,h.ul,h.lf⟩
def Ln.snd (h:Ln (fv++gv) l D G τ ρ a n):Ln gv l D G τ ρ a n:=⟨h.v.r,h.d,h.da,h.tl,h.ul,h.lf⟩
end
abbrev QD:=PyData->Nat->Prop
structure PwE (l:Nat) (t:TE3) where
 w:Rho->Nat->QD->Prop
 fv:List Nat
 nw:Bool
 mono:∀ {ρ n} {Q Q':QD},w ρ n Q->(∀ d m,Q d m->Q' d m)->w ρ n Q'
 ok:∀ {D τ ρ G a n} {q:Q3} {Q:QD},Ln fv l D G τ ρ a n->w ρ n Q->(∀ x d G' n',Q d n'->Ext a G G'->Lf G' a n'->Dq (rs D G') x d->(nw=true->Nw D G G' x d)->q x G')->t τ G q
structure PwC (l:Nat) (t:TT3) where
 w:Rho->Nat->(Bool->Nat->Prop)->Prop
 fv:List Nat
 mono:∀ {ρ n} {Q Q':Bool->Nat->Prop},w ρ n Q->(∀ d m,Q d m->Q' d m)->w ρ n Q'
 ok:∀ {D τ ρ G a n} {q:Bool->Gp->Prop} {Q:Bool->Nat->Prop},Ln fv l D G τ ρ a n->w ρ n Q->(∀ k G' n',Q k n'->Ext a G G'->Lf G' a n'->q k G')->t τ G q
structure PwA (l:Nat) (t:TA3) where
 w:Rho->Nat->(List PyData->Nat->Prop)->Prop
 fv:List Nat
 k:Nat
 mono:∀ {ρ n} {Q Q':List PyData->Nat->Prop},w ρ n Q->(∀ d m,Q d m->Q' d m)->w ρ n Q'
 ok:∀ {D τ ρ G a n} {q:List T->Gp->Prop} {Q:List PyData->Nat->Prop},Ln fv l D G τ ρ a n->w ρ n Q->(∀ x d G' n',Q d n'->d.length=k->Ext a G G'->Lf G' a n'->Dqs (rs D G') x d->q x G')->t τ G q
structure PwI (l:Nat) (t:TI3) where
 w:Rho->Nat->(List PyData->Nat->Prop)->Prop
 fv:List Nat
 nm:Bool
 mono:∀ {ρ n} {Q Q':List PyData->Nat->Prop},w ρ n Q->(∀ d m,Q d m->Q' d m)->w ρ n Q'
 ok:∀ {D τ ρ G a n} {r:List T->(Gp->Prop)->Gp->Prop} {Q:List PyData->Nat->Prop},Ln fv l D G τ ρ a n->w ρ n Q ->
  (∀ items stay ds G' n',Q ds n'->Ext a G G'->Lf G' a n'->Dqs (rs D G') items ds->(∀ G'',(nm=true\/Ex (rs D G') G'')->stay G'')->(nm=true->∃ ns:List Int,ds=ns.map PyData.int)->r items stay G')->t τ G r
structure DrD (r:List T->Gp->Q3->Prop) where
 W:List PyData->Nat->QD->Prop
 nw:Bool
 mono:∀ {ds n} {Q Q':QD},W ds n Q->(∀ d m,Q d m->Q' d m)->W ds n Q'
 ok:∀ {D:Addr->Prop} {G:Gp} {a:Addr} {n:Nat} {ts:List T} {ds:List PyData} {q:Q3} {Q:QD},Lf G a n->D a->Dom D G->Dqs (rs D G) ts ds->W ds n Q->(∀ x d G' n',Q d n'->Ext a G G'->Lf G' a n'->Dq (rs D G') x d->(nw=true->Nw D G G' x d)->q x G')->r (.ref a::ts) G q
section
variable {l:Nat}
def eOf {t:TE3} (b:PuE t):PwE l t:=⟨λρ n Q=>∃ d,b.f ρ=some d/\Q d n,b.fv,b.nw,λ⟨d,h1,h2⟩ h=>⟨d,h1,h _ _ h2⟩,λh ⟨d,h1,h2⟩ k=>
 b.ok h.v h.d h1 λx G1 E1 D1 N1=>k x d G1 _ h2 (Bk.EU E1) (h.lf.ex E1) D1 N1⟩
def cOf {t:TT3} (b:PuC t):PwC l t:=⟨λρ n Q=>∃ d,b.f ρ=some d/\Q d n,b.fv,λ⟨d,h1,h2⟩ h=>⟨d,h1,h _ _ h2⟩,λh ⟨d,h1,h2⟩ k=>
 b.ok h.v h.d h1 λG1 E1=>k d G1 _ h2 (Bk.EU E1) (h.lf.ex E1)⟩
def aOf {t:TA3} (b:PuA t):PwA l t:=⟨λρ n Q=>∃ d,b.f ρ=some d/\Q d n,b.fv,b.n,λ⟨d,h1,h2⟩ h=>⟨d,h1,h _ _ h2⟩,λh ⟨d,h1,h2⟩ k=>
 b.ok h.v h.d h1 λx G1 E1 D1=>k x d G1 _ h2 (b.ln h1) (Bk.EU E1) (h.lf.ex E1) D1⟩
def iOf {t:TI3} (b:PuI t):PwI l t:=⟨λρ n Q=>∃ d,b.f ρ=some d/\Q d n,b.fv,b.nm,λ⟨d,h1,h2⟩ h=>⟨d,h1,h _ _ h2⟩,λh ⟨d,h1,h2⟩ k=>
 b.ok h.v h.d h1 λitems stay G1 E1 D1 s nm=>k items stay d G1 _ h2 (Bk.EU E1) (h.lf.ex E1) D1 s nm⟩
def eO {r:R3} {ta tb:TE3} (R:OpD r) (a:PwE l ta) (b:PwE l tb):PwE l (o3 r ta tb):=
 ⟨λρ n Q=>a.w ρ n λx n1=>b.w ρ n1 λy n2=>∃ v,R.f x y=some v/\Q v n2,a.fv++b.fv,R.nw,λh k=>a.mono h λx n1 h=>b.mono h λy n2 ⟨v,h1,h2⟩=>⟨v,h1,k _ _ h2⟩,λh hw k=>
  a.ok h.fst hw λx dx G1 n1 h1 E1 L1 D1 _=>b.ok (h.snd.up E1 L1) h1 λy dy G2 n2 ⟨v,e,hq⟩ E2 L2 D2 _=>R.ok (D1.up (DF E2 h.da)) D2 (QW (QW h.d E1 L1) E2 L2) e λz G3 E3 D3 N3=>k z v G3 n2 hq ((E1.trans E2).trans (Bk.EU E3)) (L2.ex E3) D3 λz=>(N3 z).backx (E1.trans E2) L2⟩
def j9 {ta:TE3} {tr:TA3} (a:PwE l ta) (r:PwA l tr):PwA l (qc ta tr):=
 ⟨λρ n Q=>a.w ρ n λx n1=>r.w ρ n1 λxs n2=>Q (x::xs) n2,a.fv++r.fv,r.k+1,λh k=>a.mono h λx n1 h=>r.mono h λxs n2 h=>k _ _ h,λh hw k=>
  a.ok h.fst hw λx dx G1 n1 h1 E1 L1 D1 _=>r.ok (h.snd.up E1 L1) h1 λy dy G2 n2 hq hl E2 L2 D2=>k _ _ G2 n2 hq (by simp [hl]) (E1.trans E2) L2 (.cons (D1.up (DF E2 h.da)) D2)⟩
def qgj {t:TA3} (b:PwA l t) (hn:Tru (Nat.ble b.k 1000)):PwE l (q0 t):=⟨λρ n Q=>b.w ρ n λxs n1=>Q (.tuple xs) n1,b.fv,false,λh k=>b.mono h λxs n1 h=>k _ _ h,λh hw k=>
 b.ok h hw λx dx G1 n1 h1 hl E1 L1 D1=>⟨by rw [D1.length,hl];exact few hn,k _ _ _ _ h1 E1 L1 (.tup D1) (λz=>by cases z)⟩⟩
def qhc {r:List T->Gp->Q3->Prop} {t:TA3} (R:FnD r) (b:PwA l t):PwE l (cb3 r t):=⟨λρ n Q=>b.w ρ n λxs n1=>∃ v,R.f xs=some v/\Q v n1,b.fv,R.nw,λh k=>b.mono h λxs n1 ⟨v,h1,h2⟩=>⟨v,h1,k _ _ h2⟩,λh hw k=>
 b.ok h hw λx dx G1 n1 ⟨v,e,hq⟩ hl E1 L1 D1=>R.ok D1 (QW h.d E1 L1) e λz G3 E3 D3 N3=>k z v G3 n1 hq (E1.trans (Bk.EU E3)) (L1.ex E3) D3 λz=>(N3 z).backx E1 L1⟩
def eDr {r:List T->Gp->Q3->Prop} {t:TA3} (R:DrD r) (b:PwA l t):PwE l (cb3 r (qc (v3 l) t)):=⟨λρ n Q=>b.w ρ n λxs n1=>R.W xs n1 Q,b.fv,R.nw,λh k=>b.mono h λxs n1 h=>R.mono h k,λ{D τ ρ G a n q Q} h hw k=>by
 simp only [cb3,qc,v3,h.tl];exact b.ok h hw λx dx G1 n1 hW hl E1 L1 D1=>R.ok L1 h.da (QW h.d E1 L1) D1 hW λz d G3 n3 hq E3 L3 D3 N3=>k z d G3 n3 hq (E1.trans E3) L3 D3 λz=>(N3 z).backx E1 L1⟩
def iR {t:TA3} (b:PwA l t):PwI l (zO t):=⟨λρ n Q=>b.w ρ n λxs n1=>∃ ds,qbM xs=some ds/\Q ds n1,b.fv,true,λh k=>b.mono h λxs n1 ⟨v,h1,h2⟩=>⟨v,h1,k _ _ h2⟩,λh hw k=>b.ok h hw λx dx G1 n1 ⟨ds,e,hq⟩ hl E1 L1 D1=>by
 unfold qbM at e;split at e
 ·unfold cif at e;split at e
  ·rename_i c;cases e;cases D1 with
   |cons a b=>cases b;cases a;simp only;rw [N8];exact ⟨c,k _ _ _ _ _ hq E1 L1 (Dqs.ofInts _) (λ_ _=>trivial) λ_=>⟨_,rfl⟩⟩
  ·cases e
 ·unfold cif at e;split at e
  ·rename_i c;cases e;cases D1 with
   |cons a b=>cases b with
    |cons b c'=>cases c';cases a;cases b;simp only;rw [N8];exact ⟨c,k _ _ _ _ _ hq E1 L1 (Dqs.ofInts _) (λ_ _=>trivial) λ_=>⟨_,rfl⟩⟩
  ·cases e
 ·cases e⟩
def iS {t:TE3} (b:PwE l t):PwI l (YG t):=⟨λρ n Q=>b.w ρ n λd n1=>∃ ds,qaQ d=some ds/\Q ds n1,b.fv,false,λh k=>b.mono h λxs n1 ⟨v,h1,h2⟩=>⟨v,h1,k _ _ h2⟩,λh hw k=>b.ok h hw λx dx G1 n1 ⟨ds,e,hq⟩ E1 L1 D1 _=>by
 unfold qaQ at e;cases D1 with
 |tup hs=>cases e;exact k _ _ _ _ _ hq E1 L1 hs (λ_ _=>trivial) (λz=>by cases z)
 |lst g hs=>
  cases e;simp only [zE (zj g).2];refine k _ _ _ _ _ hq E1 L1 hs (λG2 h=>?_) (λz=>by cases z);rcases h with h|h
  ·cases h
  ·exact zE (h _ _ g)
 |_=>simp at e⟩
end
def lcW (gf:PyData->Option (List (Nat×PyData))) (cw:Rho->Nat->(Bool->Nat->Prop)->Prop) (ew:Rho->Nat->QD->Prop) (ρ:Rho):List PyData->Nat->(List PyData->Nat->Prop)->Prop
 |[],n,Q=>Q [] n
 |d::r,n,Q=>∃ bs,gf d=some bs/\cw (Q1 ρ bs) n λk n1=>if k then ew (Q1 ρ bs) n1 λy n2=>lcW gf cw ew ρ r n2 λys n3=>Q (y::ys) n3 else lcW gf cw ew ρ r n1 Q
def EY {l:Nat} {g:TG3} {tif:TT3} {te:TE3} (pg:PuG g) (pc:PwC l tif) (pe:PwE l te) {ρ:Rho}:∀ {ds:List PyData} {n:Nat} {Q Q':List PyData->Nat->Prop},lcW pg.f pc.w pe.w ρ ds n Q->(∀ d m,Q d m->Q' d m)->lcW pg.f pc.w pe.w ρ ds n Q'
 |[],n,Q,Q',h,k=>k _ _ h
 |d::r,n,Q,Q',⟨bs,e,h⟩,k=>⟨bs,e,pc.mono h λj m h=>by
   cases j with
   |true=>rw [if_pos rfl] at h ⊢;exact pe.mono h λy m2 h=>EY pg pc pe h λys m3 h=>k _ _ h
   |false=>exact EY pg pc pe h k⟩
def VA.ext {D:Addr->Prop} {a:Addr} {G G':Gp} {τ:St3} {ρ:Rho} (h:VA D G τ ρ) (e:Ext a G G') (da:D a):VA D G' τ ρ:=h.upx (DF e da)
def qcy:∀ {ts:List (Nat×T)} {τ:St3} {i:Nat},(∀ p∈ts,p.1≠i)->(sets τ ts)[i]?=τ[i]?
 |[],_,_,_=>rfl
 |p::r,τ,i,h=>by
  unfold sets;rw [qcy λq hq=>h q (by simp [hq]),getElem?_set,if_neg (h p (by simp))]
def qcf {l:Nat} {stay:Gp->Prop} {g:TG3} {tif:TT3} {te:TE3} {q:Q3} (pg:PuG g) (pc:PwC l tif) (pe:PwE l te) {D:Addr->Prop} {a:Addr} {ρ0:Rho} {G0:Gp} (da:D a) (hs:∀ G,Ext a G0 G->stay G) (hm:∀ i∈pg.tg,vw ρ0 i=none) (hl:∀ i∈pg.tg,i≠l) {Q:List PyData->Nat->Prop}
  (k:∀ G ys fs n,Q fs n->fs.length<=sizeLine->Ext a G0 G->Lf G a n->Dqs (rs D G) ys fs->∀ p,G p=none->q (.ref p) (gu G p (.lst ys))) :
  vw ρ0 l=none->∀ (ds:List PyData) (items ys:List T) (es:List PyData) (τ:St3) (G:Gp) (n:Nat),Dqs (rs D G0) items ds->VA D G τ ρ0->τ[l]?=some (some (.ref a))->Ext a G0 G->Dom D G->Lf G a n->Dqs (rs D G) ys es->lcW pg.f pc.w pe.w ρ0 ds n (λfs n=>(es++fs).length<=sizeLine/\Q (es++fs) n)->ds.length+es.length<=sizeLine->CL stay g tif te q items ys τ G
 |_,_,_,ys,es,τ,G,n,.nil,va,tl,E,hd,lf,hy,hw,_=>by
  obtain ⟨h1,h2⟩:=hw;rw [List.append_nil] at h1 h2;exact ⟨hs G E,k G ys es n h2 h1 E lf hy⟩
 |ul,d::ds,x::items,ys,es,τ,G,n,.cons hx hr,va,tl,E,hd,lf,hy,⟨bs,e3,hw⟩,hz=>by
  obtain ⟨ts,bd,kg⟩:=pg.ok (hx.up (DF E da)) e3;refine ⟨hs G E,kg τ G _ ?_⟩;have va1:=va.sets bd;have at1:∀ p∈ts,p.1∈pg.tg:=λp hp=>by
   obtain ⟨q,hq,e⟩:=qbx bd p hp;rw [← e];exact pg.at' e3 q hq
  have va2:=va.keep (ts:=ts) λp hp=>hm _ (at1 p hp);have tl1:(sets τ ts)[l]?=some (some (.ref a)):=by rw [qcy λp hp=>hl _ (at1 p hp)];exact tl
  have ul1:vw (Q1 ρ0 bs) l=none:=by rw [TR λp hp=>hl _ (pg.at' e3 p hp)];exact ul
  refine pc.ok ⟨va1.view _,hd,da,tl1,ul1,lf⟩ hw λc G1 n1 hc E1 L1=>?_;cases c with
  |true=>
   rw [if_pos rfl] at hc ⊢;refine pe.ok ⟨(va1.ext E1 da).view _,QW hd E1 L1,da,tl1,ul1,L1⟩ hc λz y G2 n2 hq E2 L2 D2 _=>⟨?_,?_⟩
   ·rw [hy.length];simp at hz;omega
   ·refine qcf pg pc pe da hs hm hl k ul ds items (ys++[z]) (es++[y]) _ G2 n2 hr ((va2.ext E1 da).ext E2 da) tl1 ((E.trans E1).trans E2) (QW (QW hd E1 L1) E2 L2) L2 (((hy.up (DF E1 da)).up (DF E2 da)).append (.cons D2 .nil)) ?_ (by simp at hz ⊢;omega);refine EY pg pc pe hq λfs m h=>?_;rw [List.append_assoc];exact h
  |false=>
   rw [if_neg y6] at hc ⊢;exact qcf pg pc pe da hs hm hl k ul ds items ys es _ G1 n1 hr (va2.ext E1 da) tl1 (E.trans E1) (QW hd E1 L1) L1 (hy.up (DF E1 da)) hc (by simp at hz;omega)
def qrb {l:Nat} (it:Rho->Nat->(List PyData->Nat->Prop)->Prop) (h:Rho->List PyData->Nat->(List PyData->Nat->Prop)->Prop) (m:List (Option Nat)) (ρ:Rho) (n:Nat) (Q:QD):Prop:=
 it ρ n λds n1=>ds.length<=16777216/\h (RQ m ρ) ds n1 λfs n2=>fs.length<=16777216/\Q (.list fs) n2
def eLc {l:Nat} {wi:TI3} {g:TG3} {tif:TT3} {te:TE3} (l2:Nat) (pi:PwI l wi) (pg:PuG g) (pc:PwC l2 tif) (pe:PwE l2 te) (m:List (Option Nat)) (hm:Tru (pg.tg.all λi=>m[i]?==some none)) (hl:Tru (m[l2]?==some (some l))):PwE l (lc3 wi g tif te m):=
 ⟨qrb (l:=l) pi.w (lcW pg.f pc.w pe.w) m,pi.fv++(m.filterMap id).filter (· != l),true,λh k=>pi.mono h λds n1 ⟨h1,h⟩=>⟨h1,EY pg pc pe h λfs n2 ⟨h2,h⟩=>⟨h2,k _ _ h⟩⟩,λ{D τ ρ G a n q Q} h hw k=>by
  have hl':m[l2]?=some (some l):=by simpa using hl.h
  refine pi.ok h.fst hw λitems stay ds G1 n1 ⟨h1,hw1⟩ E1 L1 D1 hs _=>?_;have hv:C7 (m.filterMap id) D G τ ρ:=λi hi d hd=>by
   by_cases e:i=l
   ·subst e;rw [h.ul] at hd;cases hd
   ·exact h.snd.v i (List.mem_filter.mpr ⟨hi,by simpa using e⟩) d hd
  have va:=(VA.cap (m:=m) hv).ext E1 h.da;refine qcf pg pc pe (D:=D) (a:=a) (ρ0:=RQ m ρ) (G0:=G1) h.da (λG2 E2=>hs G2 (.inr ((DF E2 h.da).trans V3))) (λi hi=>SQ ?_) (λi hi e=>?_) (Q:=λfs n=>Q (.list fs) n) (λG2 ys fs n2 hq hlen E2 L2 D2 p hp=>?_) ?_ ds items [] [] _ G1 n1 D1 va ?_ Bk.Ext.refl (QW h.d E1 L1) L1 .nil ?_ ?_
  ·simpa using List.all_eq_true.mp hm.h i hi
  ·subst e;have:=List.all_eq_true.mp hm.h i hi;rw [hl'] at this;simp at this
  ·exact k _ _ _ _ hq ((E1.trans E2).trans (Bk.EU (j4 hp))) (L2.ex (j4 hp)) (KK (QW (QW h.d E1 L1) E2 L2) hp D2) λ_=>(M3 hp D2).backx (E1.trans E2) L2
  ·unfold vw RQ;rw [getElem?_map,hl'];simp only [Option.map_some,Option.bind_some,h.ul];rfl
  ·unfold L3.cap;rw [getElem?_map,hl'];simp [h.tl]
  ·refine EY pg pc pe hw1 λfs m ⟨h2,h3⟩=>⟨?_,by simpa using h3⟩
   rw [y8];simpa using h2
  ·rw [y8];simpa using h1⟩
structure RL (l:Nat) (a:Addr) (z0:Option (Option T)×Nat) (D:Addr->Prop) (G0:Gp) (A:Nat->Addr->Prop) (τ:St3) (ρ:Rho) (G:Gp) (n:Nat):Prop where
 r:RS D G0 A τ ρ G
 al:A l a
 tl:τ[l]?=some (some (.ref a))
 ul:ρ[l]?=some Sl.un
 lf:Lf G a n
 tz:τ[0]?=z0.1/\τ.length=z0.2
section
variable {l:Nat} {a:Addr} {z0:Option (Option T)×Nat} {D:Addr->Prop} {G0 G G':Gp} {A:Nat->Addr->Prop} {τ:St3} {ρ:Rho} {n n':Nat}
def RL.vl (h:RL l a z0 D G0 A τ ρ G n):vw ρ l=none:=by unfold vw;rw [h.ul];rfl
def RL.up (h:RL l a z0 D G0 A τ ρ G n) (e:Ext a G G') (lf:Lf G' a n'):RL l a z0 D G0 A τ ρ G' n':=
 ⟨h.r.keep (W:=λb=>b=a) e λb z=>⟨l,by rw [z];exact h.al,h.ul,by rw [z];exact WI lf⟩,h.al,h.tl,h.ul,lf,h.tz⟩
def RL.ne (h:RL l a z0 D G0 A τ ρ G n) {i:Nat} {p:Addr} {s:Sl} (hp:A i p) (e:ρ[i]?=some s) (hs:s≠.un):p≠a:=by
 rintro rfl;have:=h.r.inj i l _ hp h.al;subst this;rw [h.ul] at e;cases e;exact hs rfl
def RL.all (h:RL l a z0 D G0 A τ ρ G n) (fv:List Nat):Ln fv l (λb=>D b\/b=a) G τ ρ a n:=by
 refine ⟨λi _ d hd=>?_,λb hb=>?_,.inr rfl,h.tl,h.vl,h.lf⟩
 ·unfold vw at hd;obtain ⟨s,e,hd⟩:=obb hd;refine (h.r.sl i s e).vis hd (jd λb z=>?_) λp o q g=>?_
  ·rcases z with z|z
   ·exact .inl z
   ·subst z;exact .inr ⟨l,h.al⟩
  ·rw [QU]
   ·exact g
   ·rintro (z|z)
    ·exact h.r.nd q z
    ·exact h.ne q e (by rintro rfl;cases hd) z
 ·rcases hb with hb|hb
  ·exact h.r.domD b hb
  ·subst hb;exact WI h.lf
def qqf {m:List Bool} (hm:mkb m l=false) (al:A l a):Ad m A l a:=⟨al,hm⟩
def RL.dem (h:RL l a z0 D G0 A τ ρ G n) {m:List Bool} (hm:mkb m l=false):RL l a z0 D G0 (Ad m A) τ (Pu.dm m ρ) G n:=
 ⟨h.r.dem m,qqf hm h.al,h.tl,by rw [qbm,h.ul];simp [hm],h.lf,h.tz⟩
def RL.ln (h:RL l a z0 D G0 A τ ρ G n) {m:List Bool} {fv:List Nat} (hm:mkb m l=false) (hf:Tru (fv.all (mkb m))):Ln fv l (AD D (Ad m A)) G τ ρ a n:=
 ⟨h.r.viewD hf,(h.r.dem m).dom,.inr ⟨l,qqf hm h.al⟩,h.tl,h.vl,h.lf⟩
def RL.put (h:RL l a z0 D G0 A τ ρ G n) {i:Nat} (hi:i≠l) (h0:i≠0) {x:T} {d:PyData} (hx:Dq (rs (AD D A) G) x d):RL l a z0 D G0 (Er A i) (τ.set i (some x)) (ρ.set i (.sh d)) G n:=
 ⟨h.r.put i hx,(.inr ⟨λz=>hi z.symm,h.al⟩),by rw [getElem?_set,if_neg hi];exact h.tl,by rw [getElem?_set,if_neg hi];exact h.ul,h.lf,⟨by rw [getElem?_set,if_neg h0];exact h.tz.1,by rw [List.length_set];exact h.tz.2⟩⟩
def RL.puts:∀ {ts:List (Nat×T)} {bs:List (Nat×PyData)} {A:Nat->Addr->Prop} {τ:St3} {ρ:Rho},RL l a z0 D G0 A τ ρ G n->Bd (rs (AD D A) G) ts bs->(∀ p∈bs,p.1≠l/\p.1≠0)->∃ A',RL l a z0 D G0 A' (sets τ ts) (Q1 ρ bs) G n
 |_,_,A,_,_,h,.nil,_=>⟨A,h⟩
 |_,_,A,_,_,h,.cons x b,hn=>by
  unfold sets Q1;exact RL.puts (h.put (hn _ u9).1 (hn _ u9).2 x) (b.up qps) (λp hp=>hn p (v5 _ hp))
def RL.upd (h:RL l a z0 D G0 A τ ρ G n) {i:Nat} (hi:i≠l) (h0:i≠0) {x:T} {s:Sl} {B:Addr->Prop} (hg:∀ b o,b≠a->¬ A i b->G b=some o->G' b=some o) (lf:Lf G' a n') (hB:∀ b,B b->(A i b\/G b=none)/\G' b≠none)
  (hs:Ex (rs (AD D A) G) (rs (AD D (Rg A i B)) G')->SlR (rs (AD D (Rg A i B)) G') G' B (some (some x)) s):RL l a z0 D G0 (Rg A i B) (τ.set i (some x)) (ρ.set i s) G' n':=
 ⟨h.r.upd i (W:=λb=>b=a\/A i b) (λb o w z=>hg b o (λy=>w (.inl y)) (λy=>w (.inr y)) z) (λb z=>by
  rcases z with z|z
  ·exact ⟨l,by rw [z];exact h.al,.inr ⟨h.ul,by rw [z];exact WI lf⟩⟩
  ·exact ⟨i,z,.inl rfl⟩) hB hs,.inr ⟨λz=>hi z.symm,h.al⟩,by rw [getElem?_set,if_neg hi];exact h.tl,by rw [getElem?_set,if_neg hi];exact h.ul,lf,⟨by rw [getElem?_set,if_neg h0];exact h.tz.1,by rw [List.length_set];exact h.tz.2⟩⟩
def RL.putN (h:RL l a z0 D G0 A τ ρ G n) {i:Nat} (hi:i≠l) (h0:i≠0) {x:T} {d:PyData} {ds:List PyData} (hd:d=.list ds) (E:Ext a G G') (lf:Lf G' a n') (hx:Nw (AD D A) G G' x d):∃ A',RL l a z0 D G0 A' (τ.set i (some x)) (ρ.set i (.ow ds)) G' n':=by
 rcases hx with hx|⟨p,xs,ds',rfl,e',gp,gp',hs⟩
 ·rw [hd] at hx;cases hx
 rw [hd] at e';cases e';refine ⟨_,h.upd hi h0 (B:=λb=>b=p) (λb o w _ z=>E b o w z) lf (λb z=>by subst z;exact ⟨.inr gp,by rw [gp'];simp⟩) λ_=>⟨p,xs,rfl,rfl,gp',hs.up (jd λb z=>?_)⟩⟩;rcases z with z|⟨j,⟨_,z⟩|⟨_,z⟩⟩
 ·exact .inl (.inl z)
 ·exact .inr z
 ·exact .inl (.inr ⟨j,z⟩)
def RL.wr (h:RL l a z0 D G0 A τ ρ G n) {i:Nat} {p:Addr} {xs:List T} {ds ds0:List PyData} (ho:ρ[i]?=some (Sl.ow ds0)) (hi:A i p) (ht:τ[i]?=some (some (.ref p))) (hs:Dqs (rs (AD D A) G) xs ds):RL l a z0 D G0 A τ (ρ.set i (.ow ds)) (gu G p (.lst xs)) n:=by
 have il:i≠l:=by rintro rfl;rw [h.ul] at ho;cases ho
 have pa:p≠a:=by rintro rfl;exact il (h.r.inj i l _ hi h.al)
 exact ⟨h.r.wr hi ht hs,h.al,h.tl,by rw [getElem?_set,if_neg il];exact h.ul,h.lf.new pa,h.tz⟩
end
abbrev QO:=Ot->Nat->Prop
def qcv (l:Nat) (a:Addr) (z0:Option (Option T)×Nat) (D:Addr->Prop) (G0:Gp) (e:Ends3):Ot->Nat->Prop
 |.nx ρ,n=>∀ A τ G,RL l a z0 D G0 A τ ρ G n->e.nx τ G
 |.bk ρ,n=>∀ A τ G,RL l a z0 D G0 A τ ρ G n->e.bk τ G
 |.ct ρ,n=>∀ A τ G,RL l a z0 D G0 A τ ρ G n->e.ct τ G
 |.rt d fr,n=>∀ x G,Ex G0 G->Lf G a n->Dq (rs (λb=>D b\/b=a) G) x d->(fr=true->Nw (λb=>D b\/b=a) G0 G x d)->e.rt x G
structure PwS (l:Nat) (t:TS3) where
 w:Rho->Nat->QO->Prop
 mono:∀ {ρ n} {Q Q':QO},w ρ n Q->(∀ o m,Q o m->Q' o m)->w ρ n Q'
 ok:∀ {a z0 D G0 A τ ρ G n} {e:Ends3} {Q:QO},RL l a z0 D G0 A τ ρ G n->w ρ n Q->(∀ o m,Q o m->qcv l a z0 D G0 e o m)->t e τ G
section
variable {l:Nat}
def K0:PwS l qw:=⟨λρ n Q=>Q (.nx ρ) n,λh k=>k _ _ h,λh hw k=>k _ _ hw _ _ _ h⟩
def sqw (b:Rho->Nat->QO->Prop) (Q:QO):QO:=λo n=>match o with|.nx ρ'=>b ρ' n Q|o=>Q o n
def T9 {t u:TS3} (x:PwS l t) (y:PwS l u):PwS l (qy t u):=⟨λρ n Q=>x.w ρ n (sqw y.w Q),λh k=>x.mono h λo m h=>by
  cases o with
  |nx ρ=>exact y.mono h k
  |bk ρ=>exact k _ _ h
  |ct ρ=>exact k _ _ h
  |rt d f=>exact k _ _ h,λh hw k=>x.ok h hw λo m h=>by
  cases o with
  |nx ρ=>exact λA τ G r=>y.ok r h k
  |bk ρ=>exact k _ _ h
  |ct ρ=>exact k _ _ h
  |rt d f=>exact k _ _ h⟩
def wIf {c:TT3} {t u:TS3} (pc:PwC l c) (x:PwS l t) (y:PwS l u):PwS l (zb c t u):=⟨λρ n Q=>pc.w ρ n λk n1=>if k then x.w ρ n1 Q else y.w ρ n1 Q,λh k=>pc.mono h λj m h=>by
  cases j with
  |true=>rw [if_pos rfl] at h ⊢;exact x.mono h k
  |false=>exact y.mono h k,λh hw k=>pc.ok (h.all _) hw λj G1 n1 hj E1 L1=>by
  cases j with
  |true=>rw [if_pos rfl] at hj ⊢;exact x.ok (h.up E1 L1) hj k
  |false=>exact y.ok (h.up E1 L1) hj k⟩
def qip {a:Addr} {z0:Option (Option T)×Nat} {D:Addr->Prop} {G0 G G':Gp} {A:Nat->Addr->Prop} {τ:St3} {ρ:Rho} {n:Nat} (h:RL l a z0 D G0 A τ ρ G n) (e:Ext a G G'):Ex G0 G':=λb o x=>e b o (by rintro rfl;rw [h.r.fr l _ h.al] at x;cases x) (h.r.ex b o x)
def qhy {t:TE3} (x:PwE l t):PwS l (qL t):=⟨λρ n Q=>x.w ρ n λd n1=>Q (.rt d x.nw) n1,λh k=>x.mono h λd m h=>k _ _ h,λh hw k=>x.ok (h.all _) hw λy d G1 n1 hq E1 L1 D1 N1=>k _ _ hq y G1 (qip h E1) L1 D1 λz=>(N1 z).back h.r.ex⟩
def qe3 {t:TE3} (x:PwE l t) (i:Nat) (m:List Bool) (hm:Tru (x.fv.all (mkb m))) (hl:Tru (!mkb m l&&(i != l&&i != 0))):PwS l (qH t (gn3 i)):=⟨λρ n Q=>x.w ρ n λd n1=>Q (.nx (qbR m x.nw i d ρ)) n1,λh k=>x.mono h λd m h=>k _ _ h,λ{a z0 D G0 A τ ρ G n e Q} h hw k=>by
 have hl':mkb m l=false/\i≠l/\i≠0:=by simpa using hl.h
 refine x.ok (h.ln hl'.1 hm) hw λy d G1 n1 hq E1 L1 D1 N1=>?_;have k:=k _ _ hq;unfold qbR at k;show e.nx (τ.set i (some y)) G1;split at k
 ·rename_i hs;exact k _ _ _ ((h.up E1 L1).put hl'.2.1 hl'.2.2 (LS D1 hs))
 ·split at k
  ·rename_i hn;have N:=N1 hn;rcases id N with h2|⟨p,xs,ds,h1,h2,_⟩
   ·exact absurd h2 (by assumption)
   subst h2;obtain ⟨A',r⟩:=(h.dem hl'.1).putN hl'.2.1 hl'.2.2 rfl E1 L1 N;exact k _ _ _ r
  ·exact k _ _ _ (((h.dem hl'.1).up E1 L1).put hl'.2.1 hl'.2.2 D1)⟩
def qhz {t:TE3} {g:TG3} (x:PwE l t) (pg:PuG g) (m:List Bool) (hm:Tru (x.fv.all (mkb m))) (hl:Tru (!mkb m l&&pg.tg.all (λi=>i != l&&i != 0))):PwS l (qH t g):=⟨λρ n Q=>x.w ρ n λd n1=>∃ bs,pg.f d=some bs/\Q (.nx (Q1 (dm m ρ) bs)) n1,λh k=>x.mono h λd m ⟨bs,h1,h2⟩=>⟨bs,h1,k _ _ h2⟩,λ{a z0 D G0 A τ ρ G n e Q} h hw k=>by
 have hl':mkb m l=false/\∀ i∈pg.tg,i≠l/\i≠0:=by simpa using hl.h
 refine x.ok (h.ln hl'.1 hm) hw λy d G1 n1 ⟨bs,e2,hq⟩ E1 L1 D1 N1=>?_;obtain ⟨ts,bd,kg⟩:=pg.ok D1 e2;refine kg _ _ _ ?_;obtain ⟨A',h'⟩:=((h.dem hl'.1).up E1 L1).puts bd (λp hp=>hl'.2 _ (pg.at' e2 p hp));exact k _ _ hq _ _ _ h'⟩
def RL.evalS {a:Addr} {z0:Option (Option T)×Nat} {D:Addr->Prop} {G0 G:Gp} {A:Nat->Addr->Prop} {τ:St3} {ρ:Rho} {n:Nat} (h:RL l a z0 D G0 A τ ρ G n) {t:TE3} (x:PwE l t) (m:List Bool) (hm:Tru (x.fv.all (mkb m))) (hl:mkb m l=false) {Q:QD} (hw:x.w ρ n Q) (q:Q3) (k:∀ y d G' n' A1,Q d n'->RL l a z0 D G0 A1 τ (dmS m d ρ) G' n'->Ext a G G'->Dq (rs (AD D A1) G') y d->q y G'):t τ G q:=by
 refine x.ok (h.ln hl hm) hw λy d G1 n1 hq E1 L1 D1 _=>?_;by_cases hs:qc3 d=true
 ·exact k y d G1 n1 A hq (by unfold dmS;rw [if_pos hs];exact h.up E1 L1) E1 (LS D1 hs)
 ·exact k y d G1 n1 _ hq (by unfold dmS;rw [if_neg hs];exact (h.dem hl).up E1 L1) E1 D1
def qdL (gf:PyData->Option (List (Nat×PyData))) (bw:Rho->Nat->QO->Prop):List PyData->Rho->Nat->QO->Prop
 |[],ρ,n,Q=>Q (.nx ρ) n
 |d::r,ρ,n,Q=>∃ bs,gf d=some bs/\bw (Q1 ρ bs) n λo n1=>match o with
  |.nx ρ'=>qdL gf bw r ρ' n1 Q
  |.ct ρ'=>qdL gf bw r ρ' n1 Q
  |.bk ρ'=>Q (.nx ρ') n1
  |.rt d b=>Q (.rt d b) n1
def CH {g:TG3} {tb:TS3} (pg:PuG g) (pb:PwS l tb):∀ {ds:List PyData} {ρ:Rho} {n:Nat} {Q Q':QO},qdL pg.f pb.w ds ρ n Q->(∀ o m,Q o m->Q' o m)->qdL pg.f pb.w ds ρ n Q'
 |[],_,_,_,_,h,k=>k _ _ h
 |d::r,_,_,_,_,⟨bs,e,h⟩,k=>⟨bs,e,pb.mono h λo m h=>by
   cases o with
   |nx ρ=>exact CH pg pb h k
   |ct ρ=>exact CH pg pb h k
   |bk ρ=>exact k _ _ h
   |rt d b=>exact k _ _ h⟩
def T0 {stay:Gp->Prop} {g:TG3} {tb:TS3} {e:Ends3} (pg:PuG g) (pb:PwS l tb) {a:Addr} {z0:Option (Option T)×Nat} {D:Addr->Prop} {G0:Gp} {Q:QO} (hl:∀ i∈pg.tg,i≠l/\i≠0) (hs:∀ A τ ρ G n,RL l a z0 D G0 A τ ρ G n->stay G) (k:∀ o m,Q o m->qcv l a z0 D G0 e o m) :
  ∀ (ds:List PyData) (items:List T),(∀ A τ ρ G n,RL l a z0 D G0 A τ ρ G n->Dqs (rs (AD D A) G) items ds)->∀ A τ ρ G n,RL l a z0 D G0 A τ ρ G n->qdL pg.f pb.w ds ρ n Q->RA stay g tb e items τ G
 |[],items,hi,A,τ,ρ,G,n,h,hw=>by
  have:=hi _ _ _ _ _ h;cases this;exact ⟨hs _ _ _ _ _ h,k _ _ hw _ _ _ h⟩
 |d::ds,items,hi,A,τ,ρ,G,n,h,⟨bs,e1,hw⟩=>by
  have hh:=hi _ _ _ _ _ h;cases hh with
  |cons hx hr=>
   rename_i x items;obtain ⟨ts,bd,kg⟩:=pg.ok hx e1;refine ⟨hs _ _ _ _ _ h,kg _ _ _ ?_⟩;obtain ⟨A',h'⟩:=h.puts bd λp hp=>hl _ (pg.at' e1 p hp);have hi':∀ A τ ρ G n,RL l a z0 D G0 A τ ρ G n->Dqs (rs (AD D A) G) items ds:=λA τ ρ G n h=>by
    have:=hi _ _ _ _ _ h;cases this with
    |cons a b=>exact b
   refine pb.ok h' hw λo m hq=>?_;cases o with
   |nx ρ'=>exact λA2 τ2 G2 h2=>T0 pg pb hl hs k ds items hi' _ _ _ _ _ h2 hq
   |ct ρ'=>exact λA2 τ2 G2 h2=>T0 pg pb hl hs k ds items hi' _ _ _ _ _ h2 hq
   |bk ρ'=>exact k _ _ hq
   |rt d fr=>exact k _ _ hq
def RL.base {a:Addr} {z0:Option (Option T)×Nat} {D:Addr->Prop} {G0 Gb G:Gp} {A:Nat->Addr->Prop} {τ:St3} {ρ:Rho} {n:Nat} (h:RL l a z0 D Gb A τ ρ G n) (e:Ex G0 Gb) (hd:Dom D G0):RL l a z0 D G0 A τ ρ G n:=⟨h.r.base e hd,h.al,h.tl,h.ul,h.lf,h.tz⟩
def qcv.base {a:Addr} {z0:Option (Option T)×Nat} {D:Addr->Prop} {G0 Gb:Gp} {e:Ends3} {o:Ot} {n:Nat} (h:qcv l a z0 D G0 e o n) (x:Ex G0 Gb) (hd:Dom D G0):qcv l a z0 D Gb e o n:=by
 cases o with
 |nx ρ=>exact λA τ G r=>h A τ G (r.base x hd)
 |bk ρ=>exact λA τ G r=>h A τ G (r.base x hd)
 |ct ρ=>exact λA τ G r=>h A τ G (r.base x hd)
 |rt d fr=>exact λy G p q r z=>h y G (x.trans p) q r λw=>(z w).back x
def qnW {wi:TI3} {g:TG3} {tb:TS3} (pi:PwI l wi) (pg:PuG g) (pb:PwS l tb) (m:List Bool) (hm:Tru (pi.fv.all (mkb m))) (hl:Tru (!mkb m l&&pg.tg.all (λi=>i != l&&i != 0))):PwS l (WF wi g tb):=⟨λρ n Q=>pi.w ρ n λds n1=>qdL pg.f pb.w ds (if pi.nm then ρ else dm m ρ) n1 Q,λh k=>pi.mono h λd m h=>CH pg pb h k,λ{a z0 D G0 A τ ρ G n e Q} h hw k=>by
 have hl':mkb m l=false/\∀ i∈pg.tg,i≠l/\i≠0:=by simpa using hl.h
 refine pi.ok (h.ln hl'.1 hm) hw λitems stay ds G1 n1 hq E1 L1 D1 hs hnm=>?_;cases hb:pi.nm with
 |true=>
  rw [hb,if_pos rfl] at hq;obtain ⟨ns,rfl⟩:=hnm hb;have:=D1.ints;subst this;exact T0 pg pb hl'.2 (λ_ _ _ _ _ _=>hs _ (.inl hb)) k _ _ (λA τ ρ G _ _=>Dqs.ofInts _) _ _ _ _ _ (h.up E1 L1) hq
 |false=>
  rw [hb,if_neg y6] at hq;have h1:=(h.dem hl'.1).up E1 L1;have b1:Ex G0 (rs (λb=>∃ i,Ad m A i b) G1):=λb o e=>by
   rw [QU]
   ·exact h1.r.ex _ _ e
   ·rintro ⟨i,z⟩;rw [h1.r.fr i _ z] at e;cases e
  have h2:RL l a z0 D (rs (λb=>∃ i,Ad m A i b) G1) (Ad m A) τ (dm m ρ) G1 n1:=⟨⟨V3,h.r.dm.up b1,λi p z=>by unfold rs;exact jy ⟨i,z⟩,h1.r.da,h1.r.inj,h1.r.len,h1.r.sl⟩,h1.al,h1.tl,h1.ul,h1.lf,h1.tz⟩
  have X:∀ A2 τ2 ρ2 G2,RS D (rs (λb=>∃ i,Ad m A i b) G1) A2 τ2 ρ2 G2->Ex (rs (AD D (Ad m A)) G1) (rs (AD D A2) G2):=λA2 τ2 ρ2 G2 r b o e=>by
   obtain ⟨n1,e⟩:=zj e;have eb:rs (λb=>∃ i,Ad m A i b) G1 b=some o:=by rw [QU (λz=>n1 (.inr z))];exact e
   rw [QU]
   ·exact r.ex _ _ eb
   ·rintro (z|⟨i,z⟩)
    ·exact n1 (.inl z)
    ·rw [r.fr i _ z] at eb;cases eb
  exact T0 pg pb hl'.2 (λA2 τ2 ρ2 G2 n2 r=>hs _ (.inr ((X _ _ _ _ r.r).trans V3))) (λo m hq=>(k o m hq).base b1 h.r.dm) _ _ (λA2 τ2 ρ2 G2 n2 r=>D1.up (X _ _ _ _ r.r)) _ _ _ _ _ h2 hq⟩
end
def DSp (W:List PyData->Nat->QD->Prop) (fr:Bool):Sp3:=λts G q=>∃ (D:Addr->Prop) (a:Addr) (n:Nat) (ts':List T) (ds:List PyData) (Q:QD),ts=.ref a::ts'/\Lf G a n/\D a/\Dom D G/\Dqs (rs D G) ts' ds/\W ds n Q/\∀ x d G' n',Q d n'->Ext a G G'->Lf G' a n'->Dq (rs D G') x d->(fr=true->Nw D G G' x d)->q x G'
structure Wm where
 W:List PyData->Nat->QD->Prop
 mono:∀ {ds n} {Q Q':QD},W ds n Q->(∀ d m,Q d m->Q' d m)->W ds n Q'
def dSp (w:Wm) (fr:Bool):DrD (DSp w.W fr):=⟨w.W,fr,w.mono,λ{D G a n ts ds q Q} lf da hd hs hw k=>⟨D,a,n,ts,ds,Q,rfl,lf,da,hd,hs,hw,k⟩⟩
def qpZ (fr:Bool) (Q:QD):QO:=λo n=>match o with
 |.rt d b=>(fr=true->b=true)/\∃ m,n<=m/\Q d m
 |.nx _=>fr=false/\∃ m,n<=m/\Q .none m
 |_=>False
def qqN {t:TS3} (b:PwS 0 t) (k N:Nat) (fr:Bool):Wm:=⟨λds n Q=>ds.length+1=k/\b.w (.un::(ds.map Sl.sh++List.replicate (N-(ds.length+1)) .un)) n (qpZ fr Q),λ⟨h1,h2⟩ k=>⟨h1,b.mono h2 λo m h=>by
 cases o with
 |rt d f=>obtain ⟨h1,m,h2,h3⟩:=h;exact ⟨h1,m,h2,k _ _ h3⟩
 |nx ρ=>obtain ⟨h1,m,h2,h3⟩:=h;exact ⟨h1,m,h2,k _ _ h3⟩
 |bk ρ=>exact h
 |ct ρ=>exact h⟩⟩
def qg4 {t:TS3} (b:PwS 0 t) (N:List Str) (k:Nat) (fr:Bool):∀ ts G q,DSp (qqN b k N.length fr).W fr ts G q->ts.length=k/\t { nx:=λ_ G'=>q .non G',rt:=q } (qm N ts) G:=by
 rintro ts G q ⟨D,a,n,ts',ds,Q,rfl,lf,da,hd,hs,⟨hk,hw⟩,h⟩;refine ⟨by simp [hs.length];omega,?_⟩;have DD:∀ b,(D b/\b≠a)\/b=a↔D b:=λb=>by
  by_cases e:b=a
  ·subst e;simp [da]
  ·simp [e]
 have rr:∀ H,rs (λb=>(D b/\b≠a)\/b=a) H=rs D H:=λH=>by
  have:(λb=>(D b/\b≠a)\/b=a)=D:=funext λb=>propext (DD b);rw [this]
 have ad:AD (λb=>D b/\b≠a) (λi p=>i=0/\p=a)=D:=funext λb=>propext ⟨(λz=>by
   rcases z with z|⟨i,_,z⟩
   ·exact z.1
   ·rw [z];exact da),(λz=>by
   by_cases e:b=a
   ·exact .inr ⟨0,rfl,e⟩
   ·exact .inl ⟨z,e⟩)⟩
 have ga:G a≠none:=WI lf;have r:RL 0 a (some (some (.ref a)),(qm N (.ref a::ts')).length) (λb=>D b/\b≠a) (rs (λb=>b=a) G) (λi p=>i=0/\p=a) (qm N (.ref a::ts')) (.un::(ds.map Sl.sh++List.replicate (N.length-(ds.length+1)) .un)) G n:=by
  refine ⟨⟨V3,λb hb=>by rw [QU (D:=λb=>b=a) hb.2];exact hd b hb.1,λi p e=>by rw [e.2];unfold rs;exact jy rfl,λi p e=>by rw [e.2];exact ga,λi j p e e'=>e.1.trans e'.1.symm,by simp [qm,hs.length],λi s e=>?_⟩,⟨rfl,rfl⟩,by simp [qm],rfl,lf,⟨by simp [qm],rfl⟩⟩;rw [ad];cases i with
  |zero=>cases e;trivial
  |succ i=>
   rw [getElem?_cons_succ] at e;by_cases hi:i<ds.length
   ·rw [List.getElem?_append_left (by simpa using hi),getElem?_map] at e;obtain ⟨d2,e3,rfl⟩:=za3 e;obtain ⟨x,e5,hx⟩:=hs.get e3;refine ⟨x,?_,hx⟩;unfold qm;rw [List.getElem?_append_left (by simp [hs.length];exact hi),getElem?_map,getElem?_cons_succ,e5];rfl
   ·rw [List.getElem?_append_right (by simpa using hi),List.getElem?_replicate] at e;split at e<;>cases e
    trivial
 have xe:∀ {G'},Ex (rs (λb=>b=a) G) G'->Ext a G G':=λe b o n x=>e b o (by rw [QU (D:=λb=>b=a) n];exact x);refine b.ok r hw λo m hq=>?_;cases o with
 |rt d f=>
  intro x G' E L Dx0 N;have Dx:=Dx0;rw [rr] at Dx;obtain ⟨hq1,m2,hm,hq2⟩:=hq;refine h x d G' m2 hq2 (xe E) (L.mono (by omega)) Dx λz=>?_;rcases N (hq1 z) with h2|⟨p,xs,ds',h1,h2,c,g,f'⟩
  ·exact .inl h2
  have np:p≠a:=by
   rintro rfl;rw [h1] at Dx0;cases Dx0 with
   |lst g0 _=>exact (zj g0).1 (.inr rfl)
  refine .inr ⟨p,xs,ds',h1,h2,by rw [QU (D:=λb=>b=a) np] at c;exact c,g,f'.up (jd λb z=>?_)⟩;rcases z with z|z
  ·exact .inl ((DD b).mpr z)
  ·exact .inr z
 |nx ρ=>
  obtain ⟨hq1,m2,hm,hq2⟩:=hq;exact λA τ G' r'=>h .non .none G' m2 hq2 (xe r'.r.ex) (r'.lf.mono (by omega)) .non λz=>by rw [hq1] at z;cases z
 |bk ρ=>exact hq.elim
 |ct ρ=>exact hq.elim
end Pu
namespace Pu
open PySem L2 L3
open Bk (Lf Ext Dl Dr)
def okW:QO:=λo _=>match o with|.nx _=>True|.ct _=>True|_=>False
def qqq (K:Int):TE3:=o3 zh (c3 (.int 1)) (cb3 VG (qc (c3 (.int K)) (qc (cb3 jW (qc (v3 0) qk)) qk)))
def qjG {i:Nat} {τ:St3} {t:T} {G:Gp} {q:Q3} (h:τ[i]?=some (some t)):v3 i τ G q=q t G:=by unfold v3;rw [h]
def qqn (K:Int) (R:TS3):TS3:=qy (WF (zO (qc (qqq K) qk)) (gn3 1) (qy (qH (cb3 Bk.YB (qc (v3 0) (qc (v3 1) qk))) (gn3 2)) R)) (qL (c3 (.bl true)))
def qdQ {R:TS3} (b:PwS 2 R) (N:List Str) (K:Int) (M:Nat) (hK:0<=K/\K<=60) (hN:N.length=M+3) (h:∀ k:Nat,k<=60->b.w ([.un,.sh (.int k),.un]++List.replicate M .un) 0 okW):∀ ts G q,RO ts G q->ts.length=1/\qqn K R { nx:=λ_ G'=>q .non G',rt:=q } (qm N ts) G:=by
 rintro ts G q ⟨a,ns,rfl,hG,hl,hq⟩;refine ⟨rfl,?_⟩;have s0:(qm N [T.ref a])[0]?=some (some (.ref a)):=by simp [qm]
 have gl:getL G a=some (ns.map T.int):=by unfold getL;rw [hG]
 simp only [qqn,qy,WF,zO,qqq,qc,qk,o3,c3,cb3,v3,s0,jW,gl,VG,zh,length_map];have cnt:((1+(if ((ns.length:Nat):Int)<K then ((ns.length:Nat):Int) else K)).toNat)<=61:=by split<;>omega
 refine ⟨⟨by split<;>omega,by split<;>omega⟩,?_⟩;refine ER _ (λ_ τ G'=>G' a=some (.frz (ns.map T.int))/\τ[0]?=some (some (.ref a))/\τ.length=M+3) ⟨hG,s0,by simp [qm,hN]⟩ (λ_ _ _ _ _=>True.intro) ?_ ?_
 ·rintro i z τ G' nx hz ⟨gA,t0,tl⟩ hn;obtain ⟨hi,rfl⟩:=MV hz;have hi2:i<=60:=by omega
  have t1:(τ.set 1 (some (T.int (0+(i:Int)))))[0]?=some (some (.ref a)):=by rw [getElem?_set,if_neg (by omega)];exact t0
  have t2:(τ.set 1 (some (T.int (0+(i:Int)))))[1]?=some (some (T.int (0+(i:Int)))):=by rw [getElem?_set,if_pos rfl,if_pos (by omega)]
  show v3 0 (τ.set 1 (some (T.int (0+(i:Int))))) G' (λx G1=>v3 1 (τ.set 1 (some (T.int (0+(i:Int))))) G1 λy G2=>Bk.YB [x,y] G2 λz G3=>R _ ((τ.set 1 (some (T.int (0+(i:Int))))).set 2 (some z)) G3);rw [qjG t1,qjG t2];refine ⟨a,_,ns,rfl,gA,hl,by omega,by omega,λp o c hp ho=>?_⟩;have pa:a≠p:=by rintro rfl;rw [gA] at hp;cases hp
  have r:RL 2 p (some (some (.ref a)),M+3) (λ_=>False) G' (λj q=>j=2/\q=p) ((τ.set 1 (some (T.int (0+(i:Int))))).set 2 (some (.ref p))) ([.un,.sh (.int i),.un]++List.replicate M .un) (gu G' p (.lst [.int o,.int c,.int 0])) 0:=by
   refine ⟨⟨j4 hp,λb z=>z.elim,λj q e=>by rw [e.2];exact hp,λj q e=>by rw [e.2,qv];simp,λj k q e e'=>e.1.trans e'.1.symm,by simp [tl],λj s e=>?_⟩,⟨rfl,rfl⟩,by rw [getElem?_set,if_pos rfl,if_pos (by simp;omega)],rfl,⟨o,c,0,qv,ho,by omega,by omega⟩,⟨by rw [getElem?_set,if_neg (by omega)];exact t1,by simp [tl]⟩⟩
   match j,e with
   |0,e=>cases e;trivial
   |1,e=>
    cases e;refine ⟨.int (0+(i:Int)),by rw [getElem?_set,if_neg (by omega)];exact t2,?_⟩;rw [Int.zero_add];exact .int _
   |2,e=>cases e;trivial
   |j+3,e=>
    simp only [cons_append,List.nil_append,getElem?_cons_succ,List.getElem?_replicate] at e;split at e<;>cases e
    trivial
  refine b.ok r (h i hi2) λo' m ho'=>?_;cases o' with
  |nx ρ'=>exact λA τ' G2 r2=>hn _ _ ⟨r2.r.ex _ _ gA,r2.tz.1,r2.tz.2⟩
  |ct ρ'=>exact λA τ' G2 r2=>hn _ _ ⟨r2.r.ex _ _ gA,r2.tz.1,r2.tz.2⟩
  |bk ρ'=>exact ho'.elim
  |rt d f=>exact ho'.elim
 ·rintro τ G' ⟨gA,t0,tl⟩;exact hq G'
def qhN {G:Gp} {ts:List T} (h:Dqs G ts []):ts=[]:=by cases h;rfl
def qpJ {G:Gp} {ts:List T} {i:Int} (h:Dqs G ts [.int i]):ts=[.int i]:=by
 cases h with
 |cons a b=>cases b;cases a;rfl
def lfc {G:Gp} {a:Addr} {n c:Nat} (h:Lf G a ((n:Int)+(c:Int))):Lf G a ((n+c:Nat):Int):=by rw [Int.natCast_add];exact h
def DK:DrD Bk.qV:=⟨λds n Q=>∃ m:Int,ds=[.int m]/\(1<=m/\m<1073741824)/\n<1000000000/\∀ d:Int,0<=d->d<m->Q (.int d) (n+1),false,
 λ⟨m,h1,h2,h3,h4⟩ k=>⟨m,h1,h2,h3,λd x y=>k _ _ (h4 d x y)⟩,λ{D G a n ts ds q Q} lf da hd hs ⟨m,h1,h2,h3,h4⟩ k=>by
 subst h1;have:=qpJ hs;subst this;exact ⟨a,n,m,rfl,h2.1,h2.2,lf,by omega,λd G' x y L E=>k _ _ G' (n+1) (h4 d x y) E (lfc (c:=1) L) (.int d) (λz=>by cases z)⟩⟩
def NX:DrD Bk.QB:=⟨λds n Q=>ds=[]/\n<100000/\∀ d:Dl,Dr d 16 16 32->d.dep<=2->Q (Pv.dlD d) (n+1000),false,
 λ⟨h1,h3,h4⟩ k=>⟨h1,h3,λd x y=>k _ _ (h4 d x y)⟩,λ{D G a n ts ds q Q} lf da hd hs ⟨h1,h3,h4⟩ k=>by
 subst h1;have:=qhN hs;subst this;exact ⟨a,n,rfl,lf,by omega,λd G' a1 a2 L E=>k _ _ G' (n+1000) (h4 d a1 a2) E (lfc (c:=1000) L) (Pv.qh3 _ _) (λz=>by cases z)⟩⟩
def qj2 (n:Nat):FnD (Bk.j8 (n+1)):=⟨λds=>match ds with|[d,e]=>cif (d=e/\Bk.WE n d) (some (.bool true)) none|_=>none,false,λ{D G xs ds v q} hx hd hf k=>by
 split at hf
 ·unfold cif at hf;split at hf
  ·rename_i c;cases hf;obtain ⟨rfl,c⟩:=c;cases hx with
   |cons x b=>cases b with
    |cons y b=>
     cases b;exact ⟨_,_,_,rfl,(x.up V3).dp,(y.up V3).dp,c,λG' E=>k _ _ E (.bl true) (λz=>by cases z)⟩
  ·cases hf
 ·cases hf⟩
def qhF {n:Nat} {d:PyData} (h:Bk.WE n d):(qj2 n).f [d,d]=some (.bool true):=jy ⟨rfl,h⟩
def qkU {l:Nat} {t:TE3} {b:PuE t}:(eOf (l:=l) b).w=λρ n Q=>∃ d,b.f ρ=some d/\Q d n:=id rfl
def qiP {l:Nat} {t:TT3} {b:PuC t}:(cOf (l:=l) b).w=λρ n Q=>∃ d,b.f ρ=some d/\Q d n:=id rfl
def qkc {l:Nat} {t:TA3} {b:PuA t}:(aOf (l:=l) b).w=λρ n Q=>∃ d,b.f ρ=some d/\Q d n:=id rfl
def qkd {l:Nat} {t:TI3} {b:PuI t}:(iOf (l:=l) b).w=λρ n Q=>∃ d,b.f ρ=some d/\Q d n:=id rfl
def qqT {l:Nat} {r:R3} {ta tb:TE3} {R:OpD r} {a:PwE l ta} {b:PwE l tb}:(eO R a b).w=λρ n Q=>a.w ρ n λx n1=>b.w ρ n1 λy n2=>∃ v,R.f x y=some v/\Q v n2:=id rfl
def qa6 {l:Nat} {ta:TE3} {tr:TA3} {a:PwE l ta} {r:PwA l tr}:(j9 a r).w=λρ n Q=>a.w ρ n λx n1=>r.w ρ n1 λxs n2=>Q (x::xs) n2:=id rfl
def qeF {l:Nat} {t:TA3} {b:PwA l t} {hn:Tru (Nat.ble b.k 1000)}:(qgj b hn).w=λρ n Q=>b.w ρ n λxs n1=>Q (.tuple xs) n1:=id rfl
def qco {l:Nat} {r:List T->Gp->Q3->Prop} {t:TA3} {R:FnD r} {b:PwA l t}:(qhc R b).w=λρ n Q=>b.w ρ n λxs n1=>∃ v,R.f xs=some v/\Q v n1:=id rfl
def qi6 {l:Nat} {r:List T->Gp->Q3->Prop} {t:TA3} {R:DrD r} {b:PwA l t}:(eDr R b).w=λρ n Q=>b.w ρ n λxs n1=>R.W xs n1 Q:=id rfl
def qql {l:Nat} {t:TA3} {b:PwA l t}:(iR b).w=λρ n Q=>b.w ρ n λxs n1=>∃ ds,qbM xs=some ds/\Q ds n1:=id rfl
def qqp {l:Nat} {t:TE3} {b:PwE l t}:(iS b).w=λρ n Q=>b.w ρ n λd n1=>∃ ds,qaQ d=some ds/\Q ds n1:=id rfl
def qk8 {l:Nat} {t:TE3} {b:PwE l t}:(iS b).nm=false:=id rfl
def qgz {l:Nat} {t:TI3} {b:PuI t}:(iOf (l:=l) b).nm=b.nm:=id rfl
def qf4 {l:Nat} {t:TE3} {b:PuE t}:(eOf (l:=l) b).nw=b.nw:=id rfl
def qjC {l:Nat} {r:R3} {ta tb:TE3} {R:OpD r} {a:PwE l ta} {b:PwE l tb}:(eO R a b).nw=R.nw:=id rfl
def qbN {l:Nat} {t:TA3} {b:PwA l t} {hn:Tru (Nat.ble b.k 1000)}:(qgj b hn).nw=false:=id rfl
def qgc {l:Nat} {r:List T->Gp->Q3->Prop} {t:TA3} {R:DrD r} {b:PwA l t}:(eDr R b).nw=R.nw:=id rfl
def qkI {l:Nat} {wi:TI3} {g:TG3} {tif:TT3} {te:TE3} {l2:Nat} {pi:PwI l wi} {pg:PuG g} {pc:PwC l2 tif} {pe:PwE l2 te} {m:List (Option Nat)} {hm:Tru (pg.tg.all λi=>m[i]?==some none)} {hl:Tru (m[l2]?==some (some l))}:(eLc l2 pi pg pc pe m hm hl).w=λρ n Q=>pi.w ρ n λds n1=>ds.length<=16777216/\lcW pg.f pc.w pe.w (RQ m ρ) ds n1 λfs n2=>fs.length<=16777216/\Q (.list fs) n2:=id rfl
def qgx {l:Nat} {wi:TI3} {g:TG3} {tif:TT3} {te:TE3} {l2:Nat} {pi:PwI l wi} {pg:PuG g} {pc:PwC l2 tif} {pe:PwE l2 te} {m:List (Option Nat)} {hm:Tru (pg.tg.all λi=>m[i]?==some none)} {hl:Tru (m[l2]?==some (some l))}:(eLc l2 pi pg pc pe m hm hl).nw=true:=id rfl
def qcM {l:Nat}:(K0 (l:=l)).w=λρ n Q=>Q (.nx ρ) n:=id rfl
def qfO {l:Nat} {t u:TS3} {x:PwS l t} {y:PwS l u}:(T9 x y).w=λρ n Q=>x.w ρ n (sqw y.w Q):=id rfl
def NP {b:Rho->Nat->QO->Prop} {Q:QO} {ρ:Rho} {n:Nat}:sqw b Q (.nx ρ) n=b ρ n Q:=id rfl
def qgv {b:Rho->Nat->QO->Prop} {Q:QO} {d:PyData} {f:Bool} {n:Nat}:sqw b Q (.rt d f) n=Q (.rt d f) n:=id rfl
def qmx {l:Nat} {c:TT3} {t u:TS3} {pc:PwC l c} {x:PwS l t} {y:PwS l u}:(wIf pc x y).w=λρ n Q=>pc.w ρ n λk n1=>if k then x.w ρ n1 Q else y.w ρ n1 Q:=id rfl
def qgq {l:Nat} {t:TE3} {x:PwE l t}:(qhy x).w=λρ n Q=>x.w ρ n λd n1=>Q (.rt d x.nw) n1:=id rfl
def qel {l:Nat} {t:TE3} {x:PwE l t} {i:Nat} {m:List Bool} {hm:Tru (x.fv.all (mkb m))} {hl:Tru (!mkb m l&&(i != l&&i != 0))}:(qe3 x i m hm hl).w=λρ n Q=>x.w ρ n λd n1=>Q (.nx (qbR m x.nw i d ρ)) n1:=id rfl
def qcA {l:Nat} {t:TE3} {g:TG3} {x:PwE l t} {pg:PuG g} {m:List Bool} {hm:Tru (x.fv.all (mkb m))} {hl:Tru (!mkb m l&&pg.tg.all (λi=>i != l&&i != 0))}:(qhz x pg m hm hl).w=λρ n Q=>x.w ρ n λd n1=>∃ bs,pg.f d=some bs/\Q (.nx (Q1 (dm m ρ) bs)) n1:=id rfl
def qek {l:Nat} {wi:TI3} {g:TG3} {tb:TS3} {pi:PwI l wi} {pg:PuG g} {pb:PwS l tb} {m:List Bool} {hm:Tru (pi.fv.all (mkb m))} {hl:Tru (!mkb m l&&pg.tg.all (λi=>i != l&&i != 0))}:(qnW pi pg pb m hm hl).w=λρ n Q=>pi.w ρ n λds n1=>qdL pg.f pb.w ds (if pi.nm then ρ else dm m ρ) n1 Q:=id rfl
def qcU {ds:List PyData} {n:Nat} {Q:QD}:DK.W ds n Q=(∃ m:Int,ds=[.int m]/\(1<=m/\m<1073741824)/\n<1000000000/\∀ d:Int,0<=d->d<m->Q (.int d) (n+1)):=id rfl
def RY {ds:List PyData} {n:Nat} {Q:QD}:NX.W ds n Q=(ds=[]/\n<100000/\∀ d:Dl,Dr d 16 16 32->d.dep<=2->Q (Pv.dlD d) (n+1000)):=id rfl
def NU:DK.nw=false:=id rfl
def qny {w:Wm} {fr:Bool}:(dSp w fr).W=w.W:=id rfl
def qcI {Q:QD} {d:PyData} {b:Bool} {n:Nat}:qpZ false Q (.rt d b) n=∃ m,n<=m/\Q d m:=propext ⟨λh=>h.2,λh=>⟨λz=>(y6 z).elim,h⟩⟩
def qgd {ρ:Rho} {n:Nat}:okW (.nx ρ) n=True:=id rfl
def qlh {α:Type} {v:α} {P:α->Prop}:(∃ d,some v=some d/\P d)=P v:=propext ⟨λ⟨d,h1,h2⟩=>by cases h1;exact h2,λh=>⟨v,rfl,h⟩⟩
def qf3 {v:Int} {P:Int->Prop}:(∃ m:Int,[PyData.int v]=[.int m]/\P m)=P v:=propext ⟨λ⟨d,h1,h2⟩=>by cases h1;exact h2,λh=>⟨v,rfl,h⟩⟩
def qfq {m:List Bool} {d:Int×Int} {ρ:Rho}:dmS m (Pv.pD d) ρ=dm m ρ:=id rfl
def X7 {l:Nat} {t u:TS3} {x:PwS l t} {y:PwS l u} {ρ:Rho} {n:Nat} {Q:QO} (h:∀ Y:Rho->Nat->QO->Prop,Y=y.w->x.w ρ n (sqw Y Q)):(T9 x y).w ρ n Q:=h _ rfl
def qcj {ks:List Int} {d:Int} {P:PyData->Prop} (h0:0<=d) (h1:d<(ks.length:Int)) (h:∀ k∈ks,P (.int k)):∃ v,L2.atI (ks.map PyData.int) d=some v/\P v:=by
 obtain ⟨i,rfl⟩:=Int.eq_ofNat_of_zero_le h0;have hi:i<ks.length:=by omega
 refine ⟨.int ks[i],?_,h _ (za0 hi)⟩;have:=atN (xs:=ks.map PyData.int) (k:=i) (by simpa using hi);rw [getElem?_map,y9 hi] at this;exact this
structure Mn (bw:Rho->Nat->QO->Prop):Prop where
 h:∀ ρ n (Q Q':QO),bw ρ n Q->(∀ o m,Q o m->Q' o m)->bw ρ n Q'
def PwS.mn {l:Nat} {t:TS3} (b:PwS l t):Mn b.w:=⟨λ_ _ _ _ h k=>b.mono h k⟩
structure MnE (bw:Rho->Nat->QD->Prop):Prop where
 h:∀ ρ n (Q Q':QD),bw ρ n Q->(∀ o m,Q o m->Q' o m)->bw ρ n Q'
def PwE.mn {l:Nat} {t:TE3} (b:PwE l t):MnE b.w:=⟨λ_ _ _ _ h k=>b.mono h k⟩
structure MnC (bw:Rho->Nat->(Bool->Nat->Prop)->Prop):Prop where
 h:∀ ρ n (Q Q':Bool->Nat->Prop),bw ρ n Q->(∀ o m,Q o m->Q' o m)->bw ρ n Q'
def mnT:MnC (λρ n Q=>Q true n):=⟨λ_ _ _ _ h k=>k _ _ h⟩
section
variable {l:Nat} {g:TG3} {tb:TS3}
def TY {gf:PyData->Option (List (Nat×PyData))} {bw:Rho->Nat->QO->Prop} {α:Type} {f:α->PyData} (xs:List α) (mono:Mn bw) (I:Nat->Rho->Nat->Prop) {ρ:Rho} {n:Nat} {Q:QO} (h0:I 0 ρ n)
  (hs:∀ i x ρ n,xs[i]?=some x->I i ρ n->∃ bs,gf (f x)=some bs/\bw (Q1 ρ bs) n λo m=>match o with|.nx ρ'=>I (i+1) ρ' m|.ct ρ'=>I (i+1) ρ' m|.bk ρ'=>Q (.nx ρ') m|.rt d b=>Q (.rt d b) m)
  (k:∀ ρ n,I xs.length ρ n->Q (.nx ρ) n):qdL gf bw (xs.map f) ρ n Q:=by
 have key:∀ (r:List α) (i:Nat) (ρ:Rho) (n:Nat),xs.drop i=r->i<=xs.length->I i ρ n->qdL gf bw (r.map f) ρ n Q:=by
  intro r;induction r with
  |nil=>
   intro i ρ n e hi h;have:i=xs.length:=by
    have:=congrArg List.length e;simp at this;omega
   subst this;exact k ρ n h
  |cons x r ih=>
   intro i ρ n e hi h;have hl:i<xs.length:=by
    have:=congrArg List.length e;simp at this;omega
   have e':=List.drop_eq_getElem_cons hl;rw [e] at e';injection e' with e1 e2;obtain ⟨bs,h1,h2⟩:=hs i x ρ n (by rw [y9 hl,e1]) h;refine ⟨bs,h1,mono.h _ _ _ _ h2 λo m h=>?_⟩;cases o with
   |nx ρ'=>exact ih (i+1) ρ' m e2.symm hl h
   |ct ρ'=>exact ih (i+1) ρ' m e2.symm hl h
   |bk ρ'=>exact h
   |rt d b=>exact h
 exact key xs 0 ρ n (by simp) (Nat.zero_le _) h0
def SY {gf:PyData->Option (List (Nat×PyData))} {cw:Rho->Nat->(Bool->Nat->Prop)->Prop} {ew:Rho->Nat->QD->Prop} {α β:Type} {f:α->PyData} {gd:β->PyData} {ρ:Rho} (R:β->Prop) (c:Nat) (N:Nat):∀ (xs:List α) (n:Nat) (Q:List PyData->Nat->Prop),
  (∀ x∈xs,∀ n Q,n+c<=N->(∀ b,R b->Q (gd b) (n+c))->∃ bs,gf (f x)=some bs/\cw (Q1 ρ bs) n λk n1=>if k then ew (Q1 ρ bs) n1 Q else False) ->
  MnE ew->MnC cw->n+c*xs.length<=N->(∀ bs:List β,bs.length=xs.length->(∀ b∈bs,R b)->Q (bs.map gd) (n+c*xs.length))->lcW gf cw ew ρ (xs.map f) n Q
 |[],n,Q,_,_,_,_,h=>h [] rfl (by simp)
 |x::xs,n,Q,hx,me,mc,hn,h=>by
  have hc:c*(xs.length+1)=c*xs.length+c:=by rw [Nat.mul_succ]
  simp only [length_cons] at hn h;obtain ⟨bs,h1,h2⟩:=hx x (by simp) n (λy n2=>lcW gf cw ew ρ (xs.map f) n2 λys n3=>Q (y::ys) n3) (by omega) λb hb=>by
   refine SY R c N xs (n+c) _ (λz hz=>hx z (by simp [hz])) me mc (by omega) λcs hl hr=>?_;have:=h (b::cs) (by simp [hl]) (by intro z hz;rcases mem_cons.mp hz with rfl|hz;exact hb;exact hr z hz);rw [show n+c*(xs.length+1)=n+c+c*xs.length by omega] at this;exact this
  refine ⟨bs,h1,mc.h _ _ _ _ h2 λk m hk=>?_⟩;cases k with
  |true=>exact hk
  |false=>exact hk.elim
end
def qbd {α β:Type} {x:α} {f:α->Option β}:(some x).bind f=f x:=id rfl
def qge {α β:Type} {x:α} {f:α->β}:(some x).map f=some (f x):=id rfl
def qiI {α:Type} {x:α} {r:List α}:(x::r).length=r.length+1:=id rfl
def qjw {α:Type}:([]:List α).length=0:=id rfl
def qmB {α:Type} {x y:α} {r:List α}:(x::r).set 0 y=y::r:=id rfl
def qm1 {α:Type} {x y:α} {r:List α} {i:Nat}:(x::r).set (i+1) y=x::r.set i y:=id rfl
def qjm {α:Type} {r:List α}:r++[]=r:=List.append_nil r
def qlD {α:Type} {x:α} {r s:List α}:(x::r)++s=x::(r++s):=id rfl
def qlz {α:Type} {s:List α}:[]++s=s:=id rfl
def qjF {n:Nat}:0+n=n:=Nat.zero_add n
def qjD {p:Prop}:(True/\p)=p:=true_and p
def qjW {α:Type} {a b:α} {i:Decidable True}:@ite α True i a b=a:=if_pos trivial
def qka {α:Type} {a b:α} {i:Decidable False}:@ite α False i a b=b:=if_neg not_false
def qiT:(false=true)=False:=Bool.false_eq_true
def qmW:(!true)=false:=id rfl
def qlj:(!false)=true:=id rfl
def qks {i:Decidable True}:@decide True i=true:=decide_true i
def qmL {i:Decidable False}:@decide False i=false:=decide_false i
def qlm {b:Bool}:(true||b)=true:=Bool.true_or b
def qkx {b:Bool}:(false||b)=b:=Bool.false_or b
def ai{a b:Prop}(x:a)(y:b):a/\b:=⟨x,y⟩
def pwA:=(ai (ai (ai (ai (ai (ai (ai @Pu.qkU @Pu.qiP) (ai @Pu.qkc (ai @Pu.qkd @Pu.qqT))) (ai (ai @Pu.qa6 @Pu.qeF) (ai @Pu.qco (ai @Pu.qi6 @Pu.qql)))) (ai (ai (ai @Pu.qqp @Pu.qk8) (ai @Pu.qgz (ai @Pu.qf4 @Pu.qjC))) (ai (ai @Pu.qbN @Pu.qgc) (ai @Pu.qkI (ai @Pu.qgx @Pu.qcM))))) (ai (ai (ai (ai @Pu.qfO @Pu.NP) (ai @Pu.qgv (ai @Pu.qmx @Pu.qgq))) (ai (ai @Pu.qel @Pu.qcA) (ai @Pu.qek (ai @Pu.qcU @Pu.RY)))) (ai (ai (ai @Pu.NU @Pu.qny) (ai @Pu.qcI (ai @Pu.qgd @Pu.qf3))) (ai (ai @Pu.qfq (ai @Pu.ql1 @Pu.qqD)) (ai @Pu.qey (ai @Pu.qm6 @Pu.qfE)))))) (ai (ai (ai (ai (ai @Pu.qqQ @Pu.qgn) (ai @Pu.qcP (ai @Pu.qeh @Pu.qeA))) (ai (ai @Pu.qb7 @Pu.qjt) (ai @Pu.qnr (ai @Pu.qfN @Pu.qkF)))) (ai (ai (ai @Pu.qew @Pu.qnd) (ai @Pu.qem (ai @Pu.qgl @Pu.qb5))) (ai (ai @Pu.ql2 @Pu.qfs) (ai @Pu.qeC (ai @Pu.qfh @Pu.qa9))))) (ai (ai (ai (ai @Pu.qll @Pu.qkr) (ai @Pu.qgb (ai @Pu.qfB @Pu.qb4))) (ai (ai @Pu.qag @Pu.qgH) (ai @Pu.qef (ai @Pu.qb9 @Pu.qci)))) (ai (ai (ai @Pu.N6 @Pu.qbW) (ai @Pu.qqg (ai @Pu.qes @Pu.qbk))) (ai (ai @Pu.qgy (ai @Pu.qch @Pu.qfH)) (ai @Pu.qjY (ai @Pu.qeN @Pu.qbX))))))) (ai (ai (ai (ai (ai (ai @Pu.qgf @Pu.qcb) (ai @Pu.qfV (ai @Pu.qcl @Pu.qfa))) (ai (ai @Pu.qgD @Pu.qnL) (ai @Pu.qbT (ai @Pu.qce @Pu.NO)))) (ai (ai (ai @Pu.NJ @Pu.qcu) (ai @Pu.qgC (ai @Pu.qbB @Pu.qcG))) (ai (ai @Pu.qbw @Pu.NE) (ai @Pu.qa8 (ai @Pu.qqk @Pu.qqo))))) (ai (ai (ai (ai @Pu.qmK @Pu.qjq) (ai @Pu.qm3 (ai @Pu.qbe @Pu.qfT))) (ai (ai @Pu.qlw @Pu.qm9) (ai @Pu.at0 (ai @Pu.at1 @Pu.eqS)))) (ai (ai (ai @Pu.eqI @Pu.qqj) (ai @Pu.qfj (ai @Pu.qgI @Pu.qgm))) (ai (ai @Pu.qa3 (ai @Pu.qeD @Pu.qbK)) (ai @Pu.qm0 (ai @Pu.qkL @Pu.qev)))))) (ai (ai (ai (ai (ai @Pu.qfK @Pu.qgA) (ai @Pu.qfY (ai @Pu.qjk @Pu.qnx))) (ai (ai @Pu.qmQ @Pu.qkW) (ai @Pu.qfC (ai @Pu.qke @Pu.qqV)))) (ai (ai (ai @Pu.qqi @Pu.qqc) (ai @Pu.qkH (ai @Pu.qi8 @Pu.qjv))) (ai (ai @Pu.qmy (ai @Pu.qqd @Pu.qgJ)) (ai @Pu.qgK (ai @Pu.qe6 @Pu.qf8))))) (ai (ai (ai (ai @Pu.qlh @Pu.qbd) (ai @Pu.qge (ai @Pu.qiI @Pu.qjw))) (ai (ai @Pu.qmB @Pu.qm1) (ai @Pu.qjm (ai @Pu.qlD @Pu.qlz)))) (ai (ai (ai @Pu.qjF @Pu.qjD) (ai @Pu.qjW (ai @Pu.qka @Pu.qiT))) (ai (ai @Pu.qmW (ai @Pu.qlj @Pu.qks)) (ai @Pu.qmL (ai @Pu.qlm @Pu.qkx))))))))
end Pu
namespace Bk
open PySem L2 L3
end Bk
namespace Pu
open PySem L2 L3
open Bk (Lf Ext Dl Dr)
def MB {H:Gp} {xs:List T} {d:PyData} {ds:List PyData} (h:Dqs H xs (d::ds)):∃ x r,xs=x::r/\Dq H x d/\Dqs H r ds:=by
 cases h with
 |cons a b=>exact ⟨_,_,rfl,a,b⟩
def qax {H:Gp} {xs:List T} (h:Dqs H xs []):xs=[]:=by cases h;rfl
def qru {H:Gp} {x:T} {i:Int} (h:Dq H x (.int i)):x=.int i:=by cases h;rfl
def qrq {H:Gp} {x:T} {i:Str} (h:Dq H x (.str i)):x=.str i:=by cases h;rfl
def qeK {H:Gp} {x:T} {ds:List PyData} (h:Dq H x (.tuple ds)):∃ xs,x=.tup xs/\Dqs H xs ds:=by
 cases h with
 |tup a=>exact ⟨_,rfl,a⟩
def W1 {H:Gp} {xs:List T} {i:Int} {ds:List PyData} (h:Dqs H xs (.int i::ds)):∃ r,xs=.int i::r/\Dqs H r ds:=by
 obtain ⟨x,r,rfl,a,b⟩:=MB h;exact ⟨r,by rw [qru a],b⟩
def qcL {H:Gp} {xs:List T} {i:Str} {ds:List PyData} (h:Dqs H xs (.str i::ds)):∃ r,xs=.str i::r/\Dqs H r ds:=by
 obtain ⟨x,r,rfl,a,b⟩:=MB h;exact ⟨r,by rw [qrq a],b⟩
def qhr {H:Gp}:∀ (cs:List (List Int)) {xs:List T},Dqs H xs (cs.map Pv.qdP)->xs=cs.map Bk.M1:=by
 intro cs;induction cs with
 |nil=>intro xs h;exact qax h
 |cons r cs ih=>
  intro xs h;obtain ⟨x,t,rfl,a,b⟩:=MB h;obtain ⟨ys,rfl,a1⟩:=qeK a;rw [ih b,Dqs.ints a1];rfl
def qdp {H:Gp} (d:Dl):∀ {x:T},Dq H x (Pv.dlD d)->x=d.t:=by
 induction d with
 |skew r c b x y=>
  intro z h0;obtain ⟨_,rfl,h1⟩:=qeK h0;obtain ⟨_,rfl,h2⟩:=qcL h1;obtain ⟨_,rfl,h3⟩:=W1 h2;obtain ⟨_,rfl,h4⟩:=W1 h3;obtain ⟨_,rfl,h5⟩:=W1 h4;obtain ⟨_,rfl,h6⟩:=W1 h5;obtain ⟨_,rfl,h7⟩:=W1 h6;rw [qax h7];rfl
 |rests r c b p=>
  intro z h0;obtain ⟨_,rfl,h1⟩:=qeK h0;obtain ⟨_,rfl,h2⟩:=qcL h1;obtain ⟨_,rfl,h3⟩:=W1 h2;obtain ⟨_,rfl,h4⟩:=W1 h3;obtain ⟨_,rfl,h5⟩:=W1 h4;obtain ⟨_,rfl,h6⟩:=W1 h5;rw [qax h6];rfl
 |bits hh l ms=>
  intro z h0;obtain ⟨_,rfl,h1⟩:=qeK h0;obtain ⟨_,rfl,h2⟩:=qcL h1;obtain ⟨_,rfl,h3⟩:=W1 h2;obtain ⟨_,rfl,h4⟩:=W1 h3;obtain ⟨_,_,rfl,a0,h5⟩:=MB h4;obtain ⟨_,rfl,a1⟩:=qeK a0;rw [qax h5,Dqs.ints a1];rfl
 |table b cells=>
  intro z h0;obtain ⟨_,rfl,h1⟩:=qeK h0;obtain ⟨_,rfl,h2⟩:=qcL h1;obtain ⟨_,rfl,h3⟩:=W1 h2;obtain ⟨_,_,rfl,a0,h4⟩:=MB h3;obtain ⟨_,rfl,a1⟩:=qeK a0;rw [qax h4,qhr cells a1];rfl
 |joined d e ih1 ih2=>
  intro z h0;obtain ⟨_,rfl,h1⟩:=qeK h0;obtain ⟨_,rfl,h2⟩:=qcL h1;obtain ⟨_,_,rfl,a0,h3⟩:=MB h2;obtain ⟨_,_,rfl,b0,h4⟩:=MB h3;rw [qax h4,ih1 a0,ih2 b0];rfl
def qcZ:∀ (a b:Int),PyData.int a=PyData.int b->a=b:=λ_ _ h=>by injection h
def qhE:∀ (a b:List Int),Pv.qdP a=Pv.qdP b->a=b:=λa b h=>by
 unfold Pv.qdP at h;injection h with h;exact (List.map_inj_right qcZ).mp h
def KN:∀ (d e:Dl),Pv.dlD d=Pv.dlD e->d=e
 |.skew ..,.skew ..,h=>by simp [Pv.dlD] at h;simp [h]
 |.rests ..,.rests ..,h=>by simp [Pv.dlD] at h;simp [h]
 |.bits _ _ ms,.bits _ _ ns,h=>by
  simp only [Pv.dlD,PyData.tuple.injEq,List.cons.injEq,PyData.int.injEq,and_true,true_and,Int.natCast_inj] at h;have:=(List.map_inj_right qcZ).mp h.2.2;simp [h.1,h.2.1,this]
 |.table _ cs,.table _ es,h=>by
  simp only [Pv.dlD,PyData.tuple.injEq,List.cons.injEq,PyData.int.injEq,and_true,true_and] at h;have:=(List.map_inj_right qhE).mp h.2;simp [h.1,this]
 |.joined d e,.joined d' e',h=>by
  simp only [Pv.dlD,PyData.tuple.injEq,List.cons.injEq,and_true,true_and] at h;rw [KN d d' h.1,KN e e' h.2]
 |.skew ..,.rests ..,h=>by simp [Pv.dlD] at h
 |.skew ..,.bits ..,h=>by simp [Pv.dlD] at h
 |.skew ..,.table ..,h=>by simp [Pv.dlD] at h
 |.skew ..,.joined ..,h=>by simp [Pv.dlD] at h
 |.rests ..,.skew ..,h=>by simp [Pv.dlD] at h
 |.rests ..,.bits ..,h=>by simp [Pv.dlD] at h
 |.rests ..,.table ..,h=>by simp [Pv.dlD] at h
 |.rests ..,.joined ..,h=>by simp [Pv.dlD] at h
 |.bits ..,.skew ..,h=>by simp [Pv.dlD] at h
 |.bits ..,.rests ..,h=>by simp [Pv.dlD] at h
 |.bits ..,.table ..,h=>by simp [Pv.dlD] at h
 |.bits ..,.joined ..,h=>by simp [Pv.dlD] at h
 |.table ..,.skew ..,h=>by simp [Pv.dlD] at h
 |.table ..,.rests ..,h=>by simp [Pv.dlD] at h
 |.table ..,.bits ..,h=>by simp [Pv.dlD] at h
 |.table ..,.joined ..,h=>by simp only [Pv.dlD,PyData.tuple.injEq,List.cons.injEq,PyData.str.injEq] at h;exact absurd h.1 (by decide)
 |.joined ..,.skew ..,h=>by simp [Pv.dlD] at h
 |.joined ..,.rests ..,h=>by simp [Pv.dlD] at h
 |.joined ..,.bits ..,h=>by simp [Pv.dlD] at h
 |.joined ..,.table ..,h=>by simp only [Pv.dlD,PyData.tuple.injEq,List.cons.injEq,PyData.str.injEq] at h;exact absurd h.1 (by decide)
def the (S:PyData->Prop):Option PyData:=@dite _ (∃ v,S v) (Classical.propDecidable _) (λh=>some (Classical.choose h)) λ_=>none
def XJ {S:PyData->Prop} {v:PyData} (h:the S=some v):S v:=by
 unfold the at h;split at h
 ·rename_i e;cases h;exact Classical.choose_spec e
 ·cases h
def qbj {S:PyData->Prop} {v:PyData} (h:S v) (u:∀ w,S w->w=v):the S=some v:=by
 unfold the;rw [dif_pos ⟨v,h⟩];exact congrArg some (u _ (Classical.choose_spec (⟨v,h⟩:∃ v,S v)))
def siz (d:Dl):PyData:=.tuple [.int d.R,.int d.C,.int d.B]
def qe4 (G:Gp) (d:Dl):Dq G (Bk.W6 d) (siz d):=.tup (.cons (.int _) (.cons (.int _) (.cons (.int _) .nil)))
def SzR (n:Nat) (ds:List PyData) (v:PyData):Prop:=∃ d:Dl,ds=[Pv.dlD d]/\d.dep<=n/\d.Ok/\v=siz d
def fSz (n:Nat):FnD (Bk.jk (n+1)):=⟨λds=>the (SzR n ds),false,λ{D G xs ds v q} hx hd hf k=>by
 obtain ⟨d,rfl,h1,h2,rfl⟩:=XJ hf;cases hx with
 |cons a b=>
  cases b;have:=qdp d a;subst this;exact ⟨d,rfl,h1,h2,k _ _ Ex.refl (qe4 _ d) (λz=>by cases z)⟩⟩
def qqE (n:Nat):FnD (Bk.j6 (n+1)):=⟨λds=>the (SzR n ds),false,λ{D G xs ds v q} hx hd hf k=>by
 obtain ⟨d,rfl,h1,h2,rfl⟩:=XJ hf;cases hx with
 |cons a b=>
  cases b;have:=qdp d a;subst this;exact ⟨d,rfl,h1,h2,λG' E=>k _ _ E (qe4 _ d) (λz=>by cases z)⟩⟩
def qhS {n:Nat} {d:Dl} (h1:d.dep<=n) (h2:d.Ok):the (SzR n [Pv.dlD d])=some (siz d):=qbj ⟨d,rfl,h1,h2,rfl⟩ λw ⟨e,a,_,_,b⟩=>by
 injection a with a;rw [b,KN d e a]
def qkp {n:Nat}:(fSz n).f=λds=>the (SzR n ds):=id rfl
def qjK {n:Nat}:(qqE n).f=λds=>the (SzR n ds):=id rfl
def BkR (n:Nat) (ds:List PyData) (v:PyData):Prop:=∃ (d:Dl) (i j:Int),ds=[Pv.dlD d,.tuple [.int i,.int j]]/\d.dep<=n/\d.Ok/\Bk.Inn d i j/\v=.int (d.bank i j)
def fBk (n:Nat):FnD (Bk.qai n):=⟨λds=>the (BkR n ds),false,λ{D G xs ds v q} hx hd hf k=>by
 obtain ⟨d,i,j,rfl,h1,h2,h3,rfl⟩:=XJ hf;cases hx with
 |cons a b=>cases b with
  |cons c b=>
   cases b;have:=qdp d a;subst this;cases c with
   |tup hs=>cases hs with
    |cons x hs=>cases hs with
     |cons y hs=>
      cases hs;cases x;cases y;exact ⟨d,i,j,rfl,h1,h2,h3,λG' E=>k _ _ E (.int _) (λz=>by cases z)⟩⟩
def qmg {n:Nat} {d:Dl} {i j:Int} (h1:d.dep<=n) (h2:d.Ok) (h3:Bk.Inn d i j):the (BkR n [Pv.dlD d,.tuple [.int i,.int j]])=some (.int (d.bank i j)):=qbj ⟨d,i,j,rfl,h1,h2,h3,rfl⟩ λw ⟨e,i',j',a,_,_,_,b⟩=>by
 simp only [List.cons.injEq,PyData.tuple.injEq,PyData.int.injEq,and_true] at a;rw [b,KN d e a.1,a.2.1,a.2.2]
def LbR (n:Nat) (ds:List PyData) (v:PyData):Prop:=∃ (d:Dl) (i j:Int),ds=[Pv.dlD d,.int i,.int j]/\d.dep<=n/\d.Ok/\Bk.Inn d i j/\v=.int (d.bank i j)
def qoB (n:Nat):FnD (Bk.ZK (n+1)):=⟨λds=>the (LbR n ds),false,λ{D G xs ds v q} hx hd hf k=>by
 obtain ⟨d,i,j,rfl,h1,h2,h3,rfl⟩:=XJ hf;cases hx with
 |cons a b=>cases b with
  |cons x b=>cases b with
   |cons y b=>
    cases b;have:=qdp d a;subst this;cases x;cases y;exact ⟨d,i,j,rfl,h1,h2,h3,λG' E=>k _ _ E (.int _) (λz=>by cases z)⟩⟩
def qpY {n:Nat} {d:Dl} {i j:Int} (h1:d.dep<=n) (h2:d.Ok) (h3:Bk.Inn d i j):the (LbR n [Pv.dlD d,.int i,.int j])=some (.int (d.bank i j)):=qbj ⟨d,i,j,rfl,h1,h2,h3,rfl⟩ λw ⟨e,i',j',a,_,_,_,b⟩=>by
 simp only [List.cons.injEq,PyData.int.injEq,and_true] at a;rw [b,KN d e a.1,a.2.1,a.2.2]
def qjh {n:Nat}:(qoB n).f=λds=>the (LbR n ds):=id rfl
end Pu
namespace Pu
open PySem L2 L3
open Bk (Lf Ext Dl Dr SD SDs Q7 qW U9 Z8 RJ TN TJ)
def qil:∀ d:Dl,d.Ok->SD (d.dep+4) (8000*4 ^ d.dep) (Pv.dlD d)
 |.skew r c b x y,ok=>by
  simp only [Dl.Ok] at ok;refine (Q7 (k:=2) (n:=20) ?_).mono (by simp [Dl.dep]) (by simp [Dl.dep]);refine qW (RJ (n:=4) 2 (by decide) (by decide)) (m:=15) (qW (n:=0) (m:=12) (Z8 _ _ (by omega)) (qW (n:=0) (m:=9) (Z8 _ _ (by omega)) (qW (n:=0) (m:=6) (Z8 _ _ (by omega)) (qW (n:=0) (m:=3) (Z8 _ _ (by omega)) (qW (n:=0) (m:=0) (Z8 _ _ (by omega)) (U9 _ _) (by omega)) (by omega)) (by omega)) (by omega)) (by omega)) (by omega)
 |.rests r c b p,ok=>by
  simp only [Dl.Ok] at ok;refine (Q7 (k:=2) (n:=20) ?_).mono (by simp [Dl.dep]) (by simp [Dl.dep]);refine qW (RJ (n:=5) 2 (by decide) (by decide)) (m:=12) (qW (n:=0) (m:=9) (Z8 _ _ (by omega)) (qW (n:=0) (m:=6) (Z8 _ _ (by omega)) (qW (n:=0) (m:=3) (Z8 _ _ (by omega)) (qW (n:=0) (m:=0) (Z8 _ _ (by omega)) (U9 _ _) (by omega)) (by omega)) (by omega)) (by omega)) (by omega)
 |.bits h l ms,ok=>by
  simp only [Dl.Ok] at ok;have p8:(2:Int) ^ (h+l)<=2 ^ 8:=by
   have:=Nat.pow_le_pow_right (n:=2) (by omega) (show h+l<=8 by omega);have e1:((2 ^ (h+l):Nat):Int)=2 ^ (h+l):=by simp
   have e2:((2 ^ 8:Nat):Int)=2 ^ 8:=by simp
   omega
  have e:(2:Int) ^ 8=256:=by decide
  refine (Q7 (k:=2) (n:=30) ?_).mono (by simp [Dl.dep]) (by simp [Dl.dep]);refine qW (RJ (n:=4) 2 (by decide) (by decide)) (m:=16) (qW (n:=0) (m:=12) (Z8 _ _ (by omega)) (qW (n:=0) (m:=8) (Z8 _ _ (by omega)) (qW (n:=ms.length) (m:=0) (Q7 (k:=1) (TN λm hm=>by have:=ok.2.2.2 m hm;omega)) (U9 _ _) (by omega)) (by omega)) (by omega)) (by omega)
 |.table b cells,ok=>by
  obtain ⟨b1,b2,l1,l2,c,c1,c2,hc⟩:=ok;have rows:SDs 2 (cells.length*(60+1)) (cells.map Pv.qdP):=by
   have:=TJ (k:=2) (n:=60) (ds:=cells.map Pv.qdP) (λd hd=>by
    obtain ⟨r,hr,rfl⟩:=mem_map.mp hd;have h:=hc r hr;exact (Q7 (k:=1) (TN λm hm=>by have:=h.2 m hm;omega)).mono (by omega) (by rw [h.1];exact c2))
   rwa [length_map] at this
  refine (Q7 (k:=3) (n:=4000) ?_).mono (by simp [Dl.dep]) (by simp [Dl.dep]);refine qW (RJ (n:=5) 3 (by decide) (by decide)) (m:=3900) (qW (n:=0) (m:=3800) (Z8 _ _ (by omega)) (qW (n:=cells.length*(60+1)) (m:=0) (Q7 (k:=2) rows) (U9 _ _) (by omega)) (by omega)) (by omega)
 |.joined d e,ok=>by
  simp only [Dl.Ok] at ok;have a:=qil d ok.1;have b:=qil e ok.2.1;have m1:4 ^ d.dep<=4 ^ max d.dep e.dep:=Nat.pow_le_pow_right (by omega) (Nat.le_max_left ..);have m2:4 ^ e.dep<=4 ^ max d.dep e.dep:=Nat.pow_le_pow_right (by omega) (Nat.le_max_right ..);have p0:1<=4 ^ max d.dep e.dep:=Nat.pow_pos (by omega);show SD (max d.dep e.dep+1+4) (8000*4 ^ (max d.dep e.dep+1)) (.tuple [.str "joined",Pv.dlD d,Pv.dlD e]);rw [Nat.pow_succ];generalize 4 ^ max d.dep e.dep=P at m1 m2 p0;generalize hM:max d.dep e.dep=M;have d1:d.dep<=M:=by rw [← hM];exact Nat.le_max_left ..
  have d2:e.dep<=M:=by rw [← hM];exact Nat.le_max_right ..
  refine Q7 (k:=M+4) ?_;exact qW (n:=6) (m:=16000*P+10) (RJ _ _ (by decide) (by decide)) (qW (n:=8000*P) (m:=8000*P+5) (a.mono (by omega) (by omega)) (qW (n:=8000*P) (m:=0) (b.mono (by omega) (by omega)) (U9 _ _) (by omega)) (by omega)) (by omega)
end Pu
namespace Pu
open PySem L2 L3
def qbq (st:Bool):List PyData->Option PyData
 |[.none]=>some (.str "None")
 |[.bool b]=>some (.str (if b=true then Str.ofString "True" else Str.ofString "False"))
 |[.int i]=>cif (i.natAbs.log2<1920) (some (.str (Str.ofString (toString i)))) none
 |[.str x]=>match st with
  |true=>some (.str x)
  |false=>cif ((reprText x).length<=sizeLine) (some (.str (reprText x))) none
 |[.list ds]=>cif (ShW (.list ds)) (some (.str (PyData.list ds).shown)) none
 |[.tuple ds]=>cif (ShW (.tuple ds)) (some (.str (PyData.tuple ds).shown)) none
 |_=>none
def VV {α:Type} {c:Prop} {x:α} {d:α} (h:cif c (some x) none=some d):c/\x=d:=by
 unfold cif at h;split at h
 ·rename_i z;exact ⟨z,Option.some.inj h⟩
 ·cases h
def qdd (st:Bool):FnD (MG st):=⟨qbq st,false,λ{D G xs ds v q} hx hd hf k=>by
 cases hx with
 |nil=>cases hf
 |cons a b=>
  cases b with
  |cons b1 b2=>cases a<;>cases hf
  |nil=>
   have dp:=(a.up V3).dp;have fin:∀ (x:Str) {w:PyData},w=v->w=.str x->q (.str x) G:=λx w e1 e2=>k _ _ Ex.refl (by rw [← e1,e2];exact .str _) (λz=>by cases z);cases a with
   |non=>exact fin _ (Option.some.inj hf) rfl
   |bl b=>exact fin _ (Option.some.inj hf) rfl
   |int i=>exact ⟨(VV hf).1,fin _ (VV hf).2 rfl⟩
   |str x=>
    cases st with
    |true=>exact fin _ (Option.some.inj hf) rfl
    |false=>exact ⟨(VV hf).1,fin _ (VV hf).2 rfl⟩
   |tup hs=>exact ⟨_,dp,(VV hf).1,fin _ (VV hf).2 rfl⟩
   |lst g hs=>exact ⟨_,dp,(VV hf).1,fin _ (VV hf).2 rfl⟩⟩
def MN {st:Bool}:(qdd st).f=qbq st:=id rfl
def TD {st:Bool}:(qdd st).nw=false:=id rfl
def qiN {st:Bool} {ds:List PyData} (h:ShW (.tuple ds)):qbq st [.tuple ds]=some (.str (PyData.tuple ds).shown):=jy h
def qbr {α:Type} (g:α->PyData) (xs:List α):∀ k,enD k (xs.map g)=(xs.zipIdx k).map λp=>PyData.tuple [.int (p.2:Int),g p.1]:=by
 induction xs with
 |nil=>intro k;rfl
 |cons x xs ih=>intro k;simp only [map_cons,enD,List.zipIdx_cons,ih (k+1)]
def R7 {α:Type} {xs:List α} {i n:Nat} {x:α} (h:(xs.zipIdx 0)[i]?=some (x,n)):xs[i]?=some x/\n=i/\i<xs.length:=by
 rw [List.getElem?_zipIdx] at h;obtain ⟨c,hc,e⟩:=za3 h;simp only [Nat.zero_add,Prod.mk.injEq] at e;obtain ⟨rfl,rfl⟩:=e;exact ⟨hc,rfl,(za4 hc).1⟩
def qnN:List PyData->Option PyData
 |[.int x,.int y]=>cif (0<=x/\0<=y) (some (.int (Int.gcd x y:Nat))) none
 |_=>none
def qqm:FnD Bk.Q8:=⟨qnN,false,λ{D G xs ds v q} hx hd hf k=>by
 cases hx with
 |nil=>cases hf
 |cons a b=>
  cases b with
  |nil=>cases a<;>cases hf
  |cons b c=>
   cases c with
   |cons _ _=>cases a<;>cases b<;>cases hf
   |nil=>
    cases a<;>cases b<;>try (cases hf;done)
    rename_i x y;unfold qnN cif at hf;simp only at hf;split at hf
    ·rename_i z;cases hf;exact ⟨x,y,rfl,z.1,z.2,k _ _ Ex.refl (.int _) (λz=>by cases z)⟩
    ·cases hf⟩
def qlS:qqm.f=qnN:=id rfl
def qjA {xs ys:List PyData} (h:xs.length+ys.length<=16777216):qgS (.list xs) (.list ys)=some (.list (xs++ys)):=jy (by rw [y8];exact h)
open Bk (Lf Ext)
def RS.unk {D:Addr->Prop} {G0 G:Gp} {A:Nat->Addr->Prop} {τ:St3} {ρ:Rho} (h:RS D G0 A τ ρ G) (s:Nat) (t:Option T):RS D G0 A (τ.set s t) (ρ.set s .un) G:=by
 refine ⟨h.ex,h.dm,h.fr,h.da,h.inj,by rw [List.length_set,List.length_set];exact h.len,λi d x=>?_⟩;rw [getElem?_set] at x;split at x
 ·split at x<;>cases x
  trivial
 ·rename_i c;rw [getElem?_set,if_neg c];exact h.sl i d x
end Pu
namespace Pu
open PySem L2 L3
section
variable {D:Addr->Prop} {G0 G G':Gp} {A A':Nat->Addr->Prop} {τ:St3} {ρ:Rho}
end
def qbl {H H':Gp}:∀ {xs:List T} {ds:List PyData},Dqs H xs ds->ds.all qc3=true->Dqs H' xs ds
 |_,_,.nil,_=>.nil
 |_,_,.cons a b,h=>by
  rw [List.all_cons,Bool.and_eq_true] at h;exact .cons (LS a h.1) (qbl b h.2)
def fBi (n:Nat):FnD (Bk.J0 (n+1)):=fBk n
def qp7 {n:Nat}:(fBi n).f=λds=>the (BkR n ds):=id rfl
open Bk (Lf Ext)
end Pu
namespace Pu
open PySem L2 L3
open Bk (Dl)
end Pu
namespace Pv
open PySem L2 L3 Pu
def qdr {lo:Int} {n i:Nat} {x:Int} (h:(J7 lo n)[i]?=some x):i<n/\x=lo+i:=by
 unfold J7 at h;rw [getElem?_map] at h;obtain ⟨k,e1,e2⟩:=za3 h;obtain ⟨hl,hk⟩:=za4 e1;simp at hl hk;subst hk;exact ⟨hl,e2.symm⟩
def ji (lo:Int) (n:Nat):(J7 lo n).length=n:=by simp [J7]
open Bk (Dl)
end Pv
namespace Pv
open PySem L2 L3 Pu
open Bk (pop qar YN DA XE XF Dl zJ UG Q9 UK)
end Pv
namespace Pv
open PySem L2 L3 Pu
open Bk (pop qar YN DA XE XF Dl)
end Pv
namespace Pv
open PySem L2 L3 Pu
open Bk (pop qar YN DA Dl)
end Pv
namespace Hd
open PySem L2 L3 PySem.W
def inC:Stmt->Stmt
 |.ClassDef _ _ _ (b::_) _ _ _ _ _ _ _=>b
 |s=>s
def oF (x:Str) (st:Stmt) (pm cd:Value):Obj:=⟨.type "function",none,.func (PySem.W.fnOf x x (zi st) (qO st) (qi st) .none .none .none pm none cd .none),#[]⟩
def oG (x:Str) (st:Stmt):Obj:=⟨.none,none,.func { name:=x,qualname:=x,params:=zi st,body:=.stmts (qO st),scope:=qi st,globals:=0,closure:=[],defaults:=.none,kwdefaults:=.none },#[]⟩
def oC (vs:List Value):Obj:=⟨.type "code",none,.fields vs.toArray,#[]⟩
def oT (vs:List Value):Obj:=⟨.type "tuple",none,.seq vs.toArray 0,#[]⟩
def eD (P:Params):Value×Value->DictEntry
 | (.str x t,v)=>⟨PyData.keyHash P x,.str x t,v⟩
 | (u,v)=>⟨0,u,v⟩
def oD (P:Params) (n:Nat) (es:List (Value×Value)):Obj:=⟨.type "dict",none,.dict (es.map (eD P)).toArray n,#[]⟩
def oK (x:Str) (t l n m:Nat) (a b:Addr) (u v z:Value) (e y q:Nat):Obj:=oC [.str x t,.str x (t+1),.str "/claim/cut.py" (t+2),.int l 0,.int n 0,.int 0 0,.int 0 0,.int 3 0,.ref a,.bool true,.int m 0,.ref b,u,v,z,.ref e,.int y 0,.int l 0,.str "/claim/cut.py" q]
def nmV:List Str->Nat->List Value
 |[],_=>[]
 |x::r,t=>.str x t::nmV r (t+1)
def oN (xs:List Str) (t:Nat):Obj:=oT (nmV xs t)
abbrev nd (o:Obj) (l r:PySem.W.BT):PySem.W.BT:=.node o l r
abbrev lf (o:Obj):PySem.W.BT:=.node o .nil .nil
def qp2 {K:Frg} (x:Str) (st:Stmt) (f:Addr) (pm cd:Value) (l:K.lookup f=some (oF x st pm cd)) (c:PySem.W.codeIn K cd x=true) (k:PySem.W.keepIn K (.ref f)=true) :
  Fun K x x st f (PySem.W.fnOf x x (zi st) (qO st) (qi st) .none .none .none pm none cd .none):=J3 l c k
def W0 {K:Frg} {h:Heap} {mg:Str->Option Value} (X:K.In h) (G:h.Ns mainGlobals mg) (n:Str) (v:Value) (e:PySem.W.nsIn K mainGlobals n=some (some v)):mg n=some v:=PySem.W.mg_of X G e
def head {l:OpenLaw} {q:Program} {loose:List Str} {K:Params->Frag} {as:List Addr} {d:DefRec} {N:Nat} {k:Nat} {x:Str} (ha:∀ P,as=(K P).map (·.1))
  (ok:l.wellSaid=true)
  (left:LeftO l.prog q loose (λs=>xlAt q [] s&&recOk [] s) (λs=>as.map s.heap.get?) (λw=>(K w.params).map λp=>some p.2) N)
  (hdef:defOf q l.name=some (d,[])) (hp:l.prog.theDef l.name=some (d.params,d.body,d.scope)) (hk:kwWritten? d.params.kwonlyargs d.params.kw_defaults=some [])
  (hwr:(!l.row.writes||l.row.records.isEmpty)=true) (ok2:(chainsOk q&&opensWell l.prog&&(frees l.row.toRowW&&l.row.within.isEmpty))=true) (hb:l.prog.bare) (hw:l.row.toRowW.promised)
  (hn:l.most=some 63) (hdf:d.params.defaults=[]) (hr:Room k callerA) (hK:∀ w:World,DN (K w.params)=true)
  (F:∀ (w:World) (mg:Str->Option Value) (fa:Addr) (h:Heap),(K w.params).In h->h.Ns mainGlobals mg->mg d.name=some (.ref fa) ->
   ∃ fd:FuncData,(∀ (s:Shared) (u:Value),BindsTo s fd ⟨[u],[]⟩ [(x,u)])/\∀ base:Heap,(K w.params).In base->base.Ns mainGlobals mg->FnOk l.prog w (K w.params) mg base CX0 k fa fd [x] (lSp (K w.params) RO)):l.Holds:=by
 refine holds_law ok λsaid=>?_;exact holds_open (q:=q) (loose:=loose) (Xt:=λs=>xlAt q [] s&&recOk [] s) (XP:=XL q []) (Yf:=Hook.obs (kHook K as ha)) (Ya:=Hook.val (kHook K as ha)) (YP:=Hook.says (kHook K as ha)) (N:=N) left
  (Hook.of (kHook K as ha)) (Hook.keeps (kHook K as ha)) (λs e=>xl_of s (Bool.and_eq_true_iff.mp e).1) XL.keeps hdef hp hk (λs e=>recFacts_of (Bool.and_eq_true_iff.mp e).2) hwr said ok2 hb hw
  (L3.qoh (l:=l) (k:=k) (x:=x) hn hdf hr (λw h Y=>kIn_of Y) hK F)
end Hd
namespace Hd
open PySem L2 L3 PySem.W PySem.Spec PySem.Calls PyProof.Rows
structure Fb (K:Frg) (mg:Str->Option Value) (x:Str) (st:Stmt) (ps:List Str) (f:Addr) (fd:FuncData):Prop where
 F:Fun K x x st f fd
 b:WY K fd ps []
 m:mg x=some (.ref f)
def sc0 {N ps:List Str} {s:Scope} (h1:s.kind=.function:=by rfl) (h2:s.isCoroutine=false:=by rfl) (h3:s.isGenerator=false:=by rfl) (h4:N.Nodup:=by decide +kernel) (h5:N.take ps.length=ps:=by rfl) (h6:∀ x∈ps,s.names.lookup x=some .local\/s.names.lookup x=some .cell:=by decide +kernel) (h7:∀ y∈s.names,y.2≠.free:=by decide +kernel):FnScope N ps s:=⟨h1,h2,h3,h4,h5,h6,h7⟩
def jfE {P:Program} {w:World} {K:Frg} {mg:Str->Option Value} {base:Heap} {x:Str} {st:Stmt} {f:Addr} {fd:FuncData} {N ps:List Str} {k:Nat} {sp:Sp3} {t3:TS3} (E:Fb K mg x st ps f fd) (S:FnScope N ps (qi st))
  (read:∀ ts G q,sp ts G q->ts.length=ps.length/\t3 { nx:=λ_ G'=>q .non G',rt:=q } (qm N ts) G)
  (body:∀ (cdv:Value) (A:Around) (outer:List Env) (s:Shared) (H:Hp) (E:XK),Room k (A.deeper (envOfC x (qi st) s.heap.objs.size f cdv)) ->
   jB3 (VE CX0 P w K mg base N x (qi st) f cdv A outer s H E).nox (qO st) t3):Fn3 P w K mg base (k+1) x sp:=qg6 E.F S E.b E.m body read
def e1 {K:Frg} {h:Heap} {mg:Str->Option Value} (X:K.In h) (G:h.Ns mainGlobals mg) (x:Str) (st:Stmt) (ps:List Str) (f:Addr) (pm cd:Value) (l:K.lookup f=some (oF x st pm cd):=by kernel_rfl) (c:PySem.W.codeIn K cd x=true:=by kernel_rfl) (k:PySem.W.keepIn K (.ref f)=true:=by kernel_rfl) (e:PySem.W.nsIn K mainGlobals x=some (some (.ref f)):=by kernel_rfl)
  (b:∀ (kV doc pm:Value) (an:Option Addr) (cdv ct:Value) (us:List Value),us.length=ps.length->bindArgs (PySem.W.fnOf x x (zi st) (qO st) (qi st) .none kV doc pm an cdv ct) ⟨us,[]⟩=pure (ps.zip us):=by exact λ_ _ _ _ _ _ us hl=>by obtain ⟨_,rfl⟩:=Pu.qqP hl;rfl) :
  Fb K mg x st ps f (PySem.W.fnOf x x (zi st) (qO st) (qi st) .none .none .none pm none cd .none):=⟨J3 l c k,(J3 l c k).binds b,PySem.W.mg_of X G e⟩
def e2 {K:Frg} {h:Heap} {mg:Str->Option Value} (X:K.In h) (G:h.Ns mainGlobals mg) (x:Str) (st:Stmt) (ps:List Str) (f:Addr) (pm cd:Value) (l:K.lookup f=some (oF x st pm cd):=by kernel_rfl) (c:PySem.W.codeIn K cd x=true:=by kernel_rfl) (k:PySem.W.keepIn K (.ref f)=true:=by kernel_rfl) (e:PySem.W.nsIn K mainGlobals x=some (some (.ref f)):=by kernel_rfl)
  (b:∀ (kV doc pm:Value) (an:Option Addr) (cdv ct:Value) (us:List Value),us.length=ps.length->bindArgs (PySem.W.fnOf x x (zi st) (qO st) (qi st) .none kV doc pm an cdv ct) ⟨us,[]⟩=pure (ps.zip us):=by exact λ_ _ _ _ _ _ us hl=>by obtain ⟨_,_,rfl⟩:=Pu.qqS hl;rfl) :
  Fb K mg x st ps f (PySem.W.fnOf x x (zi st) (qO st) (qi st) .none .none .none pm none cd .none):=⟨J3 l c k,(J3 l c k).binds b,PySem.W.mg_of X G e⟩
def e3 {K:Frg} {h:Heap} {mg:Str->Option Value} (X:K.In h) (G:h.Ns mainGlobals mg) (x:Str) (st:Stmt) (ps:List Str) (f:Addr) (pm cd:Value) (l:K.lookup f=some (oF x st pm cd):=by kernel_rfl) (c:PySem.W.codeIn K cd x=true:=by kernel_rfl) (k:PySem.W.keepIn K (.ref f)=true:=by kernel_rfl) (e:PySem.W.nsIn K mainGlobals x=some (some (.ref f)):=by kernel_rfl)
  (b:∀ (kV doc pm:Value) (an:Option Addr) (cdv ct:Value) (us:List Value),us.length=ps.length->bindArgs (PySem.W.fnOf x x (zi st) (qO st) (qi st) .none kV doc pm an cdv ct) ⟨us,[]⟩=pure (ps.zip us):=by exact λ_ _ _ _ _ _ us hl=>by obtain ⟨_,_,_,rfl⟩:=Pu.qqF hl;rfl) :
  Fb K mg x st ps f (PySem.W.fnOf x x (zi st) (qO st) (qi st) .none .none .none pm none cd .none):=⟨J3 l c k,(J3 l c k).binds b,PySem.W.mg_of X G e⟩
def e4 {K:Frg} {h:Heap} {mg:Str->Option Value} (X:K.In h) (G:h.Ns mainGlobals mg) (x:Str) (st:Stmt) (ps:List Str) (f:Addr) (pm cd:Value) (l:K.lookup f=some (oF x st pm cd):=by kernel_rfl) (c:PySem.W.codeIn K cd x=true:=by kernel_rfl) (k:PySem.W.keepIn K (.ref f)=true:=by kernel_rfl) (e:PySem.W.nsIn K mainGlobals x=some (some (.ref f)):=by kernel_rfl)
  (b:∀ (kV doc pm:Value) (an:Option Addr) (cdv ct:Value) (us:List Value),us.length=ps.length->bindArgs (PySem.W.fnOf x x (zi st) (qO st) (qi st) .none kV doc pm an cdv ct) ⟨us,[]⟩=pure (ps.zip us):=by exact λ_ _ _ _ _ _ us hl=>by obtain ⟨_,_,_,_,rfl⟩:=Pu.qqr hl;rfl) :
  Fb K mg x st ps f (PySem.W.fnOf x x (zi st) (qO st) (qi st) .none .none .none pm none cd .none):=⟨J3 l c k,(J3 l c k).binds b,PySem.W.mg_of X G e⟩
def e5 {K:Frg} {h:Heap} {mg:Str->Option Value} (X:K.In h) (G:h.Ns mainGlobals mg) (x:Str) (st:Stmt) (ps:List Str) (f:Addr) (pm cd:Value) (l:K.lookup f=some (oF x st pm cd):=by kernel_rfl) (c:PySem.W.codeIn K cd x=true:=by kernel_rfl) (k:PySem.W.keepIn K (.ref f)=true:=by kernel_rfl) (e:PySem.W.nsIn K mainGlobals x=some (some (.ref f)):=by kernel_rfl)
  (b:∀ (kV doc pm:Value) (an:Option Addr) (cdv ct:Value) (us:List Value),us.length=ps.length->bindArgs (PySem.W.fnOf x x (zi st) (qO st) (qi st) .none kV doc pm an cdv ct) ⟨us,[]⟩=pure (ps.zip us):=by exact λ_ _ _ _ _ _ us hl=>by obtain ⟨_,_,_,_,_,rfl⟩:=Pu.qqK hl;rfl) :
  Fb K mg x st ps f (PySem.W.fnOf x x (zi st) (qO st) (qi st) .none .none .none pm none cd .none):=⟨J3 l c k,(J3 l c k).binds b,PySem.W.mg_of X G e⟩
def e6 {K:Frg} {h:Heap} {mg:Str->Option Value} (X:K.In h) (G:h.Ns mainGlobals mg) (x:Str) (st:Stmt) (ps:List Str) (f:Addr) (pm cd:Value) (l:K.lookup f=some (oF x st pm cd):=by kernel_rfl) (c:PySem.W.codeIn K cd x=true:=by kernel_rfl) (k:PySem.W.keepIn K (.ref f)=true:=by kernel_rfl) (e:PySem.W.nsIn K mainGlobals x=some (some (.ref f)):=by kernel_rfl)
  (b:∀ (kV doc pm:Value) (an:Option Addr) (cdv ct:Value) (us:List Value),us.length=ps.length->bindArgs (PySem.W.fnOf x x (zi st) (qO st) (qi st) .none kV doc pm an cdv ct) ⟨us,[]⟩=pure (ps.zip us):=by exact λ_ _ _ _ _ _ us hl=>by obtain ⟨_,_,_,_,_,_,rfl⟩:=Pu.qrp hl;rfl) :
  Fb K mg x st ps f (PySem.W.fnOf x x (zi st) (qO st) (qi st) .none .none .none pm none cd .none):=⟨J3 l c k,(J3 l c k).binds b,PySem.W.mg_of X G e⟩
def no {K:Frg} {h:Heap} {mg:Str->Option Value} (X:K.In h) (G:h.Ns mainGlobals mg) (n:Str) (e:PySem.W.nsIn K mainGlobals n=some none:=by kernel_rfl):mg n=none:=PySem.W.mg_none_of X G e
end Hd
namespace Hd
open PySem
def c1 (P:Params) (M:Str) (q:Nat) (nm:Str) (t:Nat) (ln:Int) (r:Nat):Obj:=oD P 4 [(.str "__module__" (t+7),.str M q),(.str "__qualname__" (t+9),.str nm (t+8)),(.str "__firstlineno__" (t+11),.int ln (t+10)),(.str "__static_attributes__" (t+12),.ref (r+7))]
def c2 (nm:Str) (t:Nat) (ln:Int) (r:Nat):Obj:=oC [.str nm (t+2),.str nm (t+3),.str "/claim/cut.py" (t+4),.int ln 0,.int 0 0,.int 0 0,.int 0 0,.int 0 0,.ref (r+3),.bool false,.int 181 0,.ref (r+4),.none,.none,.none,.none,.int (t+5:Nat) 0,.int ln 0,.str "/claim/cut.py" (t+6)]
def c3 (M:Str) (q r:Nat):Obj:=⟨.type "frame",none,.plain,#[some (.ref (r+5)),some (.ref 3),some (.ref (r+2)),none,some (.str M q),none,some (.ref 0)]⟩
def c4 (P:Params) (M:Str) (q t:Nat) (ln:Int) (r:Nat):Obj:=oD P 2 [(.str "__module__" (t+7),.str M q),(.str "__firstlineno__" (t+11),.int ln (t+10)),(.str "__static_attributes__" (t+12),.ref (r+7)),(.str "__doc__" (t+13),.none)]
def c5 (nm:Str) (b t r:Nat):Obj:=⟨.type "type",none,.cls ({ name:=nm,bases:=[Value.ref b],mro:=[Value.ref (r+9),Value.ref b,Value.type "ValueError",Value.type "Exception",Value.type "BaseException",Value.type "object"],ns:=r+8,qualname:=nm }),#[some (.ref r),none,some (.str nm t),some (.str nm (t+8)),some (.builtin "ValueError.__new__"),some (.bool true)]⟩
def c6 (r:Nat):Obj:=⟨.type "super",none,.fields #[.ref r,.ref r,.ref r],#[]⟩
def c7 (r:Nat):Obj:=⟨.type "builtin_function_or_method",none,.fields #[.builtin "object.__init_subclass__",.ref r],#[]⟩
def oM (P:Params) (n:Nat) (M:Str) (q:Nat) (es:List (Value×Value)):Obj:=oD P n ([(.str "__name__" 165,.str M q),(.str "__doc__" 166,.none),(.str "__package__" 167,.none),(.str "__loader__" 168,.builtin "__main__.__loader__#opaque"),(.str "__spec__" 169,.none),(.str "__annotations__" 170,.ref 6),(.str "__builtins__" 171,.ref 4),(.str "__file__" 173,.str "/claim/cut.py" 172),(.str "__cached__" 174,.none)]++es)
end Hd
namespace L3
open PySem PySem.Spec PyProof.Rows L2
def qhH:bootBuiltins "ValueError" = some (.type "ValueError"):=by first|kernel_rfl|decide +kernel
def XD.nil {K:Frg} {cs:List Value}:XD K cs []:=λ_ z=>nomatch z
def XD.cons {K:Frg} {cs:List Value} {o:Option Addr} {b:Bool} {D:List (Option Addr×Bool)} (h1:∀ C,o=some C->ExK K C) (h2:PySem.W.kitAny K (tyv o) cs=some b) (h:XD K cs D):XD K cs ((o,b)::D):=λp hp=>by
 rcases mem_cons.mp hp with rfl|hp
 ·exact ⟨h1,h2⟩
 ·exact h p hp
end L3
namespace Hd
open PySem PySem.Spec PyProof.Rows L2 L3 PySem.W
def oX (nm:Str) (C N:Addr) (bs bm sub:List Value) (tb:Addr) (t1 t2:Nat) (nw:String):Obj:=excClassObj nm nm C N bs bm true [] sub false none none (some (.ref tb)) none (some (.str nm t1)) (some (.str nm t2)) (some (.bool true)) nw
def qjo (K:Frag) (C:Addr) (mro:List Value):Bool:=match K.lookup C with
 |some ⟨.type "type",_,.cls cd,sl⟩=>cd.mro==mro&&!cd.hasDel&&match mro,sl.toList with|.ref C'::_,[_,_,_,_,some (.builtin _),_]=>C'==C|_,_=>false
 |_=>false
def qi4 {K:Frag} {h:Heap} {C:Addr} {mro:List Value} (X:K.In h) (q:qjo K C mro=true):ExC h C mro:=by
 unfold qjo at q;split at q
 ·rename_i dd cd sl ho;simp only [Bool.and_eq_true,beq_iff_eq,Bool.not_eq_true'] at q;obtain ⟨⟨h1,h2⟩,h3⟩:=q;split at h3
  ·rename_i C' bm k0 k1 k2 k3 n k5 hs;obtain ⟨nm,bs,mro,ns,qn,hd,sn,sub,ab,col,del⟩:=cd;dsimp only at h1 h2;subst h2;have e3:C'=C:=beq_iff_eq.mp h3;subst e3;subst h1;have hsl:sl=#[k0,k1,k2,k3,some (.builtin n),k5]:=by
    obtain ⟨l⟩:=sl;exact congrArg Array.mk hs
   subst hsl;exact ⟨nm,qn,ns,bs,bm,hd,sn,sub,ab,col,dd,k0,k1,k2,k3,k5,n,X _ _ ho,rfl⟩
  ·cases h3
 ·cases q
def qhZ {base:Heap} {B C:Addr} {mro:List Value} {cs:List Addr} (h1:ExC base C mro) (h2:mro.contains (.ref B)=true) (h:∀ C∈cs,Ct base B C):∀ D∈C::cs,Ct base B D:=λD hD=>by
 rcases mem_cons.mp hD with rfl|hD
 ·exact ⟨mro,h1,h2⟩
 ·exact h D hD
def qpw {K:Frag} {h:Heap} {mg:Str->Option Value} {x:Str} {C N tb:Addr} {nm:Str} {bs bm sub:List Value} {t1 t2:Nat} (X:K.In h) (hb:mg x=some (.ref C)) (l:K.lookup C=some (oX nm C N bs bm sub tb t1 t2 "ValueError.__new__"))
  (t:tailIn K [.type "ValueError",.type "Exception",.type "BaseException",.type "object"] bm=true) (n:nsOkIn K N=true) (i:nsIn K N "__init__" = some none):RaX mg h x C:=
 ⟨⟨hb,bm,N,nm,nm,bs,true,[],sub,false,none,none,_,_,_,_,_,_,X _ _ l,.of_isNs (isNs_of_in X n),nsMap_none_of_in X n i,tail_of_in X t⟩⟩
end Hd
namespace Hd
open PySem L2 L3 PySem.W PySem.Spec PySem.Calls PyProof.Rows
def qqM {P:Program} {w:World} {K:Frg} {mg:Str->Option Value} {base:Heap} {x:Str} {st:Stmt} {f:Addr} {fd:FuncData} {N ps:List Str} {k:Nat} {sx:Spx} {t3:X3->TS3} (E:Fb K mg x st ps f fd) (S:FnScope N ps (qi st))
  (read:∀ ts G dx,sx ts G dx->ts.length=ps.length/\t3 dx { nx:=λ_ _=>False,rt:=λ_ _=>False } (qm N ts) G)
  (body:∀ (dx:X3) (cdv:Value) (A:Around) (outer:List Env) (s:Shared) (H:Hp) (E:XK),(∀ cls H',EX K dx cls none H'->E cls none H')->Room k (A.deeper (envOfC x (qi st) s.heap.objs.size f cdv)) ->
   jB3 (VE (CXe P w) P w K mg base N x (qi st) f cdv A outer s H E) (qO st) (t3 dx)):Fnx P w K mg base (k+1) x sx:=qgW E.F S E.b E.m body read
end Hd
namespace Pu
open PySem L2 L3
structure PzS (t:X3->TS3) where
 f:Nat->Rho->Option (Addr ⊕ Ot)
 okx:∀ {D G0 A τ ρ G n C} {dx:X3} {e:Ends3},RS D G0 A τ ρ G->f n ρ=some (.inl C)->(∀ G',Ex G0 G'->dx C G')->t dx e τ G
 okn:∀ {D G0 A τ ρ G n o} {dx:X3} {e:Ends3},RS D G0 A τ ρ G->f n ρ=some (.inr o)->qiE D G0 e o->t dx e τ G
def zP {t:TS3} (a:PuS t):PzS (λ_=>t) where
 f:=λn ρ=>(a.f n ρ).map .inr
 okx:=λh hf k=>by
  obtain ⟨o,e1,e2⟩:=za3 hf;cases e2
 okn:=λh hf k=>by
  obtain ⟨o,e1,e2⟩:=za3 hf;cases e2;exact a.ok h e1 k
def qrA:PzS (λ_=>YS) where
 f:=λ_ _=>none
 okx:=λh hf k=>by cases hf
 okn:=λh hf k=>by cases hf
def qfn {t:TA3} (C:Addr) (a:PuA t) (hn:Tru (Nat.ble a.n 1000)):PzS (λdx=>qaf C dx t) where
 f:=λ_ ρ=>(a.f ρ).map λ_=>.inl C
 okx:=λh hf k=>by
  obtain ⟨d,e1,e2⟩:=za3 hf;cases e2;exact a.ok (h.viewAll _) h.domD e1 λxs G' E Q=>⟨by rw [Q.length,a.ln e1];exact few hn,k G' (h.ex.trans E)⟩
 okn:=λh hf k=>by
  obtain ⟨d,e1,e2⟩:=za3 hf;cases e2
def zIf {c:TT3} {t u:X3->TS3} (pc:PuC c) (a:PzS t) (b:PzS u):PzS (λdx=>zb c (t dx) (u dx)) where
 f:=λn ρ=>(pc.f ρ).bind λk=>if k then a.f n ρ else b.f n ρ
 okx:=λh hf k=>by
  obtain ⟨o1,e1,hf⟩:=obb hf;refine pc.ok (h.viewAll _) h.domD e1 λG1 E1=>?_;cases o1 with
  |true=>exact a.okx (h.up E1) hf k
  |false=>exact b.okx (h.up E1) hf k
 okn:=λh hf k=>by
  obtain ⟨o1,e1,hf⟩:=obb hf;refine pc.ok (h.viewAll _) h.domD e1 λG1 E1=>?_;cases o1 with
  |true=>exact a.okn (h.up E1) hf k
  |false=>exact b.okn (h.up E1) hf k
def qgZ (a b:Nat->Rho->Option (Addr ⊕ Ot)) (n:Nat) (ρ:Rho):Option (Addr ⊕ Ot):=(a n ρ).bind λo=>match o with|.inl C=>some (.inl C)|.inr (.nx ρ')=>b n ρ'|.inr o=>some (.inr o)
def qqR {t u:X3->TS3} (a:PzS t) (b:PzS u):PzS (λdx=>qy (t dx) (u dx)) where
 f:=qgZ a.f b.f
 okx:=λ{D G0 A τ ρ G n C dx e} h hf k=>by
  unfold qgZ at hf;obtain ⟨o1,e1,hf⟩:=obb hf;cases o1 with
  |inl C'=>cases hf;exact a.okx h e1 k
  |inr o=>
   refine a.okn h e1 ?_;cases o with
   |nx ρ'=>exact λA' τ' G' h'=>b.okx h' hf k
   |bk ρ'=>cases hf
   |ct ρ'=>cases hf
   |rt d fr=>cases hf
 okn:=λ{D G0 A τ ρ G n o dx e} h hf k=>by
  unfold qgZ at hf;obtain ⟨o1,e1,hf⟩:=obb hf;cases o1 with
  |inl C'=>cases hf
  |inr o=>
   refine a.okn h e1 ?_;cases o with
   |nx ρ'=>exact λA' τ' G' h'=>b.okn h' hf k
   |bk ρ'=>cases hf;exact k
   |ct ρ'=>cases hf;exact k
   |rt d fr=>cases hf;exact k
def PXp (X:List PyData->Option Addr):Spx:=λts G dx=>∃ (D:Addr->Prop) (ds:List PyData) (C:Addr),Dqs (rs D G) ts ds/\Dom D G/\X ds=some C/\∀ G',Ex G G'->dx C G'
def qf0 {t:TA3} (X:List PyData->Option Addr) (a:PuA t):PzS (λdx=>qR (qpk (PXp X) dx t)) where
 f:=λ_ ρ=>((a.f ρ).bind X).map .inl
 okx:=λ{D G0 A τ ρ G n C dx e} h hf k=>by
  obtain ⟨d,e1,e2⟩:=za3 hf;cases e2;obtain ⟨ds,e3,e4⟩:=obb e1;exact a.ok (h.viewAll _) h.domD e3 λxs G' E Q=>⟨D,ds,C,Q,h.domD.up E,e4,λG'' E'=>k G'' ((h.ex.trans E).trans E')⟩
 okn:=λh hf k=>by
  obtain ⟨d,e1,e2⟩:=za3 hf;cases e2
def qn6:Option (Addr ⊕ Ot)->Option Addr
 |some (.inl C)=>some C
 |_=>none
def qnM (f:Nat->Rho->Option (Addr ⊕ Ot)) (k N n:Nat) (ds:List PyData):Option Addr:=if ds.length=k then qn6 (f n (st ds N)) else none
def qbi {t:X3->TS3} (b:PzS t) (N:List Str) (k n:Nat):∀ ts G dx,PXp (qnM b.f k N.length n) ts G dx->ts.length=k/\t dx { nx:=λ_ _=>False,rt:=λ_ _=>False } (qm N ts) G:=by
 rintro ts G dx ⟨D,ds,C,hs,hd,hf,h⟩;unfold qnM at hf;split at hf
 ·rename_i hk;refine ⟨by rw [hs.length];exact hk,?_⟩;cases e:b.f n (st ds N.length) with
  |none=>rw [e] at hf;cases hf
  |some o=>
   cases o with
   |inl C'=>rw [e] at hf;cases hf;exact b.okx (qhI N hs hd) e h
   |inr o=>rw [e] at hf;cases hf
 ·cases hf
def qdM {t:TA3} {C:Addr} {a:PuA t} {hn:Tru (Nat.ble a.n 1000)} {n:Nat} {ρ:Rho}:(qfn C a hn).f n ρ=(a.f ρ).map λ_=>.inl C:=id rfl
def qoP {c:TT3} {t u:X3->TS3} {pc:PuC c} {a:PzS t} {b:PzS u} {n:Nat} {ρ:Rho}:(zIf pc a b).f n ρ=(pc.f ρ).bind λk=>if k then a.f n ρ else b.f n ρ:=id rfl
def ql7 {t u:X3->TS3} {a:PzS t} {b:PzS u} {n:Nat} {ρ:Rho}:(qqR a b).f n ρ=(a.f n ρ).bind λo=>match o with|.inl C=>some (.inl C)|.inr (.nx ρ')=>b.f n ρ'|.inr o=>some (.inr o):=id rfl
def qd5 {t:TA3} {X:List PyData->Option Addr} {a:PuA t} {n:Nat} {ρ:Rho}:(qf0 X a).f n ρ=((a.f ρ).bind X).map .inl:=id rfl
def qeQ {C:Addr}:qn6 (some (.inl C))=some C:=id rfl
def Q0 (ρ:Rho) (i:Nat):Option (List (List PyData)):=match ρ[i]? with|some (.on dss)=>some dss|_=>none
def YD {ρ:Rho} {i:Nat} {dss:List (List PyData)} (h:Q0 ρ i=some dss):ρ[i]?=some (.on dss):=by
 unfold Q0 at h;split at h
 ·rename_i e;cases h;exact e
 ·cases h
section
variable {D:Addr->Prop} {G0 G G':Gp} {A:Nat->Addr->Prop} {τ:St3} {ρ:Rho} {i:Nat} {p q:Addr} {qs:List Addr} {dss:List (List PyData)} {xs ys:List T} {ds:List PyData}
def RS.on (h:RS D G0 A τ ρ G) (e:Q0 ρ i=some dss):∃ p qs,A i p/\τ[i]?=some (some (.ref p))/\G p=some (.lst (qs.map T.ref))/\(p::qs).Nodup/\Ons (rs (AD D A) G) G (A i) qs dss:=h.sl i _ (YD e)
def RS.putO (h:RS D G0 A τ ρ G) (gp:G p=none):RS D G0 (Rg A i λb=>b=p) (τ.set i (some (.ref p))) (ρ.set i (.on [])) (gu G p (.lst [])):=
 h.upd i (W:=λ_=>False) (λb o _ z=>j4 gp b o z) (λ_ z=>z.elim) (λb z=>by subst z;exact ⟨.inr gp,by rw [qv];simp⟩) λ_=>⟨p,[],rfl,rfl,qv,by simp,rfl,λj q ds a=>by simp at a⟩
def Ons.get {R:Gp} {B:Addr->Prop} {j:Nat} (h:Ons R G B qs dss) (e:dss[j]?=some ds):∃ q ys,qs[j]?=some q/\B q/\G q=some (.lst ys)/\Dqs R ys ds:=by
 have hl:j<qs.length:=by rw [h.1];exact (za4 e).1
 obtain ⟨a,ys,b,c⟩:=h.2 j _ ds (y9 hl) e;exact ⟨_,ys,y9 hl,a,b,c⟩
def RS.onNew (h:RS D G0 A τ ρ G) (hp:A i p) (ht:τ[i]?=some (some (.ref p))) (gp:G p=some (.lst (qs.map T.ref))) (nd:(p::qs).Nodup) (on:Ons (rs (AD D A) G) G (A i) qs dss) (gq:G q=none) (hy:Dqs (rs (AD D A) G) ys ds):RS D G0 (Rg A i λb=>A i b\/b=q) τ (ρ.set i (.on (dss++[ds]))) (gu (gu G q (.lst ys)) p (.lst (qs.map T.ref++[.ref q]))):=by
 have qp:q≠p:=by rintro rfl;rw [gp] at gq;cases gq
 have at':∀ b o,b≠p->G b=some o->gu (gu G q (.lst ys)) p (.lst (qs.map T.ref++[.ref q])) b=some o:=λb o n z=>by
  rw [zD n,zD (by rintro rfl;rw [gq] at z;cases z)];exact z
 have atq:gu (gu G q (.lst ys)) p (.lst (qs.map T.ref++[.ref q])) q=some (.lst ys):=by rw [zD qp,qv]
 have:=h.upd i (G':=gu (gu G q (.lst ys)) p (.lst (qs.map T.ref++[.ref q]))) (x:=.ref p) (s:=.on (dss++[ds])) (B:=λb=>A i b\/b=q) (W:=λb=>b=p) at' (λb z=>⟨i,by rw [z];exact hp,.inl rfl⟩) (λb z=>by
  rcases z with z|z
  ·refine ⟨.inl z,?_⟩;by_cases c:b=p
   ·rw [c,qv];simp
   ·intro g;cases g':G b with
    |none=>exact h.da i b z g'
    |some o=>rw [at' b o c g'] at g;cases g
  ·subst z;exact ⟨.inr gq,by rw [atq];simp⟩) λX=>⟨p,qs++[q],.inl hp,rfl,by rw [qv,List.map_append];rfl,?_,by simp [on.1],λj q' ds' a b=>?_⟩
 ·rw [XH ht] at this;exact this
 ·have nq:q∉qs:=λz=>by
   obtain ⟨j,hj,e⟩:=List.getElem_of_mem z;obtain ⟨_,ys',b,_⟩:=on.2 j q _ (by rw [y9 hj,e]) (y9 (by rw [← on.1];exact hj));rw [gq] at b;cases b
  rw [← cons_append];refine List.nodup_append.mpr ⟨nd,by simp,λa ha b hb=>?_⟩;rw [List.mem_singleton.mp hb];rintro rfl;rcases mem_cons.mp ha with z|z
  ·exact qp z
  ·exact nq z
 ·by_cases c:j<qs.length
  ·rw [List.getElem?_append_left c] at a;rw [List.getElem?_append_left (by rw [← on.1];exact c)] at b;obtain ⟨c1,ys',c2,c3⟩:=on.2 j q' ds' a b;refine ⟨.inl c1,ys',at' _ _ ?_ c2,c3.up X⟩;rintro rfl;exact (List.nodup_cons.mp nd).1 (v8 a)
  ·rw [List.getElem?_append_right (by omega)] at a;rw [List.getElem?_append_right (by rw [← on.1];omega),← on.1] at b;have z:j-qs.length=0:=by
    have:=(za4 a).1;simp at this;omega
   rw [z] at a b;cases a;cases b;exact ⟨.inr rfl,ys,atq,hy.up X⟩
def RS.onSet (h:RS D G0 A τ ρ G) (hp:A i p) (ht:τ[i]?=some (some (.ref p))) (gp:G p=some (.lst (qs.map T.ref))) (nd:(p::qs).Nodup) (on:Ons (rs (AD D A) G) G (A i) qs dss) {j:Nat} (hq:qs[j]?=some q) (hA:A i q) (hy:Dqs (rs (AD D A) G) ys ds):RS D G0 A τ (ρ.set i (.on (dss.set j ds))) (gu G q (.lst ys)):=by
 have qp:p≠q:=by rintro rfl;exact (List.nodup_cons.mp nd).1 (v8 hq)
 have:=h.upd i (G':=gu G q (.lst ys)) (x:=.ref p) (s:=.on (dss.set j ds)) (B:=A i) (W:=λb=>b=q) (λb o n z=>by rw [zD n];exact z) (λb z=>⟨i,by rw [z];exact hA,.inl rfl⟩) (λb z=>⟨.inl z,by
  by_cases c:b=q
  ·rw [c,qv];simp
  ·rw [zD c];exact h.da i b z⟩) λX=>⟨p,qs,hp,rfl,by rw [zD qp];exact gp,nd,by rw [List.length_set];exact on.1,λk q' ds' a b=>?_⟩
 ·rw [XH ht,ME] at this;exact this
 ·rw [getElem?_set] at b;split at b
  ·rename_i e;subst e;split at b
   ·cases b;rw [a] at hq;cases hq;exact ⟨hA,ys,qv,hy.up X⟩
   ·cases b
  ·rename_i e;obtain ⟨c1,ys',c2,c3⟩:=on.2 k q' ds' a b;have n:q'≠q:=by
    rintro rfl;exact e ((List.getElem?_inj (za4 hq).1 (List.nodup_cons.mp nd).2).mp (hq.trans a.symm))
   exact ⟨c1,ys',by rw [zD n];exact c2,c3.up X⟩
end
def qqx (i:Nat):PuS (qH (zF qk) (gn3 i)):=⟨λ_ ρ=>some (.nx (ρ.set i (.on []))),λ{D G0 A τ ρ G n o e} h hf k=>by
 cases hf;exact ⟨Nat.zero_le _,λp hp=>k _ _ _ (h.putO hp)⟩⟩
def KQ (i:Nat) (ds:List PyData) (ρ:Rho):Option Ot:=(Q0 ρ i).bind λdss=>if dss.length<1000000 then some (.nx (ρ.set i (.on (dss++[ds])))) else none
def qkN {m:List Bool} {ρ:Rho} {i:Nat} {dss:List (List PyData)} (h:Q0 (dm m ρ) i=some dss):Q0 ρ i=some dss:=by
 have e:=YD h;rw [qbm] at e;obtain ⟨s,e1,e2⟩:=za3 e;unfold Q0;split at e2
 ·cases s<;>cases e2
 ·rw [e1,e2]
def qcm {t:TA3} (a:PuA t) (i:Nat) (m:List Bool) (hm:Tru (a.fv.all (mkb m))):PuS (qR (bm3 QC (v3 i) (qc (zF t) qk))):=⟨λ_ ρ=>(a.f ρ).bind λds=>if ds.length<1000000 then KQ i ds (dm m ρ) else none,λ{D G0 A τ ρ G n o e} h hf k=>by
 obtain ⟨ds,e1,hf⟩:=obb hf;split at hf
 ·rename_i hl;unfold KQ at hf;obtain ⟨dss,e2,hf⟩:=obb hf;split at hf
  ·rename_i hl2;cases hf;obtain ⟨p,qs,b,c,g,nd,on⟩:=h.on (qkN e2);simp only [qR,bm3,v3,c,zE g,qc,zF,qk];refine ⟨rfl,a.ok (h.viewD hm) (h.dem m).dom e1 λxs G1 E1 D1=>⟨by rw [D1.length,y8];omega,λq hq=>?_⟩⟩;have h1:=(h.dem m).up E1;obtain ⟨p',qs',b',c',g',nd',on'⟩:=h1.on e2;rw [c] at c';cases c';have qp:p≠q:=by rintro rfl;rw [hq] at g';cases g'
   simp only [QC,zD qp,g'];refine ⟨by rw [length_map,on'.1,y8];omega,k _ _ _ (h1.onNew b' c g' nd' on' hq D1)⟩
  ·cases hf
 ·cases hf⟩
def RR (i:Nat) (kk:Int) (d:PyData) (ρ:Rho):Option Ot:=(Q0 ρ i).bind λdss=>(ixN dss.length kk).bind λj=>(dss[j]?).bind λds=>if ds.length<1000000 then some (.nx (ρ.set i (.on (dss.set j (ds++[d]))))) else none
def qjJ {m:List Bool} {d:PyData} {ρ:Rho} {i:Nat} {dss:List (List PyData)} (h:Q0 (dmS m d ρ) i=some dss):Q0 ρ i=some dss:=by
 unfold dmS at h;split at h
 ·exact h
 ·exact qkN h
def qbY {tk t:TE3} (b:PuE tk) (a:PuE t) (i:Nat) (m:List Bool) (hm:Tru (a.fv.all (mkb m))):PuS (qR (bm3 QC (o3 ix3 (v3 i) tk) (qc t qk))):=⟨λ_ ρ=>(b.f ρ).bind λk=>(asI k).bind λkk=>(a.f ρ).bind λd=>RR i kk d (dmS m d ρ),λ{D G0 A τ ρ G n o e} h hf k=>by
 obtain ⟨kd,e1,hf⟩:=obb hf;obtain ⟨kk,e2,hf⟩:=obb hf;obtain ⟨d,e3,hf9⟩:=obb hf;clear hf;unfold RR at hf9;obtain ⟨dss,e4,hf9⟩:=obb hf9;obtain ⟨j,e5,hf9⟩:=obb hf9;obtain ⟨ds,e6,hf8⟩:=obb hf9;have:=qeP e2;subst this;split at hf8
 ·rename_i hl;cases hf8;obtain ⟨p,qs,b1,c1,g1,nd1,on1⟩:=h.on (qjJ e4);obtain ⟨q,ys,hq,Bq,gq,Dy⟩:=on1.get e6;simp only [qR,bm3,o3,v3,c1];refine b.ok (h.viewAll _) h.domD e1 λy G1 E1 D1 _=>?_;cases D1;have at':atI (qs.map T.ref) kk=some (.ref q):=by
   unfold atI;rw [length_map,on1.1,e5,Option.bind_some,getElem?_map,hq];rfl
  simp only [ix3,zE (E1 _ _ g1),at',zE (E1 _ _ gq),qc,qk];refine ⟨rfl,?_⟩;obtain ⟨A1,h1,ev⟩:=(h.up E1).evalS a m hm e3;refine ev _ λx G2 E2 D2=>?_;have h2:=h1.up E2;obtain ⟨p',qs',b2,c2,g2,nd2,on2⟩:=h2.on e4;rw [c1] at c2;cases c2;rw [E2 _ _ (E1 _ _ g1)] at g2;have qe:qs'=qs:=by
   have z:qs.map T.ref=qs'.map T.ref:=by injection g2 with g2;injection g2
   have inj:∀ {a b:List Addr},a.map T.ref=b.map T.ref->a=b:=λ{a}=>by
    induction a with
    |nil=>intro b z;cases b<;>simp_all
    |cons x a ih=>intro b z;cases b with
     |nil=>simp at z
     |cons y b=>simp at z;rw [z.1,ih (by simpa using z.2)]
   exact (inj z).symm
  subst qe;obtain ⟨q',ys',hq',Bq',gq',Dy'⟩:=on2.get e6;rw [hq] at hq';cases hq';simp only [QC,gq'];refine ⟨by rw [Dy'.length,y8];omega,k _ _ _ (h2.onSet b2 c1 (E2 _ _ (E1 _ _ g1)) nd2 on2 hq Bq' (Dy'.append (.cons D2 .nil)))⟩
 ·cases hf8⟩
def NF (i:Nat) (d:PyData) (ρ:Rho):Option Ot:=match d with
 |.list ds=>if ds.all qc3 then some (.nx (ρ.set i (.ow ds))) else none
 |_=>none
def qe9 {t:TE3} (a:PuE t) (i:Nat) (hn:Tru a.nw):PuS (qH t (gn3 i)):=⟨λ_ ρ=>(a.f ρ).bind λd=>NF i d ρ,λ{D G0 A τ ρ G n o e} h hf k=>by
 obtain ⟨d,e1,hf⟩:=obb hf;refine a.ok (h.viewAll _) h.domD e1 λx G1 E1 D1 N1=>?_;show e.nx (τ.set i (some x)) G1;unfold NF at hf;split at hf
 ·rename_i ds;split at hf
  ·rename_i hl;cases hf;rcases N1 hn.h with z|⟨p,xs,ds',rfl,e',gp,gp',hs⟩
   ·cases z
   cases e';exact k _ _ _ (h.upd i (B:=λb=>b=p) (W:=λ_=>False) (λb o _ z=>E1 b o z) (λ_ z=>z.elim) (λb z=>by subst z;exact ⟨.inr gp,by rw [gp'];simp⟩) λ_=>⟨p,xs,rfl,rfl,gp',qbl hs hl⟩)
  ·cases hf
 ·cases hf⟩
def qdy {t:TE3} {a:PuE t} {i:Nat} {hn:Tru a.nw}:(qe9 a i hn).f=λ_ ρ=>(a.f ρ).bind λd=>NF i d ρ:=id rfl
def qf9 {t:TE3} (b:PuE t) (i j:Nat) (m:List Bool) (hm:Tru (b.fv.all (mkb m))) (hij:Tru (i != j)):PuS (qH (q0 (qc (zF qk) (qc t qk))) (qI 2 (ql (gn3 i) (ql (gn3 j) qJ)))):=⟨λ_ ρ=>(b.f ρ).map λd=>.nx (((dm m ρ).set i (.on [])).set j (.sh d)),λ{D G0 A τ ρ G n o e} h hf k=>by
 obtain ⟨d,e1,rfl⟩:=za3 hf;simp only [qH,q0,qc,zF,qk,qI,ql,gn3,qJ];refine ⟨Nat.zero_le _,λp hp=>?_⟩;have h0:=h.dem m;have h1:=h0.putO (i:=i) hp;have v:C7 b.fv (λb=>AD D (Ad m A) b\/b=p) (gu G p (.lst [])) τ ρ:=λq hq d' hd'=>by
  obtain ⟨x,a1,a2⟩:=h.viewD hm q hq d' hd';exact ⟨x,a1,a2.up (qgY hp)⟩
 have dm':Dom (λb=>AD D (Ad m A) b\/b=p) (gu G p (.lst [])):=λb z=>by
  rcases z with z|z
  ·exact (h0.dom.up (j4 hp)) b z
  ·subst z;rw [qv];simp
 refine b.ok v dm' e1 λy G2 E2 D2 N2=>?_;refine ⟨by simp [y8],by simp,k _ _ _ ((h1.up E2).put j (D2.up (jd λq z=>?_)))⟩;rcases z with z|⟨k,⟨_,z⟩|⟨_,z⟩⟩
 ·exact .inl (.inl z)
 ·exact .inr z
 ·exact .inl (.inr ⟨k,z⟩)⟩
def qdf {t:TE3} {b:PuE t} {i j:Nat} {m:List Bool} {hm:Tru (b.fv.all (mkb m))} {hij:Tru (i != j)}:(qf9 b i j m hm hij).f=λ_ ρ=>(b.f ρ).map λd=>.nx (((dm m ρ).set i (.on [])).set j (.sh d)):=id rfl
def NrR (D:Addr->Prop) (G G':Gp) (x:T):PyData ⊕ List (List PyData)->Prop
 |.inl d=>Dq (rs D G') x d
 |.inr dss=>∃ p qs,x=.ref p/\(p::qs).Nodup/\(∀ q∈p::qs,G q=none)/\G' p=some (.lst (qs.map T.ref))/\Ons (rs (λb=>D b\/b∈p::qs) G') G' (λ_=>True) qs dss
def nrD:PyData ⊕ List (List PyData)->PyData
 |.inl d=>d
 |.inr dss=>.list (dss.map PyData.list)
def NrR.dq {D:Addr->Prop} {G G':Gp} {x:T} {r:PyData ⊕ List (List PyData)} (h:NrR D G G' x r) (hd:Dom D G):Dq (rs D G') x (nrD r):=by
 cases r with
 |inl d=>exact h
 |inr dss=>
  obtain ⟨p,qs,rfl,nd,fr,g,on⟩:=h;have vis:∀ b o,b∈p::qs->G' b=some o->rs D G' b=some o:=λb o hb z=>by
   rw [QU λy=>hd b y (fr b hb)];exact z
  refine .lst (vis _ _ u9 g) (Ons.dqs (B:=λb=>b∈p::qs) ⟨on.1,λj q ds a b=>⟨v5 _ (v8 a),(on.2 j q ds a b).2⟩⟩ (jd λb z=>.inl z) λb o hb z=>vis b o hb z)
def PNp (F:List PyData->Option (PyData ⊕ List (List PyData))):Sp3:=λts G q=>∃ (D:Addr->Prop) (ds:List PyData) (r:PyData ⊕ List (List PyData)),Dqs (rs D G) ts ds/\Dom D G/\F ds=some r/\∀ x G',Ex G G'->NrR D G G' x r->q x G'
def fNs (F:List PyData->Option (PyData ⊕ List (List PyData))):FnD (PNp F):=⟨λds=>(F ds).map nrD,false,λ{D G xs ds v q} hx hd hf k=>by
 obtain ⟨r,e,rfl⟩:=za3 hf;exact ⟨D,ds,r,hx,hd,e,λx G' E h=>k x G' E (h.dq hd) (λz=>by cases z)⟩⟩
structure PuN (t:TS3) where
 f:Nat->Rho->Option (PyData ⊕ List (List PyData))
 ok:∀ {D G0 A τ ρ G n r} {e:Ends3},RS D G0 A τ ρ G->f n ρ=some r->(∀ x G',Ex G0 G'->NrR D G0 G' x r->e.rt x G')->t e τ G
def qhW (i:Nat):PuN (qL (v3 i)):=⟨λ_ ρ=>(Q0 ρ i).map .inr,λ{D G0 A τ ρ G n r e} h hf k=>by
 obtain ⟨dss,e1,rfl⟩:=za3 hf;obtain ⟨p,qs,b,c,g,nd,on⟩:=h.on e1;simp only [qL,v3,c];have own:∀ q∈p::qs,A i q:=λq hq=>by
  rcases mem_cons.mp hq with z|z
  ·rw [z];exact b
  ·obtain ⟨j,hj,rfl⟩:=List.getElem_of_mem z;exact (on.2 j _ _ (y9 hj) (y9 (by rw [← on.1];exact hj))).1
 refine k _ _ h.ex ⟨p,qs,rfl,nd,λq hq=>h.fr i q (own q hq),g,on.mono (jd λb z=>?_) (λ_ _ _ _ z=>z) λ_ _=>trivial⟩;rcases z with z|z
 ·exact .inl z
 ·exact .inr ⟨i,own b z⟩⟩
def qiv {t u:TS3} (a:PuS t) (b:PuN u):PuN (qy t u):=⟨λn ρ=>(a.f n ρ).bind λo=>match o with|.nx ρ'=>b.f n ρ'|_=>none,λ{D G0 A τ ρ G n r e} h hf k=>by
 obtain ⟨o1,e1,hf⟩:=obb hf;refine a.ok h e1 ?_;cases o1 with
 |nx ρ'=>exact λA' τ' G' h'=>b.ok h' hf k
 |bk ρ'=>cases hf
 |ct ρ'=>cases hf
 |rt d fr=>cases hf⟩
def qn5 (f:Nat->Rho->Option (PyData ⊕ List (List PyData))) (k N n:Nat) (ds:List PyData):Option (PyData ⊕ List (List PyData)):=if ds.length=k then f n (st ds N) else none
def qcY {t:TS3} (b:PuN t) (N:List Str) (k n:Nat):∀ ts G q,PNp (qn5 b.f k N.length n) ts G q->ts.length=k/\t { nx:=λ_ G'=>q .non G',rt:=q } (qm N ts) G:=by
 rintro ts G q ⟨D,ds,r,hs,hd,hf,h⟩;unfold qn5 at hf;split at hf
 ·rename_i hk;exact ⟨by rw [hs.length];exact hk,b.ok (qhI N hs hd) hf h⟩
 ·cases hf
def qmX {i:Nat}:(qqx i).f=λ_ ρ=>some (.nx (ρ.set i (.on []))):=id rfl
def NH {t:TA3} {a:PuA t} {i:Nat} {m:List Bool} {hm:Tru (a.fv.all (mkb m))}:(qcm a i m hm).f=λ_ ρ=>(a.f ρ).bind λds=>if ds.length<1000000 then KQ i ds (dm m ρ) else none:=id rfl
def SK {tk t:TE3} {b:PuE tk} {a:PuE t} {i:Nat} {m:List Bool} {hm:Tru (a.fv.all (mkb m))}:(qbY b a i m hm).f=λ_ ρ=>(b.f ρ).bind λk=>(asI k).bind λkk=>(a.f ρ).bind λd=>RR i kk d (dmS m d ρ):=id rfl
def qbG {i:Nat}:(qhW i).f=λ_ ρ=>(Q0 ρ i).map .inr:=id rfl
def qcq {t u:TS3} {a:PuS t} {b:PuN u}:(qiv a b).f=λn ρ=>(a.f n ρ).bind λo=>match o with|.nx ρ'=>b.f n ρ'|_=>none:=id rfl
def qoR {F:List PyData->Option (PyData ⊕ List (List PyData))}:(fNs F).f=λds=>(F ds).map nrD:=id rfl
open Bk (Lf Ext)
section
variable {l:Nat} {a0:Addr} {z0:Option (Option T)×Nat} {D:Addr->Prop} {G0 G G':Gp} {A:Nat->Addr->Prop} {τ:St3} {ρ:Rho} {n:Nat} {i j:Nat} {p q:Addr} {qs:List Addr} {dss:List (List PyData)} {xs ys:List T} {ds:List PyData}
def qn2 (m:List Bool) (i:Nat) (r:PyData ⊕ List (List PyData)) (ρ:Rho):Rho:=match r with
 |.inl d=>(dm m ρ).set i (.sh d)
 |.inr dss=>(dm m ρ).set i (.on dss)
def qmS (F:List PyData->Option (PyData ⊕ List (List PyData))) {t:TA3} (b:PuA t) (i:Nat) (m:List Bool) (hm:Tru (b.fv.all (mkb m))) (hl:Tru (!mkb m l&&(i != l&&i != 0))):PwS l (qH (cb3 (PNp F) t) (gn3 i)):=⟨λρ n Q=>∃ ds r,b.f ρ=some ds/\F ds=some r/\Q (.nx (qn2 m i r ρ)) n,λ⟨ds,r,h1,h2,h3⟩ k=>⟨ds,r,h1,h2,k _ _ h3⟩,λ{a z0 D G0 A τ ρ G n e Q} h ⟨ds,r,e1,e2,hq⟩ k=>by
 have hl':mkb m l=false/\i≠l/\i≠0:=by simpa using hl.h
 have k:=k _ _ hq;refine b.ok (h.ln hl'.1 hm).v (h.r.dem m).dom e1 λx G1 E1 D1=>?_;have h1:=(h.dem hl'.1).up (Bk.EU E1) (h.lf.ex E1);refine ⟨_,ds,r,D1,h1.r.dom,e2,λy G2 E2 R=>?_⟩;show e.nx (τ.set i (some y)) G2;cases r with
 |inl d=>exact k _ _ _ ((h1.up (Bk.EU E2) (h1.lf.ex E2)).put hl'.2.1 hl'.2.2 R)
 |inr dss=>
  obtain ⟨p,qs,rfl,nd,fr,g,on⟩:=R;refine k _ _ _ (h1.upd hl'.2.1 hl'.2.2 (B:=λb=>b∈p::qs) (λb o _ _ z=>E2 b o z) (h1.lf.ex E2) (λb z=>⟨.inr (fr b z),?_⟩) λ_=>⟨p,qs,u9,rfl,g,nd,on.1,λj q ds a b=>⟨v5 _ (v8 a),let ⟨_,ys,c,d⟩:=on.2 j q ds a b;⟨ys,c,d.up (jd λb z=>?_)⟩⟩⟩)
  ·rcases mem_cons.mp z with z|z
   ·rw [z,g];simp
   ·obtain ⟨j,hj,rfl⟩:=List.getElem_of_mem z;obtain ⟨_,ys,c,_⟩:=on.2 j _ _ (y9 hj) (y9 (by rw [← on.1];exact hj));rw [c];simp
  ·rcases z with z|⟨j,⟨_,z⟩|⟨_,z⟩⟩
   ·exact .inl (.inl z)
   ·exact .inr z
   ·exact .inl (.inr ⟨j,z⟩)⟩
def RS.forget (h:RS D G0 A τ ρ G) (j:Nat):RS D G0 A τ (ρ.set j .un) G:=by
 refine ⟨h.ex,h.dm,h.fr,h.da,h.inj,by rw [List.length_set];exact h.len,λi s e=>?_⟩;rw [getElem?_set] at e;split at e
 ·split at e<;>cases e
  trivial
 ·exact h.sl i s e
def M7 {s:Sl} (h:ρ[j]?=some s):ρ.set j s=ρ:=by
 apply List.ext_getElem?;intro k;rw [getElem?_set];split
 ·rename_i e;subst e;split
  ·exact h.symm
  ·rename_i n;rw [List.getElem?_eq_none (by omega)] at h;cases h
 ·rfl
def qba {t:TE3} (a:PuE t) {d:PyData} (hc:∀ ρ,a.f ρ=some d) (hf:a.fv=[]) (ij:i≠j) (il:i≠l) (jl:j≠l) (j0:j≠0) {e:Ends3} {all:List Addr}:∀ (QS pre:List Addr) (done todo:List (List PyData)) (τ:St3) (ρ:Rho) (G:Gp),RL l a0 z0 D G0 A τ ρ G n->Q0 ρ i=some (done++todo)->τ[i]?=some (some (.ref p))->all=pre++QS->G p=some (.lst (all.map T.ref))->pre.length=done.length->(∀ ds∈todo,ds.length<1000000)->ρ[j]?=some .un ->
  (∀ τ' G',RL l a0 z0 D G0 A τ' (ρ.set i (.on (done++todo.map (·++[d])))) G' n->e.nx τ' G')->RA (λG=>getL G p=some (all.map T.ref)) (gn3 j) (qR (bm3 QC (v3 j) (qc t qk))) e (QS.map T.ref) τ G:=by
 intro QS;induction QS with
 |nil=>
  intro pre done todo τ ρ G h sl ht ha gp hl ht2 hj k;refine ⟨zE gp,?_⟩;obtain ⟨p',qs',b,c,g,nd,on⟩:=h.r.on sl;rw [ht] at c;cases c;have l1:todo=[]:=by
   have:=on.1;rw [g] at gp;injection gp with gp;injection gp with gp;have l2:=congrArg List.length gp;simp only [length_map,ha,List.append_nil] at l2;rw [length_append] at this;exact List.eq_nil_of_length_eq_zero (by omega)
  subst l1;have:=k τ G;rw [List.map_nil,M7 (YD sl)] at this;exact this h
 |cons q QS ih=>
  intro pre done todo τ ρ G h sl ht ha gp hl ht2 hj k;obtain ⟨p',qs',b,c,g,nd,on⟩:=h.r.on sl;rw [ht] at c;cases c;have qe:qs'=all:=by
   rw [g] at gp;injection gp with gp;injection gp with gp;have inj:∀ {a b:List Addr},a.map T.ref=b.map T.ref->a=b:=λ{a}=>by
    induction a with
    |nil=>intro b z;cases b<;>simp_all
    |cons x a ih=>intro b z;cases b with
     |nil=>simp at z
     |cons y b=>simp at z;rw [z.1,ih (by simpa using z.2)]
   exact inj gp
  subst qe;cases todo with
  |nil=>
   have:=on.1;rw [ha] at this;simp at this;omega
  |cons ds todo=>
   have hq:qs'[pre.length]?=some q:=by rw [ha];simp
   have hd:(done++ds::todo)[pre.length]?=some ds:=by rw [hl];simp
   obtain ⟨q',ys,hq',Bq,gq,Dy⟩:=on.get hd;rw [hq] at hq';cases hq';have hjl:j<τ.length:=by rw [← h.r.len];exact (za4 hj).1
   have t2:(τ.set j (some (.ref q)))[j]?=some (some (.ref q)):=by rw [getElem?_set,if_pos rfl,if_pos hjl]
   refine ⟨zE gp,?_⟩;show qR (bm3 QC (v3 j) (qc t qk)) _ (τ.set j (some (.ref q))) G;simp only [qR,bm3,v3,t2,zE gq,qc,qk];refine ⟨rfl,a.ok (D:=AD D A) (ρ:=ρ) (λz hz=>by rw [hf] at hz;cases hz) h.r.dom (hc ρ) λx G1 E1 D1 _=>?_⟩;simp only [QC,E1 _ _ gq];refine ⟨by rw [Dy.length,y8];have:=ht2 ds (by simp);omega,?_⟩;have qa:q≠a0:=h.ne Bq (YD sl) (by simp);have r1:RS D G0 A (τ.set j (some (.ref q))) ρ G1:=by
    have:=(h.r.up E1).unk j (some (.ref q));rw [M7 hj] at this;exact this
   have ht':(τ.set j (some (.ref q)))[i]?=some (some (.ref p)):=by rw [getElem?_set,if_neg (Ne.symm ij)];exact ht
   have on1:=on.mono (R':=rs (AD D A) G1) (G':=G1) (B':=A i) (VL E1) (λq _ o _ z=>E1 _ _ z) λ_ z=>z;have r2:=r1.onSet b ht' (E1 _ _ gp) nd on1 hq Bq ((Dy.up (VL E1)).append (.cons D1 .nil));have e1:(done++ds::todo).set pre.length (ds++[d])=(done++[ds++[d]])++todo:=by rw [hl,List.set_append_right _ _ (v4 _)];simp
   rw [e1] at r2;have pq:p≠q:=by rintro rfl;exact (List.nodup_cons.mp nd).1 (v8 hq)
   have li:i<ρ.length:=by rw [h.r.len];exact (za4 ht).1
   refine ih (pre++[q]) (done++[ds++[d]]) todo _ _ _ ⟨r2,h.al,by rw [getElem?_set,if_neg jl];exact h.tl,by rw [getElem?_set,if_neg il];exact h.ul,(h.lf.ex E1).new qa,⟨by rw [getElem?_set,if_neg j0];exact h.tz.1,by rw [List.length_set];exact h.tz.2⟩⟩ ?_ ht' (by rw [ha];simp) (by rw [zD pq];exact E1 _ _ gp) (by simp [hl]) (λz hz=>ht2 z (by simp [hz])) (by rw [getElem?_set,if_neg ij];exact hj) λτ' G' r=>?_
   ·unfold Q0;rw [getElem?_set,if_pos rfl,if_pos li]
   ·refine k τ' G' ?_;have e2:(done++[ds++[d]])++todo.map (·++[d])=done++(ds::todo).map (·++[d]):=by simp
    rw [List.set_set,e2] at r;exact r
def qcg {t:TE3} (a:PuE t) (i j:Nat) (hf:Tru (a.fv.isEmpty)) (hl:Tru (i != j&&(i != l&&(j != l&&j != 0)))):PwS l (WF (YG (v3 i)) (gn3 j) (qR (bm3 QC (v3 j) (qc t qk)))):=⟨λρ n Q=>∃ dss d,Q0 ρ i=some dss/\(∀ ρ,a.f ρ=some d)/\(∀ ds∈dss,ds.length<1000000)/\j<ρ.length/\Q (.nx ((ρ.set j .un).set i (.on (dss.map (·++[d]))))) n,λ⟨dss,d,h1,h2,h3,h4,h5⟩ k=>⟨dss,d,h1,h2,h3,h4,k _ _ h5⟩,λ{a0 z0 D G0 A τ ρ G n e Q} h ⟨dss,d,h1,h2,h3,h4,hq⟩ k=>by
 obtain ⟨ij,il,jl,j0⟩:i≠j/\i≠l/\j≠l/\j≠0:=by simpa using hl.h
 obtain ⟨p,qs,b,c,g,nd,on⟩:=h.r.on h1;simp only [WF,YG,v3,c,zE g];have h':RL l a0 z0 D G0 A τ (ρ.set j .un) G n:=⟨h.r.forget j,h.al,h.tl,by rw [getElem?_set,if_neg jl];exact h.ul,h.lf,h.tz⟩
 refine qba a h2 (List.isEmpty_iff.mp hf.h) ij il jl j0 qs [] [] dss τ _ G h' ?_ c rfl g rfl h3 (by rw [getElem?_set,if_pos rfl,if_pos h4]) λτ' G' r=>k _ _ hq _ _ _ r;unfold Q0;rw [getElem?_set,if_neg (Ne.symm ij),YD h1];rfl⟩
def Ons.rev {R:Gp} {B:Addr->Prop} (h:Ons R G B qs dss):Ons R G B qs.reverse dss.reverse:=by
 refine ⟨by simp [h.1],λj q ds a b=>?_⟩;have hj:j<qs.length:=by have:=(za4 a).1;simpa using this
 rw [List.getElem?_reverse hj] at a;rw [List.getElem?_reverse (by rw [← h.1];exact hj),← h.1] at b;exact h.2 _ q ds a b
def RS.onRev (h:RS D G0 A τ ρ G) (hp:A i p) (ht:τ[i]?=some (some (.ref p))) (gp:G p=some (.lst (qs.map T.ref))) (nd:(p::qs).Nodup) (on:Ons (rs (AD D A) G) G (A i) qs dss):RS D G0 A τ (ρ.set i (.on dss.reverse)) (gu G p (.lst (qs.map T.ref).reverse)):=by
 have np:=List.nodup_cons.mp nd;have:=h.upd i (G':=gu G p (.lst (qs.map T.ref).reverse)) (x:=.ref p) (s:=.on dss.reverse) (B:=A i) (W:=λb=>b=p) (λb o n z=>by rw [zD n];exact z) (λb z=>⟨i,by rw [z];exact hp,.inl rfl⟩) (λb z=>⟨.inl z,by
  by_cases c:b=p
  ·rw [c,qv];simp
  ·rw [zD c];exact h.da i b z⟩) λX=>⟨p,qs.reverse,hp,rfl,by rw [qv,List.map_reverse],by
   refine List.nodup_cons.mpr ⟨λz=>np.1 (List.mem_reverse.mp z),List.pairwise_reverse.mpr (np.2.imp λh=>Ne.symm h)⟩,(on.rev).mono X (λq hq o _ z=>by
   rw [zD (by rintro rfl;exact np.1 (List.mem_reverse.mp hq))];exact z) λ_ z=>z⟩
 rw [XH ht,ME] at this;exact this
def qnD (i:Nat):PwS l (qR (qiC qhl (v3 i))):=⟨λρ n Q=>∃ dss,Q0 ρ i=some dss/\Q (.nx (ρ.set i (.on dss.reverse))) n,λ⟨ds,h1,h2⟩ k=>⟨ds,h1,k _ _ h2⟩,λ{a z0 D G0 A τ ρ G n e Q} h ⟨dss,h1,h2⟩ k=>by
 obtain ⟨p,qs,b,c,g,nd,on⟩:=h.r.on h1;simp only [qR,qiC,v3,c,qhl,zE g,g];refine ⟨rfl,k _ _ h2 _ _ _ ⟨h.r.onRev b c g nd on,h.al,h.tl,?_,h.lf.new (h.ne b (YD h1) (by simp)),h.tz⟩⟩;rw [getElem?_set,if_neg (by rintro rfl;have:=YD h1;rw [h.ul] at this;cases this)];exact h.ul⟩
def qhG {F:List PyData->Option (PyData ⊕ List (List PyData))} {t:TA3} {b:PuA t} {i:Nat} {m:List Bool} {hm:Tru (b.fv.all (mkb m))} {hl:Tru (!mkb m l&&(i != l&&i != 0))}:(qmS F b i m hm hl).w=λρ n Q=>∃ ds r,b.f ρ=some ds/\F ds=some r/\Q (.nx (qn2 m i r ρ)) n:=id rfl
def qca {t:TE3} {a:PuE t} {i j:Nat} {hf:Tru (a.fv.isEmpty)} {hl:Tru (i != j&&(i != l&&(j != l&&j != 0)))}:(qcg a i j hf hl).w=λρ n Q=>∃ dss d,Q0 ρ i=some dss/\(∀ ρ,a.f ρ=some d)/\(∀ ds∈dss,ds.length<1000000)/\j<ρ.length/\Q (.nx ((ρ.set j .un).set i (.on (dss.map (·++[d]))))) n:=id rfl
def qhR {i:Nat}:(qnD (l:=l) i).w=λρ n Q=>∃ dss,Q0 ρ i=some dss/\Q (.nx (ρ.set i (.on dss.reverse))) n:=id rfl
end
end Pu
namespace K70
open PySem L2 L3 Bk
def top (i : Nat) : Stmt := PySem.Challenge.pw_bankwalk_k70_plans_told.main.body.getD i (.Pass ⟨0,0,0,0⟩)
variable {P:Program} {w:World} {K:Frg} {mg:Str->Option Value} {base:Heap} {f:Addr} {fd:FuncData} {k:Nat} {sp:Sp3}
section
variable {S0:Sp3} (V0:Fn3 P w K mg base k "size_of" S0) (m1:mg "len" = none) {S2:Sp3} (V2:Fn3 P w K mg base k "odd_in_common" S2) (m3:mg "enumerate" = none) (m4:mg "sum" = none) {S5:Sp3} (V5:Fn3 P w K mg base k "parted" S5) {S6:Sp3} (V6:Fn3 P w K mg base k "bank_in" S6) {S7:Sp3} (V7:Fn3 P w K mg base k "number_of" S7) {S8:Sp3} (V8:Fn3 P w K mg base k "bits_bank" S8) {S9:Sp3} (V9:Fn3 P w K mg base k "joined_bank" S9) {S10:Sp3} (V10:Fn3 P w K mg base k "is_square" S10) (r_NotSquare:RaX mg base "NotSquare" 97) (m12:mg "range" = none) {S13:Sp3} (V13:Fn3 P w K mg base k "beat_banks" S13) (m14:mg "set" = none) {S15:Sp3} (V15:Fn3 P w K mg base k "is_beat" S15) {S16:Sp3} (V16:Fn3 P w K mg base k "refuse_not_square" S16) {S17:Sp3} (V17:Fn3 P w K mg base k "all_pairs" S17) {S18:Sp3} (V18:Fn3 P w K mg base k "first_beat" S18) {Z19:Spx} (Y19:Fnx P w K mg base k "refuse_not_square" Z19) (m20:mg "abs" = none) {S21:Sp3} (V21:Fn3 P w K mg base k "_law_mix" S21) {S22:Sp3} (V22:Fn3 P w K mg base k "_law_pick" S22) {S23:Sp3} (V23:Fn3 P w K mg base k "_law_sides" S23) {S24:Sp3} (V24:Fn3 P w K mg base k "_law_gcd" S24) (m25:mg "tuple" = none) {S26:Sp3} (V26:Fn3 P w K mg base k "_law_skew" S26) {S27:Sp3} (V27:Fn3 P w K mg base k "_law_rests" S27) {S28:Sp3} (V28:Fn3 P w K mg base k "_law_bits" S28) {S29:Sp3} (V29:Fn3 P w K mg base k "_law_table" S29) {S30:Sp3} (V30:Fn3 P w K mg base k "_law_small" S30) {S31:Sp3} (V31:Fn3 P w K mg base k "_law_size" S31) (m32:mg "zip" = none) {S33:Sp3} (V33:Fn3 P w K mg base k "_law_odd" S33) {S34:Sp3} (V34:Fn3 P w K mg base k "_law_bank" S34) {S35:Sp3} (V35:Fn3 P w K mg base k "_law_words_of" S35) {S36:Sp3} (V36:Fn3 P w K mg base k "_law_may_stand" S36) {S37:Sp3} (V37:Fn3 P w K mg base k "_law_same" S37) (m38:mg "isinstance" = none) (m39:mg "list" = none) (m40:mg "all" = none) (m41:mg "str" = none) (m42:mg "bool" = none) (m43:mg "int" = none) {S44:Sp3} (V44:Fn3 P w K mg base k "turn_plan" S44) {Z45:Spx} (Y45:Fnx P w K mg base k "turn_plan" Z45) (m_BankError:mg "BankError" = some (.ref 24)) (b_BankError:ExC base 24 [.ref 24,.type "ValueError",.type "Exception",.type "BaseException",.type "object"]) (c_BankError:∀ C∈[97],Ct base 24 C) (m_BadRow:mg "BadRow" = some (.ref 147)) (m_BadText:mg "BadText" = some (.ref 109)) (m_Clash:mg "Clash" = some (.ref 85)) (m_NoAsk:mg "NoAsk" = some (.ref 128)) (m_NoOrder:mg "NoOrder" = some (.ref 73)) (m_NoStart:mg "NoStart" = some (.ref 49)) (m_NoWalk:mg "NoWalk" = some (.ref 61)) (m_NoWord:mg "NoWord" = some (.ref 37)) (x_0:XD K [.ref 147,.ref 109,.ref 85,.ref 128,.ref 73,.ref 49,.ref 61,.ref 37] [(none,false),(some 97,false)]) (m58:mg "ValueError" = none) (x_1:XD K [.type "ValueError"] [(none,false),(some 97,true)]) (m_NotSquare:mg "NotSquare" = some (.ref 97)) (x_2:XD K [.ref 97] [(none,false),(some 97,true)]) {S62:Sp3} (V62:Fn3 P w K mg base k "_law_left" S62) {S63:Sp3} (V63:Fn3 P w K mg base k "_law_square" S63) {S64:Sp3} (V64:Fn3 P w K mg base k "_law_dealing" S64) {S65:Sp3} (V65:Fn3 P w K mg base k "_law_first_fit" S65) {S66:Sp3} (V66:Fn3 P w K mg base k "_law_answer" S66) (m67:mg "min" = none)
abbrev JV:Stmt:=top 12
abbrev CT:List Str:=["dealing","kind","rows","columns","banks","other_rows","other_columns","other_banks"]
abbrev CU:List Str:=["dealing"]
def jC:FnScope CT CU (qi JV):=Hd.sc0
def DP (E:Hd.Fb K mg "size_of" JV CU f fd) (read:Rd sp 1 (Bk.CM S0) CT):Fn3 P w K mg base (k+1) "size_of" sp:=
 Hd.jfE E jC read λcdv A outer s H E hr=>(qh (qQ 1 jC.nd (qA (qd 0) qf)) (qh (zA (qP (zd hr.units) qK (qd 1) qN (qD _)) (qo (qx (qC (qb (qaa qf (qA (qd 0) qf)) (qb (qaa qf (qA (qd 0) qf)) (qb (qaa qf (za zB jo rfl m1 PySem.boot_len (qb (qA (qd 0) qf) qg))) qg)))))) qT) (qh (zA (qP (zd hr.units) qK (qd 1) qN (qD _)) (qo (qx (qC (qb (za zB jo rfl m1 PySem.boot_len (qb (qA (qd 0) qf) qg)) (qb (za zB jo rfl m1 PySem.boot_len (qb (qA (qA (qd 0) qf) qf) qg)) (qb (qA (qd 0) qf) qg)))))) qT) (qh (zA (qP (zd hr.units) qK (qd 1) qN (qD _)) (qh (jH (qj V0 hr rfl (qb (qA (qd 0) qf) qg)) (zG rfl (qq (qt (i:=2) (jC.nd)) (qq (qt (i:=3) (jC.nd)) (qq (qt (i:=4) (jC.nd)) zH))))) (qh (jH (qj V0 hr rfl (qb (qA (qd 0) qf) qg)) (zG rfl (qq (qt (i:=5) (jC.nd)) (qq (qt (i:=6) (jC.nd)) (qq (qt (i:=7) (jC.nd)) zH))))) (qo (qx (qC (qb (js (qd 2) (qd 5)) (qb (js (qd 3) (qd 6)) (qb (js (qd 4) (qd 7)) qg)))))))) qT) (qo (qx (qC (qb (qA (qd 0) qf) (qb (qA (qd 0) qf) (qb (qA (qd 0) qf) qg))))))))))
abbrev QK:Stmt:=top 13
abbrev EG:List Str:=["dealing","word","rows","columns","banks"]
abbrev U6:List Str:=["dealing","word"]
def JH:FnScope EG U6 (qi QK):=Hd.sc0
def VZ (E:Hd.Fb K mg "number_of" QK U6 f fd) (read:Rd sp 2 (Bk.U0 S0) EG):Fn3 P w K mg base (k+1) "number_of" sp:=
 Hd.jfE E JH read λcdv A outer s H E hr=>(qh (jH (qj V0 hr rfl (qb (qd 0) qg)) (zG rfl (qq (qt (i:=2) (JH.nd)) (qq (qt (i:=3) (JH.nd)) (qq (qt (i:=4) (JH.nd)) zH))))) (qo (qx (qE (js (qA (qd 1) qf) (qd 3)) (qA (qd 1) qf)))))
abbrev zU:Stmt:=top 14
abbrev ZO:List Str:=["number","mask","common","many"]
abbrev ZY:List Str:=["number","mask"]
def zV:FnScope ZO ZY (qi zU):=Hd.sc0
def W4 (E:Hd.Fb K mg "odd_in_common" zU ZY f fd) (read:Rd sp 2 (Bk.ZJ) ZO):Fn3 P w K mg base (k+1) "odd_in_common" sp:=
 Hd.jfE E zV read λcdv A outer s H E hr=>(qh (qQ 2 zV.nd (SS (qd 0) (qd 1))) (qh (qQ 3 zV.nd qf) (qh (N0 PassesOwn.never (qP qaj Y0 (qd 2) qf (qD _)) (qh (qa1 3 zV.nd (SS (qd 2) qf)) (qo (qQ 2 zV.nd (qlH (qd 2) qf))))) (qo (qx (ZB (zd hr.units) qK (SS (qd 3) qf) qf (qD _)))))))
abbrev QP:Stmt:=top 15
abbrev XW:List Str:=["masks","number"]
abbrev EA:List Str:=["masks","number"]
def LP:FnScope XW EA (qi QP):=Hd.sc0
def K3 (E:Hd.Fb K mg "bits_bank" QP EA f fd) (read:Rd sp 2 (Bk.EH S2) XW):Fn3 P w K mg base (k+1) "bits_bank" sp:=
 Hd.jfE E LP read λcdv A outer s H E hr=>(qo (qx (za (DJ rfl) qck rfl m4 PyProof.Rows.boot_sum (qb (WZ ["t","mask","number"] [none,none,some 1] rfl (TB rfl m3 (qb (qd 0) qg)) (λ_ _ _=>(zG rfl (qq (jgn 0) (qq (jgn 1) zH)))) (λ_ _ _=>qaZ (J1 (qj V2 hr rfl (qb (qd 2) (qb (qd 1) qg))))) (λ_ _ _=>(qaa qf (qd 0))) (by kernel_rfl) (by kernel_rfl)) qg))))
abbrev VY:Stmt:=top 16
abbrev T5:List Str:=["word","rows","columns","i","j"]
abbrev SL:List Str:=["word","rows","columns"]
def CN:FnScope T5 SL (qi VY):=Hd.sc0
def qb1 (E:Hd.Fb K mg "parted" VY SL f fd) (read:Rd sp 3 (Bk.R8) T5):Fn3 P w K mg base (k+1) "parted" sp:=
 Hd.jfE E CN read λcdv A outer s H E hr=>(qh (jH (qd 0) (zG rfl (qq (qt (i:=3) (CN.nd)) (qq (qt (i:=4) (CN.nd)) zH)))) (qo (qx (qC (qb (qC (qb (UT (qd 3) (qd 1)) (qb (UT (qd 4) (qd 2)) qg))) (qb (qC (qb (jF (qd 3) (qd 1)) (qb (jF (qd 4) (qd 2)) qg))) qg))))))
abbrev jv:Stmt:=top 17
abbrev YY:List Str:=["one","other","word","rows","columns","banks","upper","lower"]
abbrev YH:List Str:=["one","other","word"]
def zY:FnScope YY YH (qi jv):=Hd.sc0
def JM (E:Hd.Fb K mg "joined_bank" jv YH f fd) (read:Rd sp 3 (Bk.YJ S0 S5 S6) YY):Fn3 P w K mg base (k+1) "joined_bank" sp:=
 Hd.jfE E zY read λcdv A outer s H E hr=>(qh (jH (qj V0 hr rfl (qb (qd 1) qg)) (zG rfl (qq (qt (i:=3) (zY.nd)) (qq (qt (i:=4) (zY.nd)) (qq (qt (i:=5) (zY.nd)) zH))))) (qh (jH (qj V5 hr rfl (qb (qd 2) (qb (qd 3) (qb (qd 4) qg)))) (zG rfl (qq (qt (i:=6) (zY.nd)) (qq (qt (i:=7) (zY.nd)) zH)))) (qo (qx (qE (js (qj V6 hr rfl (qb (qd 0) (qb (qd 6) qg))) (qd 5)) (qj V6 hr rfl (qb (qd 1) (qb (qd 7) qg))))))))
abbrev JU:Stmt:=top 18
abbrev CZ:List Str:=["dealing","word","kind"]
abbrev CO:List Str:=["dealing","word"]
def RU:FnScope CZ CO (qi JU):=Hd.sc0
def WC (E:Hd.Fb K mg "bank_in" JU CO f fd) (read:Rd sp 2 (Bk.CF S7 S8 S9) CZ):Fn3 P w K mg base (k+1) "bank_in" sp:=
 Hd.jfE E RU read λcdv A outer s H E hr=>(qh (qQ 2 RU.nd (qA (qd 0) qf)) (qh (zA (qP (zd hr.units) qK (qd 2) qN (qD _)) (qo (qx (jF (qE (js (qA (qd 0) qf) (qA (qd 1) qf)) (js (qA (qd 0) qf) (qA (qd 1) qf))) (qA (qd 0) qf)))) qT) (qh (zA (qP (zd hr.units) qK (qd 2) qN (qD _)) (qo (qx (jF (qj V7 hr rfl (qb (qd 0) (qb (qd 1) qg))) (qA (qd 0) qf)))) qT) (qh (zA (qP (zd hr.units) qK (qd 2) qN (qD _)) (qo (qx (qj V8 hr rfl (qb (qA (qd 0) qf) (qb (qj V7 hr rfl (qb (qd 0) (qb (qd 1) qg))) qg))))) qT) (qh (zA (qP (zd hr.units) qK (qd 2) qN (qD _)) (qo (qx (qA (qA (qA (qd 0) qf) (qA (qd 1) qf)) (qA (qd 1) qf)))) qT) (qo (qx (qj V9 hr rfl (qb (qA (qd 0) qf) (qb (qA (qd 0) qf) (qb (qd 1) qg)))))))))))
abbrev QG:Stmt:=top 20
abbrev YL:List Str:=["dealing","rows","columns","banks"]
abbrev EI:List Str:=["dealing"]
def JA:FnScope YL EI (qi QG):=Hd.sc0
def U8 (S0:Sp3):TS3:=(qy (qH (cb3 S0 (qc (v3 0) qk)) (qI 3 (ql (gn3 1) (ql (gn3 2) (ql (gn3 3) qJ))))) (qL (o3 (zg false) (v3 1) (v3 2))))
def KH (E:Hd.Fb K mg "is_square" QG EI f fd) (read:Rd sp 1 (U8 S0) YL):Fn3 P w K mg base (k+1) "is_square" sp:=
 Hd.jfE E JA read λcdv A outer s H E hr=>(qh (jH (qj V0 hr rfl (qb (qd 0) qg)) (zG rfl (qq (qt (i:=1) (JA.nd)) (qq (qt (i:=2) (JA.nd)) (qq (qt (i:=3) (JA.nd)) zH))))) (qo (qx (ZB (zd hr.units) qK (qd 1) (qd 2) (qD _)))))
abbrev qY:Stmt:=top 21
abbrev qM:List Str:=["dealing"]
abbrev zN:List Str:=["dealing"]
def QY:FnScope qM zN (qi qY):=Hd.sc0
def jz (S10:Sp3):TS3:=(zb (JS (tb3 (cb3 S10 (qc (v3 0) qk)))) YS qw)
def UP (E:Hd.Fb K mg "refuse_not_square" qY zN f fd) (read:Rd sp 1 (jz S10) qM):Fn3 P w K mg base (k+1) "refuse_not_square" sp:=
 Hd.jfE E QY read λcdv A outer s H E hr=>(qo (zA (LA (J1 (qj V10 hr rfl (qb (qd 0) qg)))) M4 qT))
def zC (S10:Sp3) (dx:X3):TS3:=(zb (JS (tb3 (cb3 S10 (qc (v3 0) qk)))) (qaf 97 dx (qc (c3 (.str "the table hasn't as many rows as columns")) qk)) qw)
def UA {sx:Spx} (E:Hd.Fb K mg "refuse_not_square" qY zN f fd) (read:∀ ts G dx,sx ts G dx->ts.length=1/\(zC S10) dx { nx:=λ_ _=>False,rt:=λ_ _=>False } (qm qM ts) G):Fnx P w K mg base (k+1) "refuse_not_square" sx:=
 Hd.qqM (t3:=λdx=>(zC S10) dx) E QY read λdx cdv A outer s H E hE hr=>(qo (zA (LA (J1 (qj V10 hr rfl (qb (qd 0) qg)))) (qo (qdH hE r_NotSquare rfl rfl (qb qN qg))) qT))
abbrev QN:Stmt:=top 22
abbrev Z6:List Str:=["dealing","rows","columns","banks"]
abbrev EN:List Str:=["dealing"]
def JE:FnScope Z6 EN (qi QN):=Hd.sc0
def UY (S0:Sp3):TS3:=(qy (qH (cb3 S0 (qc (v3 0) qk)) (qI 3 (ql (gn3 1) (ql (gn3 2) (ql (gn3 3) qJ))))) (qL (qlp (zO (qc (v3 1) qk)) (gn3 0) tt3 (zO (qc (o3 zh (v3 0) (c3 (.int 1))) (qc (v3 2) qk))) (gn3 1) tt3 (q0 (qc (v3 0) (qc (v3 1) qk))) [none,none,some 2])))
def LG (E:Hd.Fb K mg "all_pairs" QN EN f fd) (read:Rd sp 1 (UY S0) Z6):Fn3 P w K mg base (k+1) "all_pairs" sp:=
 Hd.jfE E JE read λcdv A outer s H E hr=>(qh (jH (qj V0 hr rfl (qb (qd 0) qg)) (zG rfl (qq (qt (i:=1) (JE.nd)) (qq (qt (i:=2) (JE.nd)) (qq (qt (i:=3) (JE.nd)) zH))))) (qo (qx (qgi ["i","j","columns"] [none,none,some 2] rfl (qX rfl m12 (qb (qd 1) qg) (h1:=by intro _ _ _ h;simpa [qc,qk] using h)) (λ_ _ _=>(jgn 0)) (λ_ _ _=>jD) (λ_ _ _=>(LM rfl m12 (qb (qE (qd 0) qf) (qb (qd 2) qg)) (h1:=by intro _ _ _ h;simpa [qc,qk] using h))) (λ_ _ _=>(jgn 1)) (λ_ _ _=>jD) (λ_ _ _=>(qC (qb (qd 0) (qb (qd 1) qg)))) (by kernel_rfl) (by kernel_rfl)))))
abbrev jK:Stmt:=top 23
abbrev JJ:List Str:=["dealing","pairs"]
abbrev VU:List Str:=["dealing","pairs"]
def SF:FnScope JJ VU (qi jK):=Hd.sc0
def UC (S6:Sp3):TS3:=(qL (qlp (YG (v3 1)) (qI 2 (ql (gn3 0) (ql (gn3 1) qJ))) tt3 (YG (zF (qc (q0 (qc (v3 0) (qc (v3 1) qk))) (qc (q0 (qc (v3 1) (qc (v3 0) qk))) qk)))) (gn3 2) tt3 (cb3 S6 (qc (v3 3) (qc (v3 2) qk))) [none,none,none,some 0]))
def SH (E:Hd.Fb K mg "beat_banks" jK VU f fd) (read:Rd sp 2 (UC S6) JJ):Fn3 P w K mg base (k+1) "beat_banks" sp:=
 Hd.jfE E SF read λcdv A outer s H E hr=>(qo (qx (qgi ["i","j","word","dealing"] [none,none,none,some 0] rfl (EZ (qd 1)) (λ_ _ _=>(zG rfl (qq (jgn 0) (qq (jgn 1) zH)))) (λ_ _ _=>jD) (λ_ _ _=>(EZ (zI (qb (qC (qb (qd 0) (qb (qd 1) qg))) (qb (qC (qb (qd 1) (qb (qd 0) qg))) qg))))) (λ_ _ _=>(jgn 2)) (λ_ _ _=>jD) (λ_ _ _=>(qj V6 hr rfl (qb (qd 3) (qb (qd 2) qg)))) (by kernel_rfl) (by kernel_rfl))))
abbrev JX:Stmt:=top 24
abbrev UB:List Str:=["dealing","pairs","banks"]
abbrev CP:List Str:=["dealing","pairs"]
def RW:FnScope UB CP (qi JX):=Hd.sc0
def XR (S13:Sp3):TS3:=(qy (qH (cb3 S13 (qc (v3 0) (qc (v3 1) qk))) (gn3 2)) (qL (VF (o3 (iB λi j=>decide (i<j)) (cb3 jW (qc (v3 1) qk)) (c3 (.int 2))) (o3 (zg false) (qd3 (v3 2)) (cb3 jW (qc (v3 2) qk))))))
def qaH (E:Hd.Fb K mg "is_beat" JX CP f fd) (read:Rd sp 2 (XR S13) UB):Fn3 P w K mg base (k+1) "is_beat" sp:=
 Hd.jfE E RW read λcdv A outer s H E hr=>(qh (qQ 2 RW.nd (qj V13 hr rfl (qb (qd 0) (qb (qd 1) qg)))) (qo (qx (qlV (ZB qbF Y0 (za zB jo rfl m1 PySem.boot_len (qb (qd 1) qg)) qf (qD _)) (LC (ZB (zd hr.units) qK (KR rfl rfl m1 rfl m14 (qd 2)) (za zB jo rfl m1 PySem.boot_len (qb (qd 2) qg)) (qD _)))))))
abbrev jS:Stmt:=top 25
abbrev QJ:List Str:=["dealing","plan","pair","at","beat"]
abbrev VS:List Str:=["dealing","plan","pair"]
def J9:FnScope QJ VS (qi jS):=Hd.sc0
def V1 (S15:Sp3):TS3:=(qy (WF (EW (qc (v3 1) qk)) (qI 2 (ql (gn3 3) (ql (gn3 4) qJ))) (zb (tb3 (cb3 S15 (qc (v3 0) (qc (o3 zh (v3 4) (zF (qc (v3 2) qk))) qk)))) (qL (v3 3)) qw)) (qL (cb3 jW (qc (v3 1) qk))))
def TU (E:Hd.Fb K mg "first_beat" jS VS f fd) (read:Rd sp 3 (V1 S15) QJ):Fn3 P w K mg base (k+1) "first_beat" sp:=
 Hd.jfE E J9 read λcdv A outer s H E hr=>(qh (JY PassesOwn.never rfl (TB rfl m3 (qb (qd 1) qg)) (zG rfl (qq (qt (i:=3) (J9.nd)) (qq (qt (i:=4) (J9.nd)) zH))) (qo (zA (J1 (qj V15 hr rfl (qb (qd 0) (qb (qE (qd 4) (zI (qb (qd 2) qg))) qg)))) (qo (qx (qd 3))) qT))) (qo (qx (za zB jo rfl m1 PySem.boot_len (qb (qd 1) qg)))))
abbrev jE:Stmt:=top 26
abbrev jc:List Str:=["dealing","plan","pair","at"]
abbrev YW:List Str:=["dealing"]
def QL:FnScope jc YW (qi jE):=Hd.sc0
def U3 (S16:Sp3) (S17:Sp3) (S18:Sp3):TS3:=(qy (qR (cb3 S16 (qc (v3 0) qk))) (qy (qH (zF qk) (gn3 1)) (qy (WF (YG (cb3 S17 (qc (v3 0) qk))) (gn3 2) (qy (qH (cb3 S18 (qc (v3 0) (qc (v3 1) (qc (v3 2) qk)))) (gn3 3)) (qy (zb (tb3 (o3 (zg false) (v3 3) (cb3 jW (qc (v3 1) qk)))) (qR (bm3 QC (v3 1) (qc (zF qk) qk))) qw) (qR (bm3 QC (o3 ix3 (v3 1) (v3 3)) (qc (v3 2) qk)))))) (qL (v3 1)))))
def LQ (E:Hd.Fb K mg "turn_plan" jE YW f fd) (read:Rd sp 1 (U3 S16 S17 S18) jc):Fn3 P w K mg base (k+1) "turn_plan" sp:=
 Hd.jfE E QL read λcdv A outer s H E hr=>(qh (ZP (qj V16 hr rfl (qb (qd 0) qg))) (qh (qQ 1 QL.nd (zI qg)) (qh (JY PassesOwn.never rfl (EZ (qj V17 hr rfl (qb (qd 0) qg))) (qt (i:=2) (QL.nd)) (qh (qQ 3 QL.nd (qj V18 hr rfl (qb (qd 0) (qb (qd 1) (qb (qd 2) qg))))) (qh (zA (qP (zd hr.units) qK (qd 3) (za zB jo rfl m1 PySem.boot_len (qb (qd 1) qg)) (qD _)) (qo (ZP (ZL (qd 1) (qb (zI qg) qg)))) qT) (qo (ZP (ZL (qA (qd 1) (qd 3)) (qb (qd 2) qg))))))) (qo (qx (qd 1))))))
def JD (Z19:Spx) (dx:X3):TS3:=(qy (qR (qpk Z19 dx (qc (v3 0) qk))) YS)
def T3 {sx:Spx} (E:Hd.Fb K mg "turn_plan" jE YW f fd) (read:∀ ts G dx,sx ts G dx->ts.length=1/\(JD Z19) dx { nx:=λ_ _=>False,rt:=λ_ _=>False } (qm jc ts) G):Fnx P w K mg base (k+1) "turn_plan" sx:=
 Hd.qqM (t3:=λdx=>(JD Z19) dx) E QL read λdx cdv A outer s H E hE hr=>(qh (ZP (qdD hE Y19 hr rfl (qb (qd 0) qg))) M4)
abbrev J2:Stmt:=top 28
abbrev X2:List Str:=["_law_cell","_law_k","_law_m"]
abbrev XY:List Str:=["_law_cell","_law_k"]
def RE:FnScope X2 XY (qi J2):=Hd.sc0
def qaC (E:Hd.Fb K mg "_law_mix" J2 XY f fd) (read:Rd sp 2 (Bk.XX) X2):Fn3 P w K mg base (k+1) "_law_mix" sp:=
 Hd.jfE E RE read λcdv A outer s H E hr=>(qh (qQ 2 RE.nd (jF (js (qE (qE (jF (qd 0) qf) (js (js (qd 1) (qd 1)) qf)) qf) qf) qf)) (qo (qx (jF (js (qd 2) (qd 2)) qf))))
abbrev ZE:Stmt:=top 29
abbrev DM:List Str:=["_law_script","_law_k","_law_cell","_law_own"]
abbrev D4:List Str:=["_law_script","_law_k"]
def EB:FnScope DM D4 (qi ZE):=Hd.sc0
def MW (E:Hd.Fb K mg "_law_left" ZE D4 f fd) (read:Rd sp 2 (Bk.D6) DM):Fn3 P w K mg base (k+1) "_law_left" sp:=
 Hd.jfE E EB read λcdv A outer s H E hr=>(qh (qQ 2 EB.nd (qhi (qP qbF Y0 (qd 1) (za zB jo rfl m1 PySem.boot_len (qb (qd 0) qg)) (qD _)) (qA (qd 0) (qd 1)) qf)) (qh (qQ 3 EB.nd (qhi (qP qpy Y0 (za NZ qcp rfl m20 PyProof.Rows.boot_abs (qb (qd 2) qg)) (qk0 qf qf) (qD _)) (za NZ qcp rfl m20 PyProof.Rows.boot_abs (qb (qd 2) qg)) qf)) (qo (qx (zI (qb (qd 3) (qb (qE (qd 2) (js qf (qd 1))) (qb qf qg))))))))
abbrev ZS:Stmt:=top 30
abbrev WD:List Str:=["_law_left_here","_law_many","_law_digit"]
abbrev WJ:List Str:=["_law_left_here","_law_many"]
def CG:FnScope WD WJ (qi ZS):=Hd.sc0
def LX (E:Hd.Fb K mg "_law_pick" ZS WJ f fd) (read:Rd sp 2 (Bk.DU S21) WD):Fn3 P w K mg base (k+1) "_law_pick" sp:=
 Hd.jfE E CG read λcdv A outer s H E hr=>(qh (jH (qE (qA (qd 0) qf) qf) (qfX (qd 0) qf)) (qh (zA (qP qaj Y0 (qA (qd 0) qf) qf (qD _)) (qh (qQ 2 CG.nd (jF (qA (qd 0) qf) (qd 1))) (qh (jH (UT (qA (qd 0) qf) (qd 1)) (qfX (qd 0) qf)) (qo (qx (qd 2))))) qT) (qo (qx (jF (UT (qj V21 hr rfl (qb (qj V21 hr rfl (qb (qA (qd 0) qf) (qb (qA (qd 0) qf) qg))) (qb (qE (qA (qd 0) qf) qf) qg))) qf) (qd 1))))))
abbrev QR:Stmt:=top 31
abbrev U2:List Str:=["_law_left_here","_law_wide","_law_rows","_law_columns"]
abbrev U4:List Str:=["_law_left_here"]
def VM:FnScope U2 U4 (qi QR):=Hd.sc0
def LK (E:Hd.Fb K mg "_law_sides" QR U4 f fd) (read:Rd sp 1 (Bk.EO S22) U2):Fn3 P w K mg base (k+1) "_law_sides" sp:=
 Hd.jfE E VM read λcdv A outer s H E hr=>(qh (qQ 1 VM.nd (qA (zI (qb qf (qb qf (qb qf (qb qf qg))))) (qj V22 hr rfl (qb (qd 0) (qb qf qg))))) (qh (KM (i:=2) (j:=3) rfl VM.nd rfl rfl (by decide) rfl rfl (qb (qE qf (qj V22 hr rfl (qb (qd 0) (qb (qd 1) qg)))) (qb (qE qf (qj V22 hr rfl (qb (qd 0) (qb (qd 1) qg)))) qg))) (qo (qx (qA (zI (qb (qC (qb (qd 2) (qb (qd 3) qg))) (qb (qC (qb (qd 2) (qb (qd 3) qg))) (qb (qC (qb (qd 2) (qb (qd 3) qg))) (qb (qC (qb (qd 2) (qb (qd 2) qg))) qg))))) (qj V22 hr rfl (qb (qd 0) (qb qf qg))))))))
abbrev JT:Stmt:=top 32
abbrev CV:List Str:=["_law_one","_law_other"]
abbrev CI:List Str:=["_law_one","_law_other"]
def RP:FnScope CV CI (qi JT):=Hd.sc0
def qaE (E:Hd.Fb K mg "_law_gcd" JT CI f fd) (read:Rd sp 2 (Bk.XO) CV):Fn3 P w K mg base (k+1) "_law_gcd" sp:=
 Hd.jfE E RP read λcdv A outer s H E hr=>(qh (N0 PassesOwn.never (qP qaj Y0 (qd 1) qf (qD _)) (qo (KM (i:=0) (j:=1) rfl RP.nd rfl rfl (by decide) rfl rfl (qb (qd 1) (qb (jF (qd 0) (qd 1)) qg))))) (qo (qx (qd 0))))
abbrev ZV:Stmt:=top 33
abbrev WA:List Str:=["_law_left_here","_law_rows","_law_columns","_law_banks","_law_wide"]
abbrev WB:List Str:=["_law_left_here"]
def ZX:FnScope WA WB (qi ZV):=Hd.sc0
def MA (E:Hd.Fb K mg "_law_skew" ZV WB f fd) (read:Rd sp 1 (Bk.DQ S23 S22) WA):Fn3 P w K mg base (k+1) "_law_skew" sp:=
 Hd.jfE E ZX read λcdv A outer s H E hr=>(qh (jH (qj V23 hr rfl (qb (qd 0) qg)) (zG rfl (qq (qt (i:=1) (ZX.nd)) (qq (qt (i:=2) (ZX.nd)) zH)))) (qh (qQ 3 ZX.nd (qE qf (qj V22 hr rfl (qb (qd 0) (qb (qA (zI (qb qf (qb qf (qb qf (qb qf qg))))) (qj V22 hr rfl (qb (qd 0) (qb qf qg)))) qg))))) (qh (qQ 4 ZX.nd (qA (zI (qb (qd 3) (qb qf (qb qf qg)))) (qj V22 hr rfl (qb (qd 0) (qb qf qg))))) (qo (qx (qC (qb qN (qb (qd 1) (qb (qd 2) (qb (qd 3) (qb (qj V22 hr rfl (qb (qd 0) (qb (qd 4) qg))) (qb (qj V22 hr rfl (qb (qd 0) (qb (qd 4) qg))) qg))))))))))))
abbrev QH:Stmt:=top 34
abbrev EK:List Str:=["_law_left_here","_law_rows","_law_columns","_law_banks","_law_places","_law_turn"]
abbrev UX:List Str:=["_law_left_here"]
def jf:FnScope EK UX (qi QH):=Hd.sc0
def K6 (E:Hd.Fb K mg "_law_rests" QH UX f fd) (read:Rd sp 1 (Bk.UV S23 S22 S24) EK):Fn3 P w K mg base (k+1) "_law_rests" sp:=
 Hd.jfE E jf read λcdv A outer s H E hr=>(qh (jH (qj V23 hr rfl (qb (qd 0) qg)) (zG rfl (qq (qt (i:=1) (jf.nd)) (qq (qt (i:=2) (jf.nd)) zH)))) (qh (qQ 3 jf.nd (qE qf (qj V22 hr rfl (qb (qd 0) (qb (qA (zI (qb qf (qb qf (qb qf qg)))) (qj V22 hr rfl (qb (qd 0) (qb qf qg)))) qg))))) (qh (qQ 4 jf.nd (qE (RH (UT (js (RH (qd 1)) (qd 2)) (qd 3))) (qj V22 hr rfl (qb (qd 0) (qb qf qg))))) (qh (JY PassesOwn.never rfl (qX rfl m12 (qb qf qg) (h1:=by intro _ _ _ h;simpa [qc,qk] using h)) (qt (i:=5) (jf.nd)) (qo (zA (qP qaj Y0 (qj V24 hr rfl (qb (qd 3) (qb (qd 4) qg))) qf (qD _)) (qo (qQ 4 jf.nd (qE (qd 4) qf))) qT))) (qo (qx (qC (qb qN (qb (qd 1) (qb (qd 2) (qb (qd 3) (qb (qd 4) qg))))))))))))
abbrev Z4:Stmt:=top 35
abbrev R6:List Str:=["_law_left_here","_law_most","_law_high","_law_low","_law_masks","_law_wide"]
abbrev D8:List Str:=["_law_left_here","_law_most"]
def YT:FnScope R6 D8 (qi Z4):=Hd.sc0
def MZ (E:Hd.Fb K mg "_law_bits" Z4 D8 f fd) (read:Rd sp 2 (Bk.DW S22) R6):Fn3 P w K mg base (k+1) "_law_bits" sp:=
 Hd.jfE E YT read λcdv A outer s H E hr=>(qh (KM (i:=2) (j:=3) rfl YT.nd rfl rfl (by decide) rfl rfl (qb (qj V22 hr rfl (qb (qd 0) (qb (qE (qd 1) qf) qg))) (qb (qj V22 hr rfl (qb (qd 0) (qb (qE (qd 1) qf) qg))) qg))) (qh (YE 4 ["_law_t","_law_left_here"] [none,some 0] rfl YT.nd (qX rfl m12 (qb (qj V22 hr rfl (qb (qd 0) (qb qf qg))) qg) (h1:=by intro _ _ _ h;simpa [qc,qk] using h)) (λ_ _ _=>(jgn 0)) (λ_ _ _=>jD) (λ_ _ _=>(qj V22 hr rfl (qb (qd 1) (qb qf qg)))) (by kernel_rfl) (by kernel_rfl) rfl rfl) (qh (qQ 5 YT.nd (qA (zI (qb qf (qb qf (qb qf (qb qf (qb qf (qb qf (qb qf (qb qf (qb qf qg)))))))))) (qE (qd 2) (qd 3)))) (qo (qx (qC (qb qN (qb (qd 2) (qb (qd 3) (qb (zW zf jq rfl m25 PyProof.Rows.boot_tuple (qb (WZ ["_law_mask","_law_wide"] [none,some 5] rfl (EZ (qd 4)) (λ_ _ _=>(jgn 0)) (λ_ _ _=>jD) (λ_ _ _=>(jF (qd 0) (qd 1))) (by kernel_rfl) (by kernel_rfl)) qg)) qg))))))))))
abbrev QQ:Stmt:=top 36
abbrev X8:List Str:=["_law_left_here","_law_rows","_law_columns","_law_banks","_law_cells"]
abbrev U7:List Str:=["_law_left_here"]
def QI:FnScope X8 U7 (qi QQ):=Hd.sc0
def KC (E:Hd.Fb K mg "_law_table" QQ U7 f fd) (read:Rd sp 1 (Bk.EM S23 S22) X8):Fn3 P w K mg base (k+1) "_law_table" sp:=
 Hd.jfE E QI read λcdv A outer s H E hr=>(qh (jH (qj V23 hr rfl (qb (qd 0) qg)) (zG rfl (qq (qt (i:=1) (QI.nd)) (qq (qt (i:=2) (QI.nd)) zH)))) (qh (qQ 3 QI.nd (qE qf (qj V22 hr rfl (qb (qd 0) (qb (qA (zI (qb qf (qb qf (qb qf qg)))) (qj V22 hr rfl (qb (qd 0) (qb qf qg)))) qg))))) (qh (YE 4 ["_law_i","_law_left_here","_law_banks","_law_columns"] [none,some 0,some 3,some 2] rfl QI.nd (qX rfl m12 (qb (qd 1) qg) (h1:=by intro _ _ _ h;simpa [qc,qk] using h)) (λ_ _ _=>(jgn 0)) (λ_ _ _=>jD) (λ_ _ _=>(zW zf jq rfl m25 PyProof.Rows.boot_tuple (qb (WZ ["_law_j","_law_left_here","_law_banks"] [none,some 1,some 2] rfl (qX rfl m12 (qb (qd 3) qg) (h1:=by intro _ _ _ h;simpa [qc,qk] using h)) (λ_ _ _=>(jgn 0)) (λ_ _ _=>jD) (λ_ _ _=>(qj V22 hr rfl (qb (qd 1) (qb (qd 2) qg)))) (by kernel_rfl) (by kernel_rfl)) qg))) (by kernel_rfl) (by kernel_rfl) rfl rfl) (qo (qx (qC (qb qN (qb (qd 3) (qb (zW zf jq rfl m25 PyProof.Rows.boot_tuple (qb (qd 4) qg)) qg)))))))))
abbrev QM:Stmt:=top 37
abbrev XZ:List Str:=["_law_left_here","_law_rows","_law_columns","_law_banks","_law_way","_law_high","_law_low","_law_masks","_law_wide","_law_places","_law_turn","_law_cells"]
abbrev EJ:List Str:=["_law_left_here"]
def qZ:FnScope XZ EJ (qi QM):=Hd.sc0
def LJ (E:Hd.Fb K mg "_law_small" QM EJ f fd) (read:Rd sp 1 (Bk.UW S22 S24) XZ):Fn3 P w K mg base (k+1) "_law_small" sp:=
 Hd.jfE E qZ read λcdv A outer s H E hr=>(qh (jH (qC (qb (qE qf (qj V22 hr rfl (qb (qd 0) (qb qf qg)))) (qb (qE qf (qj V22 hr rfl (qb (qd 0) (qb qf qg)))) (qb (qE qf (qj V22 hr rfl (qb (qd 0) (qb qf qg)))) qg)))) (zG rfl (qq (qt (i:=1) (qZ.nd)) (qq (qt (i:=2) (qZ.nd)) (qq (qt (i:=3) (qZ.nd)) zH))))) (qh (qQ 4 qZ.nd (qj V22 hr rfl (qb (qd 0) (qb qf qg)))) (qh (zA (qP (zd hr.units) qK (qd 4) qf (qD _)) (qo (qx (qC (qb qN (qb (qd 1) (qb (qd 2) (qb (qd 3) (qb (qj V22 hr rfl (qb (qd 0) (qb (qd 3) qg))) (qb (qj V22 hr rfl (qb (qd 0) (qb qf qg))) qg))))))))) qT) (qh (zA (qP (zd hr.units) qK (qd 4) qf (qD _)) (qh (KM (i:=5) (j:=6) rfl qZ.nd rfl rfl (by decide) rfl rfl (qb (qj V22 hr rfl (qb (qd 0) (qb qf qg))) (qb (qj V22 hr rfl (qb (qd 0) (qb qf qg))) qg))) (qh (YE 7 ["_law_t","_law_left_here"] [none,some 0] rfl qZ.nd (qX rfl m12 (qb (qj V22 hr rfl (qb (qd 0) (qb qf qg))) qg) (h1:=by intro _ _ _ h;simpa [qc,qk] using h)) (λ_ _ _=>(jgn 0)) (λ_ _ _=>jD) (λ_ _ _=>(qj V22 hr rfl (qb (qd 1) (qb qf qg)))) (by kernel_rfl) (by kernel_rfl) rfl rfl) (qh (qQ 8 qZ.nd (qA (zI (qb qf (qb qf (qb qf (qb qf (qb qf qg)))))) (qE (qd 5) (qd 6)))) (qo (qx (qC (qb qN (qb (qd 5) (qb (qd 6) (qb (zW zf jq rfl m25 PyProof.Rows.boot_tuple (qb (WZ ["_law_mask","_law_wide"] [none,some 8] rfl (EZ (qd 7)) (λ_ _ _=>(jgn 0)) (λ_ _ _=>jD) (λ_ _ _=>(jF (qd 0) (qd 1))) (by kernel_rfl) (by kernel_rfl)) qg)) qg)))))))))) qT) (qh (zA (qP (zd hr.units) qK (qd 4) qf (qD _)) (qh (qQ 9 qZ.nd (qE (RH (UT (js (RH (qd 1)) (qd 2)) (qd 3))) (qj V22 hr rfl (qb (qd 0) (qb qf qg))))) (qh (JY PassesOwn.never rfl (qX rfl m12 (qb qf qg) (h1:=by intro _ _ _ h;simpa [qc,qk] using h)) (qt (i:=10) (qZ.nd)) (qo (zA (qP qaj Y0 (qj V24 hr rfl (qb (qd 3) (qb (qd 9) qg))) qf (qD _)) (qo (qQ 9 qZ.nd (qE (qd 9) qf))) qT))) (qo (qx (qC (qb qN (qb (qd 1) (qb (qd 2) (qb (qd 3) (qb (qd 9) qg)))))))))) qT) (qh (YE 11 ["_law_i","_law_left_here","_law_banks","_law_columns"] [none,some 0,some 3,some 2] rfl qZ.nd (qX rfl m12 (qb (qd 1) qg) (h1:=by intro _ _ _ h;simpa [qc,qk] using h)) (λ_ _ _=>(jgn 0)) (λ_ _ _=>jD) (λ_ _ _=>(zW zf jq rfl m25 PyProof.Rows.boot_tuple (qb (WZ ["_law_j","_law_left_here","_law_banks"] [none,some 1,some 2] rfl (qX rfl m12 (qb (qd 3) qg) (h1:=by intro _ _ _ h;simpa [qc,qk] using h)) (λ_ _ _=>(jgn 0)) (λ_ _ _=>jD) (λ_ _ _=>(qj V22 hr rfl (qb (qd 1) (qb (qd 2) qg)))) (by kernel_rfl) (by kernel_rfl)) qg))) (by kernel_rfl) (by kernel_rfl) rfl rfl) (qo (qx (qC (qb qN (qb (qd 3) (qb (zW zf jq rfl m25 PyProof.Rows.boot_tuple (qb (qd 11) qg)) qg))))))))))))
abbrev jt:Stmt:=top 38
abbrev YU:List Str:=["_law_left_here","_law_way","_law_inner","_law_some"]
abbrev YM:List Str:=["_law_left_here"]
def QA:FnScope YU YM (qi jt):=Hd.sc0
def C5 (E:Hd.Fb K mg "_law_dealing" jt YM f fd) (read:Rd sp 1 (Bk.YA S22 S26 S27 S28 S29 S30) YU):Fn3 P w K mg base (k+1) "_law_dealing" sp:=
 Hd.jfE E QA read λcdv A outer s H E hr=>(qh (qQ 1 QA.nd (qj V22 hr rfl (qb (qd 0) (qb qf qg)))) (qh (zA (qP qbF Y0 (qd 1) qf (qD _)) (qo (qx (qj V26 hr rfl (qb (qd 0) qg)))) qT) (qh (zA (qP (zd hr.units) qK (qd 1) qf (qD _)) (qo (qx (qj V27 hr rfl (qb (qd 0) qg)))) qT) (qh (zA (qP (zd hr.units) qK (qd 1) qf (qD _)) (qo (qx (qj V28 hr rfl (qb (qd 0) (qb qf qg))))) qT) (qh (zA (qP (zd hr.units) qK (qd 1) qf (qD _)) (qo (qx (qj V29 hr rfl (qb (qd 0) qg)))) qT) (qh (zA (qP (zd hr.units) qK (qd 1) qf (qD _)) (qh (qQ 2 QA.nd (qC (qb qN (qb (qC (qb qN (qb (qE qf (qj V22 hr rfl (qb (qd 0) (qb qf qg)))) (qb qf (qb qf (qb qf (qb qf qg))))))) (qb (qC (qb qN (qb qf (qb (qC (qb (qC (qb qf (qb qf qg))) qg)) qg)))) qg))))) (qh (qQ 3 QA.nd (zI (qb (qC (qb qN (qb (qd 2) (qb (qj V30 hr rfl (qb (qd 0) qg)) qg)))) (qb (qC (qb qN (qb (qj V30 hr rfl (qb (qd 0) qg)) (qb (qd 2) qg)))) qg)))) (qh (ZP (ZL (qd 3) (qb (qC (qb qN (qb (qC (qb qN (qb qf (qb qf (qb qf (qb qf (qb qf qg))))))) (qb (qC (qb qN (qb qf (qb qf (qb qf (qb qf qg)))))) qg)))) qg))) (qh (ZP (ZL (qd 3) (qb (qC (qb qN (qb (qC (qb qN (qb qf (qb qf (qb qf (qb qf qg)))))) (qb (qC (qb qN (qb qf (qb qf (qb qf (qb qf (qb qf qg))))))) qg)))) qg))) (qo (qx (qA (qd 3) (qj V22 hr rfl (qb (qd 0) (qb qf qg)))))))))) qT) (qo (qx (qC (qb qN (qb (qj V30 hr rfl (qb (qd 0) qg)) (qb (qj V30 hr rfl (qb (qd 0) qg)) qg))))))))))))
abbrev ZZ:Stmt:=top 39
abbrev RN:List Str:=["_law_dealing_here","_law_two","_law_one","_law_other"]
abbrev DZ:List Str:=["_law_dealing_here"]
def U1:FnScope RN DZ (qi ZZ):=Hd.sc0
def DX (S31:Sp3):TS3:=(qy (zb (tb3 (o3 (in3 false) (o3 ix3 (v3 0) (c3 (.int 0))) (q0 (qc (c3 (.str "skew")) (qc (c3 (.str "rests")) qk))))) (qL (VD (v3 0) (sp3 (c3 (.int 1))) (sp3 (c3 (.int 4))))) qw) (qy (zb (tb3 (o3 (zg false) (o3 ix3 (v3 0) (c3 (.int 0))) (c3 (.str "bits")))) (qy (qH (zF (qc (c3 (.int 1)) (qc (c3 (.int 2)) (qc (c3 (.int 4)) (qc (c3 (.int 8)) (qc (c3 (.int 16)) (qc (c3 (.int 32)) qk))))))) (gn3 1)) (qL (q0 (qc (o3 ix3 (v3 1) (o3 ix3 (v3 0) (c3 (.int 1)))) (qc (o3 ix3 (v3 1) (o3 ix3 (v3 0) (c3 (.int 2)))) (qc (o3 ix3 (v3 1) (cb3 jW (qc (o3 ix3 (v3 0) (c3 (.int 3))) qk))) qk)))))) qw) (qy (zb (tb3 (o3 (zg false) (o3 ix3 (v3 0) (c3 (.int 0))) (c3 (.str "table")))) (qL (q0 (qc (cb3 jW (qc (o3 ix3 (v3 0) (c3 (.int 2))) qk)) (qc (cb3 jW (qc (o3 ix3 (o3 ix3 (v3 0) (c3 (.int 2))) (c3 (.int 0))) qk)) (qc (o3 ix3 (v3 0) (c3 (.int 1))) qk))))) qw) (qy (Z1 2 3 (qc (cb3 S31 (qc (o3 ix3 (v3 0) (c3 (.int 1))) qk)) (qc (cb3 S31 (qc (o3 ix3 (v3 0) (c3 (.int 2))) qk)) qk))) (qL (cb3 qF (qc (lc3 (qaM (qc (v3 2) (qc (v3 3) qk))) (qI 2 (ql (gn3 0) (ql (gn3 1) qJ))) tt3 (o3 (iC UM (·*·)) (v3 0) (v3 1)) [none,none]) qk)))))))
def U5 (E:Hd.Fb K mg "_law_size" ZZ DZ f fd) (read:Rd sp 1 (DX S31) RN):Fn3 P w K mg base (k+1) "_law_size" sp:=
 Hd.jfE E U1 read λcdv A outer s H E hr=>(qh (zA (qP qcW qkK (qA (qd 0) qf) (qC (qb qN (qb qN qg))) (by with_unfolding_all rfl)) (qo (qx (qdT (qd 0) (qcT qf) (qcT qf)))) qT) (qh (zA (qP (zd hr.units) qK (qA (qd 0) qf) qN (qD _)) (qh (qQ 1 U1.nd (zI (qb qf (qb qf (qb qf (qb qf (qb qf (qb qf qg)))))))) (qo (qx (qC (qb (qA (qd 1) (qA (qd 0) qf)) (qb (qA (qd 1) (qA (qd 0) qf)) (qb (qA (qd 1) (za zB jo rfl m1 PySem.boot_len (qb (qA (qd 0) qf) qg))) qg))))))) qT) (qh (zA (qP (zd hr.units) qK (qA (qd 0) qf) qN (qD _)) (qo (qx (qC (qb (za zB jo rfl m1 PySem.boot_len (qb (qA (qd 0) qf) qg)) (qb (za zB jo rfl m1 PySem.boot_len (qb (qA (qA (qd 0) qf) qf) qg)) (qb (qA (qd 0) qf) qg)))))) qT) (qh (KM (i:=2) (j:=3) rfl U1.nd rfl rfl (by decide) rfl rfl (qb (qj V31 hr rfl (qb (qA (qd 0) qf) qg)) (qb (qj V31 hr rfl (qb (qA (qd 0) qf) qg)) qg))) (qo (qx (zW zf jq rfl m25 PyProof.Rows.boot_tuple (qb (WZ ["_law_x","_law_y"] [none,none] rfl (qeu rfl m32 (qb (qd 2) (qb (qd 3) qg))) (λ_ _ _=>(zG rfl (qq (jgn 0) (qq (jgn 1) zH)))) (λ_ _ _=>jD) (λ_ _ _=>(js (qd 0) (qd 1))) (by kernel_rfl) (by kernel_rfl)) qg))))))))
abbrev JZ:Stmt:=top 40
abbrev XS:List Str:=["_law_number","_law_found","_law_t"]
abbrev XV:List Str:=["_law_number"]
def UI:FnScope XS XV (qi JZ):=Hd.sc0
def qaq (E:Hd.Fb K mg "_law_odd" JZ XV f fd) (read:Rd sp 1 (Bk.CJ) XS):Fn3 P w K mg base (k+1) "_law_odd" sp:=
 Hd.jfE E UI read λcdv A outer s H E hr=>(qh (qQ 1 UI.nd qdS) (qh (JY PassesOwn.never rfl (qX rfl m12 (qb qf qg) (h1:=by intro _ _ _ h;simpa [qc,qk] using h)) (qt (i:=2) (UI.nd)) (qo (qQ 1 UI.nd (ZB (N5 hr.units) SX (qd 1) (ZB (zd hr.units) qK (jF (UT (qd 0) (qA (zI (qb qf (qb qf (qb qf (qb qf (qb qf (qb qf (qb qf (qb qf (qb qf qg)))))))))) (qd 2))) qf) qf (qD _)) (qD _))))) (qo (qx (qd 1)))))
abbrev ZU:Stmt:=top 41
abbrev RV:List Str:=["_law_dealing_here","_law_i","_law_j","_law_rows","_law_columns","_law_banks","_law_some","_law_high","_law_wide","_law_more"]
abbrev DO:List Str:=["_law_dealing_here","_law_i","_law_j"]
def jh:FnScope RV DO (qi ZU):=Hd.sc0
def EC (E:Hd.Fb K mg "_law_bank" ZU DO f fd) (read:Rd sp 3 (Bk.DS S31 S33 S34) RV):Fn3 P w K mg base (k+1) "_law_bank" sp:=
 Hd.jfE E jh read λcdv A outer s H E hr=>(qh (jH (qj V31 hr rfl (qb (qd 0) qg)) (zG rfl (qq (qt (i:=3) (jh.nd)) (qq (qt (i:=4) (jh.nd)) (qq (qt (i:=5) (jh.nd)) zH))))) (qh (zA (qP (zd hr.units) qK (qA (qd 0) qf) qN (qD _)) (qo (qx (jF (qE (js (qA (qd 0) qf) (qd 1)) (js (qA (qd 0) qf) (qd 2))) (qd 5)))) qT) (qh (zA (qP (zd hr.units) qK (qA (qd 0) qf) qN (qD _)) (qo (qx (jF (qE (js (qd 1) (qd 4)) (qd 2)) (qd 5)))) qT) (qh (zA (qP (zd hr.units) qK (qA (qd 0) qf) qN (qD _)) (qh (YE 6 ["_law_t","_law_mask","_law_j","_law_i","_law_columns"] [none,none,some 2,some 1,some 4] rfl jh.nd (TB rfl m3 (qb (qA (qd 0) qf) qg)) (λ_ _ _=>(zG rfl (qq (jgn 0) (qq (jgn 1) zH)))) (λ_ _ _=>qaZ (J1 (qj V33 hr rfl (qb (SS (qE (js (qd 3) (qd 4)) (qd 2)) (qd 1)) qg)))) (λ_ _ _=>(qA (zI (qb qf (qb qf (qb qf (qb qf (qb qf qg)))))) (qd 0))) (by kernel_rfl) (by kernel_rfl) rfl rfl) (qo (qx (za (DJ rfl) qck rfl m4 PyProof.Rows.boot_sum (qb (qd 6) qg))))) qT) (qh (zA (qP (zd hr.units) qK (qA (qd 0) qf) qN (qD _)) (qo (qx (qA (qA (qA (qd 0) qf) (qd 1)) (qd 2)))) qT) (qh (jH (qj V31 hr rfl (qb (qA (qd 0) qf) qg)) (zG rfl (qq (qt (i:=7) (jh.nd)) (qq (qt (i:=8) (jh.nd)) (qq (qt (i:=9) (jh.nd)) zH))))) (qo (qx (qE (js (qj V34 hr rfl (qb (qA (qd 0) qf) (qb (UT (qd 1) (qd 7)) (qb (UT (qd 2) (qd 8)) qg)))) (qd 9)) (qj V34 hr rfl (qb (qA (qd 0) qf) (qb (jF (qd 1) (qd 7)) (qb (jF (qd 2) (qd 8)) qg)))))))))))))
abbrev jN:Stmt:=top 42
abbrev Z9:List Str:=["_law_left_here","_law_n","_law_way","_law_banks","_law_places","_law_turn","_law_high","_law_masks"]
abbrev VX:List Str:=["_law_left_here"]
def zl:FnScope Z9 VX (qi jN):=Hd.sc0
def V4 (S22:Sp3) (S24:Sp3):TS3:=(qy (qH (o3 zh (c3 (.int 1)) (cb3 S22 (qc (v3 0) (qc (o3 ix3 (zF (qc (c3 (.int 8)) (qc (c3 (.int 8)) (qc (c3 (.int 8)) (qc (c3 (.int 8)) (qc (c3 (.int 8)) (qc (c3 (.int 8)) (qc (c3 (.int 8)) (qc (c3 (.int 16)) qk))))))))) (cb3 S22 (qc (v3 0) (qc (c3 (.int 8)) qk)))) qk)))) (gn3 1)) (qy (qH (q0 (qc (cb3 S22 (qc (v3 0) (qc (c3 (.int 6)) qk))) (qc (o3 zh (c3 (.int 1)) (cb3 S22 (qc (v3 0) (qc (o3 ix3 (zF (qc (c3 (.int 4)) (qc (c3 (.int 9)) (qc (c3 (.int 17)) (qc (c3 (.int 32)) qk))))) (cb3 S22 (qc (v3 0) (qc (c3 (.int 4)) qk)))) qk)))) qk))) (qI 2 (ql (gn3 2) (ql (gn3 3) qJ)))) (qy (zb (tb3 (o3 (iB λi j=>decide (i<j)) (v3 2) (c3 (.int 2)))) (qL (q0 (qc (c3 (.str "skew")) (qc (v3 1) (qc (v3 1) (qc (v3 3) (qc (cb3 S22 (qc (v3 0) (qc (c3 (.int 20)) qk))) (qc (cb3 S22 (qc (v3 0) (qc (c3 (.int 20)) qk))) qk)))))))) qw) (qy (zb (tb3 (o3 (zg false) (v3 2) (c3 (.int 2)))) (qy (qH (u3 Z7 (o3 (iC MM (·/·)) (o3 (iC UM (·*·)) (u3 Z7 (v3 1)) (v3 1)) (v3 3))) (gn3 4)) (qy (WF (zO (qc (c3 (.int 32)) qk)) (gn3 5) (zb (tb3 (o3 (iB λi j=>decide (j<i)) (cb3 S24 (qc (v3 3) (qc (v3 4) qk))) (c3 (.int 1)))) (qH (o3 zh (v3 4) (c3 (.int 1))) (gn3 4)) qw)) (qL (q0 (qc (c3 (.str "rests")) (qc (v3 1) (qc (v3 1) (qc (v3 3) (qc (v3 4) qk))))))))) qw) (qy (zb (tb3 (o3 (zg false) (v3 2) (c3 (.int 3)))) (qy (qH (cb3 S22 (qc (v3 0) (qc (c3 (.int 4)) qk))) (gn3 6)) (qy (qH (lc3 (zO (qc (cb3 S22 (qc (v3 0) (qc (c3 (.int 6)) qk))) qk)) (gn3 0) tt3 (cb3 S22 (qc (v3 1) (qc (o3 ix3 (zF (qc (c3 (.int 1)) (qc (c3 (.int 4)) (qc (c3 (.int 16)) (qc (c3 (.int 64)) qk))))) (v3 2)) qk))) [none,some 0,some 6]) (gn3 7)) (qL (q0 (qc (c3 (.str "bits")) (qc (v3 6) (qc (v3 6) (qc (cb3 qF (qc (v3 7) qk)) qk)))))))) qw) (qy (zb (tb3 (o3 (zg false) (v3 2) (c3 (.int 4)))) (qL (q0 (qc (c3 (.str "joined")) (qc (q0 (qc (c3 (.str "skew")) (qc (c3 (.int 2)) (qc (c3 (.int 2)) (qc (c3 (.int 3)) (qc (c3 (.int 1)) (qc (cb3 S22 (qc (v3 0) (qc (c3 (.int 3)) qk))) qk))))))) (qc (q0 (qc (c3 (.str "skew")) (qc (o3 zh (c3 (.int 1)) (o3 (iC (λ_ j=>0<j) (·%·)) (v3 1) (c3 (.int 4)))) (qc (o3 zh (c3 (.int 1)) (o3 (iC (λ_ j=>0<j) (·%·)) (v3 1) (c3 (.int 4)))) (qc (o3 zh (c3 (.int 1)) (o3 (iC (λ_ j=>0<j) (·%·)) (v3 3) (c3 (.int 5)))) (qc (c3 (.int 1)) (qc (c3 (.int 2)) qk))))))) qk))))) qw) (qL (q0 (qc (c3 (.str "table")) (qc (v3 3) (qc (cb3 qF (qc (lc3 (zO (qc (v3 1) qk)) (gn3 0) tt3 (cb3 qF (qc (lc3 (zO (qc (v3 3) qk)) (gn3 0) tt3 (cb3 S22 (qc (v3 1) (qc (v3 2) qk))) [none,some 1,some 2]) qk)) [none,some 0,some 3,some 1]) qk)) qk)))))))))))
def SU (E:Hd.Fb K mg "_law_square" jN VX f fd) (read:Rd sp 1 (V4 S22 S24) Z9):Fn3 P w K mg base (k+1) "_law_square" sp:=
 Hd.jfE E zl read λcdv A outer s H E hr=>(qh (qQ 1 zl.nd (qE qf (qj V22 hr rfl (qb (qd 0) (qb (qA (zI (qb qf (qb qf (qb qf (qb qf (qb qf (qb qf (qb qf (qb qf qg))))))))) (qj V22 hr rfl (qb (qd 0) (qb qf qg)))) qg))))) (qh (jH (qC (qb (qj V22 hr rfl (qb (qd 0) (qb qf qg))) (qb (qE qf (qj V22 hr rfl (qb (qd 0) (qb (qA (zI (qb qf (qb qf (qb qf (qb qf qg))))) (qj V22 hr rfl (qb (qd 0) (qb qf qg)))) qg)))) qg))) (zG rfl (qq (qt (i:=2) (zl.nd)) (qq (qt (i:=3) (zl.nd)) zH)))) (qh (zA (qP qbF Y0 (qd 2) qf (qD _)) (qo (qx (qC (qb qN (qb (qd 1) (qb (qd 1) (qb (qd 3) (qb (qj V22 hr rfl (qb (qd 0) (qb qf qg))) (qb (qj V22 hr rfl (qb (qd 0) (qb qf qg))) qg))))))))) qT) (qh (zA (qP (zd hr.units) qK (qd 2) qf (qD _)) (qh (qQ 4 zl.nd (RH (UT (js (RH (qd 1)) (qd 1)) (qd 3)))) (qh (JY PassesOwn.never rfl (qX rfl m12 (qb qf qg) (h1:=by intro _ _ _ h;simpa [qc,qk] using h)) (qt (i:=5) (zl.nd)) (qo (zA (qP qaj Y0 (qj V24 hr rfl (qb (qd 3) (qb (qd 4) qg))) qf (qD _)) (qo (qQ 4 zl.nd (qE (qd 4) qf))) qT))) (qo (qx (qC (qb qN (qb (qd 1) (qb (qd 1) (qb (qd 3) (qb (qd 4) qg)))))))))) qT) (qh (zA (qP (zd hr.units) qK (qd 2) qf (qD _)) (qh (qQ 6 zl.nd (qj V22 hr rfl (qb (qd 0) (qb qf qg)))) (qh (YE 7 ["_law_t","_law_left_here","_law_high"] [none,some 0,some 6] rfl zl.nd (qX rfl m12 (qb (qj V22 hr rfl (qb (qd 0) (qb qf qg))) qg) (h1:=by intro _ _ _ h;simpa [qc,qk] using h)) (λ_ _ _=>(jgn 0)) (λ_ _ _=>jD) (λ_ _ _=>(qj V22 hr rfl (qb (qd 1) (qb (qA (zI (qb qf (qb qf (qb qf (qb qf qg))))) (qd 2)) qg)))) (by kernel_rfl) (by kernel_rfl) rfl rfl) (qo (qx (qC (qb qN (qb (qd 6) (qb (qd 6) (qb (zW zf jq rfl m25 PyProof.Rows.boot_tuple (qb (qd 7) qg)) qg))))))))) qT) (qh (zA (qP (zd hr.units) qK (qd 2) qf (qD _)) (qo (qx (qC (qb qN (qb (qC (qb qN (qb qf (qb qf (qb qf (qb qf (qb (qj V22 hr rfl (qb (qd 0) (qb qf qg))) qg))))))) (qb (qC (qb qN (qb (qE qf (jF (qd 1) qf)) (qb (qE qf (jF (qd 1) qf)) (qb (qE qf (jF (qd 3) qf)) (qb qf (qb qf qg))))))) qg)))))) qT) (qo (qx (qC (qb qN (qb (qd 3) (qb (zW zf jq rfl m25 PyProof.Rows.boot_tuple (qb (WZ ["_law_i","_law_left_here","_law_banks","_law_n"] [none,some 0,some 3,some 1] rfl (qX rfl m12 (qb (qd 1) qg) (h1:=by intro _ _ _ h;simpa [qc,qk] using h)) (λ_ _ _=>(jgn 0)) (λ_ _ _=>jD) (λ_ _ _=>(zW zf jq rfl m25 PyProof.Rows.boot_tuple (qb (WZ ["_law_j","_law_left_here","_law_banks"] [none,some 1,some 2] rfl (qX rfl m12 (qb (qd 3) qg) (h1:=by intro _ _ _ h;simpa [qc,qk] using h)) (λ_ _ _=>(jgn 0)) (λ_ _ _=>jD) (λ_ _ _=>(qj V22 hr rfl (qb (qd 1) (qb (qd 2) qg)))) (by kernel_rfl) (by kernel_rfl)) qg))) (by kernel_rfl) (by kernel_rfl)) qg)) qg))))))))))))
abbrev jg:Stmt:=top 43
abbrev jr:List Str:=["_law_pair"]
abbrev JP:List Str:=["_law_pair"]
def XU:FnScope jr JP (qi jg):=Hd.sc0
def JN:TS3:=(qL (zF (qc (v3 0) (qc (q0 (qc (o3 ix3 (v3 0) (c3 (.int 1))) (qc (o3 ix3 (v3 0) (c3 (.int 0))) qk))) qk))))
def CD (E:Hd.Fb K mg "_law_words_of" jg JP f fd) (read:Rd sp 1 (JN) jr):Fn3 P w K mg base (k+1) "_law_words_of" sp:=
 Hd.jfE E XU read λcdv A outer s H E hr=>(qo (qx (zI (qb (qd 0) (qb (qC (qb (qA (qd 0) qf) (qb (qA (qd 0) qf) qg))) qg)))))
abbrev zT:Stmt:=top 44
abbrev jQ:List Str:=["_law_banks","_law_beat","_law_some","_law_pair"]
abbrev ZF:List Str:=["_law_banks","_law_beat"]
def QX:FnScope jQ ZF (qi zT):=Hd.sc0
def ZD (S35:Sp3):TS3:=(qy (qH (zF qk) (gn3 2)) (qy (WF (YG (v3 1)) (gn3 3) (qR (bm3 J6 (v3 2) (qc (lc3 (YG (cb3 S35 (qc (v3 3) qk))) (qI 2 (ql (gn3 0) (ql (gn3 1) qJ))) tt3 (o3 ix3 (o3 ix3 (v3 2) (v3 0)) (v3 1)) [none,none,some 0]) qk)))) (qL (VF (o3 (iB λi j=>decide (i<j)) (cb3 jW (qc (v3 1) qk)) (c3 (.int 2))) (o3 (zg false) (qd3 (v3 2)) (cb3 jW (qc (v3 2) qk)))))))
def XB (E:Hd.Fb K mg "_law_may_stand" zT ZF f fd) (read:Rd sp 2 (ZD S35) jQ):Fn3 P w K mg base (k+1) "_law_may_stand" sp:=
 Hd.jfE E QX read λcdv A outer s H E hr=>(qh (qQ 2 QX.nd (zI qg)) (qh (JY PassesOwn.never rfl (EZ (qd 1)) (qt (i:=3) (QX.nd)) (qo (ZP (qc2 (qd 2) (qb (WZ ["_law_i","_law_j","_law_banks"] [none,none,some 0] rfl (EZ (qj V35 hr rfl (qb (qd 3) qg))) (λ_ _ _=>(zG rfl (qq (jgn 0) (qq (jgn 1) zH)))) (λ_ _ _=>jD) (λ_ _ _=>(qA (qA (qd 2) (qd 0)) (qd 1))) (by kernel_rfl) (by kernel_rfl)) qg))))) (qo (qx (qlV (ZB qbF Y0 (za zB jo rfl m1 PySem.boot_len (qb (qd 1) qg)) qf (qD _)) (LC (ZB (zd hr.units) qK (KR rfl rfl m1 rfl m14 (qd 2)) (za zB jo rfl m1 PySem.boot_len (qb (qd 2) qg)) (qD _))))))))
abbrev zS:Stmt:=top 45
abbrev jR:List Str:=["_law_dealing_here","_law_n","_law_plan","_law_banks","_law_i","_law_j","_law_fits"]
abbrev ZI:List Str:=["_law_dealing_here","_law_n"]
def zt:FnScope jR ZI (qi zS):=Hd.sc0
def ZW (S34:Sp3) (S36:Sp3):TS3:=(qy (qH (q0 (qc (zF qk) (qc (lc3 (zO (qc (v3 1) qk)) (gn3 0) tt3 (lc3 (zO (qc (v3 2) qk)) (gn3 0) tt3 (cb3 S34 (qc (v3 1) (qc (v3 2) (qc (v3 0) qk)))) [none,some 1,some 0]) [none,some 0,some 1]) qk))) (qI 2 (ql (gn3 2) (ql (gn3 3) qJ)))) (qy (WF (zO (qc (v3 1) qk)) (gn3 4) (WF (zO (qc (o3 zh (v3 4) (c3 (.int 1))) (qc (v3 1) qk))) (gn3 5) (qy (qH (lc3 (EW (qc (v3 2) qk)) (qI 2 (ql (gn3 0) (ql (gn3 1) qJ))) (tb3 (cb3 S36 (qc (v3 2) (qc (o3 zh (v3 1) (zF (qc (q0 (qc (v3 3) (qc (v3 4) qk))) qk))) qk)))) (v3 0) [none,none,some 3,some 4,some 5]) (gn3 6)) (zb (tb3 (o3 (zg false) (v3 6) (zF qk))) (qR (bm3 QC (v3 2) (qc (zF (qc (q0 (qc (v3 4) (qc (v3 5) qk))) qk)) qk))) (qR (bm3 QC (o3 ix3 (v3 2) (o3 ix3 (v3 6) (c3 (.int 0)))) (qc (q0 (qc (v3 4) (qc (v3 5) qk))) qk))))))) (qL (v3 2))))
def XA (E:Hd.Fb K mg "_law_first_fit" zS ZI f fd) (read:Rd sp 2 (ZW S34 S36) jR):Fn3 P w K mg base (k+1) "_law_first_fit" sp:=
 Hd.jfE E zt read λcdv A outer s H E hr=>(qh (jH (qC (qb (zI qg) (qb (WZ ["_law_i","_law_dealing_here","_law_n"] [none,some 0,some 1] rfl (qX rfl m12 (qb (qd 1) qg) (h1:=by intro _ _ _ h;simpa [qc,qk] using h)) (λ_ _ _=>(jgn 0)) (λ_ _ _=>jD) (λ_ _ _=>(WZ ["_law_j","_law_dealing_here","_law_i"] [none,some 1,some 0] rfl (qX rfl m12 (qb (qd 2) qg) (h1:=by intro _ _ _ h;simpa [qc,qk] using h)) (λ_ _ _=>(jgn 0)) (λ_ _ _=>jD) (λ_ _ _=>(qj V34 hr rfl (qb (qd 1) (qb (qd 2) (qb (qd 0) qg))))) (by kernel_rfl) (by kernel_rfl))) (by kernel_rfl) (by kernel_rfl)) qg))) (zG rfl (qq (qt (i:=2) (zt.nd)) (qq (qt (i:=3) (zt.nd)) zH)))) (qh (JY PassesOwn.never rfl (qX rfl m12 (qb (qd 1) qg) (h1:=by intro _ _ _ h;simpa [qc,qk] using h)) (qt (i:=4) (zt.nd)) (qo (JY PassesOwn.never rfl (LM rfl m12 (qb (qE (qd 4) qf) (qb (qd 1) qg)) (h1:=by intro _ _ _ h;simpa [qc,qk] using h)) (qt (i:=5) (zt.nd)) (qh (YE 6 ["_law_k","_law_beat","_law_banks","_law_i","_law_j"] [none,none,some 3,some 4,some 5] rfl zt.nd (TB rfl m3 (qb (qd 2) qg)) (λ_ _ _=>(zG rfl (qq (jgn 0) (qq (jgn 1) zH)))) (λ_ _ _=>qaZ (J1 (qj V36 hr rfl (qb (qd 2) (qb (qE (qd 1) (zI (qb (qC (qb (qd 3) (qb (qd 4) qg))) qg))) qg))))) (λ_ _ _=>(qd 0)) (by kernel_rfl) (by kernel_rfl) rfl rfl) (qo (zA (qP (zd hr.units) qK (qd 6) (zI qg) (qD _)) (qo (ZP (ZL (qd 2) (qb (zI (qb (qC (qb (qd 4) (qb (qd 5) qg))) qg)) qg)))) (qo (ZP (ZL (qA (qd 2) (qA (qd 6) qf)) (qb (qC (qb (qd 4) (qb (qd 5) qg))) qg)))))))))) (qo (qx (qd 2)))))
abbrev ZQ:Stmt:=top 46
abbrev R5:List Str:=["_law_found","_law_due"]
abbrev WH:List Str:=["_law_found","_law_due"]
def MQ:FnScope R5 WH (qi ZQ):=Hd.sc0
def ZM (E:Hd.Fb K mg "_law_same" ZQ WH f fd) (read:Rd sp 2 (Bk.RM S37) R5):Fn3 P w K mg base (k+1) "_law_same" sp:=
 Hd.jfE E MQ read λcdv A outer s H E hr=>(qh (zA (J1 (qbZ (qd 1) rfl m38 rfl m39 PyProof.Rows.boot_list rfl m25 PyProof.Rows.boot_tuple)) (qh (zA (jpt (qbu (qP (N5 hr.units) SX (ET (qd 0) rfl m38 rfl m39 PyProof.Rows.boot_list) (ET (qd 1) rfl m38 rfl m39 PyProof.Rows.boot_list) (qD _)) (NI (qP (N5 hr.units) SX (ET (qd 0) rfl m38 rfl m25 PyProof.Rows.boot_tuple) (ET (qd 1) rfl m38 rfl m25 PyProof.Rows.boot_tuple) (qD _))))) (qo (qx qdS)) qT) (qo (qx (LR (ZB (zd hr.units) qK (za zB jo rfl m1 PySem.boot_len (qb (qd 0) qg)) (za zB jo rfl m1 PySem.boot_len (qb (qd 1) qg)) (qD _)) (LC (za (RB rfl) qhv rfl m40 PyProof.Rows.boot_all (qb (WZ ["_law_one","_law_other"] [none,none] rfl (qeu rfl m32 (qb (qd 0) (qb (qd 1) qg))) (λ_ _ _=>(zG rfl (qq (jgn 0) (qq (jgn 1) zH)))) (λ_ _ _=>jD) (λ_ _ _=>(qj V37 hr rfl (qb (qd 0) (qb (qd 1) qg)))) (by kernel_rfl) (by kernel_rfl)) qg))))))) qT) (qh (zA (jpt (qbu (qP qae SO (qd 1) RF (qD _)) (NI (J1 (qbZ (qd 1) rfl m38 rfl m41 PyProof.Rows.boot_str rfl m42 PyProof.Rows.boot_bool))))) (qo (qx (LR (ZB (zd hr.units) qK (qd 0) (qd 1) (qD _)) (LR (ZB (zd hr.units) qK (ET (qd 0) rfl m38 rfl m42 PyProof.Rows.boot_bool) (ET (qd 1) rfl m38 rfl m42 PyProof.Rows.boot_bool) (qD _)) (LC (ZB (zd hr.units) qK (ZB qae SO (qd 0) RF (qD _)) (ZB qae SO (qd 1) RF (qD _)) (qD _))))))) qT) (qo (qx (LR (ET (qd 0) rfl m38 rfl m43 PyProof.Rows.boot_int) (LR (qku (ET (qd 0) rfl m38 rfl m42 PyProof.Rows.boot_bool)) (LC (ZB (zd hr.units) qK (qd 0) (qd 1) (qD _)))))))))
abbrev jT:Stmt:=top 47
abbrev JL:List Str:=["_law_dealing_here","_law_caught","_law_told","error","_law_others"]
abbrev VP:List Str:=["_law_dealing_here"]
def zu:FnScope JL VP (qi jT):=Hd.sc0
def JG (S44:Sp3) (Z45:Spx):TS3:=(qy (qH (q0 (qc (c3 .non) (qc (c3 .non) qk))) (qI 2 (ql (gn3 1) (ql (gn3 2) qJ)))) (qy (qqt 3 [97] (qH (cb3 S44 (qc (v3 0) qk)) (gn3 2)) (qhY Z45 (qc (v3 0) qk)) (qH (v3 3) (gn3 1))) (qy (zb (tb3 (o3 (J5 false) (v3 1) (c3 .non))) (qL (v3 2)) qw) (qy (qH (qh8 [(none,false),(some 97,false)] (v3 1)) (gn3 4)) (qy (zb (or3 (JS (tb3 (qh8 [(none,false),(some 97,true)] (v3 1)))) (or3 (tb3 (v3 4)) (JS (tb3 (qh8 [(none,false),(some 97,true)] (v3 1)))))) (qL (c3 (.str "other"))) qw) (qL (c3 (.str "not square"))))))))
def TH (E:Hd.Fb K mg "_law_answer" jT VP f fd) (read:Rd sp 1 (JG S44 Z45) JL):Fn3 P w K mg base (k+1) "_law_answer" sp:=
 Hd.jfE E zu read λcdv A outer s H E hr=>(qh (jH (qC (qb RF (qb RF qg))) (zG rfl (qq (qt (i:=1) (zu.nd)) (qq (qt (i:=2) (zu.nd)) zH)))) (qh (qmM (i:=3) [97] rfl rfl rfl rfl m_BankError b_BankError (by kernel_rfl) c_BankError zu.nd rfl rfl rfl (qo (qQ 2 zu.nd (qj V44 hr rfl (qb (qd 0) qg)))) (qk9 2 zu.nd (qh7 Y45 hr rfl (λ_ _ _=>(qb (qd 0) qg)))) (λ_=>(qo (qQ 1 zu.nd (qd 3))))) (qh (zA (qP qae SO (qd 1) RF (qD _)) (qo (qx (qd 2))) qT) (qh (qQ 4 zu.nd (qis (qd 1) rfl m38 (.cons (YV rfl m_BadRow) rfl (.cons (YV rfl m_BadText) rfl (.cons (YV rfl m_Clash) rfl (.cons (YV rfl m_NoAsk) rfl (.cons (YV rfl m_NoOrder) rfl (.cons (YV rfl m_NoStart) rfl (.cons (YV rfl m_NoWalk) rfl (.cons (YV rfl m_NoWord) rfl .nil)))))))) (by decide) x_0)) (qh (zA (jpt (qbu (LA (J1 (qec (qd 1) rfl m38 (YV rfl m_NotSquare) x_2))) (qbu (J1 (qd 4)) (NI (LA (J1 (qec (qd 1) rfl m38 (qmd rfl m58 L3.qhH) x_1))))))) (qo (qx qN)) qT) (qo (qx qN)))))))
abbrev VO:Stmt:=top 48
abbrev qcN:List Str:=["_law_script","_law_k","_law_left_here","_law_dealing_here","_law_rows","_law_columns","_law_banks","_law_due","_law_kept","_law_turn","_law_found","_law_beat"]
abbrev qnG:List Str:=["_law_script"]
def VB:FnScope qcN qnG (qi VO):=Hd.sc0
def qin (S62:Sp3) (S63:Sp3) (S64:Sp3) (S31:Sp3) (S65:Sp3) (S66:Sp3) (S37:Sp3):TS3:=(qy (WF (zO (qc (o3 zh (c3 (.int 1)) (cb3 VG (qc (c3 (.int 5)) (qc (cb3 jW (qc (v3 0) qk)) qk)))) qk)) (gn3 1) (qy (qH (cb3 S62 (qc (v3 0) (qc (v3 1) qk))) (gn3 2)) (WF (YG (q0 (qc (cb3 S63 (qc (v3 2) qk)) (qc (cb3 S64 (qc (v3 2) qk)) qk)))) (gn3 3) (qy (qH (cb3 S31 (qc (v3 3) qk)) (qI 3 (ql (gn3 4) (ql (gn3 5) (ql (gn3 6) qJ))))) (qy (qH (if3 (tb3 (o3 (zg false) (v3 4) (v3 5))) (cb3 S65 (qc (v3 3) (qc (v3 4) qk))) (c3 (.str "not square"))) (gn3 7)) (qy (qH (cb3 (MG true) (qc (v3 3) qk)) (gn3 8)) (WF (zO (qc (c3 (.int 2)) qk)) (gn3 9) (qy (qH (cb3 S66 (qc (v3 3) qk)) (gn3 10)) (qy (zb (or3 (JS (tb3 (cb3 S37 (qc (v3 10) (qc (v3 7) qk))))) (tb3 (o3 (zg true) (cb3 (MG true) (qc (v3 3) qk)) (v3 8)))) (qL (c3 (.bl false))) qw) (zb (tb3 (QT (λt=>jp t "list") (v3 10))) (qy (WF (YG (v3 10)) (gn3 11) (qR (bm3 QC (v3 11) (qc (q0 (qc (c3 (.int 0)) (qc (c3 (.int 1)) qk))) qk)))) (qR (qiC qhl (v3 10)))) qw)))))))))) (qL (c3 (.bl true))))
def qlO (F:Fun K "law" "law" VO f fd) (read:Rd sp 1 (qin S62 S63 S64 S31 S65 S66 S37) qcN):FnOk P w K mg base CX0 (k+1) f fd qnG (lSp K sp):=
 qdg (t3:=(qin S62 S63 S64 S31 S65 S66 S37)) F VB (λcdv A outer s H E hr=>(qh (JY PassesOwn.never rfl (qX rfl m12 (qb (qE qf (za (qcS rfl) qhK rfl m67 PyProof.Rows.boot_min (qb qf (qb (za zB jo rfl m1 PySem.boot_len (qb (qd 0) qg)) qg)))) qg) (h1:=by intro _ _ _ h;simpa [qc,qk] using h)) (qt (i:=1) (VB.nd)) (qh (qQ 2 VB.nd (qj V62 hr rfl (qb (qd 0) (qb (qd 1) qg)))) (qo (JY PassesOwn.never rfl (EZ (qC (qb (qj V63 hr rfl (qb (qd 2) qg)) (qb (qj V64 hr rfl (qb (qd 2) qg)) qg)))) (qt (i:=3) (VB.nd)) (qh (jH (qj V31 hr rfl (qb (qd 3) qg)) (zG rfl (qq (qt (i:=4) (VB.nd)) (qq (qt (i:=5) (VB.nd)) (qq (qt (i:=6) (VB.nd)) zH))))) (qh (qQ 7 VB.nd (qhi (qP (zd hr.units) qK (qd 4) (qd 5) (qD _)) (qj V65 hr rfl (qb (qd 3) (qb (qd 4) qg))) qN)) (qh (qQ 8 VB.nd (zW (XQ hr.gd hr.units) NK rfl m41 PyProof.Rows.boot_str (qb (qd 3) qg))) (qo (JY PassesOwn.never rfl (qX rfl m12 (qb qf qg) (h1:=by intro _ _ _ h;simpa [qc,qk] using h)) (qt (i:=9) (VB.nd)) (qh (qQ 10 VB.nd (qj V66 hr rfl (qb (qd 3) qg))) (qh (zA (jpt (qbu (LA (J1 (qj V37 hr rfl (qb (qd 10) (qb (qd 7) qg))))) (NI (qP (N5 hr.units) SX (zW (XQ hr.gd hr.units) NK rfl m41 PyProof.Rows.boot_str (qb (qd 3) qg)) (qd 8) (qD _))))) (qo (qx qdS)) qT) (qo (zA (J1 (ET (qd 10) rfl m38 rfl m39 PyProof.Rows.boot_list)) (qh (JY PassesOwn.never rfl (EZ (qd 10)) (qt (i:=11) (VB.nd)) (qo (ZP (ZL (qd 11) (qb (qC (qb qf (qb qf qg))) qg))))) (qo (ZP (qau (qd 10))))) qT))))))))))))) (qo (qx qdS)))) read
end
end K70
namespace K70
open PySem L2 L3 Pu
def YR:PuS (K70.U8 (Bk.jk 3)):=(qc4 (qhX (jY (fSz 2) (qu (bV 0) zx)) (qaR 3 (Q5 (gN 1) (Q5 (gN 2) (Q5 (gN 3) qaV)))) [true] ⟨rfl⟩) (qgt (bO (qaW false) (bV 1) (bV 2))))
def zQ:List PyData->Option PyData:=Pu.run YR.f 1 4 1000000000 false
def K1:Rd (PSp zQ false) 1 (K70.U8 (Bk.jk 3)) YL:=VR YR YL 1 1000000000 false
def LI {x0:PyData}:zQ [x0]=KA false (YR.f 1000000000 [.sh x0,.un,.un,.un]):=id rfl
def zm:PuS (K70.jz (PSp zQ false)):=(sIf (qnX (bTb (jY (X9 zQ false) (qu (bV 0) zx)))) qqO qcQ)
def qS:List PyData->Option PyData:=Pu.run zm.f 1 1 1000000000 false
def US:Rd (PSp qS false) 1 (K70.jz (PSp zQ false)) qM:=VR zm qM 1 1000000000 false
def QZ {x0:PyData}:qS [x0]=KA false (zm.f 1000000000 [.sh x0]):=id rfl
def zL:PzS (λdx=>zC (PSp zQ false) dx):=(zIf (qnX (bTb (jY (X9 zQ false) (qu (bV 0) zx)))) (qfn 97 (qu (qc5 "the table hasn't as many rows as columns") zx) ⟨rfl⟩) (zP qcQ))
def zc:List PyData->Option Addr:=Pu.qnM zL.f 1 1 1000000000
def UN:∀ ts G dx,PXp zc ts G dx->ts.length=1/\zC (PSp zQ false) dx { nx:=λ_ _=>False,rt:=λ_ _=>False } (qm qM ts) G:=qbi zL qM 1 1000000000
def VT {x0:PyData}:zc [x0]=qn6 (zL.f 1000000000 [.sh x0]):=id rfl
def YC:PuS (K70.UY (Bk.jk 3)):=(qc4 (qhX (jY (fSz 2) (qu (bV 0) zx)) (qaR 3 (Q5 (gN 1) (Q5 (gN 2) (Q5 (gN 3) qaV)))) [true] ⟨rfl⟩) (qgt (qn8 (qaS (qu (bV 1) zx)) (gN 0) bTt (qaS (qu (bO C1 (bV 0) (j3 1)) (qu (bV 2) zx))) (gN 1) bTt (qay (qu (bV 0) (qu (bV 1) zx)) ⟨rfl⟩) [none,none,some 2] ⟨rfl⟩ ⟨rfl⟩ ⟨rfl⟩)))
def j5:List PyData->Option PyData:=Pu.run YC.f 1 4 1000000000 true
def K8:Rd (PSp j5 true) 1 (K70.UY (Bk.jk 3)) Z6:=VR YC Z6 1 1000000000 true
def LF {x0:PyData}:j5 [x0]=KA true (YC.f 1000000000 [.sh x0,.un,.un,.un]):=id rfl
def JC:PuS (K70.UC (Bk.J0 3)):=(qgt (qn8 (qh5 (bV 1)) (qaR 2 (Q5 (gN 0) (Q5 (gN 1) qaV))) bTt (qh5 (qbc (qu (qay (qu (bV 0) (qu (bV 1) zx)) ⟨rfl⟩) (qu (qay (qu (bV 1) (qu (bV 0) zx)) ⟨rfl⟩) zx)) ⟨rfl⟩)) (gN 2) bTt (jY (fBi 2) (qu (bV 3) (qu (bV 2) zx))) [none,none,none,some 0] ⟨rfl⟩ ⟨rfl⟩ ⟨rfl⟩))
def jJ:List PyData->Option PyData:=Pu.run JC.f 2 2 1000000000 true
def SV:Rd (PSp jJ true) 2 (K70.UC (Bk.J0 3)) JJ:=VR JC JJ 2 1000000000 true
def SR {x0 x1:PyData}:jJ [x0,x1]=KA true (JC.f 1000000000 [.sh x0,.sh x1]):=id rfl
def DC:PuS (K70.XR (PSp jJ true)):=(qc4 (qn7 (jY (X9 jJ true) (qu (bV 0) (qu (bV 1) zx))) 2 [true,true] ⟨rfl⟩) (qgt (qnZ (bO (opB λi j=>decide (i<j)) (jY qeG (qu (bV 1) zx)) (j3 2)) (bO (qaW false) (qhq (bV 2)) (jY qeG (qu (bV 2) zx))))))
def ZR:List PyData->Option PyData:=Pu.run DC.f 2 3 1000000000 false
def qan:Rd (PSp ZR false) 2 (K70.XR (PSp jJ true)) UB:=VR DC UB 2 1000000000 false
def qaF {x0 x1:PyData}:ZR [x0,x1]=KA false (DC.f 1000000000 [.sh x0,.sh x1,.un]):=id rfl
def JB:PuS (K70.V1 (PSp ZR false)):=(qc4 (qiu (qdj (qu (bV 1) zx)) (qaR 2 (Q5 (gN 3) (Q5 (gN 4) qaV))) (sIf (bTb (jY (X9 ZR false) (qu (bV 0) (qu (bO qb3 (bV 4) (qbc (qu (bV 2) zx) ⟨rfl⟩)) zx)))) (qnq 3) qcQ) [false,true] ⟨rfl⟩) (qgt (jY qeG (qu (bV 1) zx))))
def jG:List PyData->Option PyData:=Pu.run JB.f 3 5 1000000000 false
def SB:Rd (PSp jG false) 3 (K70.V1 (PSp ZR false)) QJ:=VR JB QJ 3 1000000000 false
def SN {x0 x1 x2:PyData}:jG [x0,x1,x2]=KA false (JB.f 1000000000 [.sh x0,.sh x1,.sh x2,.un,.un]):=id rfl
def Z5:PuN (K70.U3 (PSp qS false) (PSp j5 true) (PSp jG false)):=(qiv (qlq (jY (X9 qS false) (qu (bV 0) zx))) (qiv (qqx 1) (qiv (qiu (qh5 (jY (X9 j5 true) (qu (bV 0) zx))) (gN 2) (qc4 (qn7 (jY (X9 jG false) (qu (bV 0) (qu (bV 1) (qu (bV 2) zx)))) 3 [true,true,true] ⟨rfl⟩) (qc4 (sIf (bTb (bO (qaW false) (bV 3) (jY qeG (qu (bV 1) zx)))) (qcm zx 1 [] ⟨rfl⟩) qcQ) (qbY (bV 3) (bV 2) 1 [false,false,true] ⟨rfl⟩))) [true] ⟨rfl⟩) (qhW 1))))
def jB:List PyData->Option (PyData ⊕ List (List PyData)):=Pu.qn5 Z5.f 1 4 1000000000
def LU:Rd (PNp jB) 1 (K70.U3 (PSp qS false) (PSp j5 true) (PSp jG false)) jc:=qcY Z5 jc 1 1000000000
def WT {x0:PyData}:jB [x0]=Z5.f 1000000000 [.sh x0,.un,.un,.un]:=id rfl
def YO:PzS (λdx=>JD (PXp zc) dx):=(qqR (qf0 zc (qu (bV 0) zx)) qrA)
def Z2:List PyData->Option Addr:=Pu.qnM YO.f 1 4 1000000000
def LO:∀ ts G dx,PXp Z2 ts G dx->ts.length=1/\JD (PXp zc) dx { nx:=λ_ _=>False,rt:=λ_ _=>False } (qm jc ts) G:=qbi YO jc 1 1000000000
def TL {x0:PyData}:Z2 [x0]=qn6 (YO.f 1000000000 [.sh x0,.un,.un,.un]):=id rfl
def ZG:=((wIf (cOf (bTb (bO (opB λi j=>decide (j<i)) (jY qqm (qu (bV 3) (qu (bV 4) zx))) (j3 1)))) (qe3 (eOf (bO C1 (bV 4) (j3 1))) 4 [false,false,false,false,true] ⟨rfl⟩ ⟨rfl⟩) K0):PwS 0 _)
def Z3:=((eDr DK (aOf (qu (bO qdn (qbc (qu (j3 1) (qu (j3 4) (qu (j3 16) (qu (j3 64) zx)))) ⟨rfl⟩) (bV 2)) zx))):PwE 1 _)
def ZT:=((eDr DK (aOf (qu (bV 2) zx))):PwE 1 _)
def ZN:=((qhc qnS (j9 (eLc 1 (iOf (qaS (qu (bV 3) zx))) (gN 0) (cOf bTt) ZT [none,some 1,some 2] ⟨rfl⟩ ⟨rfl⟩) (aOf zx))):PwE 1 _)
def JI:PwS 0 (K70.V4 Bk.qV Bk.Q8):=(T9 (qe3 (eO C1 (eOf (j3 1)) (eDr DK (j9 (eO qdn (eOf (qbc (qu (j3 8) (qu (j3 8) (qu (j3 8) (qu (j3 8) (qu (j3 8) (qu (j3 8) (qu (j3 8) (qu (j3 16) zx)))))))) ⟨rfl⟩)) (eDr DK (aOf (qu (j3 8) zx)))) (aOf zx)))) 1 [] ⟨rfl⟩ ⟨rfl⟩) (T9 (qhz (qgj (j9 (eDr DK (aOf (qu (j3 6) zx))) (j9 (eO C1 (eOf (j3 1)) (eDr DK (j9 (eO qdn (eOf (qbc (qu (j3 4) (qu (j3 9) (qu (j3 17) (qu (j3 32) zx)))) ⟨rfl⟩)) (eDr DK (aOf (qu (j3 4) zx)))) (aOf zx)))) (aOf zx))) ⟨rfl⟩) (qaR 2 (Q5 (gN 2) (Q5 (gN 3) qaV))) [] ⟨rfl⟩ ⟨rfl⟩) (T9 (wIf (cOf (bTb (bO (opB λi j=>decide (i<j)) (bV 2) (j3 2)))) (qhy (qgj (j9 (eOf (qc5 "skew")) (j9 (eOf (bV 1)) (j9 (eOf (bV 1)) (j9 (eOf (bV 3)) (j9 (eDr DK (aOf (qu (j3 20) zx))) (j9 (eDr DK (aOf (qu (j3 20) zx))) (aOf zx))))))) ⟨rfl⟩)) K0) (T9 (wIf (cOf (bTb (bO (qaW false) (bV 2) (j3 2)))) (T9 (qe3 (eOf (qn9 (bO (opC MM (·/·)) (bO (opC UM (·*·)) (qn9 (bV 1)) (bV 1)) (bV 3)))) 4 [false,true,false,true] ⟨rfl⟩ ⟨rfl⟩) (T9 (qnW (iOf (qaS (qu (j3 32) zx))) (gN 5) ZG [] ⟨rfl⟩ ⟨rfl⟩) (qhy (eOf (qay (qu (qc5 "rests") (qu (bV 1) (qu (bV 1) (qu (bV 3) (qu (bV 4) zx))))) ⟨rfl⟩))))) K0) (T9 (wIf (cOf (bTb (bO (qaW false) (bV 2) (j3 3)))) (T9 (qe3 (eDr DK (aOf (qu (j3 4) zx))) 6 [] ⟨rfl⟩ ⟨rfl⟩) (T9 (qe3 (eLc 1 (iR (j9 (eDr DK (aOf (qu (j3 6) zx))) (aOf zx))) (gN 0) (cOf bTt) Z3 [none,some 0,some 6] ⟨rfl⟩ ⟨rfl⟩) 7 [false,false,false,false,false,false,true] ⟨rfl⟩ ⟨rfl⟩) (qhy (eOf (qay (qu (qc5 "bits") (qu (bV 6) (qu (bV 6) (qu (jY qnS (qu (bV 7) zx)) zx)))) ⟨rfl⟩))))) K0) (T9 (wIf (cOf (bTb (bO (qaW false) (bV 2) (j3 4)))) (qhy (qgj (j9 (eOf (qc5 "joined")) (j9 (qgj (j9 (eOf (qc5 "skew")) (j9 (eOf (j3 2)) (j9 (eOf (j3 2)) (j9 (eOf (j3 3)) (j9 (eOf (j3 1)) (j9 (eDr DK (aOf (qu (j3 3) zx))) (aOf zx))))))) ⟨rfl⟩) (aOf (qu (qay (qu (qc5 "skew") (qu (bO C1 (j3 1) (bO (opC (λ_ j=>0<j) (·%·)) (bV 1) (j3 4))) (qu (bO C1 (j3 1) (bO (opC (λ_ j=>0<j) (·%·)) (bV 1) (j3 4))) (qu (bO C1 (j3 1) (bO (opC (λ_ j=>0<j) (·%·)) (bV 3) (j3 5))) (qu (j3 1) (qu (j3 2) zx)))))) ⟨rfl⟩) zx)))) ⟨rfl⟩)) K0) (qhy (qgj (j9 (eOf (qc5 "table")) (j9 (eOf (bV 3)) (j9 (qhc qnS (j9 (eLc 1 (iOf (qaS (qu (bV 1) zx))) (gN 0) (cOf bTt) ZN [none,some 0,some 3,some 1] ⟨rfl⟩ ⟨rfl⟩) (aOf zx))) (aOf zx)))) ⟨rfl⟩))))))))
def jI:Wm:=qqN JI 1 8 false
def TQ:Rd (DSp jI.W false) 1 (K70.V4 Bk.qV Bk.Q8) Z9:=qg4 JI Z9 1 false
def SI {n:Nat} {Q:QD}:jI.W [] n Q=(0+1=1/\JI.w [.un,.un,.un,.un,.un,.un,.un,.un] n (qpZ false Q)):=id rfl
def QF:PuS (K70.JN):=(qgt (qbc (qu (bV 0) (qu (qay (qu (bO qdn (bV 0) (j3 1)) (qu (bO qdn (bV 0) (j3 0)) zx)) ⟨rfl⟩) zx)) ⟨rfl⟩))
def zX:List PyData->Option PyData:=Pu.run QF.f 1 1 1000000000 true
def CC:Rd (PSp zX true) 1 (K70.JN) jr:=VR QF jr 1 1000000000 true
def CA {x0:PyData}:zX [x0]=KA true (QF.f 1000000000 [.sh x0]):=id rfl
def jL:PuS (K70.ZD (PSp zX true)):=(qc4 (qn7 (qbc zx ⟨rfl⟩) 2 [] ⟨rfl⟩) (qc4 (qiu (qh5 (bV 1)) (gN 3) (qqe (bLc (qh5 (jY (X9 zX true) (qu (bV 3) zx))) (qaR 2 (Q5 (gN 0) (Q5 (gN 1) qaV))) bTt (bO qdn (bO qdn (bV 2) (bV 0)) (bV 1)) [none,none,some 0] ⟨rfl⟩) 2 [true,false,false,true] ⟨rfl⟩) [false,true] ⟨rfl⟩) (qgt (qnZ (bO (opB λi j=>decide (i<j)) (jY qeG (qu (bV 1) zx)) (j3 2)) (bO (qaW false) (qhq (bV 2)) (jY qeG (qu (bV 2) zx)))))))
def zn:List PyData->Option PyData:=Pu.run jL.f 2 4 1000000000 false
def W5:Rd (PSp zn false) 2 (K70.ZD (PSp zX true)) jQ:=VR jL jQ 2 1000000000 false
def W8 {x0 x1:PyData}:zn [x0,x1]=KA false (jL.f 1000000000 [.sh x0,.sh x1,.un,.un]):=id rfl
def jM:PuN (K70.ZW (Bk.ZK 3) (PSp zn false)):=(qiv (qf9 (bLc (qaS (qu (bV 1) zx)) (gN 0) bTt (bLc (qaS (qu (bV 2) zx)) (gN 0) bTt (jY (qoB 2) (qu (bV 1) (qu (bV 2) (qu (bV 0) zx)))) [none,some 1,some 0] ⟨rfl⟩) [none,some 0,some 1] ⟨rfl⟩) 2 3 [true,true] ⟨rfl⟩ ⟨rfl⟩) (qiv (qiu (qaS (qu (bV 1) zx)) (gN 4) (qiu (qaS (qu (bO C1 (bV 4) (j3 1)) (qu (bV 1) zx))) (gN 5) (qc4 (qe9 (bLc (qdj (qu (bV 2) zx)) (qaR 2 (Q5 (gN 0) (Q5 (gN 1) qaV))) (bTb (jY (X9 zn false) (qu (bV 2) (qu (bO qb3 (bV 1) (qbc (qu (qay (qu (bV 3) (qu (bV 4) zx)) ⟨rfl⟩) zx) ⟨rfl⟩)) zx)))) (bV 0) [none,none,some 3,some 4,some 5] ⟨rfl⟩) 6 ⟨rfl⟩) (sIf (bTb (bO (qaW false) (bV 6) (qbc zx ⟨rfl⟩))) (qcm (qu (qay (qu (bV 4) (qu (bV 5) zx)) ⟨rfl⟩) zx) 2 [false,false,false,false,true,true] ⟨rfl⟩) (qbY (bO qdn (bV 6) (j3 0)) (qay (qu (bV 4) (qu (bV 5) zx)) ⟨rfl⟩) 2 [false,false,false,false,true,true] ⟨rfl⟩))) [false,true,false,false,true] ⟨rfl⟩) [false,true] ⟨rfl⟩) (qhW 2)))
def zo:List PyData->Option (PyData ⊕ List (List PyData)):=Pu.qn5 jM.f 2 7 1000000000
def W7:Rd (PNp zo) 2 (K70.ZW (Bk.ZK 3) (PSp zn false)) jR:=qcY jM jR 2 1000000000
def WX {x0 x1:PyData}:zo [x0,x1]=jM.f 1000000000 [.sh x0,.sh x1,.un,.un,.un,.un,.un]:=id rfl
def zw:List PyData->Option (PyData ⊕ List (List PyData)):=λds=>match jB ds with|some d=>some d|none=>(Z2 ds).bind λC=>if C=97 then some (.inl (.str "not square")) else none
def qo2 (zc8:Sp3) (zb6:Sp3) (zc5:Sp3) (zb7:Sp3) (zb3:Sp3) (zc3:Sp3):TS3:=(WF (YG (q0 (qc (cb3 zc8 (qc (v3 2) qk)) (qc (cb3 zb6 (qc (v3 2) qk)) qk)))) (gn3 3) (qy (qH (cb3 zc5 (qc (v3 3) qk)) (qI 3 (ql (gn3 4) (ql (gn3 5) (ql (gn3 6) qJ))))) (qy (qH (if3 (tb3 (o3 (zg false) (v3 4) (v3 5))) (cb3 zb7 (qc (v3 3) (qc (v3 4) qk))) (c3 (.str "not square"))) (gn3 7)) (qy (qH (cb3 (MG true) (qc (v3 3) qk)) (gn3 8)) (WF (zO (qc (c3 (.int 2)) qk)) (gn3 9) (qy (qH (cb3 zb3 (qc (v3 3) qk)) (gn3 10)) (qy (zb (or3 (JS (tb3 (cb3 zc3 (qc (v3 10) (qc (v3 7) qk))))) (tb3 (o3 (zg true) (cb3 (MG true) (qc (v3 3) qk)) (v3 8)))) (qL (c3 (.bl false))) qw) (zb (tb3 (QT (λt=>jp t "list") (v3 10))) (qy (WF (YG (v3 10)) (gn3 11) (qR (bm3 QC (v3 11) (qc (q0 (qc (c3 (.int 0)) (qc (c3 (.int 1)) qk))) qk)))) (qR (qiC qhl (v3 10)))) qw))))))))
def SM:=((T9 (qmS zw (qu (bV 3) zx) 10 [false,false,false,true] ⟨rfl⟩ ⟨rfl⟩) (T9 (wIf (cOf (bOr (qnX (bTb (jY (qj2 4) (qu (bV 10) (qu (bV 7) zx))))) (bTb (bO (qaW true) (jY (qdd true) (qu (bV 3) zx)) (bV 8))))) (qhy (eOf (bBl false))) K0) (wIf (cOf (bTb (qqW (λt=>jp t "list") (bV 10)))) (T9 (qcg (qay (qu (j3 0) (qu (j3 1) zx)) ⟨rfl⟩) 10 11 ⟨rfl⟩ ⟨rfl⟩) (qnD 10)) K0))):PwS 2 _)
def TV:=((T9 (qhz (eOf (jY (qqE 2) (qu (bV 3) zx))) (qaR 3 (Q5 (gN 4) (Q5 (gN 5) (Q5 (gN 6) qaV)))) [false,false,false,true] ⟨rfl⟩ ⟨rfl⟩) (T9 (qe3 (eOf (bIf (bTb (bO (qaW false) (bV 4) (bV 5))) (jY (fNs zo) (qu (bV 3) (qu (bV 4) zx))) (qc5 "not square"))) 7 [false,false,false,true,true,true] ⟨rfl⟩ ⟨rfl⟩) (T9 (qe3 (eOf (jY (qdd true) (qu (bV 3) zx))) 8 [false,false,false,true] ⟨rfl⟩ ⟨rfl⟩) (qnW (iOf (qaS (qu (j3 2) zx))) (gN 9) SM [] ⟨rfl⟩ ⟨rfl⟩)))):PwS 2 _)
def qdX:PwS 2 (qo2 (DSp jI.W false) Bk.QB (Bk.j6 3) (PNp zo) (PNp zw) (Bk.j8 5)):=(qnW (iS (qgj (j9 (eDr (dSp jI false) (aOf zx)) (j9 (eDr NX (aOf zx)) (aOf zx))) ⟨rfl⟩)) (gN 3) TV [] ⟨rfl⟩ ⟨rfl⟩)
def qnH (h:∀ k:Nat,k<=60->qdX.w [.un,.sh (.int k),.un,.un,.un,.un,.un,.un,.un,.un,.un,.un] 0 okW):Rd RO 1 (K70.qin Bk.YB (DSp jI.W false) Bk.QB (Bk.j6 3) (PNp zo) (PNp zw) (Bk.j8 5)) qcN:=qdQ qdX qcN 5 9 ⟨by decide,by decide⟩ rfl h
end K70
namespace K70
open PySem L2 L3 Bk
def qdA {d:Nat} (h:d<=5):L2.atI [T.int 1,.int 2,.int 4,.int 8,.int 16,.int 32] (d:Int)=some (.int (2 ^ d)):=by
 have:d=0\/d=1\/d=2\/d=3\/d=4\/d=5:=by omega
 rcases this with rfl|rfl|rfl|rfl|rfl|rfl<;>rfl
def KL {s l1 l2:Str} {xs:List T} {R S:TS3} {d:Ends3} {τ:St3} {G:Gp} (hτ:τ[0]?=some (some (T.tup (.str s::xs)))):qy (zb (tb3 (o3 (in3 false) (o3 ix3 (v3 0) (c3 (.int 0))) (q0 (qc (c3 (.str l1)) (qc (c3 (.str l2)) qk))))) R qw) S d τ G=(if s=l1\/s=l2 then R { d with nx:=S d } τ G else S d τ G):=by
 have s2:[T.str l1,T.str l2].length<=sizeLine:=by simp [y8]
 simp only [qy,zb,tb3,o3,v3,hτ,c3,L3.ixT,qbg,q0,qc,qk,in3,qw];by_cases e1:s=l1
 ·subst e1;simp [zr,eqF,y8]
 ·have e1':¬ l1=s:=λz=>e1 z.symm;by_cases e2:s=l2
  ·subst e2;simp [zr,eqF,y8]
  ·have e2':¬ l2=s:=λz=>e2 z.symm;simp [zr,eqF,y8,e1,e2,e1',e2']
def EL (n:Nat):∀ ts G q,j6 (n+1) ts G q->ts.length=1/\DX (j6 n) (C0 q) (qm ["_law_dealing_here","_law_two","_law_one","_law_other"] ts) G:=by
 rintro ts G q ⟨d,rfl,hd,ok,h⟩;refine ⟨rfl,?_⟩;have h0:=h G Ex.refl;unfold DX;cases d with
 |skew r c b x y=>
  show qy _ _ _ [some (.tup [.str "skew",.int r,.int c,.int b,.int x,.int y]),none,none,none] G;rw [KL rfl,if_pos (.inl rfl)];simp [sl3,qL,VD,sp3,v3,c3,L3.YX,HT.sIx];exact h0
 |rests r c b x=>
  show qy _ _ _ [some (.tup [.str "rests",.int r,.int c,.int b,.int x]),none,none,none] G;rw [KL rfl,if_pos (.inr rfl)];simp [sl3,qL,VD,sp3,v3,c3,L3.YX,HT.sIx];exact h0
 |bits hh l ms=>
  obtain ⟨k1,k2,k3,_⟩:=ok;show qy _ _ _ [some (.tup [.str "bits",.int hh,.int l,.tup (ms.map T.int)]),none,none,none] G;rw [KL rfl,if_neg (by decide),zM rfl,if_pos rfl];simp [qy,qH,gn3,qL,jn,zb,qR,YS,qw,v3,c3,o3,u3,Z7,L3.ixT,L3.ixR,zh,iI,iC,iB,zg,qU,J5,tb3,UF,or3,JS,zy,VF,ja,if3,ch3,cb3,qc,qk,QT,tyT,jp,q0,zF,VD,np3,sp3,qI,ql,qJ,zz,J4,Z1,qm,bm3,QC,J6,jW,YZ,VG,UR,UO,qF,jm,YI,UL,VJ,YX,HT.sIx,getL,in3,zr,eqF,gu,y8,getElem?_cons_zero,getElem?_cons_succ];intro p hp;have ix:∀ k:Nat,k<=5->L2.atI [T.int 1,.int 2,.int 4,.int 8,.int 16,.int 32] (k:Int)=some (.int (2 ^ k)):=λk hk=>qdA hk;simp [qy,qH,gn3,qL,jn,zb,qR,YS,qw,v3,c3,o3,u3,Z7,L3.ixT,L3.ixR,zh,iI,iC,iB,zg,qU,J5,tb3,UF,or3,JS,zy,VF,ja,if3,ch3,cb3,qc,qk,QT,tyT,jp,q0,zF,VD,np3,sp3,qI,ql,qJ,zz,J4,Z1,qm,bm3,QC,J6,jW,YZ,VG,UR,UO,qF,jm,YI,UL,VJ,YX,HT.sIx,getL,in3,zr,eqF,gu,y8,getElem?_cons_zero,getElem?_cons_succ,qbg,qdZ,qbn,qjX,ix hh (by omega),ix l (by omega),ix ms.length (by omega)];exact h _ (j4 hp)
 |table b cells=>
  have L:=Dl.lims ok;obtain ⟨k1,k2,k3,k4,c,k5,k6,k7⟩:=ok;cases cells with
  |nil=>simp at k3
  |cons row cells=>
   show qy _ _ _ [some (.tup [.str "table",.int b,.tup (M1 row::cells.map M1)]),none,none,none] G;rw [KL rfl,if_neg (by decide),zM rfl,if_neg (by decide),zM rfl,if_pos rfl];simp [M1,qbg,qdZ,qbn,qy,qH,gn3,qL,jn,zb,qR,YS,qw,v3,c3,o3,u3,Z7,L3.ixT,L3.ixR,zh,iI,iC,iB,zg,qU,J5,tb3,UF,or3,JS,zy,VF,ja,if3,ch3,cb3,qc,qk,QT,tyT,jp,q0,zF,VD,np3,sp3,qI,ql,qJ,zz,J4,Z1,qm,bm3,QC,J6,jW,YZ,VG,UR,UO,qF,jm,YI,UL,VJ,YX,HT.sIx,getL,in3,zr,eqF,gu,y8,getElem?_cons_zero,getElem?_cons_succ];simpa [W6,Dl.R,Dl.C,Dl.B] using h0
 |joined d e=>
  have Ld:=Dl.lims ok.1;have Le:=Dl.lims ok.2.1;have:1<=n:=by simp [Dl.dep] at hd;omega
  obtain ⟨m,rfl⟩:∃ m,n=m+1:=⟨n-1,by omega⟩
  show qy _ _ _ [some (.tup [.str "joined",d.t,e.t]),none,none,none] G;rw [KL rfl,if_neg (by decide),zM rfl,if_neg (by decide),zM rfl,if_neg (by decide)];refine ju λnx1 q1=>?_;simp only [Z1,qc,qk,cb3,o3,v3,c3,L3.ixT,qdZ,qbn,getElem?_cons_zero];refine ⟨d,rfl,by simp [Dl.dep] at hd;omega,ok.1,λG1 E1=>?_⟩;refine ⟨e,rfl,by simp [Dl.dep] at hd;omega,ok.2.1,λG2 E2=>?_⟩;simp;rw [q1];have e1:=Le.r1;have e2:=Le.r2;have e3:=Le.c1;have e4:=Le.c2;have e5:=Le.b1;have e6:=Le.b2;simp [W6,lc3,qaM,jP,qbE,CL,tt3,cap,qy,qH,gn3,qL,jn,zb,qR,YS,qw,v3,c3,o3,u3,Z7,L3.ixT,L3.ixR,zh,iI,iC,iB,zg,qU,J5,tb3,UF,or3,JS,zy,VF,ja,if3,ch3,cb3,qc,qk,QT,tyT,jp,q0,zF,VD,np3,sp3,qI,ql,qJ,zz,J4,Z1,qm,bm3,QC,J6,jW,YZ,VG,UR,UO,qF,jm,YI,UL,VJ,L2.atI,ixN,YX,HT.sIx,getL,in3,zr,eqF,gu,y8,getElem?_cons_zero,getElem?_cons_succ];refine ⟨cm (by omega) (by omega),cm (by omega) (by omega),cm (by omega) (by omega),λp hp=>?_⟩;exact h _ ((E1.trans E2).trans (j4 hp))
end K70
namespace K70
open PySem L2 L3 Pu Pv
open Bk (Dl Inn)
abbrev PP:=Int×Int
def Nn (N:Nat) (p:PP):Prop:=(0<=p.1/\p.1<N)/\(0<=p.2/\p.2<N)
def bsD (ps:List PP):PyData:=.list (ps.map pD)
section
variable (b:Int->Int->Int)
def wb (p:PP):List Int:=[b p.1 p.2,b p.2 p.1]
def bb (ps:List PP):List Int:=ps.flatMap (wb b)
def okb (ps:List PP):Bool:=decide (((ps.length:Nat):Int)<2)||decide (((R4 (bb b ps):Nat):Int)=((bb b ps).length:Nat))
def ff (pl:List (List PP)) (p:PP):Nat:=pl.findIdx λs=>okb b (s++[p])
def stp (pl:List (List PP)) (p:PP):List (List PP):=if ff b pl p=pl.length then pl++[[p]] else pl.modify (ff b pl p) (·++[p])
end
def row (N:Nat) (i:Int):List PP:=(J7 (i+1) ((N:Int)-(i+1)).toNat).map λj=>(i,j)
def prs (N:Nat):List PP:=(J7 0 (N:Int).toNat).flatMap (row N)
def X4 {lo:Int} {n:Nat} {x:Int} (h:x∈J7 lo n):lo<=x/\x<lo+n:=by
 unfold J7 at h;obtain ⟨i,hi,rfl⟩:=mem_map.mp h;have:=mem_range.mp hi;omega
def qlu {N:Nat} {i:Int} (h:0<=i/\i<N) {p:PP} (hp:p∈row N i):Nn N p:=by
 obtain ⟨j,hj,rfl⟩:=mem_map.mp hp;have:=X4 hj;exact ⟨h,by simp only;omega,by simp only;omega⟩
def qhL {N:Nat} {p:PP} (hp:p∈prs N):Nn N p:=by
 obtain ⟨i,hi,hp⟩:=List.mem_flatMap.mp hp;have:=X4 hi;exact qlu (by omega) hp
def K5 {b:Int->Int->Int}:∀ {ps:List PP},(bb b ps).length=2*ps.length
 |[]=>rfl
 |p::ps=>by
  have:=K5 (b:=b) (ps:=ps);unfold bb at this ⊢;simp only [List.flatMap_cons,length_append,wb,length_cons,length_nil,this];omega
structure Sq (d:Dl) (N:Nat):Prop where
 ok:d.Ok
 dp:d.dep<=2
 r:d.R=N
 c:d.C=N
 n:N<=16
def Sq.inn {d:Dl} {N:Nat} (h:Sq d N) {p:PP} (hp:Nn N p):Inn d p.1 p.2/\Inn d p.2 p.1:=by
 have:=h.r;have:=h.c;obtain ⟨⟨a,b⟩,c,e⟩:=hp;exact ⟨⟨by omega,by omega,by omega,by omega⟩,⟨by omega,by omega,by omega,by omega⟩⟩
def qra {d:Dl} {N:Nat} (h:Sq d N) {ps:List PP} (hp:∀ p∈ps,Nn N p) (hl:ps.length<=1000):jJ [dlD d,bsD ps]=some (.list ((bb d.bank ps).map PyData.int)):=by
 rw [SR]
 try simp only [Pu.pwA,JC,bsD]
 rw [qbO (ds:=ps.map pD) (fs:=ps.flatMap λp=>(wb d.bank p).map PyData.int)]
 ·try simp only [Pu.pwA,bb,List.map_flatMap]
 ·try simp only [Pu.pwA]
 ·refine NV λp hp'=>?_;obtain ⟨i1,i2⟩:=h.inn (hp p hp');have k1:=qmg (n:=2) h.dp h.ok i1;have k2:=qmg (n:=2) h.dp h.ok i2
  try simp only [Pu.pwA,qed,pD]
  try simp only [Pu.pwA,lcP,qak,qp7,k1,k2,wb,map_cons,List.map_nil]
 ·have e:(ps.flatMap λp=>(wb d.bank p).map PyData.int).length=2*ps.length:=by
   have:=K5 (b:=d.bank) (ps:=ps);rw [← this,← length_map (f:=PyData.int),bb,List.map_flatMap]
  rw [e];omega
def qo3 {d:Dl} {N:Nat} (h:Sq d N) {ps:List PP} (hp:∀ p∈ps,Nn N p) (hl:ps.length<=1000):ZR [dlD d,bsD ps]=some (.bool (okb d.bank ps)):=by
 have e:=qra h hp hl;have l:=K5 (b:=d.bank) (ps:=ps);have ls:=qcs (xs:=bb d.bank ps) (by omega);rw [qaF]
 try simp only [Pu.pwA,DC,e]
 try simp only [Pu.pwA,bsD,ls,length_map,okb]
 cases decide (((ps.length:Nat):Int)<2)<;>try simp only [Pu.pwA,Bool.true_or,Bool.false_or]
def qlx {d:Dl} (ok:d.Ok) (dp:d.dep<=2):zQ [dlD d]=some (.bool (decide (d.R=d.C))):=by
 rw [LI]
 try simp only [Pu.pwA,YR,qkp,qhS (n:=2) dp ok,siz]
def qih:∀ N:Nat,N<17->(prs N).length<=120:=by decide +kernel
def qrJ {d:Dl} {N:Nat} (h:Sq d N):j5 [dlD d]=some (bsD (prs N)):=by
 have hn:=h.n;rw [LF]
 try simp only [Pu.pwA,YC,qkp,qhS (n:=2) h.dp h.ok,siz,h.r,h.c]
 rw [qbO (ds:=(J7 0 (N:Int).toNat).map PyData.int) (fs:=(J7 0 (N:Int).toNat).flatMap λi=>(row N i).map pD)]
 ·try simp only [Pu.pwA,bsD,prs,List.map_flatMap]
 ·try simp (disch:=omega) only [Pu.pwA,qhm]
 ·refine NV λi hi=>?_;have:=X4 hi
  try simp (disch:=omega) only [Pu.pwA,qed,qqv]
  rw [L9 (k:=λj=>pD (i,j))]
  ·try simp only [Pu.pwA,row,map_map,Function.comp_def]
  ·intro j hj
   try simp only [Pu.pwA,qak,pD]
 ·have e:((J7 0 (N:Int).toNat).flatMap λi=>(row N i).map pD).length=(prs N).length:=by rw [← length_map (f:=pD),prs,List.map_flatMap]
  have:=qih N (by omega);omega
def plD (pl:List (List PP)):PyData:=.list (pl.map bsD)
structure Pl (N:Nat) (pl:List (List PP)) (k:Nat):Prop where
 nn:∀ s∈pl,∀ p∈s,Nn N p
 ls:∀ s∈pl,s.length<=k
 l:pl.length<=k
def qqI {ps:List PP} {p:PP} (hl:ps.length<=1000):qgS (bsD ps) (.list [pD p])=some (bsD (ps++[p])):=by
 unfold bsD;rw [qjA (by simp;omega),List.map_append];rfl
def qrC {d:Dl} {N k:Nat} (h:Sq d N) {pl:List (List PP)} (hp:Pl N pl k) (hk:k<1000) {p:PP} (hn:Nn N p):jG [dlD d,plD pl,pD p]=some (.int ((ff d.bank pl p:Nat):Int)):=by
 have is:∀ s∈pl,ZR [dlD d,bsD (s++[p])]=some (.bool (okb d.bank (s++[p]))):=λs hs=>qo3 h (λq hq=>by
  rcases List.mem_append.mp hq with hq|hq
  ·exact hp.nn s hs q hq
  ·rw [List.mem_singleton.mp hq];exact hn) (by have:=hp.ls s hs;simp;omega)
 have ct:∀ s∈pl,qgS (bsD s) (.list [pD p])=some (bsD (s++[p])):=λs hs=>qqI (by have:=hp.ls s hs;omega);rw [SN];unfold JB
 try simp only [Pu.pwA,plD,bsD]
 have eb:∀ s:List PP,PyData.list (s.map pD)=bsD s:=λ_=>rfl;rw [show (pl.map bsD)=pl.map λs=>bsD s from rfl,qbr];have al:∀ i s,pl[i]?=some s->i<ff d.bank pl p->okb d.bank (s++[p])=false:=λi s e hi=>by
  have:=List.not_of_lt_findIdx hi;have hl:=(za4 e).1;rw [y9 hl] at e;cases e;simpa using this
 by_cases z:ff d.bank pl p=pl.length
 ·refine qbo (Q:=λo=>KA false o=some (.int ((ff d.bank pl p:Nat):Int))) (g:=λx:List PP×Nat=>PyData.tuple [PyData.int (x.2:Int),bsD x.1]) pl.zipIdx (λ_ ρ=>∃ s3 s4,ρ=[.sh (dlD d),.sh (plD pl),.sh (pD p),s3,s4]) ⟨_,_,rfl⟩ ?_ ?_
  ·rintro i ⟨s,j⟩ ρ hx ⟨s3,s4,rfl⟩;obtain ⟨hs,rfl,hl⟩:=R7 hx;have hm:=v8 hs
   try simp only [Pu.pwA,ct s hm,is s hm,al _ s hs (by omega)]
   exact ⟨_,_,rfl⟩
  ·rintro ρ ⟨s3,s4,rfl⟩
   try simp only [Pu.pwA,plD,length_map,z]
 ·have lt:ff d.bank pl p<pl.length:=by
   have:ff d.bank pl p<=pl.length:=List.findIdx_le_length;omega
  have hs:=y9 lt;have hm:=v8 hs;have yes:okb d.bank (pl[ff d.bank pl p]++[p])=true:=List.findIdx_getElem (w:=lt);refine qgO (Q:=λo=>KA false o=some (.int ((ff d.bank pl p:Nat):Int))) (g:=λx:List PP×Nat=>PyData.tuple [PyData.int (x.2:Int),bsD x.1]) pl.zipIdx (ff d.bank pl p) (pl[ff d.bank pl p],ff d.bank pl p) (.int ((ff d.bank pl p:Nat):Int)) false (by rw [List.getElem?_zipIdx,hs];simp) (λ_ ρ=>∃ s3 s4,ρ=[.sh (dlD d),.sh (plD pl),.sh (pD p),s3,s4]) ⟨_,_,rfl⟩ ?_ ?_ ?_
  ·rintro i ⟨s,j⟩ ρ hi hx ⟨s3,s4,rfl⟩;obtain ⟨hs,rfl,hl⟩:=R7 hx;have hm:=v8 hs
   try simp only [Pu.pwA,ct s hm,is s hm,al _ s hs hi]
   exact ⟨_,_,rfl⟩
  ·rintro ρ ⟨s3,s4,rfl⟩
   try simp only [Pu.pwA,ct _ hm,is _ hm,yes]
  ·try simp only [Pu.pwA]
def onP (pl:List (List PP)):List (List PyData):=pl.map λs=>s.map pD
def qdG {pl:List (List PP)}:PyData.list ((onP pl).map PyData.list)=plD pl:=by
 unfold onP plD;rw [map_map];rfl
def qdh {dss:List (List PyData)}:Sl.d (.on dss)=some (.list (dss.map PyData.list)):=id rfl
def qd8 {s:Sl} {ρ:Rho} {i:Nat}:Q0 (s::ρ) (i+1)=Q0 ρ i:=id rfl
def qdk {dss:List (List PyData)} {ρ:Rho}:Q0 (.on dss::ρ) 0=some dss:=id rfl
def qhu {n k:Nat} (h:k<n):ixN n (k:Int)=some k:=by
 unfold ixN;rw [if_pos (by omega),if_pos (by omega)];simp
def qmq {b:Int->Int->Int} {pl:List (List PP)} {p:PP}:ff b pl p<=pl.length:=List.findIdx_le_length
def qcJ {b:Int->Int->Int} {pl:List (List PP)} {p:PP} (h:ff b pl p=pl.length):onP (stp b pl p)=onP pl++[[pD p]]:=by
 unfold stp onP;rw [if_pos h,List.map_append];rfl
def qaY {b:Int->Int->Int} {pl:List (List PP)} {p:PP} (h:ff b pl p<pl.length):onP (stp b pl p)=(onP pl).set (ff b pl p) ((pl[ff b pl p]).map pD++[pD p]):=by
 unfold stp onP;rw [if_neg (by omega)];apply List.ext_getElem?;intro i;rw [getElem?_map,List.getElem?_modify,getElem?_set,length_map];by_cases e:ff b pl p=i
 ·rw [if_pos e,if_pos h,← e,y9 h];simp
 ·rw [if_neg e,getElem?_map];cases pl[i]?<;>simp [e]
def qfU {N k:Nat} {b:Int->Int->Int} {pl:List (List PP)} {p:PP} (h:Pl N pl k) (hp:Nn N p):Pl N (stp b pl p) (k+1):=by
 have hl:=h.l;unfold stp;split
 ·refine ⟨λs hs q hq=>?_,λs hs=>?_,by simp;omega⟩
  ·rcases List.mem_append.mp hs with hs|hs
   ·exact h.nn s hs q hq
   ·rw [List.mem_singleton.mp hs] at hq;rw [List.mem_singleton.mp hq];exact hp
  ·rcases List.mem_append.mp hs with hs|hs
   ·have:=h.ls s hs;omega
   ·rw [List.mem_singleton.mp hs];simp
 ·have mem:∀ s∈pl.modify (ff b pl p) (·++[p]),s∈pl\/∃ t∈pl,s=t++[p]:=λs hs=>by
   obtain ⟨i,hi,e⟩:=List.getElem_of_mem hs;rw [List.length_modify] at hi;rw [List.getElem_modify] at e;split at e
   ·exact .inr ⟨_,za0 hi,e.symm⟩
   ·exact .inl (e▸za0 hi)
  refine ⟨λs hs q hq=>?_,λs hs=>?_,by simp;omega⟩
  ·rcases mem s hs with hs|⟨t,ht,rfl⟩
   ·exact h.nn s hs q hq
   ·rcases List.mem_append.mp hq with hq|hq
    ·exact h.nn t ht q hq
    ·rw [List.mem_singleton.mp hq];exact hp
  ·rcases mem s hs with hs|⟨t,ht,rfl⟩
   ·have:=h.ls s hs;omega
   ·have:=h.ls t ht;simp;omega
def qad {α:Type} {xs:List α} {i:Nat} {x:α} (h:xs[i]?=some x):xs.take (i+1)=xs.take i++[x]:=by
 rw [List.take_add_one,h];rfl
def pln (b:Int->Int->Int) (ps:List PP):List (List PP):=ps.foldl (stp b) []
def qma {b:Int->Int->Int} {ps:List PP} {i:Nat} {p:PP} (h:ps[i]?=some p):pln b (ps.take (i+1))=stp b (pln b (ps.take i)) p:=by
 unfold pln;rw [qad h,List.foldl_append];rfl
def qbz {N:Nat} {b:Int->Int->Int} {ps:List PP} (h:∀ p∈ps,Nn N p):∀ i,i<=ps.length->Pl N (pln b (ps.take i)) i
 |0,_=>⟨by simp [pln],by simp [pln],by simp [pln]⟩
 |i+1,hi=>by
  have e:=y9 (show i<ps.length by omega);rw [qma e];exact qfU (qbz h i (by omega)) (h _ (v8 e))
def qrK {d:Dl} {N:Nat} (h:Sq d N):qS [dlD d]=some .none:=by
 have e:=qlx h.ok h.dp;rw [h.r,h.c,za2 rfl] at e;rw [QZ]
 try simp only [Pu.pwA,zm,e,Bool.not_true]
def qri {d:Dl} {N:Nat} (h:Sq d N):jB [dlD d]=some (.inr (onP (pln d.bank (prs N)))):=by
 have hl:=qih N (by have:=h.n;omega);rw [WT]
 try simp only [Pu.pwA,Z5,qcq,qmX,qbG,qrK h,qrJ h]
 try simp only [Pu.pwA,bsD]
 refine XG (Q:=λo=>(o.bind λo=>match o with|Ot.nx ρ'=>Option.map Sum.inr (Q0 ρ' 1)|x=>none)=some (.inr (onP (pln d.bank (prs N))))) (g:=pD) (prs N) (λi ρ=>∃ s2 s3,ρ=[.sh (dlD d),.on (onP (pln d.bank ((prs N).take i))),s2,s3]) ⟨_,_,rfl⟩ ?_ ?_
 ·rintro i p ρ hx ⟨s2,s3,rfl⟩;have hi:=(za4 hx).1;have hp:=qbz (N:=N) (b:=d.bank) (ps:=prs N) (λp hp=>qhL hp) i (by omega);have hn:=qhL (v8 hx);rw [qma hx];have fb:=qrC h hp (by omega) hn;generalize pln d.bank ((prs N).take i)=pl at hp fb;have le:=qmq (b:=d.bank) (pl:=pl) (p:=p);have ll:((onP pl).map PyData.list).length=pl.length:=by simp [onP]
  have lo:(onP pl).length=pl.length:=by simp [onP]
  have hl2:=hp.l
  try simp only [Pu.pwA,qdh,qdG,fb]
  try simp only [Pu.pwA,plD,length_map]
  by_cases z:ff d.bank pl p=pl.length
  ·have e:(((ff d.bank pl p:Nat):Int)=((pl.length:Nat):Int)):=by omega
   have g1:((onP pl)++[[]])[ff d.bank pl p]?=some []:=by rw [z,← lo];simp
   have g2:ixN ((onP pl)++[[]]).length ((ff d.bank pl p:Nat):Int)=some (ff d.bank pl p):=qhu (by simp [lo,z]);have g3:((onP pl)++[[]]).set (ff d.bank pl p) ([]++[pD p])=onP pl++[[pD p]]:=by rw [z,← lo,List.set_append_right _ _ (v4 _)];simp
   rw [qcJ z]
   try simp only [Pu.pwA,e,decide_true,NH,SK,KQ,RR,qd8,qdk,lo,if_pos (show pl.length<1000000 by omega),if_pos (show (0:Nat)<1000000 by decide)]
   rw [z] at g1 g2 g3;rw [g2,Option.bind_some,g1,Option.bind_some,if_pos (show ([]:List PyData).length<1000000 by decide),g3];exact ⟨_,_,rfl⟩
  ·have lt:ff d.bank pl p<pl.length:=by omega
   have e:¬ (((ff d.bank pl p:Nat):Int)=((pl.length:Nat):Int)):=by omega
   have g1:(onP pl)[ff d.bank pl p]?=some ((pl[ff d.bank pl p]).map pD):=by unfold onP;rw [getElem?_map,y9 lt];rfl
   have g2:ixN (onP pl).length ((ff d.bank pl p:Nat):Int)=some (ff d.bank pl p):=qhu (by rw [lo];exact lt);have g4:=hp.ls _ (za0 lt);rw [qaY lt]
   try simp only [Pu.pwA,e,decide_false,SK,RR,qd8,qdk]
   rw [g2,Option.bind_some,g1,Option.bind_some,if_pos (by rw [length_map];omega)];exact ⟨_,_,rfl⟩
 ·rintro ρ ⟨s2,s3,rfl⟩;rw [List.take_of_length_le (v4 _)];rfl
def bkD (N:Nat) (b:Int->Int->Int):PyData:=.list ((J7 0 (N:Int).toNat).map λi=>.list ((J7 0 (N:Int).toNat).map λj=>.int (b i j)))
def qe5 {N:Nat} {i:Int} (h:0<=i/\i<N) (g:Int->PyData):atI ((J7 0 (N:Int).toNat).map g) i=some (g i):=by
 obtain ⟨k,rfl⟩:=Int.eq_ofNat_of_zero_le h.1;refine qg1 ?_;rw [getElem?_map];unfold J7;rw [getElem?_map,List.getElem?_range (by omega)];simp
def qmZ {p:PP}:zX [pD p]=some (.list [pD (p.1,p.2),pD (p.2,p.1)]):=by
 rw [CA]
 try simp only [Pu.pwA,QF,pD]
def qrk {N:Nat} {b:Int->Int->Int} {ps:List PP} (hp:∀ p∈ps,Nn N p) (hl:ps.length<=1000):zn [bkD N b,bsD ps]=some (.bool (okb b ps)):=by
 have l:=K5 (b:=b) (ps:=ps);have ls:=qcs (xs:=bb b ps) (by omega);rw [W8]
 try simp only [Pu.pwA,jL,bsD]
 refine qbo (Q:=λo=>KA false o=some (.bool (okb b ps))) (g:=pD) ps (λi ρ=>∃ s3,ρ=[.sh (bkD N b),.sh (.list (ps.map pD)),.ow ((bb b (ps.take i)).map PyData.int),s3]) ⟨_,rfl⟩ ?_ ?_
 ·rintro i p ρ hx ⟨s3,rfl⟩;have hi:=(za4 hx).1;obtain ⟨a1,a2⟩:=hp p (v8 hx);have lc:∀ ρ:Rho,lcP (lcH (Pu.qaR 2 (Pu.Q5 (gN 0) (Pu.Q5 (gN 1) Pu.qaV))).f (λ_=>some true) (λρ=>((vw ρ 2).bind λx=>(vw ρ 0).bind λy=>ixD x y).bind λx=>(vw ρ 1).bind λy=>ixD x y) [.un,.un,.sh (bkD N b)]) [pD (p.1,p.2),pD (p.2,p.1)]=some ((wb b p).map PyData.int):=λρ=>by
   try simp only [Pu.pwA,lcP,qak,pD,bkD,qe5 a1,qe5 a2,wb,map_cons,List.map_nil]
  have e:bb b (ps.take (i+1))=bb b (ps.take i)++wb b p:=by
   rw [qad hx];unfold bb;rw [List.flatMap_append];simp
  have l2:=K5 (b:=b) (ps:=ps.take i);have l3:(ps.take i).length<=i:=by simp;omega
  try simp only [Pu.pwA,qmZ]
  rw [e,List.map_append];rw [N7 (ds:=[pD (p.1,p.2),pD (p.2,p.1)]) (fs:=(wb b p).map PyData.int) (by try simp only [Pu.pwA,qmZ]) (lc []) (by simp [wb])];have ex:qiz 2 (.list ((wb b p).map PyData.int)) [.sh (bkD N b),.sh (.list (ps.map pD)),.ow ((bb b (ps.take i)).map PyData.int),.sh (pD p)]=some (.nx [.sh (bkD N b),.sh (.list (ps.map pD)),.ow ((bb b (ps.take i)).map PyData.int++(wb b p).map PyData.int),.sh (pD p)]):=by
   unfold qiz;exact jy (by rw [y8];simp [wb];omega)
  rw [Option.bind_some];show Nx (qiz 2 (.list ((wb b p).map PyData.int)) [.sh (bkD N b),.sh (.list (ps.map pD)),.ow ((bb b (ps.take i)).map PyData.int),.sh (pD p)]) _;rw [ex];exact ⟨_,rfl⟩
 ·rintro ρ ⟨s3,rfl⟩;rw [List.take_of_length_le (v4 _)]
  try simp only [Pu.pwA,ls,length_map,okb]
  cases decide (((ps.length:Nat):Int)<2)<;>try simp only [Pu.pwA,Bool.true_or,Bool.false_or]
def qqY {c:List PP->Bool}:∀ (pl:List (List PP)) (k:Nat),(pl.findIdx c=pl.length->((pl.zipIdx k).filter λx=>c x.1)=[])/\(pl.findIdx c<pl.length->∃ t,((pl.zipIdx k).filter λx=>c x.1).map (λx=>x.2)=(k+pl.findIdx c)::t)
 |[],k=>⟨λ_=>rfl,λh=>by simp at h⟩
 |s::pl,k=>by
  have ih:=qqY (c:=c) pl (k+1);rw [List.zipIdx_cons,List.findIdx_cons];cases h:c s with
  |true=>simp [h]
  |false=>
   simp only [cond_false,List.filter_cons,h,Bool.false_eq_true,if_false,length_cons];refine ⟨λe=>ih.1 (by omega),λe=>?_⟩;obtain ⟨t,e⟩:=ih.2 (by omega);exact ⟨t,by rw [e];congr 1;omega⟩
def Pl.mono {N k m:Nat} {pl:List (List PP)} (h:Pl N pl k) (e:k<=m):Pl N pl m:=⟨h.nn,λs hs=>by have:=h.ls s hs;omega,by have:=h.l;omega⟩
def qhe {xs:List Int}:eqD false (.list (xs.map PyData.int)) (.list [])=some (.bool (decide (xs=[]))):=by
 have dp:∀ ps:List Int,qee (ps.map PyData.int)<=1:=λps=>by
  induction ps with
  |nil=>simp [qee]
  |cons p ps ih=>simp only [map_cons,qee,dpt];omega
 have h:qc7 (.list (xs.map PyData.int)) (.list [])=none:=rfl;unfold eqD;rw [h];simp only;rw [jy (by have:=dp xs;simp only [dpt];omega)];cases xs<;>simp [jX,DB]
def qpK:∀ N:Nat,N<17->∀ i:Nat,i<N->(row N (i:Int)).length<=16:=by decide +kernel
def qpD {d:Dl} {N:Nat} (h:Sq d N):zo [dlD d,.int (N:Int)]=some (.inr (onP (pln d.bank (prs N)))):=by
 have hN:=h.n;have bk:∀ i j:Int,(0<=i/\i<N)->(0<=j/\j<N)->the (LbR 2 [dlD d,.int i,.int j])=some (.int (d.bank i j)):=λi j a b=>qpY (n:=2) h.dp h.ok ⟨a.1,by rw [h.r];exact a.2,b.1,by rw [h.c];exact b.2⟩;rw [WX]
 try simp only [Pu.pwA,jM,qcq,qdf,qbG]
 have rg:=qhm (j:=(N:Int)) (by omega);have inn:∀ i∈J7 0 (N:Int).toNat,lcF (λρ=>((vw ρ 2).bind λx=>some [x]).bind qbM) (lcH (λd=>some [(0,d)]) (λx=>some true) λρ=>((vw ρ 1).bind λx=>((vw ρ 2).bind λx=>((vw ρ 0).bind λx=>some [x]).bind λxs=>some (x::xs)).bind λxs=>some (x::xs)).bind (qoB 2).f) [none,some 1,some 0] [.sh (.int i),.sh (dlD d),.sh (.int (N:Int))]=some (.list ((J7 0 (N:Int).toNat).map λj=>.int (d.bank i j))):=λi hi=>by
  have:=X4 hi;refine N7 (ds:=(J7 0 (N:Int).toNat).map PyData.int) (by try simp only [Pu.pwA,rg]) (L9 λj hj=>?_) (by simp [J7];omega);have:=X4 hj
  try simp only [Pu.pwA,qak,qjh,bk i j (by omega) (by omega)]
 rw [N7 (ds:=(J7 0 (N:Int).toNat).map PyData.int) (fs:=(J7 0 (N:Int).toNat).map λi=>.list ((J7 0 (N:Int).toNat).map λj=>.int (d.bank i j))) (by try simp only [Pu.pwA,rg]) (L9 λi hi=>by try simp only [Pu.pwA,qak,inn i hi]) (by simp [J7];omega)]
 try simp only [Pu.pwA,rg]
 have eb:PyData.list ((J7 0 (N:Int).toNat).map λi=>.list ((J7 0 (N:Int).toNat).map λj=>.int (d.bank i j)))=bkD N d.bank:=rfl;rw [eb];refine XG (Q:=λo=>(o.bind λo=>match o with|Ot.nx ρ'=>Option.map Sum.inr (Q0 ρ' 2)|x=>none)=some (.inr (onP (pln d.bank (prs N))))) (g:=PyData.int) (J7 0 (N:Int).toNat) (λi ρ=>∃ pl s4 s5 s6,pl=((J7 0 (N:Int).toNat).take i).foldl (λpl i=>(row N i).foldl (stp d.bank) pl) []/\Pl N pl (16*i)/\ρ=[.sh (dlD d),.sh (.int (N:Int)),.on (onP pl),.sh (bkD N d.bank),s4,s5,s6]) ⟨[],_,_,_,rfl,⟨by simp,by simp,by simp⟩,rfl⟩ ?_ ?_
 ·rintro i x ρ hx ⟨pl0,s4,s5,s6,e0,hp0,rfl⟩;obtain ⟨hi,rfl⟩:=qdr hx;have hi2:i<N:=by omega
  rw [Int.zero_add];have r2:=qqv (i:=(i:Int)+1) (j:=(N:Int)) (by omega);have rl:=qpK N (by omega) i hi2;have hrow:∀ p∈row N (i:Int),Nn N p:=λp hp=>qlu (by omega) hp
  try simp only [Pu.pwA,r2]
  refine XG (Q:=λo=>Nx o _) (g:=PyData.int) (J7 ((i:Int)+1) ((N:Int)-((i:Int)+1)).toNat) (λk ρ=>∃ pl s5 s6,pl=((row N (i:Int)).take k).foldl (stp d.bank) pl0/\Pl N pl (16*i+k)/\ρ=[.sh (dlD d),.sh (.int (N:Int)),.on (onP pl),.sh (bkD N d.bank),.sh (.int (i:Int)),s5,s6]) ⟨pl0,_,_,rfl,hp0,rfl⟩ ?_ ?_
  ·rintro k j ρ hj ⟨pl,s5,s6,e1,hp,rfl⟩;have hk:(row N (i:Int))[k]?=some ((i:Int),j):=by unfold row;rw [getElem?_map,hj];rfl
   have hkl:=(za4 hk).1;have hn:=hrow _ (v8 hk);have e2:((row N (i:Int)).take (k+1)).foldl (stp d.bank) pl0=stp d.bank pl ((i:Int),j):=by rw [qad hk,List.foldl_append,← e1];rfl
   have hp1:=qfU (b:=d.bank) hp hn;have lo:(onP pl).length=pl.length:=by simp [onP]
   have hl2:=hp.l;have ms:∀ s∈pl,zn [bkD N d.bank,bsD (s++[((i:Int),j)])]=some (.bool (okb d.bank (s++[((i:Int),j)]))):=λs hs=>qrk (λq hq=>by
    rcases List.mem_append.mp hq with hq|hq
    ·exact hp.nn s hs q hq
    ·rw [List.mem_singleton.mp hq];exact hn) (by have:=hp.ls s hs;simp;omega)
   have ct:∀ s∈pl,qgS (bsD s) (.list [.tuple [.int (i:Int),.int j]])=some (bsD (s++[((i:Int),j)])):=λs hs=>qqI (p:=((i:Int),j)) (by have:=hp.ls s hs;omega);have fi:=qqY (c:=λs=>okb d.bank (s++[((i:Int),j)])) pl 0
   try simp only [Pu.pwA,qdy]
   rw [N7 (ds:=(pl.zipIdx).map λx=>.tuple [.int (x.2:Int),bsD x.1]) (fs:=(((pl.zipIdx).filter λx=>okb d.bank (x.1++[((i:Int),j)])).map λx=>((x.2:Nat):Int)).map PyData.int) ?h1 ?h2 ?h3]
   case h1=>
    try simp only [Pu.pwA,qdh,qdG]
    try simp only [Pu.pwA,plD]
    rw [show (pl.map bsD)=pl.map λs=>bsD s from rfl,qbr]
   case h2=>
    rw [map_map];refine qat λx hx=>?_;have hm:x.1∈pl:=by
     obtain ⟨s,n⟩:=x;exact (List.mem_zipIdx' hx).2▸za0 _
    try simp only [Pu.pwA,qak,ct _ hm,ms _ hm,Function.comp_def]
    cases okb d.bank (x.1++[((i:Int),j)])<;>try simp only [Pu.pwA]
   case h3=>
    simp only [length_map];have:=List.length_filter_le (λx:List PP×Nat=>okb d.bank (x.1++[((i:Int),j)])) pl.zipIdx;rw [List.length_zipIdx] at this;omega
   generalize hF:(pl.zipIdx).filter (λx=>okb d.bank (x.1++[((i:Int),j)]))=F at fi;have sc:((F.map λx=>((x.2:Nat):Int)).map PyData.int).all qc3=true:=by
    rw [List.all_map,List.all_eq_true];intro x _;rfl
   try simp only [Pu.pwA,NF,sc,qhe]
   have le:=qmq (b:=d.bank) (pl:=pl) (p:=((i:Int),j));by_cases z:ff d.bank pl ((i:Int),j)=pl.length
   ·have fe:=fi.1 z;subst fe;have pn:=qcJ z;rw [List.map_nil,za2 rfl,if_pos rfl]
    try simp only [Pu.pwA,NH,KQ,qd8,qdk,lo,if_pos (show pl.length<1000000 by omega),if_pos (show (0+1:Nat)<1000000 by decide)]
    exact ⟨_,_,_,e2.symm,hp1,by rw [pn];rfl⟩
   ·have lt:ff d.bank pl ((i:Int),j)<pl.length:=by omega
    obtain ⟨t,fe⟩:=fi.2 lt;have pn:=qaY lt;have fe2:(F.map λx=>((x.2:Nat):Int))=((ff d.bank pl ((i:Int),j):Nat):Int)::t.map λ(n:Nat)=>(n:Int):=by
     have:=congrArg (List.map λn:Nat=>(n:Int)) fe;rw [map_map] at this;rw [Nat.zero_add] at this;exact this
    rw [fe2,za1 (by simp),if_neg y6];have g1:(onP pl)[ff d.bank pl ((i:Int),j)]?=some ((pl[ff d.bank pl ((i:Int),j)]).map pD):=by unfold onP;rw [getElem?_map,y9 lt];rfl
    have g2:ixN (onP pl).length ((ff d.bank pl ((i:Int),j):Nat):Int)=some (ff d.bank pl ((i:Int),j)):=qhu (by rw [lo];exact lt);have g4:=hp.ls _ (za0 lt)
    try simp only [Pu.pwA,SK,RR,qd8,qdk,map_cons]
    rw [g2,Option.bind_some,g1,Option.bind_some,if_pos (by rw [length_map];omega)];exact ⟨_,_,_,e2.symm,hp1,by rw [pn];rfl⟩
  ·rintro ρ ⟨pl,s5,s6,e1,hp,rfl⟩;have ln:(J7 ((i:Int)+1) ((N:Int)-((i:Int)+1)).toNat).length=(row N (i:Int)).length:=by unfold row;rw [length_map]
   rw [ln,List.take_of_length_le (v4 _)] at e1;rw [ln] at hp;refine ⟨pl,_,_,_,?_,hp.mono (by omega),rfl⟩;rw [qad hx,List.foldl_append,← e0,e1];simp
 ·rintro ρ ⟨pl,s4,s5,s6,e0,hp,rfl⟩;rw [List.take_of_length_le (v4 _)] at e0;have:pl=pln d.bank (prs N):=by
   rw [e0];unfold pln prs;rw [List.foldl_flatMap]
  rw [this];rfl
def qry {d:Dl} (ok:d.Ok) (dp:d.dep<=2) (n:d.R≠d.C):jB [dlD d]=none/\Z2 [dlD d]=some 97:=by
 have e:=qlx ok dp;rw [za1 n] at e;have f:qS [dlD d]=none:=by
  rw [QZ]
  try simp only [Pu.pwA,zm,e,qqO,KA]
 have x:zc [dlD d]=some 97:=by
  rw [VT]
  try simp only [Pu.pwA,zL,qoP,qdM,qeQ,Option.map_some,Option.bind_some,e]
 constructor
 ·rw [WT]
  try simp only [Pu.pwA,Z5,qcq,f,Option.bind_none,Option.map_none]
 ·rw [TL]
  try simp only [Pu.pwA,YO,ql7,qd5,qeQ,Option.map_some,Option.bind_some,x]
def qhh {o:PyData ⊕ List (List PyData)} {ds:List PyData} (h:zw ds=some o):∃ x,ds=[x]:=by
 match ds with
 |[]=>exact nomatch h
 |[x]=>exact ⟨x,rfl⟩
 |x::y::r=>exact nomatch h
def TF:Rd (PNp zw) 1 (JG (PNp jB) (PXp Z2)) JL:=by
 rintro ts G q ⟨D,ds,r,hs,hd,hf,h⟩;obtain ⟨o,rfl⟩:=qhh hf;have tl:ts.length=1:=hs.length
 match ts,tl with
 |[t0],_=>
 refine ⟨rfl,?_⟩;show JG _ _ _ [some t0,none,none,none,none] G;unfold JG;simp only [qy,qH,q0,qc,c3,qk,qI,ql,gn3,qJ,set_cons_succ,set_cons_zero];refine ⟨by decide,rfl,?_⟩;unfold zw at hf;cases e:jB [o] with
 |some r'=>
  rw [e] at hf;cases hf;refine .inl ?_;simp only [qH,cb3,qc,v3,qk,getElem?_cons_zero,getElem?_cons_succ];refine ⟨D,[o],_,hs,hd,e,λx G' E hx=>?_⟩;simp only [qy,zb,tb3,o3,J5,v3,c3,gn3,qL,qw,set_cons_succ,set_cons_zero,getElem?_cons_zero,getElem?_cons_succ,if_true];exact h x G' E hx
 |none=>
  rw [e] at hf;obtain ⟨C,e2,hf⟩:=obb hf;split at hf
  ·rename_i hC;subst hC;cases hf;refine .inr ?_;simp only [qhY,qc,v3,qk,getElem?_cons_zero,getElem?_cons_succ];refine ⟨D,[o],97,hs,hd,e2,λG' E=>⟨by decide,λex hex=>?_⟩⟩;have gx:gu G' ex (.exn 97) ex=some (.exn 97):=qv;have E2:Ex G (gu G' ex (.exn 97)):=E.trans (j4 hex);simp only [qy,qH,zb,tb3,o3,J5,v3,c3,gn3,qL,qw,qh8,exT,gx,set_cons_succ,set_cons_zero,getElem?_cons_zero,getElem?_cons_succ];have l1:List.lookup (some (97:Addr)) [(none,false),(some 97,false)]=some false:=rfl;have l2:List.lookup (some (97:Addr)) [(none,false),(some 97,true)]=some true:=rfl;simp only [if3,UF,or3,JS,tb3,qh8,exT,gx,l1,l2,v3,c3,getElem?_cons_zero,getElem?_cons_succ,Bool.false_eq_true,if_false,if_true,Bool.not_true,Bool.not_false];exact h _ _ E2 (.str _)
  ·cases hf
end K70
namespace K70
open PySem L2 L3 Pu Pv
open Bk (Dl Inn Dr Plc NW)
def qkh {x y:Int} (h:0<=x/\0<=y):qnN [.int x,.int y]=some (.int (Int.gcd x y:Nat)):=jy h
def qpB {n:Nat} {Q:QD} (hn:n<90000) (h:∀ (d:Dl) (m:Nat),d.Ok->d.dep<=2->d.R<=16->m<=n+300->Q (dlD d) m):jI.W [] n Q:=by
 rw [SI];refine ⟨rfl,?_⟩;unfold JI;have fin:∀ (d:Dl) (m:Nat),d.Ok->d.dep<=2->d.R<=16->m<=n+300->∃ m',m<=m'/\Q (dlD d) m':=λd m a b c e=>⟨m,v4 _,h d m a b c e⟩
 refine X7 λY1 h1=>?_
 try simp only [Pu.pwA]
 refine ⟨by omega,by omega,λx x0 x1=>?_⟩;obtain ⟨v,e,w,rfl,w0,w1⟩:=qcj (ks:=[8,8,8,8,8,8,8,16]) (P:=λv=>∃ w:Int,v=.int w/\1<=w/\w<=16) x0 (by simpa using x1) (by simp);simp only [map_cons,List.map_nil] at e;refine ⟨_,e,?_⟩
 try simp only [Pu.pwA]
 refine ⟨by omega,by omega,λz z0 z1=>?_⟩;rw [h1];refine X7 λY2 h2=>?_
 try simp only [Pu.pwA]
 refine ⟨by omega,by omega,λwy y0 y1=>⟨by omega,by omega,λu u0 u1=>?_⟩⟩;obtain ⟨v,e,w,rfl,w0,w1⟩:=qcj (ks:=[4,9,17,32]) (P:=λv=>∃ w:Int,v=.int w/\1<=w/\w<=32) u0 (by simpa using u1) (by simp);simp only [map_cons,List.map_nil] at e;refine ⟨_,e,?_⟩
 try simp only [Pu.pwA]
 refine ⟨by omega,by omega,λbk b0 b1=>?_⟩;obtain ⟨N,hN⟩:∃ N,N=1+z:=⟨_,rfl⟩
 obtain ⟨B,hB⟩:∃ B,B=1+bk:=⟨_,rfl⟩
 rw [← hN,← hB,h2];have n1:1<=N:=by omega
 have n2:N<=16:=by omega
 have b1':1<=B:=by omega
 have b2':B<=32:=by omega
 clear hN hB b0 b1 z0 z1 w0 w1 x0 x1;refine X7 λY3 h3=>?_
 try simp only [Pu.pwA]
 by_cases k1:wy<2
 ·try simp only [Pu.pwA,k1,decide_true]
  refine ⟨by omega,by omega,λa a0 a1=>⟨by omega,by omega,λb b0 b1=>?_⟩⟩;exact fin (.skew N N B a b) _ ⟨by omega,by omega,by omega,by omega,by omega,by omega,by omega,by omega,by omega,by omega⟩ (by simp [Dl.dep]) (by simp [Dl.R];omega) (by omega)
 try simp only [Pu.pwA,k1,decide_false]
 rw [h3];refine X7 λY4 h4=>?_
 try simp only [Pu.pwA]
 by_cases k2:wy=2
 ·try simp only [Pu.pwA,k2,decide_true]
  obtain ⟨p1,p2,p3⟩:=NW n1 n1 b1';have p4:N*N<=16*16:=Int.mul_le_mul n2 n2 (by omega) (by omega)
  try simp (disch:=omega) only [Pu.pwA,qik,qkk,qhm]
  generalize -(-N*N/B)=p0 at p1 p2 p3;refine TY (J7 0 (32:Int).toNat) ZG.mn (λi ρ m=>m=n+5/\∃ pl s5,Plc B p0 pl i/\ρ=[.un,.sh (.int N),.sh (.int 2),.sh (.int B),.sh (.int pl),s5,.un,.un]) ⟨rfl,p0,_,⟨by omega,by omega,.inr ⟨by omega,λk hk=>absurd hk (Nat.not_lt_zero _)⟩⟩,rfl⟩ ?_ ?_
  ·rintro i t ρ m ht ⟨hm,pl,s5,P,rfl⟩;have g:=qkh (x:=B) (y:=pl) ⟨by omega,by have:=P.lo;omega⟩;refine ⟨_,rfl,?_⟩;unfold ZG
   try simp only [Pu.pwA,qlS,g]
   by_cases c:(1:Int)<(Int.gcd B pl:Nat)
   ·try simp only [Pu.pwA,c,decide_true]
    exact ⟨hm,_,_,P.next b1' p1 c,rfl⟩
   ·try simp only [Pu.pwA,c,decide_false]
    exact ⟨hm,_,_,P.stay b1' p1 c,rfl⟩
  ·rintro ρ m ⟨hm,pl,s5,P,rfl⟩;rw [ji] at P;have lo:=P.lo;have hi:=P.hi;have m1:B*p0<=B*pl:=Int.mul_le_mul_of_nonneg_left (by omega) (by omega)
   try simp only [Pu.pwA]
   exact fin (.rests N N B pl) _ ⟨by omega,by omega,by omega,by omega,by omega,by omega,by omega,by omega,P.done b1' (by omega),by omega⟩ (by simp [Dl.dep]) (by simp [Dl.R];omega) (by omega)
 try simp only [Pu.pwA,k2,decide_false]
 rw [h4];refine X7 λY6 h6=>?_
 try simp only [Pu.pwA]
 by_cases k3:wy=3
 ·try simp only [Pu.pwA,k3,decide_true]
  refine ⟨by omega,by omega,λhi i0 i1=>⟨by omega,by omega,λmm m0 m1=>?_⟩⟩;obtain ⟨hh,rfl⟩:=Int.eq_ofNat_of_zero_le i0;have h4':hh=0\/hh=1\/hh=2\/hh=3:=by omega
  obtain ⟨v,e,pw⟩:∃ v:Int,atI [PyData.int 1,.int 4,.int 16,.int 64] (hh:Int)=some (.int v)/\v=2 ^ (hh+hh):=by
   rcases h4' with rfl|rfl|rfl|rfl
   ·exact ⟨1,rfl,by decide⟩
   ·exact ⟨4,rfl,by decide⟩
   ·exact ⟨16,rfl,by decide⟩
   ·exact ⟨64,rfl,by decide⟩
  have v1:1<=v/\v<=64:=by
   rw [pw];rcases h4' with rfl|rfl|rfl|rfl<;>decide
  rw [qhm (by omega)];refine ⟨_,rfl,by rw [length_map,ji];omega,?_⟩;refine SY (R:=λi:Int=>0<=i/\i<v) (gd:=PyData.int) (c:=1) (N:=n+20) (J7 0 mm.toNat) _ _ (λx _ n' Q' hn' h'=>?_) Z3.mn mnT (by rw [ji];omega) λbs lb hb=>?_
  ·refine ⟨_,rfl,?_⟩;unfold Z3
   try simp only [Pu.pwA,e]
   exact ⟨by omega,by omega,λz z0 z1=>h' z ⟨z0,z1⟩⟩
  ·rw [ji] at lb;refine ⟨by rw [length_map];omega,?_⟩;exact fin (.bits hh hh bs) _ ⟨by omega,by omega,by omega,λm hm=>by have:=hb m hm;rw [← pw];exact this⟩ (by simp [Dl.dep]) (by
    show (2:Int) ^ hh<=16;rcases h4' with rfl|rfl|rfl|rfl<;>decide) (by rw [ji];omega)
 try simp only [Pu.pwA,k3,decide_false]
 rw [h6];refine X7 λY9 h9=>?_
 try simp only [Pu.pwA]
 by_cases k4:wy=4
 ·try simp (disch:=omega) only [Pu.pwA,k4,decide_true,qmU]
  refine ⟨by omega,by omega,λa a0 a1=>?_⟩;have q1:0<=N%4/\N%4<4:=by omega
  have q2:0<=B%5/\B%5<5:=by omega
  refine fin (.joined (.skew 2 2 3 1 a) (.skew (1+N%4) (1+N%4) (1+B%5) 1 2)) _ ⟨⟨by omega,by omega,by omega,by omega,by omega,by omega,by omega,by omega,by omega,by omega⟩,⟨by omega,by omega,by omega,by omega,by omega,by omega,by omega,by omega,by omega,by omega⟩,by simp only [Dl.R];omega,by simp only [Dl.C];omega,by simp only [Dl.B];omega⟩ (by simp [Dl.dep]) (by simp only [Dl.R];omega) (by omega)
 try simp only [Pu.pwA,k4,decide_false]
 rw [h9]
 try simp (disch:=omega) only [Pu.pwA,qhm]
 refine ⟨by rw [length_map,ji];omega,?_⟩;have nt:(N.toNat:Int)=N:=by omega
 have nn:N.toNat * N.toNat<=16*16:=Nat.mul_le_mul (by omega) (by omega);refine SY (R:=λr:List Int=>r.length=N.toNat/\∀ x∈r,0<=x/\x<B) (gd:=qdP) (c:=N.toNat) (N:=n+290) (J7 0 N.toNat) _ _ (λx _ n' Q' hn' h'=>?_) ZN.mn mnT (by rw [ji];omega) λbs lb hb=>?_
 ·refine ⟨_,rfl,?_⟩;unfold ZN
  try simp (disch:=omega) only [Pu.pwA,qhm]
  refine ⟨by rw [length_map,ji];omega,?_⟩;refine SY (R:=λi:Int=>0<=i/\i<B) (gd:=PyData.int) (c:=1) (N:=n+310) (J7 0 N.toNat) _ _ (λx _ n2 Q2 hn2 h2=>?_) ZT.mn mnT (by rw [ji];omega) λbs lb hb=>?_
  ·refine ⟨_,rfl,?_⟩;unfold ZT
   try simp only [Pu.pwA]
   exact ⟨by omega,by omega,λz z0 z1=>h2 z ⟨z0,z1⟩⟩
  ·rw [ji] at lb;refine ⟨by rw [length_map];omega,?_⟩;have:=h' bs ⟨lb,hb⟩;rw [ji,Nat.one_mul];exact this
 ·rw [ji] at lb;refine ⟨by rw [length_map];omega,?_⟩;refine fin (.table B bs) _ ⟨by omega,by omega,by omega,by omega,N.toNat,by omega,by omega,λr hr=>hb r hr⟩ (by simp [Dl.dep]) (by simp only [Dl.R];omega) (by rw [ji];omega)
end K70
namespace K70
open PySem L2 L3 Pu Pv
open Bk (Dl Inn Dr WE)
def qld {pl:List (List PP)} {N k:Nat} (h:Pl N pl k) (hk:k<=1000):WE 4 (plD pl):=by
 refine ⟨by have:=h.l;simp;omega,λd hd=>?_⟩;obtain ⟨s,hs,rfl⟩:=mem_map.mp hd;refine ⟨by have:=h.ls s hs;simp;omega,λd hd=>?_⟩;obtain ⟨p,hp,rfl⟩:=mem_map.mp hd;refine ⟨by simp,λd hd=>?_⟩;simp only [mem_cons,not_mem_nil,or_false] at hd;rcases hd with rfl|rfl<;>trivial
def qio {d:Dl} (ok:d.Ok) (dp:d.dep<=2):∃ t:Str,qbq true [dlD d]=some (.str t):=by
 have w:=(qil d ok).w (by omega) (by
  have:4 ^ d.dep<=4 ^ 2:=Nat.pow_le_pow_right (by decide) dp;omega)
 cases d<;>exact ⟨_,qiN w⟩
structure Due (d:Dl) (due:PyData) (r:PyData ⊕ List (List PyData)):Prop where
 an:zw [dlD d]=some r
 eq:nrD r=due
 dp:WE 4 due
 sm:r=.inl (.str "not square")\/∃ dss:List (List PyData),r=.inr dss/\∀ ds∈dss,ds.length<1000000
def qnm:∀ k:Nat,k<=60->qdX.w [.un,.sh (.int k),.un,.un,.un,.un,.un,.un,.un,.un,.un,.un] 0 okW:=by
 intro k hk;unfold qdX
 try simp only [Pu.pwA]
 refine qpB (by omega) λd1 m1 ok1 dp1 r1 hm1=>?_
 try simp only [Pu.pwA]
 refine ⟨by omega,λd2 D2 dp2=>?_⟩;have al:∀ d∈[d1,d2],d.Ok/\d.dep<=2/\d.R<=16:=λd hd=>by
  simp only [mem_cons,not_mem_nil,or_false] at hd;rcases hd with rfl|rfl
  ·exact ⟨ok1,dp1,r1⟩
  ·exact ⟨D2.ok,dp2,D2.r2⟩
 refine TY (f:=dlD) [d1,d2] TV.mn (λ_ ρ n=>∃ s3 s4 s5 s6 s7 s8 s9 s10 s11,ρ=[.un,.sh (.int k),.un,s3,s4,s5,s6,s7,s8,s9,s10,s11]) ⟨_,_,_,_,_,_,_,_,_,rfl⟩ ?_ ?_
 ·rintro j d ρ n hd ⟨s3,s4,s5,s6,s7,s8,s9,s10,s11,rfl⟩;obtain ⟨ok,dp,r16⟩:=al d (v8 hd);have sz:=qhS (n:=2) dp ok;have lm:=Dl.lims ok;refine ⟨_,rfl,?_⟩;unfold TV;refine X7 λY4 h4=>?_
  try simp only [Pu.pwA,qjK,sz,siz]
  rw [h4];refine X7 λY5 h5=>?_;obtain ⟨tx,sh⟩:∃ t:Str,qbq true [dlD d]=some (.str t):=qio ok dp;obtain ⟨due,r,hdue,du⟩:∃ due r,(if decide (d.R=d.C)=true then (zo [dlD d,.int d.R]).map nrD else some (.str "not square"))=some due/\Due d due r:=by
   by_cases e:d.R=d.C
   ·have hs:Sq d d.R.toNat:=⟨ok,dp,by have:=lm.r1;omega,by rw [← e];have:=lm.r1;omega,by omega⟩
    have ff':=qpD hs;rw [show ((d.R.toNat:Nat):Int)=d.R by have:=lm.r1;omega] at ff';have tp:=qri hs;have pl:=qbz (N:=d.R.toNat) (b:=d.bank) (ps:=prs d.R.toNat) (λp hp=>qhL hp) _ (v4 _);rw [List.take_of_length_le (v4 _)] at pl;have pl':=qih d.R.toNat (by omega);refine ⟨plD (pln d.bank (prs d.R.toNat)),.inr (onP (pln d.bank (prs d.R.toNat))),?_,⟨?_,qdG,qld pl (by omega),.inr ⟨_,rfl,λds hds=>?_⟩⟩⟩
    ·rw [za2 e,if_pos rfl,ff',← qdG];rfl
    ·unfold zw;rw [tp]
    ·obtain ⟨s,hs,rfl⟩:=mem_map.mp hds;have:=pl.ls s hs;rw [length_map];omega
   ·obtain ⟨f1,f2⟩:=qry ok dp e;refine ⟨.str "not square",.inl (.str "not square"),?_,⟨?_,rfl,trivial,.inl rfl⟩⟩
    ·rw [za1 e,if_neg y6]
    ·unfold zw;rw [f1];simp only [f2,Option.bind_some,if_pos]
  try simp only [Pu.pwA,qoR]
  refine ⟨_,hdue,?_⟩;have as:∀ ρ:Rho,dm [false,false,false,true,true,true] ρ=ρ->qbR [false,false,false,true,true,true] false 7 due ρ=ρ.set 7 (.sh due):=λρ h=>by
   unfold qbR;rw [h];split<;>rfl
  rw [as _ rfl,h5];refine X7 λY6 h6=>?_
  try simp only [Pu.pwA,MN,TD,sh]
  rw [h6]
  try simp (disch:=omega) only [Pu.pwA,qhm]
  refine TY (J7 0 (2:Int).toNat) SM.mn (λ_ ρ n'=>∃ s9 s10 s11,ρ=[.un,.sh (.int k),.un,.sh (dlD d),.sh (.int d.R),.sh (.int d.C),.sh (.int d.B),.sh due,.sh (.str tx),s9,s10,s11]) ⟨_,_,_,rfl⟩ ?_ ?_
  ·rintro t x ρ n' hx ⟨s9,s10,s11,rfl⟩;refine ⟨_,rfl,?_⟩;unfold SM;refine X7 λY7 h7=>?_;rw [qhG];refine ⟨[dlD d],r,by try simp only [Pu.pwA],du.an,?_⟩;have sm:=qhF (n:=4) du.dp;have ti:jp "str" "list" = false:=rfl;have tl':jp "list" "list" = true:=rfl;have es:eqD true (.str tx) (.str tx)=some (.bool false):=by try simp only [Pu.pwA]
   rcases du.sm with e|⟨dss,e,hl⟩
   ·have e2:=du.eq;subst e;have e3:due=.str "not square" := e2.symm;subst e3;rw [NP,h7]
    try simp only [Pu.pwA,qn2,MN,TD,sh,sm,es,ti]
    exact ⟨_,_,_,rfl⟩
   ·have e2:=du.eq;subst e;subst e2;rw [NP,h7];refine X7 λY8 h8=>?_
    try simp only [Pu.pwA,qn2,nrD,qdh,MN,TD,sh,es]
    simp only [nrD] at sm
    try simp only [Pu.pwA,sm,es,sh]
    rw [h8]
    try simp only [Pu.pwA,qdh,tl']
    try simp only [Pu.pwA,qca,qhR]
    exact ⟨dss,_,rfl,λ_=>rfl,hl,by decide,_,rfl,_,_,_,rfl⟩
  ·rintro ρ n' ⟨s9,s10,s11,rfl⟩;exact ⟨_,_,_,_,_,_,_,_,_,rfl⟩
 ·rintro ρ n ⟨s3,s4,s5,s6,s7,s8,s9,s10,s11,rfl⟩
  try simp only [Pu.pwA]
end K70
namespace K70
open PySem L2 L3 Bk
abbrev qi7 : Env := { scope := PySem.Challenge.pw_bankwalk_k70_plans_told.main.scope,locals := mainNs,globals := mainNs,cells := [],code := .ref 13,frame := some 14 }
abbrev qa4 : List Stmt := PySem.W.behindTheImports PySem.Challenge.pw_bankwalk_k70_plans_told
abbrev SG:Code:=.body qa4 qi7
abbrev qnf:List Frame:=[PySem.W.topFrame ⟨0,0,0,0⟩]
def zk:Obj:=Hd.oT []
def j7:Obj:=⟨.none,none,.fields #[],#[]⟩
def qnU:Obj:=Hd.oC [.str "<module>" 182,.str "<module>" 183,.str "/claim/cut.py" 184,.int (1) 0,.int (0) 0,.int (0) 0,.int (0) 0,.int (0) 0,.ref 11,.bool false,.int (181) 0,.ref 12,.none,.none,.none,.none,.int (185) 0,.int (1) 0,.str "/claim/cut.py" 186]
def qnY:Obj:=⟨.type "frame",none,.plain,#[some (.ref 13),some (.ref 3),some (.ref 3),none,some (.str "__main__" 164),none,some (.ref 0)]⟩
def qji (P:Params):Heap:=⟨Array.mk [PySem.W.boot_o_0 P,PySem.W.boot_o_1 P,PySem.W.boot_o_2 P,PySem.W.boot_o_3 P,PySem.W.boot_o_4 P,PySem.W.boot_o_5 P,PySem.W.boot_o_6 P,PySem.W.boot_o_7 P,PySem.W.boot_o_8 P,PySem.W.boot_o_9 P,PySem.W.boot_o_10 P,zk,j7,qnU,qnY],{ }⟩
def qlF (P:Params):PySem.W.BT:=(Hd.nd (PySem.W.boot_o_0 P) (Hd.nd (PySem.W.boot_o_1 P) (Hd.nd (PySem.W.boot_o_3 P) (Hd.lf (PySem.W.boot_o_7 P)) (Hd.lf zk)) (Hd.nd (PySem.W.boot_o_5 P) (Hd.lf (PySem.W.boot_o_9 P)) (Hd.lf qnU))) (Hd.nd (PySem.W.boot_o_2 P) (Hd.nd (PySem.W.boot_o_4 P) (Hd.lf (PySem.W.boot_o_8 P)) (Hd.lf j7)) (Hd.nd (PySem.W.boot_o_6 P) (Hd.lf (PySem.W.boot_o_10 P)) (Hd.lf qnY))))
set_option maxRecDepth 100000 in
set_option maxHeartbeats 0 in
def qjs (w : World) (os : OsState) : PySem.W.topGo treeTable PySem.Challenge.pw_bankwalk_k70_plans_told w 11 (some (Value.ref 6)) 12 ⟨PySem.W.boot_heap w.params,Array.mk [],PySem.W.boot_drawn,PySem.W.boot_toks,os⟩ (PySem.W.topStub PySem.Challenge.pw_bankwalk_k70_plans_told) = some (⟨qji w.params,#[],{ },187,os⟩,⟨denote treeTable SG,SG,⟨0,0,0,0⟩,qnf⟩) := by kernel_rfl
set_option maxRecDepth 100000 in
set_option maxHeartbeats 0 in
def qjV (w : World) (os : OsState) : PySem.W.segRun treeTable PySem.Challenge.pw_bankwalk_k70_plans_told w 11 (some (Value.ref 6)) 1 1 ⟨qji w.params,#[],{ },187,os⟩ (PySem.W.blockOf qa4 qi7 SG ⟨0,0,0,0⟩ qnf) = some (.next,(⟨qlF w.params,15,{ },#[],{ },187,os⟩ : PySem.W.SharedT).abs,SG,⟨0,0,0,0⟩) := by kernel_rfl
def qq6 (P:Params):Obj:=Hd.oM P 17 za9 187 [(.str "BankError" 206,.ref 24),(.str "NoWord" 222,.ref 37),(.str "NoStart" 238,.ref 49),(.str "NoWalk" 254,.ref 61),(.str "NoOrder" 270,.ref 73),(.str "Clash" 286,.ref 85),(.str "NotSquare" 302,.ref 97),(.str "BadText" 318,.ref 109)]
def qrH:Obj:=⟨.none,none,.fields #[.int (2) 0,.int (0) 0,.ref 20,.int (4) 0,.int (0) 0,.ref 33,.int (6) 0,.int (0) 0,.ref 45,.int (8) 0,.int (0) 0,.ref 57,.int (10) 0,.int (0) 0,.ref 69,.int (12) 0,.int (0) 0,.ref 81,.int (14) 0,.int (0) 0,.ref 93,.int (16) 0,.int (0) 0,.ref 105],#[]⟩
def qqA:Obj:=Hd.oT [.type "ValueError"]
def T8:Obj:=⟨.type "builtin_function_or_method",none,.fields #[.builtin "type.__prepare__",.type "type"],#[]⟩
def qqB (P:Params):Obj:=Hd.oD P 4 [(.str "__module__" 196,.str za9 187),(.str "__qualname__" 198,.str "BankError" 197),(.str "__firstlineno__" 200,.int (2) 199),(.str "__static_attributes__" 201,.ref 22)]
def qlf:Obj:=Hd.oC [.str "BankError" 191,.str "BankError" 192,.str "/claim/cut.py" 193,.int (2) 0,.int (0) 0,.int (0) 0,.int (0) 0,.int (0) 0,.ref 18,.bool false,.int (181) 0,.ref 19,.none,.none,.none,.none,.int (194) 0,.int (2) 0,.str "/claim/cut.py" 195]
def qkR:Obj:=⟨.type "frame",none,.plain,#[some (.ref 20),some (.ref 3),some (.ref 17),none,some za8,none,some (.ref 0)]⟩
def qht (P:Params):Obj:=Hd.oD P 3 [(.str "__module__" 196,.str za9 187),(.str "__firstlineno__" 200,.int (2) 199),(.str "__static_attributes__" 201,.ref 22),(.str "__weakref__" 203,.ref 25),(.str "__doc__" 204,.none)]
def qoN:Obj:=⟨.type "type",none,.cls ({ name:=Str.ofString "BankError",bases:=[Value.type "ValueError"],  mro:=    [Value.ref 24,Value.type "ValueError",Value.type "Exception",Value.type "BaseException",Value.type "object"],  ns:=23,qualname:=Str.ofString "BankError",  subclasses:=[Value.ref 37,Value.ref 49,Value.ref 61,Value.ref 73,Value.ref 85,Value.ref 97,Value.ref 109] }),#[some (.ref 15),none,some (.str "BankError" 189),some (.str "BankError" 197),some (.builtin "ValueError.__new__"),some (.bool true)]⟩
def qkX:Obj:=⟨.type "getset_descriptor",none,.fields #[.str "__weakref__" 202,.ref 24,.builtin "ExceptionGroup.__weakref__",.none],#[]⟩
def qmN:Obj:=Hd.c6 24
def qlE:Obj:=Hd.c7 24
def UQ:Obj:=Hd.oT [.ref 24]
def qmV (P:Params):Obj:=Hd.c1 P za9 187 "NoWord" 207 4 28
def qjj:Obj:=Hd.c2 "NoWord" 207 4 28
def qlU:Obj:=Hd.c3 za9 187 28
def qnp (P:Params):Obj:=Hd.c4 P za9 187 207 4 28
def qif:Obj:=Hd.c5 "NoWord" 24 207 28
def ql5:Obj:=Hd.c6 37
def qkf:Obj:=Hd.c7 37
def qja (P:Params):Obj:=Hd.c1 P za9 187 "NoStart" 223 6 40
def qns:Obj:=Hd.c2 "NoStart" 223 6 40
def qk2:Obj:=Hd.c3 za9 187 40
def qmm (P:Params):Obj:=Hd.c4 P za9 187 223 6 40
def qid:Obj:=Hd.c5 "NoStart" 24 223 40
def qnu:Obj:=Hd.c6 49
def qmR:Obj:=Hd.c7 49
def qm4 (P:Params):Obj:=Hd.c1 P za9 187 "NoWalk" 239 8 52
def qjO:Obj:=Hd.c2 "NoWalk" 239 8 52
def qmD:Obj:=Hd.c3 za9 187 52
def qiZ (P:Params):Obj:=Hd.c4 P za9 187 239 8 52
def qg3:Obj:=Hd.c5 "NoWalk" 24 239 52
def qj3:Obj:=Hd.c6 61
def qne:Obj:=Hd.c7 61
def qlK (P:Params):Obj:=Hd.c1 P za9 187 "NoOrder" 255 10 64
def qjU:Obj:=Hd.c2 "NoOrder" 255 10 64
def qlL:Obj:=Hd.c3 za9 187 64
def ql8 (P:Params):Obj:=Hd.c4 P za9 187 255 10 64
def qh9:Obj:=Hd.c5 "NoOrder" 24 255 64
def qln:Obj:=Hd.c6 73
def qnE:Obj:=Hd.c7 73
def qnB (P:Params):Obj:=Hd.c1 P za9 187 "Clash" 271 12 76
def qmY:Obj:=Hd.c2 "Clash" 271 12 76
def qnb:Obj:=Hd.c3 za9 187 76
def qk1 (P:Params):Obj:=Hd.c4 P za9 187 271 12 76
def qhB:Obj:=Hd.c5 "Clash" 24 271 76
def qlQ:Obj:=Hd.c6 85
def qjl:Obj:=Hd.c7 85
def qkB (P:Params):Obj:=Hd.c1 P za9 187 "NotSquare" 287 14 88
def ql6:Obj:=Hd.c2 "NotSquare" 287 14 88
def qm7:Obj:=Hd.c3 za9 187 88
def qii (P:Params):Obj:=Hd.c4 P za9 187 287 14 88
def qgP:Obj:=Hd.c5 "NotSquare" 24 287 88
def qiW:Obj:=Hd.c6 97
def qkS:Obj:=Hd.c7 97
def qjT (P:Params):Obj:=Hd.c1 P za9 187 "BadText" 303 16 100
def qlI:Obj:=Hd.c2 "BadText" 303 16 100
def qj0:Obj:=Hd.c3 za9 187 100
def qni (P:Params):Obj:=Hd.c4 P za9 187 303 16 100
def qhV:Obj:=Hd.c5 "BadText" 24 303 100
def qkw:Obj:=Hd.c6 109
def qlB:Obj:=Hd.c7 109
def qnh (P:Params):PySem.W.BT:=(Hd.nd (PySem.W.boot_o_0 P) (Hd.nd (PySem.W.boot_o_1 P) (Hd.nd (qq6 P) (Hd.nd (PySem.W.boot_o_7 P) (Hd.nd qqA (Hd.nd zk (Hd.lf qne) (Hd.lf zk)) (Hd.nd zk (Hd.lf zk) (Hd.lf qlB))) (Hd.nd (qht P) (Hd.nd qkf (Hd.lf zk) (Hd.lf zk)) (Hd.nd zk (Hd.lf qjl) .nil))) (Hd.nd zk (Hd.nd j7 (Hd.nd zk (Hd.lf zk) (Hd.lf qkS)) (Hd.nd qmR (Hd.lf zk) .nil)) (Hd.nd qlE (Hd.nd zk (Hd.lf qnE) (Hd.lf zk)) (Hd.nd zk (Hd.lf zk) .nil)))) (Hd.nd (PySem.W.boot_o_5 P) (Hd.nd (PySem.W.boot_o_9 P) (Hd.nd (qqB P) (Hd.nd qjj (Hd.lf T8) (Hd.lf qgP)) (Hd.nd qid (Hd.lf qmY) .nil)) (Hd.nd qkX (Hd.nd T8 (Hd.lf qh9) (Hd.lf qlI)) (Hd.nd qjO (Hd.lf T8) .nil))) (Hd.nd qnU (Hd.nd qkR (Hd.nd qif (Hd.lf qjU) (Hd.lf T8)) (Hd.nd T8 (Hd.lf qhB) .nil)) (Hd.nd T8 (Hd.nd qns (Hd.lf T8) (Hd.lf qhV)) (Hd.nd qg3 (Hd.lf ql6) .nil))))) (Hd.nd (PySem.W.boot_o_2 P) (Hd.nd (PySem.W.boot_o_4 P) (Hd.nd (PySem.W.boot_o_8 P) (Hd.nd T8 (Hd.nd j7 (Hd.lf UQ) (Hd.lf (qii P))) (Hd.nd (qmm P) (Hd.lf j7) .nil)) (Hd.nd qoN (Hd.nd UQ (Hd.lf (ql8 P)) (Hd.lf j7)) (Hd.nd j7 (Hd.lf UQ) .nil))) (Hd.nd qrH (Hd.nd qlf (Hd.nd (qnp P) (Hd.lf j7) (Hd.lf UQ)) (Hd.nd UQ (Hd.lf (qk1 P)) .nil)) (Hd.nd UQ (Hd.nd j7 (Hd.lf UQ) (Hd.lf (qni P))) (Hd.nd (qiZ P) (Hd.lf j7) .nil)))) (Hd.nd (PySem.W.boot_o_6 P) (Hd.nd (PySem.W.boot_o_10 P) (Hd.nd zk (Hd.nd qlU (Hd.lf (qlK P)) (Hd.lf qiW)) (Hd.nd qnu (Hd.lf qnb) .nil)) (Hd.nd qmN (Hd.nd (qja P) (Hd.lf qln) (Hd.lf qj0)) (Hd.nd qmD (Hd.lf (qkB P)) .nil))) (Hd.nd qnY (Hd.nd zk (Hd.nd ql5 (Hd.lf qlL) (Hd.lf (qjT P))) (Hd.nd (qm4 P) (Hd.lf qlQ) .nil)) (Hd.nd (qmV P) (Hd.nd qk2 (Hd.lf (qnB P)) (Hd.lf qkw)) (Hd.nd qj3 (Hd.lf qm7) .nil))))))
abbrev qgw:List Stmt:=(qa4.drop 0).take 9
set_option maxRecDepth 100000 in
set_option maxHeartbeats 0 in
def qje (w : World) (os : OsState) : PySem.W.segRunT treeTable PySem.Challenge.pw_bankwalk_k70_plans_told w 11 (some (Value.ref 6)) 1 1687 (⟨qlF w.params,15,{ },#[],{ },187,os⟩ : PySem.W.SharedT) (PySem.W.piecesOf qgw qi7 SG ⟨0,0,0,0⟩ qnf) = some (.next,(⟨qnh w.params,112,{ },#[],{ },319,os⟩ : PySem.W.SharedT),SG,⟨16,0,17,8⟩) := by kernel_rfl
def qkz (P:Params):Obj:=Hd.oM P 54 "law_bankwalk_k70_plans_told" 509 [(.str "BankError" 206,.ref 24),(.str "NoWord" 222,.ref 37),(.str "NoStart" 238,.ref 49),(.str "NoWalk" 254,.ref 61),(.str "NoOrder" 270,.ref 73),(.str "Clash" 286,.ref 85),(.str "NotSquare" 302,.ref 97),(.str "BadText" 318,.ref 109),(.str "NoAsk" 345,.ref 128),(.str "BadRow" 370,.ref 147),(.str "size_of" 386,.ref 156),(.str "number_of" 397,.ref 163),(.str "odd_in_common" 407,.ref 170),(.str "bits_bank" 413,.ref 175),(.str "parted" 424,.ref 182),(.str "joined_bank" 438,.ref 189),(.str "bank_in" 447,.ref 196),(.str "is_square" 459,.ref 203),(.str "refuse_not_square" 466,.ref 210),(.str "all_pairs" 472,.ref 215),(.str "beat_banks" 478,.ref 220),(.str "is_beat" 487,.ref 227),(.str "first_beat" 498,.ref 234),(.str "turn_plan" 508,.ref 241),(.str "_law_mix" 519,.ref 248),(.str "_law_left" 529,.ref 255),(.str "_law_pick" 538,.ref 262),(.str "_law_sides" 548,.ref 269),(.str "_law_gcd" 556,.ref 276),(.str "_law_skew" 567,.ref 283),(.str "_law_rests" 579,.ref 290),(.str "_law_bits" 585,.ref 295),(.str "_law_table" 591,.ref 300),(.str "_law_small" 597,.ref 305),(.str "_law_dealing" 607,.ref 312),(.str "_law_size" 613,.ref 317),(.str "_law_odd" 622,.ref 324),(.str "_law_bank" 628,.ref 329),(.str "_law_square" 634,.ref 334),(.str "_law_words_of" 641,.ref 341),(.str "_law_may_stand" 647,.ref 346),(.str "_law_first_fit" 653,.ref 351),(.str "_law_same" 659,.ref 356),(.str "_law_answer" 670,.ref 363),(.str "law" 688,.ref 370)]
def qo7:Obj:=⟨.none,none,.fields #[.int (2) 0,.int (0) 0,.ref 20,.int (4) 0,.int (0) 0,.ref 33,.int (6) 0,.int (0) 0,.ref 45,.int (8) 0,.int (0) 0,.ref 57,.int (10) 0,.int (0) 0,.ref 69,.int (12) 0,.int (0) 0,.ref 81,.int (14) 0,.int (0) 0,.ref 93,.int (16) 0,.int (0) 0,.ref 105,.int (18) 0,.int (0) 0,.ref 117,.int (23) 0,.int (0) 0,.ref 136,.int (28) 0,.int (0) 0,.ref 155,.int (39) 0,.int (0) 0,.ref 162,.int (42) 0,.int (0) 0,.ref 169,.int (49) 0,.int (0) 0,.ref 174,.int (51) 0,.int (0) 0,.ref 181,.int (54) 0,.int (0) 0,.ref 188,.int (58) 0,.int (0) 0,.ref 195,.int (70) 0,.int (0) 0,.ref 202,.int (73) 0,.int (0) 0,.ref 209,.int (76) 0,.int (0) 0,.ref 214,.int (79) 0,.int (0) 0,.ref 219,.int (81) 0,.int (0) 0,.ref 226,.int (84) 0,.int (0) 0,.ref 233,.int (89) 0,.int (0) 0,.ref 240,.int (99) 0,.int (0) 0,.ref 247,.int (102) 0,.int (0) 0,.ref 254,.int (106) 0,.int (0) 0,.ref 261,.int (113) 0,.int (0) 0,.ref 268,.int (117) 0,.int (0) 0,.ref 275,.int (121) 0,.int (0) 0,.ref 282,.int (126) 0,.int (0) 0,.ref 289,.int (134) 0,.int (0) 0,.ref 294,.int (139) 0,.int (0) 0,.ref 299,.int (144) 0,.int (0) 0,.ref 304,.int (162) 0,.int (0) 0,.ref 311,.int (179) 0,.int (0) 0,.ref 316,.int (189) 0,.int (0) 0,.ref 323,.int (194) 0,.int (0) 0,.ref 328,.int (207) 0,.int (0) 0,.ref 333,.int (225) 0,.int (0) 0,.ref 340,.int (227) 0,.int (0) 0,.ref 345,.int (232) 0,.int (0) 0,.ref 350,.int (242) 0,.int (0) 0,.ref 355,.int (250) 0,.int (0) 0,.ref 362,.int (262) 0,.int (0) 0,.ref 369],#[]⟩
def qml:Obj:=⟨.type "type",none,.cls ({ name:=Str.ofString "BankError",bases:=[Value.type "ValueError"],  mro:=    [Value.ref 24,Value.type "ValueError",Value.type "Exception",Value.type "BaseException",Value.type "object"],  ns:=23,qualname:=Str.ofString "BankError",  subclasses:=    [Value.ref 37,Value.ref 49,Value.ref 61,Value.ref 73,Value.ref 85,Value.ref 97,Value.ref 109,Value.ref 128,      Value.ref 147] }),#[some (.ref 15),none,some (.str "BankError" 189),some (.str "BankError" 197),some (.builtin "ValueError.__new__"),some (.bool true)]⟩
def qou (P:Params):Obj:=Hd.oD P 5 [(.str "__module__" 326,.str za9 187),(.str "__qualname__" 328,.str "NoAsk" 327),(.str "__firstlineno__" 330,.int (18) 329),(.str "__init__" 339,.ref 125),(.str "__static_attributes__" 342,.ref 126)]
def qo8:Obj:=⟨.none,none,.fields #[.int (20) 0,.int (4) 0,.ref 124],#[]⟩
def qov:Obj:=Hd.oC [.str "NoAsk" 321,.str "NoAsk" 322,.str "/claim/cut.py" 323,.int (18) 0,.int (0) 0,.int (0) 0,.int (0) 0,.int (0) 0,.ref 115,.bool false,.int (181) 0,.ref 116,.none,.none,.none,.none,.int (324) 0,.int (18) 0,.str "/claim/cut.py" 325]
def qoo:Obj:=⟨.type "frame",none,.plain,#[some (.ref 117),some (.ref 3),some (.ref 114),none,some za8,none,some (.ref 0)]⟩
def qqa:Obj:=Hd.oN ["self","row","at"] 334
def qod:Obj:=⟨.none,none,.func { name:="__init__",qualname:="NoAsk.__init__",params:=zi (Hd.inC (top 9)),body:=.stmts (qO (Hd.inC (top 9))),scope:=qi (Hd.inC (top 9)),globals:=0,closure:=[],defaults:=.none,kwdefaults:=.none },#[]⟩
def qo1:Obj:=Hd.oC [.str "__init__" 331,.str "NoAsk.__init__" 332,.str "/claim/cut.py" 333,.int (20) 0,.int (3) 0,.int (0) 0,.int (0) 0,.int (3) 0,.ref 119,.bool true,.int (181) 0,.ref 120,.none,.ref 121,.ref 122,.ref 123,.int (337) 0,.int (20) 0,.str "/claim/cut.py" 338]
def qoJ:Obj:=⟨.type "function",none,.func (PySem.W.fnOf "__init__" "NoAsk.__init__" (zi (Hd.inC (top 9))) (qO (Hd.inC (top 9))) (qi (Hd.inC (top 9))) .none .none .none za8 none (.ref 124) .none),#[]⟩
def qo5:Obj:=Hd.oN ["at","row"] 340
def qpn (P:Params):Obj:=Hd.oD P 2 [(.str "__module__" 326,.str za9 187),(.str "__firstlineno__" 330,.int (18) 329),(.str "__init__" 339,.ref 125),(.str "__static_attributes__" 342,.ref 126),(.str "__doc__" 343,.none)]
def qnj:Obj:=⟨.type "type",none,.cls ({ name:=Str.ofString "NoAsk",bases:=[Value.ref 24],  mro:=    [Value.ref 128,Value.ref 24,Value.type "ValueError",Value.type "Exception",Value.type "BaseException",      Value.type "object"],  ns:=127,qualname:=Str.ofString "NoAsk" }),#[some (.ref 112),none,some (.str "NoAsk" 319),some (.str "NoAsk" 327),some (.builtin "ValueError.__new__"),some (.bool true)]⟩
def qoj:Obj:=Hd.c6 128
def qpT:Obj:=Hd.c7 128
def qpj (P:Params):Obj:=Hd.oD P 5 [(.str "__module__" 353,.str za9 187),(.str "__qualname__" 355,.str "BadRow" 354),(.str "__firstlineno__" 357,.int (23) 356),(.str "__init__" 365,.ref 144),(.str "__static_attributes__" 367,.ref 145)]
def qpA:Obj:=⟨.none,none,.fields #[.int (25) 0,.int (4) 0,.ref 143],#[]⟩
def qoI:Obj:=Hd.oC [.str "BadRow" 348,.str "BadRow" 349,.str "/claim/cut.py" 350,.int (23) 0,.int (0) 0,.int (0) 0,.int (0) 0,.int (0) 0,.ref 134,.bool false,.int (181) 0,.ref 135,.none,.none,.none,.none,.int (351) 0,.int (23) 0,.str "/claim/cut.py" 352]
def qpa:Obj:=⟨.type "frame",none,.plain,#[some (.ref 136),some (.ref 3),some (.ref 133),none,some za8,none,some (.ref 0)]⟩
def qpV:Obj:=Hd.oN ["self","row"] 361
def qpP:Obj:=⟨.none,none,.func { name:="__init__",qualname:="BadRow.__init__",params:=zi (Hd.inC (top 10)),body:=.stmts (qO (Hd.inC (top 10))),scope:=qi (Hd.inC (top 10)),globals:=0,closure:=[],defaults:=.none,kwdefaults:=.none },#[]⟩
def qop:Obj:=Hd.oC [.str "__init__" 358,.str "BadRow.__init__" 359,.str "/claim/cut.py" 360,.int (25) 0,.int (2) 0,.int (0) 0,.int (0) 0,.int (3) 0,.ref 138,.bool true,.int (181) 0,.ref 139,.none,.ref 140,.ref 141,.ref 142,.int (363) 0,.int (25) 0,.str "/claim/cut.py" 364]
def qow:Obj:=⟨.type "function",none,.func (PySem.W.fnOf "__init__" "BadRow.__init__" (zi (Hd.inC (top 10))) (qO (Hd.inC (top 10))) (qi (Hd.inC (top 10))) .none .none .none za8 none (.ref 143) .none),#[]⟩
def qoW:Obj:=Hd.oN ["row"] 366
def qoC (P:Params):Obj:=Hd.oD P 2 [(.str "__module__" 353,.str za9 187),(.str "__firstlineno__" 357,.int (23) 356),(.str "__init__" 365,.ref 144),(.str "__static_attributes__" 367,.ref 145),(.str "__doc__" 368,.none)]
def qi3:Obj:=⟨.type "type",none,.cls ({ name:=Str.ofString "BadRow",bases:=[Value.ref 24],  mro:=    [Value.ref 147,Value.ref 24,Value.type "ValueError",Value.type "Exception",Value.type "BaseException",      Value.type "object"],  ns:=146,qualname:=Str.ofString "BadRow" }),#[some (.ref 131),none,some (.str "BadRow" 346),some (.str "BadRow" 354),some (.builtin "ValueError.__new__"),some (.bool true)]⟩
def qog:Obj:=Hd.c6 147
def qoz:Obj:=Hd.c7 147
def qpd:Obj:=Hd.oN CT 376
def qpc:Obj:=Hd.oG "size_of" JV
def qmG:Obj:=Hd.oK "size_of" 373 28 1 181 150 151 .none (.ref 152) (.ref 153) 154 384 385
def qnn:Obj:=Hd.oF "size_of" JV za6 (.ref 155)
def qiV:Obj:=Hd.oN EG 390
def qkt:Obj:=Hd.oG "number_of" QK
def qgg:Obj:=Hd.oK "number_of" 387 39 2 181 157 158 .none (.ref 159) (.ref 160) 161 395 396
def qfP:Obj:=Hd.oF "number_of" QK za6 (.ref 162)
def qkT:Obj:=Hd.oN ZO 401
def qkP:Obj:=Hd.oG "odd_in_common" zU
def qfL:Obj:=Hd.oK "odd_in_common" 398 42 2 181 164 165 .none (.ref 166) (.ref 167) 168 405 406
def qfG:Obj:=Hd.oF "odd_in_common" zU za6 (.ref 169)
def qiK:Obj:=Hd.oG "bits_bank" QP
def qfQ:Obj:=Hd.oK "bits_bank" 408 49 2 181 171 172 .none .none .none 173 411 412
def qeB:Obj:=Hd.oF "bits_bank" QP za6 (.ref 174)
def qno:Obj:=Hd.oN T5 417
def qiG:Obj:=Hd.oG "parted" VY
def qfI:Obj:=Hd.oK "parted" 414 51 3 181 176 177 .none (.ref 178) (.ref 179) 180 422 423
def qgu:Obj:=Hd.oF "parted" VY za6 (.ref 181)
def qls:Obj:=Hd.oN YY 428
def qnt:Obj:=Hd.oG "joined_bank" jv
def qeV:Obj:=Hd.oK "joined_bank" 425 54 3 181 183 184 .none (.ref 185) (.ref 186) 187 436 437
def qe2:Obj:=Hd.oF "joined_bank" jv za6 (.ref 188)
def qmE:Obj:=Hd.oN CZ 442
def qiH:Obj:=Hd.oG "bank_in" JU
def qeo:Obj:=Hd.oK "bank_in" 439 58 2 181 190 191 .none (.ref 192) (.ref 193) 194 445 446
def qfr:Obj:=Hd.oF "bank_in" JU za6 (.ref 195)
def qlM:Obj:=Hd.oN Z6 453
def qkn:Obj:=Hd.oG "is_square" QG
def qfk:Obj:=Hd.oK "is_square" 450 70 1 181 197 198 .none (.ref 199) (.ref 200) 201 457 458
def qfW:Obj:=Hd.oF "is_square" QG za7 (.ref 202)
def qjB:Obj:=Hd.oN qM 463
def qiQ:Obj:=Hd.oG "refuse_not_square" qY
def qgs:Obj:=Hd.oK "refuse_not_square" 460 73 1 181 204 205 .none (.ref 206) (.ref 207) 208 464 465
def qga:Obj:=Hd.oF "refuse_not_square" qY za7 (.ref 209)
def qlo:Obj:=Hd.oG "all_pairs" QN
def qgF:Obj:=Hd.oK "all_pairs" 467 76 1 181 211 212 .none .none .none 213 470 471
def qe0:Obj:=Hd.oF "all_pairs" QN za7 (.ref 214)
def qjI:Obj:=Hd.oG "beat_banks" jK
def qfb:Obj:=Hd.oK "beat_banks" 473 79 2 181 216 217 .none .none .none 218 476 477
def qf2:Obj:=Hd.oF "beat_banks" jK za7 (.ref 219)
def qjf:Obj:=Hd.oN UB 482
def qmP:Obj:=Hd.oG "is_beat" JX
def qep:Obj:=Hd.oK "is_beat" 479 81 2 181 221 222 .none (.ref 223) (.ref 224) 225 485 486
def qfc:Obj:=Hd.oF "is_beat" JX za7 (.ref 226)
def qiF:Obj:=Hd.oN QJ 491
def qi2:Obj:=Hd.oG "first_beat" jS
def qfy:Obj:=Hd.oK "first_beat" 488 84 3 181 228 229 .none (.ref 230) (.ref 231) 232 496 497
def qeS:Obj:=Hd.oF "first_beat" jS za7 (.ref 233)
def qi0:Obj:=Hd.oN jc 502
def qju:Obj:=Hd.oG "turn_plan" jE
def qfg:Obj:=Hd.oK "turn_plan" 499 89 1 181 235 236 .none (.ref 237) (.ref 238) 239 506 507
def qfA:Obj:=Hd.oF "turn_plan" jE za7 (.ref 240)
def qjQ:Obj:=Hd.oN X2 514
def qj5:Obj:=Hd.oG "_law_mix" J2
def qf7:Obj:=Hd.oK "_law_mix" 511 99 2 181 242 243 .none (.ref 244) (.ref 245) 246 517 518
def qfS:Obj:=Hd.oF "_law_mix" J2 za5 (.ref 247)
def qmI:Obj:=Hd.oN DM 523
def qlX:Obj:=Hd.oG "_law_left" ZE
def qex:Obj:=Hd.oK "_law_left" 520 102 2 181 249 250 .none (.ref 251) (.ref 252) 253 527 528
def qen:Obj:=Hd.oF "_law_left" ZE za5 (.ref 254)
def qnF:Obj:=Hd.oN WD 533
def qms:Obj:=Hd.oG "_law_pick" ZS
def qfl:Obj:=Hd.oK "_law_pick" 530 106 2 181 256 257 .none (.ref 258) (.ref 259) 260 536 537
def qfD:Obj:=Hd.oF "_law_pick" ZS za5 (.ref 261)
def qj4:Obj:=Hd.oN U2 542
def qkG:Obj:=Hd.oG "_law_sides" QR
def qeT:Obj:=Hd.oK "_law_sides" 539 113 1 181 263 264 .none (.ref 265) (.ref 266) 267 546 547
def qeI:Obj:=Hd.oF "_law_sides" QR za5 (.ref 268)
def qmF:Obj:=Hd.oN CV 552
def qkD:Obj:=Hd.oG "_law_gcd" JT
def qe7:Obj:=Hd.oK "_law_gcd" 549 117 2 181 270 271 .none (.ref 272) (.ref 273) 274 554 555
def qeX:Obj:=Hd.oF "_law_gcd" JT za5 (.ref 275)
def qi9:Obj:=Hd.oN WA 560
def qlT:Obj:=Hd.oG "_law_skew" ZV
def qfm:Obj:=Hd.oK "_law_skew" 557 121 1 181 277 278 .none (.ref 279) (.ref 280) 281 565 566
def qfF:Obj:=Hd.oF "_law_skew" ZV za5 (.ref 282)
def qnA:Obj:=Hd.oN EK 571
def qjR:Obj:=Hd.oG "_law_rests" QH
def qeE:Obj:=Hd.oK "_law_rests" 568 126 1 181 284 285 .none (.ref 286) (.ref 287) 288 577 578
def qeJ:Obj:=Hd.oF "_law_rests" QH za5 (.ref 289)
def qiO:Obj:=Hd.oG "_law_bits" Z4
def qgh:Obj:=Hd.oK "_law_bits" 580 134 2 181 291 292 .none .none .none 293 583 584
def qfw:Obj:=Hd.oF "_law_bits" Z4 za5 (.ref 294)
def qlc:Obj:=Hd.oG "_law_table" QQ
def qeZ:Obj:=Hd.oK "_law_table" 586 139 1 181 296 297 .none .none .none 298 589 590
def qfp:Obj:=Hd.oF "_law_table" QQ za5 (.ref 299)
def qlk:Obj:=Hd.oG "_law_small" QM
def qej:Obj:=Hd.oK "_law_small" 592 144 1 181 301 302 .none .none .none 303 595 596
def qeU:Obj:=Hd.oF "_law_small" QM za5 (.ref 304)
def ql4:Obj:=Hd.oN YU 601
def qng:Obj:=Hd.oG "_law_dealing" jt
def qe8:Obj:=Hd.oK "_law_dealing" 598 162 1 181 306 307 .none (.ref 308) (.ref 309) 310 605 606
def qfu:Obj:=Hd.oF "_law_dealing" jt za5 (.ref 311)
def qkj:Obj:=Hd.oG "_law_size" ZZ
def qez:Obj:=Hd.oK "_law_size" 608 179 1 181 313 314 .none .none .none 315 611 612
def qfd:Obj:=Hd.oF "_law_size" ZZ za5 (.ref 316)
def qiX:Obj:=Hd.oN XS 617
def qlb:Obj:=Hd.oG "_law_odd" JZ
def qgp:Obj:=Hd.oK "_law_odd" 614 189 1 181 318 319 .none (.ref 320) (.ref 321) 322 620 621
def qf5:Obj:=Hd.oF "_law_odd" JZ za5 (.ref 323)
def qk7:Obj:=Hd.oG "_law_bank" ZU
def qfZ:Obj:=Hd.oK "_law_bank" 623 194 3 181 325 326 .none .none .none 327 626 627
def qfJ:Obj:=Hd.oF "_law_bank" ZU za5 (.ref 328)
def qjM:Obj:=Hd.oG "_law_square" jN
def qer:Obj:=Hd.oK "_law_square" 629 207 1 181 330 331 .none .none .none 332 632 633
def qeM:Obj:=Hd.oF "_law_square" jN za5 (.ref 333)
def qlR:Obj:=Hd.oN jr 638
def qjc:Obj:=Hd.oG "_law_words_of" jg
def qfR:Obj:=Hd.oK "_law_words_of" 635 225 1 181 335 336 .none (.ref 337) (.ref 338) 339 639 640
def qgo:Obj:=Hd.oF "_law_words_of" jg za5 (.ref 340)
def qnc:Obj:=Hd.oG "_law_may_stand" zT
def qgE:Obj:=Hd.oK "_law_may_stand" 642 227 2 181 342 343 .none .none .none 344 645 646
def qeL:Obj:=Hd.oF "_law_may_stand" zT za5 (.ref 345)
def qmu:Obj:=Hd.oG "_law_first_fit" zS
def qfz:Obj:=Hd.oK "_law_first_fit" 648 232 2 181 347 348 .none .none .none 349 651 652
def qeb:Obj:=Hd.oF "_law_first_fit" zS za5 (.ref 350)
def qjn:Obj:=Hd.oG "_law_same" ZQ
def qeR:Obj:=Hd.oK "_law_same" 654 242 2 181 352 353 .none .none .none 354 657 658
def qfo:Obj:=Hd.oF "_law_same" ZQ za5 (.ref 355)
def qmi:Obj:=Hd.oN JL 663
def qj8:Obj:=Hd.oG "_law_answer" jT
def qff:Obj:=Hd.oK "_law_answer" 660 250 1 181 357 358 .none (.ref 359) (.ref 360) 361 668 669
def qfM:Obj:=Hd.oF "_law_answer" jT za5 (.ref 362)
def qjz:Obj:=Hd.oN qcN 674
def qkJ:Obj:=Hd.oG "law" VO
def qf6:Obj:=Hd.oK "law" 671 262 1 181 364 365 .none (.ref 366) (.ref 367) 368 686 687
def qgB:Obj:=Hd.oF "law" VO za5 (.ref 369)
def qgT (P:Params):PySem.W.BT:=(Hd.nd (PySem.W.boot_o_0 P) (Hd.nd (PySem.W.boot_o_1 P) (Hd.nd (qkz P) (Hd.nd (PySem.W.boot_o_7 P) (Hd.nd qqA (Hd.nd zk (Hd.nd qne (Hd.nd (qpn P) (Hd.lf qen) .nil) (Hd.nd j7 (Hd.lf j7) .nil)) (Hd.nd zk (Hd.nd qiV (Hd.lf zk) .nil) (Hd.nd qjf (Hd.lf qeb) .nil))) (Hd.nd zk (Hd.nd zk (Hd.nd qop (Hd.lf j7) .nil) (Hd.nd zk (Hd.lf zk) .nil)) (Hd.nd qlB (Hd.nd qeB (Hd.lf qlk) .nil) (Hd.nd qju (Hd.lf zk) .nil)))) (Hd.nd (qht P) (Hd.nd qkf (Hd.nd zk (Hd.nd qpA (Hd.lf zk) .nil) (Hd.nd qlM (Hd.lf qk7) .nil)) (Hd.nd zk (Hd.nd zk (Hd.lf qfw) .nil) (Hd.nd zk (Hd.lf qmi) .nil))) (Hd.nd zk (Hd.nd qjl (Hd.nd j7 (Hd.lf qi9) .nil) (Hd.nd qe0 (Hd.lf j7) .nil)) (Hd.nd zk (Hd.nd zk (Hd.lf qe8) .nil) (Hd.lf qf7))))) (Hd.nd zk (Hd.nd j7 (Hd.nd zk (Hd.nd zk (Hd.nd UQ (Hd.lf zk) .nil) (Hd.nd qeo (Hd.lf qgp) .nil)) (Hd.nd qkS (Hd.nd qfP (Hd.lf zk) .nil) (Hd.nd qfc (Hd.lf qeR) .nil))) (Hd.nd qmR (Hd.nd zk (Hd.nd qi3 (Hd.lf qe7) .nil) (Hd.nd zk (Hd.lf qjc) .nil)) (Hd.nd zk (Hd.nd zk (Hd.lf j7) .nil) (Hd.lf j7)))) (Hd.nd qlE (Hd.nd zk (Hd.nd qnE (Hd.nd j7 (Hd.lf qkG) .nil) (Hd.nd qfW (Hd.lf j7) .nil)) (Hd.nd zk (Hd.nd zk (Hd.lf qeZ) .nil) (Hd.nd zk (Hd.lf qfM) .nil))) (Hd.nd zk (Hd.nd zk (Hd.nd qmG (Hd.lf qfF) .nil) (Hd.nd qfb (Hd.lf zk) .nil)) (Hd.nd qod (Hd.nd qnt (Hd.lf qkj) .nil) (Hd.lf qmI)))))) (Hd.nd (PySem.W.boot_o_5 P) (Hd.nd (PySem.W.boot_o_9 P) (Hd.nd (qqB P) (Hd.nd qjj (Hd.nd T8 (Hd.nd qoj (Hd.lf j7) .nil) (Hd.nd zk (Hd.lf zk) .nil)) (Hd.nd qgP (Hd.nd qkt (Hd.lf qeE) .nil) (Hd.nd qmP (Hd.lf j7) .nil))) (Hd.nd qid (Hd.nd qmY (Hd.nd qoW (Hd.lf zk) .nil) (Hd.nd qgs (Hd.lf qlR) .nil)) (Hd.nd T8 (Hd.nd j7 (Hd.lf qeU) .nil) (Hd.nd qfA (Hd.lf qf6) .nil)))) (Hd.nd qkX (Hd.nd T8 (Hd.nd qh9 (Hd.nd qpa (Hd.lf qj4) .nil) (Hd.nd qkn (Hd.lf qfJ) .nil)) (Hd.nd qlI (Hd.nd qfL (Hd.lf j7) .nil) (Hd.nd qfy (Hd.lf qj8) .nil))) (Hd.nd qjO (Hd.nd T8 (Hd.nd zk (Hd.lf qlT) .nil) (Hd.nd j7 (Hd.lf qgE) .nil)) (Hd.nd qqa (Hd.nd qls (Hd.lf zk) .nil) (Hd.lf zk))))) (Hd.nd qnU (Hd.nd qkR (Hd.nd qif (Hd.nd qjU (Hd.nd (qpj P) (Hd.lf qfl) .nil) (Hd.nd zk (Hd.lf zk) .nil)) (Hd.nd T8 (Hd.nd j7 (Hd.lf qiO) .nil) (Hd.nd j7 (Hd.lf zk) .nil))) (Hd.nd T8 (Hd.nd qhB (Hd.nd qoz (Hd.lf zk) .nil) (Hd.nd qlo (Hd.lf qgo) .nil)) (Hd.nd qov (Hd.nd qfI (Hd.lf zk) .nil) (Hd.lf zk)))) (Hd.nd T8 (Hd.nd qns (Hd.nd T8 (Hd.nd zk (Hd.lf qeI) .nil) (Hd.nd j7 (Hd.lf qer) .nil)) (Hd.nd qhV (Hd.nd qiK (Hd.lf zk) .nil) (Hd.nd qi0 (Hd.lf j7) .nil))) (Hd.nd qg3 (Hd.nd ql6 (Hd.nd zk (Hd.lf j7) .nil) (Hd.nd zk (Hd.lf qmu) .nil)) (Hd.nd qoJ (Hd.nd qe2 (Hd.lf qfd) .nil) (Hd.lf qlX))))))) (Hd.nd (PySem.W.boot_o_2 P) (Hd.nd (PySem.W.boot_o_4 P) (Hd.nd (PySem.W.boot_o_8 P) (Hd.nd T8 (Hd.nd j7 (Hd.nd UQ (Hd.nd qnj (Hd.lf zk) .nil) (Hd.nd qmE (Hd.lf qiX) .nil)) (Hd.nd (qii P) (Hd.nd zk (Hd.lf qjR) .nil) (Hd.nd zk (Hd.lf zk) .nil))) (Hd.nd (qmm P) (Hd.nd j7 (Hd.nd qow (Hd.lf qmF) .nil) (Hd.nd qiQ (Hd.lf j7) .nil)) (Hd.nd UQ (Hd.nd zk (Hd.lf qej) .nil) (Hd.nd qfg (Hd.lf qkJ) .nil)))) (Hd.nd qml (Hd.nd UQ (Hd.nd (ql8 P) (Hd.nd qoI (Hd.lf j7) .nil) (Hd.nd zk (Hd.lf qfZ) .nil)) (Hd.nd j7 (Hd.nd qkP (Hd.lf zk) .nil) (Hd.nd qi2 (Hd.lf zk) .nil))) (Hd.nd j7 (Hd.nd UQ (Hd.nd qpd (Hd.lf zk) .nil) (Hd.nd zk (Hd.lf qnc) .nil)) (Hd.nd j7 (Hd.nd j7 (Hd.lf qfu) .nil) (Hd.lf qfS))))) (Hd.nd qo7 (Hd.nd qlf (Hd.nd (qnp P) (Hd.nd j7 (Hd.nd T8 (Hd.lf qms) .nil) (Hd.nd qfr (Hd.lf qf5) .nil)) (Hd.nd UQ (Hd.nd zk (Hd.lf j7) .nil) (Hd.nd zk (Hd.lf qfo) .nil))) (Hd.nd UQ (Hd.nd (qk1 P) (Hd.nd qog (Hd.lf qeX) .nil) (Hd.nd j7 (Hd.lf qfR) .nil)) (Hd.nd qo8 (Hd.nd qiG (Hd.lf ql4) .nil) (Hd.lf qjQ)))) (Hd.nd UQ (Hd.nd j7 (Hd.nd UQ (Hd.nd qpV (Hd.lf qeT) .nil) (Hd.nd zk (Hd.lf qjM) .nil)) (Hd.nd (qni P) (Hd.nd j7 (Hd.lf qfp) .nil) (Hd.nd j7 (Hd.lf zk) .nil))) (Hd.nd (qiZ P) (Hd.nd j7 (Hd.nd qnn (Hd.lf zk) .nil) (Hd.nd qf2 (Hd.lf j7) .nil)) (Hd.nd qo1 (Hd.nd qeV (Hd.lf qez) .nil) (Hd.lf zk)))))) (Hd.nd (PySem.W.boot_o_6 P) (Hd.nd (PySem.W.boot_o_10 P) (Hd.nd zk (Hd.nd qlU (Hd.nd (qlK P) (Hd.nd qpT (Hd.lf qnF) .nil) (Hd.nd qiH (Hd.lf qlb) .nil)) (Hd.nd qiW (Hd.nd qgg (Hd.lf qeJ) .nil) (Hd.nd qep (Hd.lf qjn) .nil))) (Hd.nd qnu (Hd.nd qnb (Hd.nd (qoC P) (Hd.lf qkD) .nil) (Hd.nd qga (Hd.lf zk) .nil)) (Hd.nd (qou P) (Hd.nd qno (Hd.lf zk) .nil) (Hd.nd zk (Hd.lf qgB) .nil)))) (Hd.nd qmN (Hd.nd (qja P) (Hd.nd qln (Hd.nd zk (Hd.lf zk) .nil) (Hd.nd qfk (Hd.lf zk) .nil)) (Hd.nd qj0 (Hd.nd qfG (Hd.lf qlc) .nil) (Hd.nd qeS (Hd.lf qff) .nil))) (Hd.nd qmD (Hd.nd (qkB P) (Hd.nd qpc (Hd.lf qfm) .nil) (Hd.nd qjI (Hd.lf qeL) .nil)) (Hd.nd zk (Hd.nd zk (Hd.lf j7) .nil) (Hd.lf j7))))) (Hd.nd qnY (Hd.nd zk (Hd.nd ql5 (Hd.nd qlL (Hd.nd zk (Hd.lf qfD) .nil) (Hd.nd j7 (Hd.lf j7) .nil)) (Hd.nd (qjT P) (Hd.nd qkT (Hd.lf qgh) .nil) (Hd.nd qiF (Hd.lf j7) .nil))) (Hd.nd (qm4 P) (Hd.nd qlQ (Hd.nd zk (Hd.lf j7) .nil) (Hd.nd qgF (Hd.lf zk) .nil)) (Hd.nd qoo (Hd.nd qgu (Hd.lf qng) .nil) (Hd.lf qj5)))) (Hd.nd (qmV P) (Hd.nd qk2 (Hd.nd (qnB P) (Hd.nd qpP (Hd.lf zk) .nil) (Hd.nd qjB (Hd.lf qeM) .nil)) (Hd.nd qkw (Hd.nd qfQ (Hd.lf j7) .nil) (Hd.nd zk (Hd.lf qjz) .nil))) (Hd.nd qj3 (Hd.nd qm7 (Hd.nd j7 (Hd.lf qnA) .nil) (Hd.nd j7 (Hd.lf qfz) .nil)) (Hd.nd qo5 (Hd.nd zk (Hd.lf zk) .nil) (Hd.lf qex))))))))
abbrev qet:List Stmt:=(qa4.drop 9).take 40
set_option maxRecDepth 100000 in
set_option maxHeartbeats 0 in
def qkq (w : World) (os : OsState) : PySem.W.segRunT treeTable PySem.Challenge.pw_bankwalk_k70_plans_told w 11 (some (Value.ref 6)) 1 1578 (⟨qnh w.params,112,{ },#[],{ },319,os⟩ : PySem.W.SharedT) (PySem.W.piecesOf qet qi7 SG ⟨16,0,17,8⟩ qnf) = some (.next,(⟨qgT w.params,371,{ },#[],{ },689,os⟩ : PySem.W.SharedT),SG,⟨262,0,277,15⟩) := by kernel_rfl
abbrev qhk (P:Params):Heap:=PySem.W.absHeap (qgT P) 371 { }
def Kf (P:Params):PySem.W.Frag:=[(3,qkz P),(23,qht P),(24,qml),(37,qif),(49,qid),(61,qg3),(73,qh9),(85,qhB),(96,qii P),(97,qgP),(109,qhV),(128,qnj),(147,qi3),(155,qmG),(156,qnn),(162,qgg),(163,qfP),(169,qfL),(170,qfG),(174,qfQ),(175,qeB),(181,qfI),(182,qgu),(188,qeV),(189,qe2),(195,qeo),(196,qfr),(202,qfk),(203,qfW),(209,qgs),(210,qga),(214,qgF),(215,qe0),(219,qfb),(220,qf2),(226,qep),(227,qfc),(233,qfy),(234,qeS),(240,qfg),(241,qfA),(247,qf7),(248,qfS),(254,qex),(255,qen),(261,qfl),(262,qfD),(268,qeT),(269,qeI),(275,qe7),(276,qeX),(282,qfm),(283,qfF),(289,qeE),(290,qeJ),(294,qgh),(295,qfw),(299,qeZ),(300,qfp),(304,qej),(305,qeU),(311,qe8),(312,qfu),(316,qez),(317,qfd),(323,qgp),(324,qf5),(328,qfZ),(329,qfJ),(333,qer),(334,qeM),(340,qfR),(341,qgo),(345,qgE),(346,qeL),(350,qfz),(351,qeb),(355,qeR),(356,qfo),(362,qff),(363,qfM),(369,qf6),(370,qgB)]
def qnI {l:PySem.W.OpenLaw} {w:World} {h:Heap} {mg:Str->Option Value} {fa:Addr} (X:(Kf w.params).In h) (G:h.Ns mainGlobals mg) (hfa:mg "law" = some (.ref fa)) :
  ∃ fd:FuncData,(∀ (s:Shared) (v:Value),BindsTo s fd ⟨[v],[]⟩ [("_law_script",v)])/\∀ base:Heap,(Kf w.params).In base->base.Ns mainGlobals mg->FnOk l.prog w (Kf w.params) mg base CX0 13 fa fd ["_law_script"] (lSp (Kf w.params) RO):=by
 have e:=hfa.symm.trans (Hd.W0 X G "law" (.ref 370) (by kernel_rfl));cases e;have E0:=Hd.e1 X G "size_of" JV CU 156 za6 (.ref 155);have E1:=Hd.e2 X G "number_of" QK U6 163 za6 (.ref 162);have E2:=Hd.e2 X G "odd_in_common" zU ZY 170 za6 (.ref 169);have E3:=Hd.e2 X G "bits_bank" QP EA 175 za6 (.ref 174);have E4:=Hd.e3 X G "parted" VY SL 182 za6 (.ref 181);have E5:=Hd.e3 X G "joined_bank" jv YH 189 za6 (.ref 188);have E6:=Hd.e2 X G "bank_in" JU CO 196 za6 (.ref 195);have E7:=Hd.e1 X G "is_square" QG EI 203 za7 (.ref 202);have E8:=Hd.e1 X G "refuse_not_square" qY zN 210 za7 (.ref 209);have E9:=Hd.e1 X G "all_pairs" QN EN 215 za7 (.ref 214);have E10:=Hd.e2 X G "beat_banks" jK VU 220 za7 (.ref 219);have E11:=Hd.e2 X G "is_beat" JX CP 227 za7 (.ref 226);have E12:=Hd.e3 X G "first_beat" jS VS 234 za7 (.ref 233);have E13:=Hd.e1 X G "turn_plan" jE YW 241 za7 (.ref 240);have E14:=Hd.e2 X G "_law_mix" J2 XY 248 za5 (.ref 247);have E15:=Hd.e2 X G "_law_left" ZE D4 255 za5 (.ref 254);have E16:=Hd.e2 X G "_law_pick" ZS WJ 262 za5 (.ref 261);have E17:=Hd.e1 X G "_law_sides" QR U4 269 za5 (.ref 268);have E18:=Hd.e2 X G "_law_gcd" JT CI 276 za5 (.ref 275);have E19:=Hd.e1 X G "_law_skew" ZV WB 283 za5 (.ref 282);have E20:=Hd.e1 X G "_law_rests" QH UX 290 za5 (.ref 289);have E21:=Hd.e2 X G "_law_bits" Z4 D8 295 za5 (.ref 294);have E22:=Hd.e1 X G "_law_table" QQ U7 300 za5 (.ref 299);have E23:=Hd.e1 X G "_law_small" QM EJ 305 za5 (.ref 304);have E24:=Hd.e1 X G "_law_dealing" jt YM 312 za5 (.ref 311);have E25:=Hd.e1 X G "_law_size" ZZ DZ 317 za5 (.ref 316);have E26:=Hd.e1 X G "_law_odd" JZ XV 324 za5 (.ref 323);have E27:=Hd.e3 X G "_law_bank" ZU DO 329 za5 (.ref 328);have E28:=Hd.e1 X G "_law_square" jN VX 334 za5 (.ref 333);have E29:=Hd.e1 X G "_law_words_of" jg JP 341 za5 (.ref 340);have E30:=Hd.e2 X G "_law_may_stand" zT ZF 346 za5 (.ref 345);have E31:=Hd.e2 X G "_law_first_fit" zS ZI 351 za5 (.ref 350);have E32:=Hd.e2 X G "_law_same" ZQ WH 356 za5 (.ref 355);have E33:=Hd.e1 X G "_law_answer" jT VP 363 za5 (.ref 362);have F34:=Hd.qp2 (K:=Kf w.params) "law" VO 370 za5 (.ref 369) (by kernel_rfl) (by kernel_rfl) (by kernel_rfl);have k_97:ExK (Kf w.params) 97:=⟨by kernel_rfl,by kernel_rfl,by kernel_rfl,by kernel_rfl,by kernel_rfl,by kernel_rfl⟩
 have g0:=Hd.no X G "len";have g1:=Hd.no X G "enumerate";have g2:=Hd.no X G "sum";have g3:=Hd.no X G "range";have g4:=Hd.no X G "set";have g5:=Hd.no X G "abs";have g6:=Hd.no X G "tuple";have g7:=Hd.no X G "zip";have g8:=Hd.no X G "isinstance";have g9:=Hd.no X G "list";have g10:=Hd.no X G "all";have g11:=Hd.no X G "str";have g12:=Hd.no X G "bool";have g13:=Hd.no X G "int";have g14:=Hd.W0 X G "BankError" (.ref 24) (by kernel_rfl);have g15:=Hd.W0 X G "BadRow" (.ref 147) (by kernel_rfl);have g16:=Hd.W0 X G "BadText" (.ref 109) (by kernel_rfl);have g17:=Hd.W0 X G "Clash" (.ref 85) (by kernel_rfl);have g18:=Hd.W0 X G "NoAsk" (.ref 128) (by kernel_rfl);have g19:=Hd.W0 X G "NoOrder" (.ref 73) (by kernel_rfl);have g20:=Hd.W0 X G "NoStart" (.ref 49) (by kernel_rfl);have g21:=Hd.W0 X G "NoWalk" (.ref 61) (by kernel_rfl);have g22:=Hd.W0 X G "NoWord" (.ref 37) (by kernel_rfl);have g23:XD (Kf w.params) [.ref 147,.ref 109,.ref 85,.ref 128,.ref 73,.ref 49,.ref 61,.ref 37] [(none,false),(some 97,false)]:=XD.cons (λ_ z=>nomatch z) (by kernel_rfl) (XD.cons (λ_ z=>by cases z;exact k_97) (by kernel_rfl) XD.nil);have g24:=Hd.no X G "ValueError";have g25:XD (Kf w.params) [.type "ValueError"] [(none,false),(some 97,true)]:=XD.cons (λ_ z=>nomatch z) (by kernel_rfl) (XD.cons (λ_ z=>by cases z;exact k_97) (by kernel_rfl) XD.nil);have g26:=Hd.W0 X G "NotSquare" (.ref 97) (by kernel_rfl);have g27:XD (Kf w.params) [.ref 97] [(none,false),(some 97,true)]:=XD.cons (λ_ z=>nomatch z) (by kernel_rfl) (XD.cons (λ_ z=>by cases z;exact k_97) (by kernel_rfl) XD.nil);have g28:=Hd.no X G "min";refine ⟨PySem.W.fnOf "law" "law" (zi VO) (qO VO) (qi VO) .none .none .none za5 none (.ref 369) .none,λs v=>.of_eq rfl,λbase Xb _=>?_⟩;have g29:ExC base 24 [.ref 24,.type "ValueError",.type "Exception",.type "BaseException",.type "object"]:=Hd.qi4 Xb (by kernel_rfl);have g30:∀ C∈[97],Ct base 24 C:=Hd.qhZ (Hd.qi4 (K:=Kf w.params) (C:=97) (mro:=[.ref 97,.ref 24,.type "ValueError",.type "Exception",.type "BaseException",.type "object"]) Xb (by kernel_rfl)) (by kernel_rfl) (λ_ z=>nomatch z);have g31:RaX mg base "NotSquare" 97:=Hd.qpw (nm:="NotSquare") (N:=96) (bs:=[.ref 24]) (bm:=[.ref 24,.type "ValueError",.type "Exception",.type "BaseException",.type "object"]) (sub:=[]) (tb:=88) (t1:=287) (t2:=295) Xb (Hd.W0 X G "NotSquare" (.ref 97) (by kernel_rfl)) (by kernel_rfl) (by kernel_rfl) (by kernel_rfl) (by kernel_rfl);have O32:=W4 (P:=l.prog) (w:=w) (base:=base) (k:=0)  E2 W9;have O33:=K3 O32 g1 g2 E3 KZ;have O34:=qb1 (P:=l.prog) (w:=w) (base:=base) (k:=0)  E4 qa7;have O35:=qaC (P:=l.prog) (w:=w) (base:=base) (k:=0)  E14 qap;have O36:=MW (P:=l.prog) (w:=w) (base:=base) (k:=0) g0 g5 E15 MI;have O37:=LX O35 E16 LZ;have O38:=LK O37 E17 LN;have O39:=qaE (P:=l.prog) (w:=w) (base:=base) (k:=0)  E18 qaz;have O40:=MA (O37.mono (by decide)) O38 E19 MO;have O41:=K6 g3 (O37.mono (by decide)) O38 (O39.mono (by decide)) E20 KW;have O42:=MZ g3 O37 g6 E21 MP;have O43:=KC g3 (O37.mono (by decide)) O38 g6 E22 K9;have O44:=LJ g3 O37 (O39.mono (by decide)) g6 E23 KJ;have O45:=C5 (O37.mono (by decide)) O40 O41 (O42.mono (by decide)) O43 (O44.mono (by decide)) E24 C9;have O46:=qaq (P:=l.prog) (w:=w) (base:=base) (k:=0) g3 E26 qaB;have O47:=SU g3 O37 (O39.mono (by decide)) g6 E28 TQ;have O48:=CD (P:=l.prog) (w:=w) (base:=base) (k:=0)  E29 CC;have O49:=XB g0 g4 O48 E30 W5;have O50:=ES (P:=l.prog) (w:=w) (base:=base) E0.F E0.b E0.m;have O51:=DP O50 g0 E0 (WL 0);have O52:=DP O51 g0 E0 (WL 1);have O53:=DP O52 g0 E0 (WL 2);have O54:=KH O53 E7 K1;have O55:=UP O54 E8 US;have O56:=LG O53 g3 E9 K8;have O57:=VZ O51 E1 (VW 0);have O58:=VZ O52 E1 (VW 1);have O59:=VZ O53 E1 (VW 2);have O60:=ES (P:=l.prog) (w:=w) (base:=base) E6.F E6.b E6.m;have O61:=JM O51 O34 (O60.mono (by decide)) E5 (JQ 0);have O62:=WC O57 O33 O61 E6 (WG 0);have O63:=JM (O52.mono (by decide)) (O34.mono (by decide)) O62 E5 (JQ 1);have O64:=WC (O58.mono (by decide)) (O33.mono (by decide)) O63 E6 (WG 1);have O65:=JM (O53.mono (by decide)) (O34.mono (by decide)) O64 E5 (JQ 2);have O66:=WC (O59.mono (by decide)) (O33.mono (by decide)) O65 E6 (WG 2);have O67:=SH O66 E10 SV;have O68:=qaH g0 O67 g4 E11 qan;have O69:=TU g0 g1 O68 E12 SB;have O70:=LQ g0 (O55.mono (by decide)) (O56.mono (by decide)) O69 E13 LU;have O71:=UA O54 g31 E8 UN;have O72:=T3 O71 E13 LO;have O73:=TH g8 O70 (O72.mono (by decide)) g14 g29 g30 g15 g16 g17 g18 g19 g20 g21 g22 g23 g24 g25 g26 g27 E33 TF;have O74:=ES (P:=l.prog) (w:=w) (base:=base) E25.F E25.b E25.m;have O75:=U5 g0 g6 O74 g7 E25 (K70.EL 0);have O76:=U5 g0 g6 O75 g7 E25 (K70.EL 1);have O77:=U5 g0 g6 O76 g7 E25 (K70.EL 2);have O78:=ES (P:=l.prog) (w:=w) (base:=base) E32.F E32.b E32.m;have O79:=ZM g0 g6 g7 O78 g8 g9 g10 g11 g12 g13 E32 (Z0 0);have O80:=ZM g0 g6 g7 O79 g8 g9 g10 g11 g12 g13 E32 (Z0 1);have O81:=ZM g0 g6 g7 O80 g8 g9 g10 g11 g12 g13 E32 (Z0 2);have O82:=ZM g0 g6 g7 O81 g8 g9 g10 g11 g12 g13 E32 (Z0 3);have O83:=ZM g0 g6 g7 O82 g8 g9 g10 g11 g12 g13 E32 (Z0 4);have O84:=ES (P:=l.prog) (w:=w) (base:=base) E27.F E27.b E27.m;have O85:=EC g1 g2 O75 O46 (O84.mono (by decide)) E27 (UZ 0);have O86:=EC g1 g2 O76 (O46.mono (by decide)) O85 E27 (UZ 1);have O87:=EC g1 g2 O77 (O46.mono (by decide)) O86 E27 (UZ 2);have O88:=XA g1 g3 O87 (O49.mono (by decide)) E31 W7;exact qlO (k:=12) g0 g3 (O77.mono (by decide)) (O83.mono (by decide)) g8 g9 g11 (O36.mono (by decide)) (O47.mono (by decide)) (O45.mono (by decide)) (O88.mono (by decide)) O73 g28 F34 (qnH qnm)
set_option maxRecDepth 100000 in
set_option maxHeartbeats 0 in
def qlr (w : World) (os : OsState) : PySem.W.topRun treeTable PySem.Challenge.pw_bankwalk_k70_plans_told w 11 (some (Value.ref 6)) 2 (⟨qgT w.params,371,{ },#[],{ },689,os⟩ : PySem.W.SharedT).abs (PySem.W.restOf [] qi7 SG ⟨262,0,277,15⟩ qnf) = some ⟨qhk w.params,#[],{ },689,os⟩ := by kernel_rfl
def qoy:(qgw++(qet++[]))=qa4:=by kernel_rfl
set_option maxRecDepth 100000 in
set_option maxHeartbeats 0 in
def qhx (w : World) (os : OsState) : PySem.W.topRun treeTable PySem.Challenge.pw_bankwalk_k70_plans_told w 11 (some (Value.ref 6)) (12 + (1 + (1687 + (1578 + 2)))) ⟨PySem.W.boot_heap w.params,Array.mk [],PySem.W.boot_drawn,PySem.W.boot_toks,os⟩ (PySem.W.topStub PySem.Challenge.pw_bankwalk_k70_plans_told) = some ⟨qhk w.params,#[],{ },689,os⟩ := by
 have h:=(PySem.W.piece_app (PySem.W.segRun_of (qje w os)) (PySem.W.piece_app (PySem.W.segRun_of (qkq w os)) (qlr w os)))
 rw [qoy] at h;exact PySem.W.go_top (qjs w os) (PySem.W.piece_block (qjV w os) h)
abbrev Q : Program := PySem.W.view PySem.Challenge.pw_bankwalk_k70_plans_told [1,2,3,4,5,6,7,8,9,10,12,13,14,15,16,17,18,20,21,22,23,24,25,26,28,29,30,31,32,33,34,35,36,37,38,39,40,41,42,43,44,45,46,47,48]
set_option maxRecDepth 100000 in
set_option maxHeartbeats 0 in
def left : PySem.W.LeftO PySem.Challenge.pw_bankwalk_k70_plans_told Q [] (λs => PySem.W.xlAt Q [] s && PySem.W.recOk [] s) (λs => ([3,23,24,37,49,61,73,85,96,97,109,128,147,155,156,162,163,169,170,174,175,181,182,188,189,195,196,202,203,209,210,214,215,219,220,226,227,233,234,240,241,247,248,254,255,261,262,268,269,275,276,282,283,289,290,294,295,299,300,304,305,311,312,316,317,323,324,328,329,333,334,340,341,345,346,350,351,355,356,362,363,369,370] : List Addr).map s.heap.get?) (λw => (Kf w.params).map λp => some p.2) 6652 :=
 PySem.W.LeftO.of_pieces (H₀:=PySem.W.boot_heap) (H₁:=qhk) (gs₀:=Array.mk []) (gs₁:=#[]) (d₀:=PySem.W.boot_drawn) (d₁:={ }) (k₀:=PySem.W.boot_toks) (k₁:=689) (m₀:=11) (ann:=some (Value.ref 6)) (M:=(12+(1+(1687+(1578+2)))))
  (PySem.W.boot_open (by kernel_rfl) (by kernel_rfl) (λs=>by kernel_rfl)) (λw=>by kernel_rfl) qhx (by kernel_rfl) (λw=>by kernel_rfl)
end K70
open PySem PySem.W PyProof.Rows
set_option maxRecDepth 100000 in
set_option maxHeartbeats 0 in
theorem PySem.Challenge.cw_bankwalk_k70_plans_told_holds : PySem.Challenge.rw_bankwalk_k70_plans_told.Holds :=
 Hd.head (l := PySem.Challenge.rw_bankwalk_k70_plans_told) (q := K70.Q) (loose := []) (K := K70.Kf) (as := [3,23,24,37,49,61,73,85,96,97,109,128,147,155,156,162,163,169,170,174,175,181,182,188,189,195,196,202,203,209,210,214,215,219,220,226,227,233,234,240,241,247,248,254,255,261,262,268,269,275,276,282,283,289,290,294,295,299,300,304,305,311,312,316,317,323,324,328,329,333,334,340,341,345,346,350,351,355,356,362,363,369,370]) (N := 6652) (k := 13) (x := "_law_script")
  (d:=⟨"law",L2.zi K70.VO,L2.qO K70.VO,L2.qi K70.VO,⟨262,0,277,15⟩⟩) (λ_=>by kernel_rfl) (by kernel_rfl) K70.left (by kernel_rfl) (by kernel_rfl) (by kernel_rfl) (by kernel_rfl) (by kernel_rfl)
  ⟨rfl,rfl,rfl,rfl,rfl,by decide +kernel⟩ (by w_witness2) rfl (by kernel_rfl) ⟨rfl,by decide,by decide,rfl⟩ (λw=>by kernel_rfl) λw mg fa h KX G hmg=>K70.qnI KX G hmg
