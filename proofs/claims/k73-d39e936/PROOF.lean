import PyProof.Rows.All
import Wide.All
import OpenK.AllK
import Wide.FinOn
import Lean
import PyProof.EqAt
import PyProof.EqKinds
import PyProof.TupleCall
import PyProof.NeKinds
import KE.KRevSl
import PyProof.FactsAll.bool_2
import PyProof.Rows.EqBoolInt
import PyProof.Rows.IntBool
import KE.KUnpackStar
import KE.KIntText
import KE.KSortTup
import PySem.Challenge.RW_bankwalk_k73_known_plans
-- CHANGE: your row's module here,as the last of these rows
set_option Elab.async false
set_option genSizeOf false
set_option genInjectivity false
noncomputable section
theorem x3:type_of% @List.getElem?_cons_succ.{0}:=@List.getElem?_cons_succ.{0}
theorem x4:type_of% @List.getElem?_cons_zero.{0}:=@List.getElem?_cons_zero.{0}
theorem x5:type_of% @List.getElem_cons_zero.{0}:=@List.getElem_cons_zero.{0}
theorem x6:type_of% @List.getElem_cons_succ.{0}:=@List.getElem_cons_succ.{0}
theorem x8:type_of% @PySem.wpAny_bind:=@PySem.wpAny_bind
theorem x9:type_of% @PySem.wpAny_pure:=@PySem.wpAny_pure
theorem y0:type_of% @PySem.wpAny_mono:=@PySem.wpAny_mono
theorem y3:type_of% @PySem.Heap.get?_push_of_some:=@PySem.Heap.get?_push_of_some
theorem y4:type_of% @PySem.Heap.get?_push_size:=@PySem.Heap.get?_push_size
theorem y6:type_of% @PySem.Heap.lt_size:=@PySem.Heap.lt_size
theorem y8:type_of% @Bool.false_ne_true:=@Bool.false_ne_true
theorem y9:type_of% @PySem.sizeLine_eq:=@PySem.sizeLine_eq
theorem v0:type_of% @List.getElem?_eq_getElem.{0}:=@List.getElem?_eq_getElem.{0}
theorem v4:type_of% @Nat.zero_lt_succ:=@Nat.zero_lt_succ
theorem v5:type_of% @Nat.le_refl:=@Nat.le_refl
theorem v6:type_of% @List.mem_cons_of_mem.{0}:=@List.mem_cons_of_mem.{0}
theorem v7:type_of% @List.mem_append_right.{0}:=@List.mem_append_right.{0}
theorem v8:type_of% @Nat.lt_of_lt_of_le:=@Nat.lt_of_lt_of_le
theorem v9:type_of% @List.mem_of_getElem?.{0}:=@List.mem_of_getElem?.{0}
theorem u0:type_of% @Nat.le_trans:=@Nat.le_trans
theorem u7:type_of% @Nat.ne_of_lt:=@Nat.ne_of_lt
theorem u8:type_of% @Nat.lt_add_one:=@Nat.lt_add_one
theorem u9:type_of% @List.mem_cons_self.{0}:=@List.mem_cons_self.{0}
theorem za0:type_of% @List.getElem_mem.{0}:=@List.getElem_mem.{0}
theorem za1:type_of% @decide_eq_false:=@decide_eq_false
theorem za2:type_of% @decide_eq_true:=@decide_eq_true
def za3{α β:Type}{b:β}{f:α->β}{o:Option α}(h:o.map f=some b):=Option.map_eq_some_iff.mp h
def za4{α:Type}{l:List α}{i:Nat}{a:α}(h:l[i]?=some a):=List.getElem?_eq_some_iff.mp h
abbrev za5:PySem.Value:=.str "law_bankwalk_k73_known_plans" 436
abbrev za6:PySem.Value:=.str "bankwalk.turncheck" 422
abbrev za7:PySem.Value:=.str "bankwalk.dealings" 239
abbrev za8:PySem.Value:=.str "bankwalk.turning" 355
abbrev za9:PySem.Value:=.str "bankwalk.places" 322
abbrev zb0:PySem.Value:=.str "bankwalk.basics" 187
abbrev zb1:PySem.Str:="bankwalk.errors"
abbrev Frg:=PySem.W.Frag
open List (length_cons length_nil set_cons_zero set_cons_succ length_map not_mem_nil map_cons mem_cons getElem?_set getElem?_map cons_append size_toArray map_map mem_map length_append getD_eq_getElem?_getD mem_range length_range)
def obb{α β:Type _}{o:Option α}{f:α->Option β}{b:β}(h:o.bind f=some b):∃a,o=some a/\f a=some b:=Option.bind_eq_some_iff.mp h
set_option linter.all false
set_option maxRecDepth 100000
namespace L2
open PySem PySem.Spec PyProof.Rows
abbrev Key:=Sum Int Str
def qeh:Key->Value->Bool
 |.inl k,v=>Value.isInt k v
 |.inr x,v=>Value.isStrOf x v
def qr1 (w:World):Key->Int
 |.inl k=>hashInt k
 |.inr x=>hashStr w x
def zx:∀ {k:Key} {v:Value},qeh k v=true->(∃ i t,k=Sum.inl i/\v=Value.int i t)\/(∃ x t,k=Sum.inr x/\v=Value.str x t)
 |.inl i,v,h=>by
  obtain ⟨t,e⟩:=Value.isInt_shape (k:=i) (v:=v) h;exact .inl ⟨i,t,rfl,e⟩
 |.inr x,v,h=>by
  obtain ⟨t,e⟩:=Value.isStrOf_shape (x:=x) (v:=v) h;exact .inr ⟨x,t,rfl,e⟩
def qcp (i:Int) (t:Tok):qeh (.inl i) (.int i t)=true:=by simp [qeh,Value.isInt]
def qmc (a b:Int):decide ((Sum.inl a:Key)=Sum.inl b)=(a==b):=by
 by_cases e:a=b
 ·subst e;simp
 ·have h:¬ (Sum.inl a:Key)=Sum.inl b:=λq=>e (Sum.inl.inj q);rw [za1 h];exact (beq_eq_false_iff_ne.mpr e).symm
def qmE (a b:Str):decide ((Sum.inr a:Key)=Sum.inr b)=decide (a=b):=by
 by_cases e:a=b
 ·subst e;simp
 ·have h:¬ (Sum.inr a:Key)=Sum.inr b:=λq=>e (Sum.inr.inj q);rw [za1 h,za1 e]
def qmm (a:Int) (b:Str):decide ((Sum.inl a:Key)=Sum.inr b)=false:=za1 (λq=>nomatch q)
def qmG (a:Str) (b:Int):decide ((Sum.inr a:Key)=Sum.inl b)=false:=za1 (λq=>nomatch q)
def RJ (prog:Program) (w:World):PySem.KeyKind prog w Key where
 is:=qeh
 hash:=qr1 w
 inj:=λv a b ha hb=>by
  rcases zx ha with ⟨i,t,rfl,rfl⟩|⟨x,t,rfl,rfl⟩
  ·rcases zx hb with ⟨j,u,rfl,e⟩|⟨y,u,rfl,e⟩
   ·injection e with e1 _;rw [e1]
   ·exact nomatch e
  ·rcases zx hb with ⟨j,u,rfl,e⟩|⟨y,u,rfl,e⟩
   ·exact nomatch e
   ·injection e with e1 _;rw [e1]
 byValue:=λk v h=>by
  rcases zx h with ⟨i,t,rfl,rfl⟩|⟨x,t,rfl,rfl⟩<;>rfl
 pyHash:=λhv h=>by
  rcases zx hv with ⟨i,t,rfl,rfl⟩|⟨x,t,rfl,rfl⟩
  ·exact wpAny_pyHash_int h
  ·exact wpAny_pyHash_str h
 eqBool:=λhu hv h=>by
  rcases zx hu with ⟨i,t,rfl,rfl⟩|⟨x,t,rfl,rfl⟩
  ·rcases zx hv with ⟨j,u,rfl,rfl⟩|⟨y,u,rfl,rfl⟩
   ·rw [qmc] at h;exact wpAny_eqBool_int h
   ·rw [qmm] at h;exact SeqAt.EqAt.int_str i t y u _ _ _ _ h
  ·rcases zx hv with ⟨j,u,rfl,rfl⟩|⟨y,u,rfl,rfl⟩
   ·rw [qmG] at h;exact SeqAt.EqAt.str_int x t j u _ _ _ _ h
   ·rw [qmE] at h;exact wpAny_eqBool_str h
 «strs»:=λk x t v h=>by
  rcases zx h with ⟨i,u,rfl,e⟩|⟨y,u,rfl,e⟩
  ·exact nomatch e
  ·injection e with e1 _;subst e1;cases v<;>rfl
set_option genInjectivity true in
inductive V where
 |non|bl (b:Bool)|int (i:Int)|str (x:Str)|byt (b:Array UInt8)|flt (b:UInt64)|ref (a:Addr)|ty (n:String)
 deriving DecidableEq
def jx:V->Value->Prop
 |.non,u=>u=Value.none
 |.bl b,u=>u=Value.bool b
 |.int i,u=>∃ t,u=Value.int i t
 |.str x,u=>∃ t,u=Value.str x t
 |.byt b,u=>∃ t,u=Value.bytes b t
 |.flt b,u=>∃ t,u=Value.float b t
 |.ref a,u=>u=Value.ref a
 |.ty n,u=>u=Value.type n
abbrev zt:List V->List Value->Prop:=Paired jx
theorem zt.length {xs:List V} {us:List Value} (r:zt xs us):xs.length=us.length:=Paired.length r
theorem zt.get:∀ {xs:List V} {us:List Value} {i:Nat} {x:V},zt xs us->xs[i]?=some x->∃ u,us[i]?=some u/\jx x u
 |_,_,_,_,.nil,e=>by simp at e
 |_,_,0,_,.cons r _,e=>by simp at e;subst e;exact ⟨_,rfl,r⟩
 |_,_,i+1,x,.cons _ t,e=>by
  obtain ⟨u,h1,h2⟩:=zt.get (i:=i) (x:=x) t (by simpa using e);exact ⟨u,by simpa using h1,h2⟩
theorem zt.set {x:V} {u:Value} (r:jx x u):∀ {xs:List V} {us:List Value} (i:Nat),zt xs us->zt (xs.set i x) (us.set i u)
 |_,_,_,.nil=>.nil
 |_,_,0,.cons _ t=>.cons r t
 |_,_,i+1,.cons q t=>.cons q (zt.set r i t)
theorem zt.append:∀ {xs ys:List V} {us ws:List Value},zt xs us->zt ys ws->zt (xs++ys) (us++ws)
 |_,_,_,_,.nil,s=>s
 |_,_,_,_,.cons r t,s=>.cons r (zt.append t s)
theorem zt.take:∀ {xs:List V} {us:List Value} (n:Nat),zt xs us->zt (xs.take n) (us.take n)
 |_,_,0,_=>.nil
 |_,_,_+1,.nil=>.nil
 |_,_,n+1,.cons r t=>.cons r (zt.take n t)
theorem zt.drop:∀ {xs:List V} {us:List Value} (n:Nat),zt xs us->zt (xs.drop n) (us.drop n)
 |_,_,0,r=>r
 |_,_,_+1,.nil=>.nil
 |_,_,n+1,.cons _ t=>zt.drop n t
def qq8:Option V->Option Value->Prop
 |some v,some u=>jx v u
 |none,none=>True
 |_,_=>False
def KV {κ:Type}:List (κ×V)->List (κ×Value)->Prop:=Paired λ(p:κ×V) (q:κ×Value)=>p.1=q.1/\jx p.2 q.2
def kV:Key->V
 |.inl i=>.int i
 |.inr x=>.str x
inductive HO where
 /-- a list -/
 |lst (xs:List V)
 /-- a tuple (never changes) -/
 |tup (xs:List V)
 /-- a dict whose keys are ints and texts;one whose keys are tuples of ints and texts (the empty one is both) -/
 |dK (kvs:List (Key×V))|dT (kvs:List (List Key×V))
 /-- a set of ints: its members,its size -/
 |set (S:Int->Bool) (n:Nat)
 /-- an instance of the class at C,its dict at dx,its attributes -/
 |ins (C dx:Addr) (fs:List (Str×V))
 /-- the dict of the instance at x -/
 |own (x:Addr)
 /-- the dict of an exception -/
 |xd (fs:List (Str×V))
 /-- a bound method,f of x -/
 |met (f x:Addr)
 /-- a range object lo,lo+1,.. below hi -/
 |rng (lo hi:Int)
 /-- a thing that is known to the object (the script;a dict while a loop walks it): read,never written while it is so -/
 |frz (o:Obj) (u:HO)
 /-- a code object's table -/
 |tbl (ps:Array Value)
 /-- any other thing,by what is true of its one object (a def of one's own: SetO a S n:=HO.ext λh=>..) -/
 |ext (φ:Heap->Prop)
abbrev Hp:=Addr->Option HO
def upd (H:Hp) (a:Addr) (o:HO):Hp:=λb=>if b=a then some o else H b
def qM {H:Hp} {a:Addr} {o:HO}:upd H a o a=some o:=by unfold upd;rw [if_pos rfl]
def qt {H:Hp} {a b:Addr} {o:HO} (h:b≠a):upd H a o b=H b:=by unfold upd;rw [if_neg h]
def qw {H:Hp} {a b:Addr} {o:HO} (h:H a=some o) (h':H b=none):a≠b:=by
 intro e;subst e;rw [h] at h';cases h'
def YJ (h:Heap) (a:Addr) (items:Array Value):Prop:=∃ o,h.get? a=some o/\o.cls=.type "tuple"/\∃ n,o.data=.seq items n/\o.dict=none
def YJ.tup {h:Heap} {a:Addr} {items:Array Value} (x:YJ h a items):IsTup h a items:=let ⟨o,a,b,n,d,_⟩:=x;⟨o,a,b,n,d⟩
def YJ.new (h:Heap) (items:Array Value):YJ (h.push { cls:=.type "tuple",data:=.seq items }) h.objs.size items:=⟨_,y4 _ rfl,rfl,_,rfl,rfl⟩
section
variable (P:Program) (w:World)
def JX (H:Hp) (h:Heap) (a:Addr):HO->Prop
 |.lst xs=>xs.length<=sizeLine/\∃ (its:List Value) (n:Nat),zt xs its/\h.get? a=some { cls:=.type "list",data:=.seq its.toArray n }
 |.tup xs=>xs.length<=sizeLine/\∃ its:List Value,zt xs its/\YJ h a its.toArray
 |.dK kvs=>kvs.length<=sizeLine/\(a==sysModules)=false/\∃ vs,KV kvs vs/\h.DictOf (RJ P w) a vs
 |.dT kvs=>kvs.length<=sizeLine/\(a==sysModules)=false/\∃ xs:List (List Key×Addr×Value),
   Paired (λ(p:List Key×V) (q:List Key×Addr×Value)=>p.1=q.1/\H q.2.1=some (.tup (p.1.map kV))/\jx p.2 q.2.2) kvs xs /\
   ∃ o es ep,h.get? a=some o/\o.ExactDict/\o.data=.dict es ep/\es.toList=xs.map (entryOfKey (tupleKind (RJ P w)))/\(xs.map (·.1)).Nodup
 |.set S n=>h.SetOf (intKind P w) a S n
 |.ins C dx fs=>H dx=some (.own a)/\fs.length<=1000/\dx≠a/\h.get? a=some (PySem.W.instObj C dx) /\
   ∃ mA,h.Ns1 dx mA/\(∀ f,qq8 (fs.lookup f) (mA f))/\PySem.Within mA (fs.map (·.1))
 |.own _=>∃ o,h.get? a=some o
 |.xd fs=>∃ mA,h.Ns1 a mA/\∀ f,qq8 (fs.lookup f) (mA f)
 |.rng lo hi=>∃ t u v,h.get? a=some { cls:=.type "range",data:=.fields #[.int lo t,.int hi u,.int 1 v] }
 |.frz o u=>h.get? a=some o/\JX H h a u
 |.tbl ps=>h.get? a=some { cls:=.none,data:=.fields ps }
 |.met f x=>h.get? a=some (PySem.W.methodObj (.ref f) (.ref x))
 |.ext φ=>φ h/\(∃ o,h.get? a=some o)/\∀ h1 h2:Heap,φ h1->(∀ o,h1.get? a=some o->h2.get? a=some o)->φ h2
def HOk (H:Hp) (h:Heap):Prop:=∀ a o,H a=some o->JX P w H h a o
end
section
variable {P:Program} {w:World} {H H':Hp} {h h':Heap} {a:Addr} {o:HO}
theorem JX.lt (x:JX P w H h a o):a<h.objs.size:=by
 cases o with
 |lst xs=>obtain ⟨_,_,_,_,e⟩:=x;exact y6 e
 |tup xs=>obtain ⟨_,_,_,p⟩:=x;exact p.tup.lt
 |dK kvs=>obtain ⟨_,_,_,_,o,_,_,e,_⟩:=x;exact y6 e
 |dT kvs=>obtain ⟨_,_,_,_,o,_,_,e,_⟩:=x;exact y6 e
 |set S n=>obtain ⟨o,_,_,_,e,_⟩:=x;exact y6 e
 |ins C dx fs=>obtain ⟨_,_,_,e,_⟩:=x;exact y6 e
 |own y=>obtain ⟨_,e⟩:=x;exact y6 e
 |xd fs=>obtain ⟨_,⟨_,_,_,e,_⟩,_⟩:=x;exact y6 e
 |rng lo hi=>obtain ⟨_,_,_,e⟩:=x;exact y6 e
 |frz ob u=>obtain ⟨e,_⟩:=x;exact y6 e
 |tbl ps=>exact y6 (show h.get? a=some _ from x)
 |met f y=>exact y6 (show h.get? a=some _ from x)
 |ext φ=>obtain ⟨_,⟨_,e⟩,_⟩:=x;exact y6 e
theorem Paired.mapP {α β:Type} {F G:α->β->Prop}:∀ {l₁:List α} {l₂:List β},Paired F l₁ l₂->(∀ a b,F a b->G a b)->Paired G l₁ l₂
 |_,_,.nil,_=>.nil
 |_,_,.cons r t,f=>.cons (f _ _ r) (Paired.mapP t f)
def JX.stay (x:JX P w H h a o) (k:∀ b u,(b=a\/H b=some (.own a))->h.get? b=some u->h'.get? b=some u)
  (ho:∀ b,H b=some (.own a)->H' b=some (.own a)) (ht:∀ b xs,H b=some (.tup xs)->H' b=some (.tup xs)):JX P w H' h' a o:=by
 induction o with
 |lst xs=>obtain ⟨z,its,n,r,e⟩:=x;exact ⟨z,its,n,r,k _ _ (.inl rfl) e⟩
 |tup xs=>obtain ⟨z,its,r,ob,e,c⟩:=x;exact ⟨z,its,r,ob,k _ _ (.inl rfl) e,c⟩
 |dK kvs=>obtain ⟨z,y,vs,r,ob,es,ep,e,c⟩:=x;exact ⟨z,y,vs,r,ob,es,ep,k _ _ (.inl rfl) e,c⟩
 |dT kvs=>
  obtain ⟨z,y,xs,r,ob,es,ep,e,c⟩:=x;exact ⟨z,y,xs,Paired.mapP r λp q z=>⟨z.1,ht _ _ z.2.1,z.2.2⟩,ob,es,ep,k _ _ (.inl rfl) e,c⟩
 |set S n=>obtain ⟨ob,es,ep,t,e,c⟩:=x;exact ⟨ob,es,ep,t,k _ _ (.inl rfl) e,c⟩
 |ins C dx fs=>
  obtain ⟨d,z,ne,e,mA,⟨od,es,ep,e2,c⟩,r⟩:=x;exact ⟨ho _ d,z,ne,k _ _ (.inl rfl) e,mA,⟨od,es,ep,k _ _ (.inr d) e2,c⟩,r⟩
 |own y=>obtain ⟨ob,e⟩:=x;exact ⟨ob,k _ _ (.inl rfl) e⟩
 |xd fs=>obtain ⟨mA,⟨od,es,ep,e,c⟩,r⟩:=x;exact ⟨mA,⟨od,es,ep,k _ _ (.inl rfl) e,c⟩,r⟩
 |rng lo hi=>obtain ⟨t,u,v,e⟩:=x;exact ⟨t,u,v,k _ _ (.inl rfl) e⟩
 |frz ob u ih=>obtain ⟨e,q⟩:=x;exact ⟨k _ _ (.inl rfl) e,ih q⟩
 |tbl ps=>
  have e:h.get? a=some { cls:=.none,data:=.fields ps }:=x;show h'.get? a=some { cls:=.none,data:=.fields ps };exact k a _ (.inl rfl) e
 |met f y=>
  have e:h.get? a=some (PySem.W.methodObj (.ref f) (.ref y)):=x;show h'.get? a=some (PySem.W.methodObj (.ref f) (.ref y));exact k a _ (.inl rfl) e
 |ext φ=>obtain ⟨p,⟨o,e⟩,st⟩:=x;exact ⟨st _ _ p λo q=>k _ _ (.inl rfl) q,⟨o,k _ _ (.inl rfl) e⟩,st⟩
theorem HOk.lt (x:HOk P w H h) (e:H a=some o):a<h.objs.size:=(x a o e).lt
def HOk.fresh (x:HOk P w H h) (e:h.objs.size<=a):H a=none:=by
 cases q:H a with
 |none=>rfl
 |some u=>exact absurd (v8 (x.lt q) e) (Nat.lt_irrefl _)
def HOk.kept (x:HOk P w H h) (k:∀ b u,h.get? b=some u->h'.get? b=some u):HOk P w H h':=λa o e=>
 (x a o e).stay (λb u _ q=>k b u q) (λ_ q=>q) λ_ _ q=>q
def HOk.laid (x:HOk P w H h) (k:∀ b u,h.get? b=some u->h'.get? b=some u) (hp:h.objs.size<=a) (new:JX P w (upd H a o) h' a o):HOk P w (upd H a o) h':=λb u e=>by
 have hn:=x.fresh hp;by_cases hb:b=a
 ·subst hb;rw [qM] at e;cases e;exact new
 ·rw [qt hb] at e;exact (x b u e).stay (λc v _ q=>k c v q) (λc q=>by rw [qt (qw q hn)];exact q) λc xs q=>by rw [qt (qw q hn)];exact q
end
def Rd (H:Hp) (a:Addr) (u:HO):Prop:=H a=some u\/∃ o,H a=some (.frz o u)
def Rd.ok {P:Program} {w:World} {H:Hp} {h:Heap} {a:Addr} {u:HO} (r:Rd H a u) (x:HOk P w H h):JX P w H h a u:=by
 rcases r with r|⟨o,r⟩
 ·exact x a u r
 ·obtain ⟨_,q⟩:=x a _ r;exact q
def Mut:Option HO->Prop
 |some (.lst _)=>True
 |some (.dK _)=>True
 |some (.dT _)=>True
 |some (.set _ _)=>True
 |some (.ins _ _ _)=>True
 |some (.ext _)=>True
 |_=>False
section
variable {P:Program} {w:World} {H:Hp} {h h':Heap} {x e:Addr} {o':HO}
def HOk.write (ok:HOk P w H h) (mu:Mut (H x)) (he:e=x\/H e=some (.own x)) (k:∀ b u,b≠e->h.get? b=some u->h'.get? b=some u) (heo:∃ u,h'.get? e=some u)
  (new:JX P w (upd H x o') h' x o'):HOk P w (upd H x o') h':=λb u q=>by
 have nown:∀ c y,H c=some (.own y)->c≠x:=λc y r z=>by subst z;rw [r] at mu;exact mu
 have ntup:∀ c xs,H c=some (.tup xs)->c≠x:=λc xs r z=>by subst z;rw [r] at mu;exact mu
 by_cases hb:b=x
 ·subst hb;rw [qM] at q;cases q;exact new
 ·rw [qt hb] at q;by_cases hbe:b=e
  ·have q':H b=some (.own x):=by
    rcases he with z|z
    ·exact absurd (hbe.trans z) hb
    ·rw [hbe];exact z
   rw [q] at q';cases q';obtain ⟨v,hv⟩:=heo;exact ⟨v,by rw [hbe];exact hv⟩
  ·refine (ok b u q).stay (λc v hc r=>k c v ?_ r) (λc r=>by rw [qt (nown c b r)];exact r) λc xs r=>by rw [qt (ntup c xs r)];exact r
   rcases hc with rfl|hc
   ·exact hbe
   ·rintro rfl;rcases he with z|z
    ·exact nown c b hc z
    ·rw [hc] at z;cases z;exact hb rfl
end
structure Un (fs ex:List Addr) (H H':Hp) (h h':Heap):Prop where
 keep:∀ b o,h.get? b=some o->H b=none->b∉fs->b∉ex->h'.get? b=some o
 slot:∀ b o,h.get? b=some o->H b=none->b∈fs->b∉ex->∃ sl,h'.get? b=some { o with slots:=sl }
 free:∀ b o,h.get? b=some o->H b=none->b∉ex->H' b=none
 there:∀ b o,h.get? b=some o->b∉ex->∃ o',h'.get? b=some o'
 tups:∀ b xs,H b=some (.tup xs)->H' b=some (.tup xs)
 frzs:∀ b o u,H b=some (.frz o u)->H' b=some (.frz o u)
 tbls:∀ b ps,H b=some (.tbl ps)->∃ more,H' b=some (.tbl (ps++more))
section
variable {fs fs' ex ex':List Addr} {H H1 H2:Hp} {h h1 h2 h':Heap} {a x e:Addr} {o:HO}
def Un.any (u:Un fs ex H H1 h h1) {b:Addr} {ob:Obj} (q:h.get? b=some ob) (n:H b=none) (hx:b∉ex):∃ sl,h1.get? b=some { ob with slots:=sl }:=by
 by_cases hb:b∈fs
 ·exact u.slot b ob q n hb hx
 ·exact ⟨ob.slots,u.keep b ob q n hb hx⟩
def Un.kept (k:∀ b u,h.get? b=some u->h'.get? b=some u):Un fs ex H H h h':=
 ⟨λb ob q _ _ _=>k b ob q,λb ob q _ _ _=>⟨ob.slots,k b ob q⟩,λ_ _ _ n _=>n,λb ob q _=>⟨ob,k b ob q⟩,λ_ _ q=>q,λ_ _ _ q=>q,λ_ ps q=>⟨#[],by rw [q];simp⟩⟩
def Un.refl:Un fs ex H H h h:=Un.kept λ_ _ q=>q
def Un.laid (k:∀ b u,h.get? b=some u->h'.get? b=some u) (hp:h.objs.size<=a) (hn:H a=none):Un fs ex H (upd H a o) h h' where
 keep:=λb u q _ _ _=>k b u q
 slot:=λb u q _ _ _=>⟨u.slots,k b u q⟩
 free:=λb u q n _=>by rw [qt (u7 (v8 (y6 q) hp))];exact n
 there:=λb u q _=>⟨u,k b u q⟩
 tups:=λb xs q=>by rw [qt (qw q hn)];exact q
 frzs:=λb u xs q=>by rw [qt (qw q hn)];exact q
 tbls:=λb ps q=>⟨#[],by rw [qt (qw q hn),q];simp⟩
def Un.write (mu:Mut (H x)) (he:e=x\/H e=some (.own x)) (k:∀ b u,b≠e->h.get? b=some u->h'.get? b=some u) (heo:∃ u,h'.get? e=some u):Un fs ex H (upd H x o) h h':=by
 have hx:∀ b,H b=none->b≠x:=λb n z=>by subst z;rw [n] at mu;exact mu
 have hb:∀ b,H b=none->b≠e:=λb n z=>by
  subst z;rcases he with r|r
  ·exact hx b n r
  ·rw [n] at r;cases r
 have hm:∀ b u,H b=some u->¬ Mut (some u)->b≠x:=λb u q nm z=>by subst z;rw [q] at mu;exact nm mu
 refine ⟨λb u q n _ _=>k b u (hb b n) q,λb u q n _ _=>⟨u.slots,k b u (hb b n) q⟩,λb u q n _=>by rw [qt (hx b n)];exact n,λb u q _=>?_,
  λb xs q=>by rw [qt (hm b _ q λz=>z)];exact q,λb u xs q=>by rw [qt (hm b _ q λz=>z)];exact q,λb ps q=>⟨#[],by rw [qt (hm b _ q λz=>z),q];simp⟩⟩
 by_cases hbe:b=e
 ·subst hbe;exact heo
 ·exact ⟨u,k b u hbe q⟩
end
def trk (h:Heap) (H:Hp):List Addr:=(List.range h.objs.size).filter λa=>(H a).isSome
def qdy (h:Heap) (H:Hp):Heap:=PySem.W.hideAll h (trk h H)
def qcr (h:Heap) (H:Hp):(qdy h H).objs.size=h.objs.size:=PySem.W.hideAll_size _ _
def qeC {h:Heap} {H:Hp} {b:Addr} {o:Obj} (e:h.get? b=some o) (n:H b=none):(qdy h H).get? b=some o:=
 PySem.W.hideAll_get _ e λhm=>by
  have q:(H b).isSome=true:=(List.mem_filter.mp hm).2;rw [n] at q;simp at q
def qgP {h:Heap} {H:Hp} {b:Addr} {o:Obj} (e:(qdy h H).get? b=some o):h.get? b=some o/\H b=none:=by
 have e':h.get? b=some o:=PySem.W.of_hideAll (trk h H) e;refine ⟨e',?_⟩;cases q:H b with
 |none=>rfl
 |some x=>
  have hm:b∈trk h H:=List.mem_filter.mpr ⟨mem_range.mpr (y6 e'),by simp [q]⟩;have z:(qdy h H).get? b=none:=PySem.W.hideAll_none (trk h H) hm;rw [z] at e;cases e
def qiR (g h:Heap) (L:Addr):List (Addr×Obj):=(List.range h.objs.size).filterMap λa=>if a=L\/(g.get? a).isSome=true then none else (h.get? a).map λo=>(a,o)
def Z1 (g h:Heap) (L d:Addr):List (Addr×Obj):=(qiR g h L).filter λp=>decide (p.1≠d)
structure Mod (K:Frg) (mg:Str->Option Value) (base:Heap):Prop where
 kin:K.In base
 glob:base.Ns mainGlobals mg
 blt:∃ mb,base.Ns builtinsNs mb/\∀ x:Str,x≠"__name__" -> mb x=bootBuiltins x
 nolimit:base.NoLimit
structure Cx where
 prog:Program
 w:World
 K:PySem.W.Frag
 mg:Str->Option Value
 base:Heap
 A:Around
 N:List Str
 s₀:Shared
 H₀:Hp
 env:Env
 outer:List Env
 stack:List Env
 ex:List Addr
 fn:Str->Bool
 calm:Bool
 pn:List (Addr×Obj)
 xe:Value->Shared->Prop
def frs (l:List Env):List Addr:=l.filterMap (·.frame)
abbrev Cx.fs (X:Cx):List Addr:=frs X.outer
def Vis (sc:Scope) (x:Str):Prop:=sc.names.lookup x=some .local\/sc.names.lookup x=some .cell\/sc.names.lookup x=some .free
def Loc (sc:Scope) (x:Str):Prop:=sc.names.lookup x=some .local\/sc.names.lookup x=some .cell
def qr3 (env:Env) (h:Heap) (m:Str->Option Value) (x:Str) (u:Value):Prop:=
 (env.kindOf x=some .local/\m x=some u)\/((env.kindOf x=some .cell\/env.kindOf x=some .free)/\∃ c,env.cells.lookup x=some c/\h.IsCell c (some u))
structure Cx.Ok (X:Cx):Prop where
 mod:Mod X.K X.mg X.base
 kind:X.env.scope.kind=.function
 glob:X.env.globals=mainGlobals
 blt:X.env.builtins=builtinsNs
 above:X.s₀.heap.objs.size<=X.env.locals
 inj:∀ x y c,X.env.cells.lookup x=some c->X.env.cells.lookup y=some c->x=y
 has:∀ x,(X.env.kindOf x=some .cell\/X.env.kindOf x=some .free)->∃ c,X.env.cells.lookup x=some c
 cab:∀ x c,X.fn x=true->X.env.cells.lookup x=some c->X.s₀.heap.objs.size<=c
 hd:X.calm=true->X.A.handled=none
 frames:X.A.frames=some X.stack
 stk:X.stack=X.outer\/(X.stack=X.env::X.outer/\X.env.frame=some X.env.locals)
 exf:∀ b∈X.ex,b≠X.env.locals/\∀ x c,X.env.cells.lookup x=some c->c≠b
 bs:∀ b o,X.base.get? b=some o->X.s₀.heap.get? b=some o/\X.H₀ b=none
 bsz:X.base.objs.size<=X.s₀.heap.objs.size
 noex:∀ b o,X.base.get? b=some o->b∉X.ex
 exfs:∀ b∈X.ex,b∉X.fs
 funs:X.s₀.heap.FunFrames X.base X.outer
 frf:∀ b∈X.fs,X.H₀ b=none
structure Inv (X:Cx) (pins:List (Addr×Obj)) (σ:List (Option V)) (H:Hp) (s:Shared):Prop where
 ok:X.Ok
 os:s.os=X.s₀.os
 bare:AllBare s.gens
 base:Un X.fs X.ex X.H₀ H X.s₀.heap s.heap
 loc:∃ m,s.heap.Ns X.env.locals m/\∀ (i:Nat) (x:Str) (v:V),X.N[i]?=some x->σ[i]?=some (some v)->Vis X.env.scope x->∃ u,jx v u/\qr3 X.env s.heap m x u
 cell:∀ x c,X.env.cells.lookup x=some c->∃ v,s.heap.IsCell c v
 free:H X.env.locals=none
 freeC:∀ x c,X.env.cells.lookup x=some c->H c=none
 pin:∀ p∈X.pn++pins,s.heap.get? p.1=some p.2/\H p.1=none/\p.1≠X.env.locals/\p.1∉X.fs/\∀ v,p.2.data≠.cell v
 hok:HOk X.prog X.w H s.heap
 len:σ.length=X.N.length
section
variable {X:Cx} {pins:List (Addr×Obj)} {σ:List (Option V)} {H H':Hp} {s:Shared} {h':Heap}
def Cx.Ok.nofr (ok:X.Ok) {b:Addr} {o:Obj} (e:X.base.get? b=some o):b∉X.fs:=λhb=>by
 have:=(ok.funs.mem hb).1;rw [e] at this;cases this
theorem Inv.bs (I:Inv X pins σ H s):∀ b o,X.base.get? b=some o->s.heap.get? b=some o/\H b=none:=λb o e=>
 ⟨I.base.keep b o (I.ok.bs b o e).1 (I.ok.bs b o e).2 (I.ok.nofr e) (I.ok.noex b o e),I.base.free b o (I.ok.bs b o e).1 (I.ok.bs b o e).2 (I.ok.noex b o e)⟩
def Inv.bk (I:Inv X pins σ H s):∀ b o,X.base.get? b=some o->s.heap.get? b=some o:=λb o e=>(I.bs b o e).1
theorem Inv.mod (I:Inv X pins σ H s):Mod X.K X.mg X.base:=I.ok.mod
def Inv.kIn (I:Inv X pins σ H s):X.K.In s.heap:=I.ok.mod.kin.keeps I.bk
theorem Inv.nolimit (I:Inv X pins σ H s):s.heap.NoLimit:=I.ok.mod.nolimit.keeps I.bk
def Inv.fr (I:Inv X pins σ H s):∃ m,Fr X.base X.env.locals s.heap m:=
 let ⟨m,hn,_⟩:=I.loc
 ⟨m,hn,I.bk,u0 I.ok.bsz I.ok.above⟩
theorem Inv.lt (I:Inv X pins σ H s):X.env.locals<s.heap.objs.size:=let ⟨_,hn,_⟩:=I.loc;hn.lt
def Inv.sz (I:Inv X pins σ H s):X.s₀.heap.objs.size<=s.heap.objs.size:=u0 I.ok.above (Nat.le_of_lt I.lt)
def Inv.nofs (I:Inv X pins σ H s) {a:Addr} (h:s.heap.objs.size<=a):a∉X.fs:=λhb=>by
 obtain ⟨_,o,ho,_⟩:=I.ok.funs.mem hb;exact absurd (v8 (y6 ho) (u0 I.sz h)) (Nat.lt_irrefl _)
def Inv.cne (I:Inv X pins σ H s):∀ x c,X.env.cells.lookup x=some c->c≠X.env.locals:=λx c e z=>by
 obtain ⟨v,o,ho,hd⟩:=I.cell x c e;obtain ⟨m,⟨o',es,ep,ho',hd',_⟩,_⟩:=I.loc;rw [z,ho'] at ho;cases ho;rw [hd'] at hd;cases hd
theorem Inv.funs (I:Inv X pins σ H s):s.heap.FunFrames X.base X.outer:=by
 have all:∀ (l:List Env),(∀ b∈frs l,b∈X.fs)->X.s₀.heap.FunFrames X.base l->s.heap.FunFrames X.base l:=by
  intro l;induction l with
  |nil=>intro _ _;trivial
  |cons env r ih=>
   intro hs hl;obtain ⟨hk,⟨L,o,hf,hn,ho,hd⟩,hr⟩:=hl;have hL:L∈X.fs:=hs L (by unfold frs;rw [List.filterMap_cons,hf];exact u9);obtain ⟨sl,e⟩:=I.base.slot L o ho (I.ok.frf L hL) hL λz=>I.ok.exfs L z hL;exact ⟨hk,⟨L,_,hf,hn,e,hd⟩,ih (λb hb=>hs b (by unfold frs;rw [List.filterMap_cons,hf];exact v6 _ hb)) hr⟩
 exact all X.outer (λ_ hb=>hb) I.ok.funs
theorem Inv.stack (I:Inv X pins σ H s):s.heap.FunFrames X.base X.stack:=by
 rcases I.ok.stk with e|⟨e,hf⟩
 ·rw [e];exact I.funs
 ·rw [e];obtain ⟨m,hn,_⟩:=I.loc;refine .cons (by rw [I.ok.kind];decide) hf hn ?_ I.funs;exact Heap.get?_none_of_le (u0 I.ok.bsz I.ok.above)
def Inv.stkSub (I:Inv X pins σ H s):∀ b∈frs X.stack,b∈X.env.locals::X.fs:=λb hb=>by
 rcases I.ok.stk with e|⟨e,hf⟩
 ·rw [e] at hb;exact v6 _ hb
 ·rw [e] at hb;unfold frs at hb;rw [List.filterMap_cons,hf] at hb;exact hb
def Inv.stkFree (I:Inv X pins σ H s):∀ b∈frs X.stack,H b=none:=λb hb=>by
 rcases mem_cons.mp (I.stkSub b hb) with e|hb
 ·rw [e];exact I.free
 ·obtain ⟨_,o,ho,_⟩:=I.ok.funs.mem hb;exact I.base.free b o ho (I.ok.frf b hb) λz=>I.ok.exfs b z hb
def Inv.step {g':Array GenState} {t':Nat} {d':Drawn} {ch:List Addr} (I:Inv X pins σ H s)
  (hch:∀ b∈ch,(b∈X.ex\/X.s₀.heap.objs.size<=b)/\b≠X.env.locals/\(∀ x c,X.env.cells.lookup x=some c->c≠b)/\∀ p∈X.pn++pins,p.1≠b)
  (keep:∀ b o,b≠X.env.locals->b∉X.fs->b∉ch->s.heap.get? b=some o->H b=none->h'.get? b=some o)
  (slot:∀ b o,b≠X.env.locals->b∈X.fs->b∉ch->s.heap.get? b=some o->H b=none->∃ sl,h'.get? b=some { o with slots:=sl }) (free:∀ b o,b∉ch->s.heap.get? b=some o->H b=none->H' b=none)
  (there:∀ b o,b∉ch->s.heap.get? b=some o->∃ o',h'.get? b=some o')
  (tups:∀ b xs,H b=some (.tup xs)->H' b=some (.tup xs)) (frzs:∀ b o u,H b=some (.frz o u)->H' b=some (.frz o u)) (tbls:∀ b ps,H b=some (.tbl ps)->∃ more,H' b=some (.tbl (ps++more)))
  (ns:∀ m,s.heap.Ns X.env.locals m->h'.Ns X.env.locals m) (hok:HOk X.prog X.w H' h') (hg:AllBare g') :
  Inv X pins σ H' { s with heap:=h',gens:=g',drawn:=d',toks:=t' }:=by
 have neL:∀ b o,X.s₀.heap.get? b=some o->b≠X.env.locals:=λb o e=>u7 (v8 (y6 e) I.ok.above);have neC:∀ b o,X.s₀.heap.get? b=some o->b∉X.ex->b∉ch:=λb o e hx hb=>by
  rcases (hch b hb).1 with z|z
  ·exact hx z
  ·exact absurd (v8 (y6 e) z) (Nat.lt_irrefl _)
 have cellK:∀ x c,X.env.cells.lookup x=some c->∀ v,s.heap.IsCell c v->h'.IsCell c v:=λx c e v ⟨o,ho,hd⟩=>by
  have nch:c∉ch:=λz=>(hch c z).2.2.1 x c e rfl;by_cases hc:c∈X.fs
  ·obtain ⟨sl,q⟩:=slot c o (I.cne x c e) hc nch ho (I.freeC x c e);exact ⟨_,q,hd⟩
  ·exact ⟨o,keep c o (I.cne x c e) hc nch ho (I.freeC x c e),hd⟩
 refine ⟨I.ok,I.os,hg,⟨λb o e n hb hx=>?_,λb o e n hb hx=>?_,λb o e n hx=>?_,λb o e hx=>?_,λb xs e=>tups b xs (I.base.tups b xs e),λb o xs e=>frzs b o xs (I.base.frzs b o xs e),λb ps e=>?_⟩,?_,λx c e=>?_,?_,λx c e=>?_,λp hp=>?_,hok,I.len⟩
 ·exact keep b o (neL b o e) hb (neC b o e hx) (I.base.keep b o e n hb hx) (I.base.free b o e n hx)
 ·obtain ⟨sl,e1⟩:=I.base.slot b o e n hb hx;obtain ⟨sl',e2⟩:=slot b _ (neL b o e) hb (neC b o e hx) e1 (I.base.free b o e n hx);exact ⟨sl',e2⟩
 ·obtain ⟨o',e1⟩:=I.base.there b o e hx;exact free b o' (neC b o e hx) e1 (I.base.free b o e n hx)
 ·obtain ⟨o',e1⟩:=I.base.there b o e hx;exact there b o' (neC b o e hx) e1
 ·obtain ⟨m1,e1⟩:=I.base.tbls b ps e;obtain ⟨m2,e2⟩:=tbls b _ e1;exact ⟨m1++m2,by rw [e2,Array.append_assoc]⟩
 ·obtain ⟨m,hn,hl⟩:=I.loc;refine ⟨m,ns m hn,λi x v e1 e2 e3=>?_⟩;obtain ⟨u,r,l⟩:=hl i x v e1 e2 e3;refine ⟨u,r,?_⟩;rcases l with l|⟨k,c,e,z⟩
  ·exact .inl l
  ·exact .inr ⟨k,c,e,cellK x c e _ z⟩
 ·obtain ⟨v,z⟩:=I.cell x c e;exact ⟨v,cellK x c e v z⟩
 ·obtain ⟨m,⟨o,_,_,ho,_⟩,_⟩:=I.loc;exact free _ o (λz=>(hch _ z).2.1 rfl) ho I.free
 ·obtain ⟨v,o,ho,hd⟩:=I.cell x c e;exact free c o (λz=>(hch c z).2.2.1 x c e rfl) ho (I.freeC x c e)
 ·obtain ⟨e,n,ne,nf,d⟩:=I.pin p hp;have nch:p.1∉ch:=λz=>(hch p.1 z).2.2.2 p hp rfl;exact ⟨keep p.1 p.2 ne nf nch e n,free p.1 p.2 nch e n,ne,nf,d⟩
def Inv.un {t':Nat} (I:Inv X pins σ H s) (u:Un X.fs [] H H' s.heap h') (hok:HOk X.prog X.w H' h'):Inv X pins σ H' { s with heap:=h',toks:=t' }:=by
 obtain ⟨m,⟨o,es,ep,ho,r⟩,_⟩:=id I.loc;obtain ⟨sl,hL⟩:=u.any ho I.free (by simp);exact I.step (g':=s.gens) (d':=s.drawn) (ch:=[]) (λ_ z=>nomatch z) (λb o _ hb _ e n=>u.keep b o e n hb (by simp)) (λb o _ hb _ e n=>u.slot b o e n hb (by simp)) (λb o _ e n=>u.free b o e n (by simp)) (λb o _ e=>u.there b o e (by simp)) u.tups u.frzs u.tbls (λm' hm=>by
  obtain ⟨o',es',ep',ho',r'⟩:=hm;rw [ho] at ho';cases ho';exact ⟨_,es',ep',hL,r'⟩) hok I.bare
def Inv.call {g':Array GenState} {t':Nat} {d':Drawn} {ch:List Addr} (I:Inv X pins σ H s) (u:Un (frs X.stack) ch H H' s.heap h') (hok:HOk X.prog X.w H' h') (hg:AllBare g')
  (hch:∀ b∈ch,(b∈X.ex\/X.s₀.heap.objs.size<=b)/\b≠X.env.locals/\(∀ x c,X.env.cells.lookup x=some c->c≠b)/\∀ p∈X.pn++pins,p.1≠b) :
  Inv X pins σ H' { s with heap:=h',gens:=g',drawn:=d',toks:=t' }:=by
 obtain ⟨m,⟨o,es,ep,ho,r⟩,_⟩:=id I.loc;obtain ⟨sl,hL⟩:=u.any ho I.free λz=>(hch _ z).2.1 rfl;exact I.step (ch:=ch) hch (λb o hL hb hc e n=>u.keep b o e n (λz=>(mem_cons.mp (I.stkSub b z)).elim hL hb) hc) (λb o _ _ hc e n=>u.any e n hc) (λb o hc e n=>u.free b o e n hc) (λb o hc e=>u.there b o e hc) u.tups u.frzs u.tbls (λm' hm=>by
  obtain ⟨o',es',ep',ho',r'⟩:=hm;rw [ho] at ho';cases ho';exact ⟨_,es',ep',hL,r'⟩) hok hg
def Inv.turned {t':Nat} {it:Addr} (I:Inv X pins σ H s) (k:∀ b o,b≠it->s.heap.get? b=some o->h'.get? b=some o) (hn:H it=none) (hL:it≠X.env.locals)
  (h1:it∈X.ex\/X.s₀.heap.objs.size<=it) (h2:∀ x c,X.env.cells.lookup x=some c->c≠it) (h3:∀ p∈X.pn++pins,p.1≠it):Inv X pins σ H { s with heap:=h',toks:=t' }:=by
 have nit:∀ b u,H b=some u->b≠it:=λb u e z=>by rw [z,hn] at e;cases e
 refine I.step (g':=s.gens) (d':=s.drawn) (ch:=[it]) (λb hb=>?_) (λb o _ _ hc e _=>k b o (λz=>hc (by simp [z])) e) (λb o _ _ hc e _=>⟨o.slots,k b o (λz=>hc (by simp [z])) e⟩) (λ_ _ _ _ n=>n)
  (λb o hc e=>⟨o,k b o (λz=>hc (by simp [z])) e⟩) (λ_ _ e=>e) (λ_ _ _ e=>e) (λb ps e=>⟨#[],by rw [e];simp⟩) (λm hm=>?_) (λb u e=>?_) I.bare
 ·have e:b=it:=by simpa using hb
  subst e;exact ⟨h1,hL,h2,h3⟩
 ·obtain ⟨o,es,ep,ho,r⟩:=hm;exact ⟨o,es,ep,k _ o (Ne.symm hL) ho,r⟩
 ·refine (I.hok b u e).stay (λc v hc q=>k c v ?_ q) (λ_ q=>q) λ_ _ q=>q;rcases hc with z|z
  ·rw [z];exact nit b u e
  ·exact nit c _ z
def Inv.tok (I:Inv X pins σ H s) (t:Nat):Inv X pins σ H { s with toks:=t }:=I.un (h':=s.heap) (t':=t) Un.refl I.hok
theorem Inv.kept {t':Nat} (I:Inv X pins σ H s) (k:∀ b u,s.heap.get? b=some u->h'.get? b=some u):Inv X pins σ H { s with heap:=h',toks:=t' }:=I.un (Un.kept k) (I.hok.kept k)
theorem Inv.laid {a:Addr} {o:HO} {t':Nat} (I:Inv X pins σ H s) (k:∀ b u,s.heap.get? b=some u->h'.get? b=some u) (hp:s.heap.objs.size<=a) (new:JX X.prog X.w (upd H a o) h' a o) :
  Inv X pins σ (upd H a o) { s with heap:=h',toks:=t' }:=I.un (Un.laid k hp (I.hok.fresh hp)) (I.hok.laid k hp new)
theorem Inv.write {x e:Addr} {o:HO} {t':Nat} (I:Inv X pins σ H s) (mu:Mut (H x)) (he:e=x\/H e=some (.own x)) (k:∀ b u,b≠e->s.heap.get? b=some u->h'.get? b=some u) (heo:∃ u,h'.get? e=some u)
  (new:JX X.prog X.w (upd H x o) h' x o):Inv X pins σ (upd H x o) { s with heap:=h',toks:=t' }:=I.un (Un.write mu he k heo) (I.hok.write mu he k heo new)
def Inv.pins_of {pins':List (Addr×Obj)} (I:Inv X pins σ H s) (h:∀ p∈pins',s.heap.get? p.1=some p.2/\H p.1=none/\p.1≠X.env.locals/\p.1∉X.fs/\∀ v,p.2.data≠.cell v):Inv X pins' σ H s:=
 ⟨I.ok,I.os,I.bare,I.base,I.loc,I.cell,I.free,I.freeC,λp hp=>(List.mem_append.mp hp).elim (λz=>I.pin p (List.mem_append_left _ z)) (h p),I.hok,I.len⟩
def MU {N:List Str} (hN:N.Nodup) {i j:Nat} {x:Str} (a:N[i]?=some x) (b:N[j]?=some x):i=j:=by
 obtain ⟨h1,e1⟩:=za4 a;obtain ⟨h2,e2⟩:=za4 b;exact (List.getElem_inj hN).mp (e1.trans e2.symm)
def XS {M:Model} {A:Around} {E:Value->Shared->Prop} {i:Nat} {x:Str} {v:V} {u:Value} {Q:Unit->Shared->Prop} (I:Inv X pins σ H s) (hN:X.N.Nodup) (hi:X.N[i]?=some x) (hx:Loc X.env.scope x) (r:jx v u)
  (h:∀ s',Inv X pins (σ.set i (some v)) H s'->(∃ a,Heap.SameBut a s.heap s'.heap/\(a=X.env.locals\/X.env.cells.lookup x=some a))->Q () s') (hf:X.fn x=true\/X.env.scope.names.lookup x=some .local:=by first|exact .inl rfl|exact .inr rfl|assumption):wpAny M A (storeName X.env x u) Q E s:=by
 obtain ⟨m,hn,hl⟩:=id I.loc;have hcls:(X.env.scope.kind==.class||(X.env.scope.kind==.module&&X.env.locals != X.env.globals))=false:=by rw [I.ok.kind];rfl
 have hiσ:i<σ.length:=by rw [I.len];exact (za4 hi).1
 have cne:=I.cne;have tracked:∀ {a:Addr} {h':Heap},(∃ o,s.heap.get? a=some o/\H a=none)->Heap.SameBut a s.heap h'->HOk X.prog X.w H h':=λ{a h'} ha hs b ob e=>by
  obtain ⟨_,_,hfree⟩:=ha;refine (I.hok b ob e).stay (λc w' hc q=>(hs.2 c ?_).trans q) (λ_ q=>q) λ_ _ q=>q;rintro rfl;rcases hc with rfl|hc
  ·rw [hfree] at e;cases e
  ·rw [hfree] at hc;cases hc
 rcases hx with hk|hk
 ·refine wpAny_storeName_local hk hn (λh' hn' hs=>?_) hcls;obtain ⟨oL,_,_,hoL,_⟩:=id hn;refine h _ ⟨I.ok,I.os,I.bare,⟨λb o e n hb hx=>?_,λb o e n hb hx=>?_,I.base.free,λb o e hx=>?_,I.base.tups,I.base.frzs,I.base.tbls⟩,⟨_,hn',λj y v' e1 e2 e3=>?_⟩,λy c e=>?_,I.free,I.freeC,λp hp=>?_,tracked ⟨oL,hoL,I.free⟩ hs,by simpa using I.len⟩ ⟨_,hs,.inl rfl⟩
  ·exact (hs.2 b (u7 (v8 (y6 e) I.ok.above))).trans (I.base.keep b o e n hb hx)
  ·obtain ⟨sl,e1⟩:=I.base.slot b o e n hb hx;exact ⟨sl,(hs.2 b (u7 (v8 (y6 e) I.ok.above))).trans e1⟩
  ·obtain ⟨o',e1⟩:=I.base.there b o e hx;exact ⟨o',(hs.2 b (u7 (v8 (y6 e) I.ok.above))).trans e1⟩
  ·by_cases hj:j=i
   ·subst hj;rw [hi] at e1;cases e1;rw [List.getElem?_set_self hiσ] at e2;cases e2;exact ⟨u,r,.inl ⟨hk,by simp⟩⟩
   ·rw [List.getElem?_set_ne (Ne.symm hj)] at e2;obtain ⟨u',r',q⟩:=hl j y v' e1 e2 e3;refine ⟨u',r',?_⟩;rcases q with ⟨k,e⟩|⟨k,c,e,z⟩
    ·refine .inl ⟨k,?_⟩;have:y≠x:=λe=>hj (MU hN e1 (e▸hi));simp [this,e]
    ·exact .inr ⟨k,c,e,z.sameBut hs (cne y c e)⟩
  ·obtain ⟨w',z⟩:=I.cell y c e;exact ⟨w',z.sameBut hs (cne y c e)⟩
  ·obtain ⟨e,n,ne,nf,d⟩:=I.pin p hp;exact ⟨(hs.2 p.1 ne).trans e,n,ne,nf,d⟩
 ·have hfn:X.fn x=true:=by
   rcases hf with z|z
   ·exact z
   ·rw [z] at hk;cases hk
  obtain ⟨c,hc⟩:=I.ok.has x (.inl hk);obtain ⟨w',z⟩:=I.cell x c hc;refine wpAny_storeName_cell I.ok.kind hk hc z (λh' hc' hs=>?_);obtain ⟨oc,hoc,hocd⟩:=id z;refine h { s with heap:=h' } ⟨I.ok,I.os,I.bare,⟨λb o e n hb hx=>?_,λb o e n hb hx=>?_,I.base.free,λb o e hx=>?_,I.base.tups,I.base.frzs,I.base.tbls⟩,⟨m,hn.sameBut hs (Ne.symm (cne x c hc)),λj y v' e1 e2 e3=>?_⟩,λy c' e=>?_,I.free,I.freeC,λp hp=>?_,tracked ⟨oc,hoc,I.freeC x c hc⟩ hs,by simpa using I.len⟩ ⟨c,hs,.inr hc⟩
  ·exact (hs.2 b (u7 (v8 (y6 e) (I.ok.cab x c hfn hc)))).trans (I.base.keep b o e n hb hx)
  ·obtain ⟨sl,e1⟩:=I.base.slot b o e n hb hx;exact ⟨sl,(hs.2 b (u7 (v8 (y6 e) (I.ok.cab x c hfn hc)))).trans e1⟩
  ·obtain ⟨o',e1⟩:=I.base.there b o e hx;exact ⟨o',(hs.2 b (u7 (v8 (y6 e) (I.ok.cab x c hfn hc)))).trans e1⟩
  ·by_cases hj:j=i
   ·subst hj;rw [hi] at e1;cases e1;rw [List.getElem?_set_self hiσ] at e2;cases e2;exact ⟨u,r,.inr ⟨.inl hk,c,hc,hc'⟩⟩
   ·rw [List.getElem?_set_ne (Ne.symm hj)] at e2;obtain ⟨u',r',q⟩:=hl j y v' e1 e2 e3;refine ⟨u',r',?_⟩;rcases q with q|⟨k,c',e,z'⟩
    ·exact .inl q
    ·refine .inr ⟨k,c',e,z'.sameBut hs ?_⟩;rintro rfl;exact hj (MU hN e1 (I.ok.inj _ _ _ e hc▸hi))
  ·by_cases hcc:c'=c
   ·subst hcc;exact ⟨_,hc'⟩
   ·obtain ⟨w2,z2⟩:=I.cell y c' e;exact ⟨w2,z2.sameBut hs hcc⟩
  ·obtain ⟨e,n,ne,nf,d⟩:=I.pin p hp;refine ⟨(hs.2 p.1 ?_).trans e,n,ne,nf,d⟩;intro q;rw [q,hoc] at e;have q':oc=p.2:=Option.some.inj e;exact d w' (by rw [← q'];exact hocd)
def VN {M:Model} {A:Around} {E:Value->Shared->Prop} {i:Nat} {x:Str} {v:V} {u:Value} {Q:Unit->Shared->Prop} (I:Inv X pins σ H s) (hN:X.N.Nodup) (hi:X.N[i]?=some x) (hx:Loc X.env.scope x) (r:jx v u)
  (h:∀ s',Inv X pins (σ.set i (some v)) H s'->Q () s') (hf:X.fn x=true\/X.env.scope.names.lookup x=some .local:=by first|exact .inl rfl|exact .inr rfl|assumption):wpAny M A (storeName X.env x u) Q E s:=
 XS I hN hi hx r (λs' I' _=>h s' I') hf
def Inv.call' {s':Shared} {ch:List Addr} (I:Inv X pins σ H s) (ho:s'.os=s.os) (u:Un (frs X.stack) ch H H' s.heap s'.heap) (hok:HOk X.prog X.w H' s'.heap) (hg:AllBare s'.gens)
  (hch:∀ b∈ch,(b∈X.ex\/X.s₀.heap.objs.size<=b)/\b≠X.env.locals/\(∀ x c,X.env.cells.lookup x=some c->c≠b)/\∀ p∈X.pn++pins,p.1≠b):Inv X pins σ H' s':=by
 obtain ⟨h',g',d',t',o'⟩:=s';have e:o'=s.os:=ho;subst e;exact I.call (g':=g') (t':=t') (d':=d') u hok hg hch
end
abbrev XK:=Value->Option Addr->Hp->Prop
abbrev St:=List (Option V)
abbrev VK:=V->Hp->Prop
abbrev TE:=St->Hp->VK->Prop
abbrev TT:=St->Hp->(Bool->Hp->Prop)->Prop
abbrev TA:=St->Hp->(List V->Hp->Prop)->Prop
structure Ends where
 nx:St->Hp->Prop
 rt:VK
 bk:St->Hp->Prop:=λ_ _=>False
 ct:St->Hp->Prop:=λ_ _=>False
abbrev TS:=Ends->St->Hp->Prop
def EP (X:Cx) (pins:List (Addr×Obj)) (σ:St) (Q:VK) (u:Value) (s':Shared):Prop:=∃ v H',Inv X pins σ H' s'/\jx v u/\Q v H'
def TP (X:Cx) (pins:List (Addr×Obj)) (σ:St) (Q:Bool->Hp->Prop) (b:Bool) (s':Shared):Prop:=∃ H',Inv X pins σ H' s'/\Q b H'
def AP (X:Cx) (pins:List (Addr×Obj)) (σ:St) (Q:List V->Hp->Prop) (us:List Value) (s':Shared):Prop:=∃ vs H',Inv X pins σ H' s'/\zt vs us/\Q vs H'
def SP (X:Cx) (pins:List (Addr×Obj)) (D:Ends) (f:Flow) (s':Shared):Prop:=
 match f with
 |.next=>∃ σ' H',Inv X pins σ' H' s'/\D.nx σ' H'
 |.brk=>∃ σ' H',Inv X pins σ' H' s'/\D.bk σ' H'
 |.cont=>∃ σ' H',Inv X pins σ' H' s'/\D.ct σ' H'
 |.ret u=>∃ v σ' H',Inv X pins σ' H' s'/\jx v u/\D.rt v H'
def PE (X:Cx) (e:Expr) (t:TE):Prop:=
 ∀ (pins:List (Addr×Obj)) (s:Shared) (σ:St) (H:Hp) (Q:VK),Inv X pins σ H s->t σ H Q->wpAny (model X.prog X.w) X.A (eval e X.env) (EP X pins σ Q) X.xe s
def PT (X:Cx) (e:Expr) (t:TT):Prop:=
 ∀ (pins:List (Addr×Obj)) (s:Shared) (σ:St) (H:Hp) (Q:Bool->Hp->Prop),Inv X pins σ H s->t σ H Q->wpAny (model X.prog X.w) X.A (isTrue e X.env (eval e X.env)) (TP X pins σ Q) X.xe s
def PW (X:Cx) (e:Expr) (t:TT):Prop:=
 ∀ (whole:Sem Value) (pins:List (Addr×Obj)) (s:Shared) (σ:St) (H:Hp) (Q:Bool->Hp->Prop),Inv X pins σ H s->t σ H Q->wpAny (model X.prog X.w) X.A (isTrue e X.env whole) (TP X pins σ Q) X.xe s
def PW.pt {X:Cx} {e:Expr} {t:TT} (h:PW X e t):PT X e t:=h _
def PA (X:Cx) (es:List Expr) (t:TA):Prop:=
 ∀ (pos:Pos) (pins:List (Addr×Obj)) (s:Shared) (σ:St) (H:Hp) (Q:List V->Hp->Prop),Inv X pins σ H s->t σ H Q->wpAny (model X.prog X.w) X.A (spliced (backTo pos (starEach es X.env))) (AP X pins σ Q) X.xe s
def PS (X:Cx) (st:Stmt) (t:TS):Prop:=
 ∀ (pins:List (Addr×Obj)) (s:Shared) (σ:St) (H:Hp) (D:Ends),Inv X pins σ H s->t D σ H->wpAny (model X.prog X.w) X.A (exec st X.env) (SP X pins D) X.xe s
def PSs (X:Cx) (st:List Stmt) (t:TS):Prop:=
 ∀ (pins:List (Addr×Obj)) (s:Shared) (σ:St) (H:Hp) (D:Ends),Inv X pins σ H s->t D σ H->wpAny (model X.prog X.w) X.A (execs st X.env) (SP X pins D) X.xe s
def thn {α:Type} {t:Sem α} {Q Q':α->Shared->Prop} {M:Model} {A:Around} {E:Value->Shared->Prop} {s:Shared} (h:wpAny M A t Q E s) (hQ:∀ a s,Q a s->Q' a s):wpAny M A t Q' E s:=y0 h hQ λ_ _ x=>x
section
variable {X:Cx}
def qrn (i:Nat):TE:=λσ H Q=>∃ v,σ[i]?=some (some v)/\Q v H
def tC (v:V):TE:=λ_ H Q=>Q v H
def qfL {i:Nat} {x:Str} {pos:Pos} (hN:X.N[i]?=some x) (hv:Vis X.env.scope x) (hd:(x==("__debug__" : Str))=false:=by decide) (hcd:(x==("__classdict__" : Str))=false:=by decide):PE X (.Name x pos) (qrn i):=by
 intro pins s σ H Q I h;obtain ⟨v,e,h⟩:=h;obtain ⟨m,hn,hl⟩:=I.loc;obtain ⟨u,r,l⟩:=hl i x v hN e hv;have fin:EP X pins σ Q u s:=⟨v,H,I,r,h⟩
 rcases l with ⟨hk,hm⟩|⟨hk,c,hc,hcell⟩
 ·exact wpAny_Name (wpAny_loadName_local I.ok.kind hk hn hm fin) hd
 ·rcases hk with hk|hk
  ·exact wpAny_Name (wpAny_loadName_cell I.ok.kind hk hc hcell fin) hd
  ·exact wpAny_Name (wpAny_loadName_free I.ok.kind hk hc hcell fin hcd) hd
def qlt {i j pos}:PE X (.Constant (.int i) j pos) (tC (.int i)):=λ_ _ _ H _ I h=>wpAny_Constant_int ⟨.int i,H,I.tok _,⟨_,rfl⟩,h⟩
def qqg {b j pos}:PE X (.Constant (.bool b) j pos) (tC (.bl b)):=λ_ _ _ H _ I h=>Constant_bool ⟨.bl b,H,I,rfl,h⟩
def qlL {j pos}:PE X (.Constant .none j pos) (tC .non):=λ_ _ _ H _ I h=>Constant_none ⟨.non,H,I,rfl,h⟩
def qlT {x j pos}:PE X (.Constant (.str x) j pos) (tC (.str x)):=λ_ _ _ H _ I h=>Calls.Constant_str ⟨.str x,H,I.tok _,⟨_,rfl⟩,h⟩
def Gl (X:Cx) (x:Str):Prop:=X.env.kindOf x=some .globalImplicit
def XQ {E:Value->Shared->Prop} {pins:List (Addr×Obj)} {s:Shared} {σ:St} {H:Hp} {x:Str} {u:Value} {pos:Pos} {Q:Value->Shared->Prop} (I:Inv X pins σ H s) (hg:Gl X x) (hm:X.mg x=some u) (h:Q u s)
  (hd:(x==("__debug__" : Str))=false:=by decide):wpAny (model X.prog X.w) X.A (eval (.Name x pos) X.env) Q E s:=
 Calls.Name_function_global I.ok.kind hg (Calls.loadGlobal_global (by rw [I.ok.glob];exact I.mod.glob.keeps I.bk) hm h) hd
def UV {E:Value->Shared->Prop} {pins:List (Addr×Obj)} {s:Shared} {σ:St} {H:Hp} {x:Str} {u:Value} {pos:Pos} {Q:Value->Shared->Prop} (I:Inv X pins σ H s) (hg:Gl X x) (hm:X.mg x=none) (hv:bootBuiltins x=some u) (h:Q u s)
  (hn:x≠"__name__" := by decide) (hd:(x==("__debug__" : Str))=false:=by decide):wpAny (model X.prog X.w) X.A (eval (.Name x pos) X.env) Q E s:=by
 obtain ⟨mb,h1,h2⟩:=I.mod.blt;exact Calls.Name_function_global I.ok.kind hg (Calls.loadGlobal_builtin (by rw [I.ok.glob];exact I.mod.glob.keeps I.bk) hm (by rw [I.ok.blt];exact h1.keeps I.bk) ((h2 x hn).trans hv) h) hd
def qib {x:Str} {v:V} {u:Value} {pos:Pos} (hg:Gl X x) (hm:X.mg x=some u) (r:jx v u) (hd:(x==("__debug__" : Str))=false:=by decide):PE X (.Name x pos) (tC v):=
 λ_ _ _ H _ I h=>XQ I hg hm ⟨v,H,I,r,h⟩ hd
def qiL {x:Str} {v:V} {u:Value} {pos:Pos} (hg:Gl X x) (hm:X.mg x=none) (hv:bootBuiltins x=some u) (r:jx v u) (hn:x≠"__name__" := by decide) (hd:(x==("__debug__" : Str))=false:=by decide):PE X (.Name x pos) (tC v):=
 λ_ _ _ H _ I h=>UV I hg hm hv ⟨v,H,I,r,h⟩ hn hd
variable {a b:Expr} {ta tb:TE} {pos:Pos}
def tB (t:TE):TT:=λσ H Q=>t σ H λx H1=>∃ c,x=.bl c/\Q c H1
def qnB {e:Expr} {t:TE} (h:PE X e t) (he:∀ whole,isTrue e X.env whole=(do let v←whole;standAt e.pos;holding [v] (truthy v)):=by intro _;rfl):PT X e (tB t):=by
 intro pins s σ H Q I hw;refine isTrue_plain (thn (h pins s σ H _ I hw) λv s1 ⟨x,H1,I1,r1,q1⟩=>?_) (he _);obtain ⟨d,rfl,q⟩:=q1;cases r1;exact wpAny_truthy_bool ⟨H1,I1,q⟩
variable {tA tB':TT} {Z1:List Expr}
def tOr (t u:TT):TT:=λσ H Q=>t σ H λc H1=>if c=true then Q true H1 else u σ H1 Q
def qr8 (t:TT):TT:=λσ H Q=>t σ H λc H1=>Q (!c) H1
def ql1 (ha:PT X a tA):PW X (.BoolOp .Or [a] pos) tA:=by
 intro wh pins s σ H Q I h;refine isTrue_or (thn (ha pins s σ H Q I h) λc s1 e=>?_);cases c with
 |false=>exact isTrue_or_nil e
 |true=>exact e
def qqX (ha:PT X a tA) (hb:PW X (.BoolOp .Or (b::Z1) pos) tB'):PW X (.BoolOp .Or (a::b::Z1) pos) (tOr tA tB'):=by
 intro wh pins s σ H Q I h;refine isTrue_or (thn (ha pins s σ H _ I h) λc s1 ⟨H1,I1,q1⟩=>?_);cases c with
 |true=>exact ⟨H1,I1,q1⟩
 |false=>exact hb wh pins s1 σ H1 Q I1 q1
def qnp (ha:PT X a tA):PT X (.UnaryOp .Not a pos) (qr8 tA):=by
 intro pins s σ H Q I h;exact isTrue_not (ha pins s σ H (λc H1=>Q (!c) H1) I h)
def qoX (ta tb:TE):TE:=λσ H Q=>ta σ H λx H1=>∃ c,x=.bl c/\if c=true then tb σ H1 Q else Q (.bl false) H1
def qsl (ta tb:TE):TE:=λσ H Q=>ta σ H λx H1=>∃ c,x=.bl c/\if c=true then Q (.bl true) H1 else tb σ H1 Q
def qqM (ta:TE):TE:=λσ H Q=>ta σ H λx H1=>∃ c,x=.bl c/\Q (.bl (!c)) H1
def qj2 {op} {t:TE} (h:PE X a t):PE X (.BoolOp op [a] pos) t:=λpins s σ H Q I hw=>BoolOp_one (h pins s σ H Q I hw)
def qjD (ha:PE X a ta) (hb:PE X (.BoolOp .And (b::Z1) pos) tb):PE X (.BoolOp .And (a::b::Z1) pos) (qoX ta tb):=by
 intro pins s σ H Q I h;refine BoolOp_and (thn (ha pins s σ H _ I h) λv s1 ⟨x,H1,I1,r1,q1⟩=>?_);obtain ⟨c,rfl,q1⟩:=q1;cases r1;refine wpAny_truthy_bool ?_;cases c with
 |true=>exact hb pins s1 σ H1 Q I1 q1
 |false=>exact ⟨.bl false,H1,I1,rfl,q1⟩
def qqC (ha:PE X a ta) (hb:PE X (.BoolOp .Or (b::Z1) pos) tb):PE X (.BoolOp .Or (a::b::Z1) pos) (qsl ta tb):=by
 intro pins s σ H Q I h;refine BoolOp_or (thn (ha pins s σ H _ I h) λv s1 ⟨x,H1,I1,r1,q1⟩=>?_);obtain ⟨c,rfl,q1⟩:=q1;cases r1;refine wpAny_truthy_bool ?_;cases c with
 |false=>exact hb pins s1 σ H1 Q I1 q1
 |true=>exact ⟨.bl true,H1,I1,rfl,q1⟩
def qmq (ha:PE X a ta):PE X (.UnaryOp .Not a pos) (qqM ta):=by
 intro pins s σ H Q I h;refine UnaryOp_ (thn (ha pins s σ H _ I h) λv s1 ⟨x,H1,I1,r1,q1⟩=>?_);obtain ⟨c,rfl,q1⟩:=q1;cases r1;exact not_of (wpAny_truthy_bool ⟨.bl (!c),H1,I1,rfl,q1⟩)
def tIf (t:TT) (ta tb:TE):TE:=λσ H Q=>t σ H λc H1=>if c=true then ta σ H1 Q else tb σ H1 Q
def qev {c:Expr} (hc:PT X c tA) (ha:PE X a ta) (hb:PE X b tb):PE X (.IfExp c a b pos) (tIf tA ta tb):=by
 intro pins s σ H Q I h;refine wpAny_IfExp (thn (hc pins s σ H _ I h) λd s1 ⟨H1,I1,q1⟩=>?_);cases d with
 |true=>exact ha pins s1 σ H1 Q I1 q1
 |false=>exact hb pins s1 σ H1 Q I1 q1
end
def SqL (K:Frg) (H:Hp) (a:Addr) (xs:List V):Prop:=
 Rd H a (.lst xs) ∨
  ∃ (o:Obj) (its:Array Value) (n:Nat),K.lookup a=some o/\o.cls=.type "list"/\o.dict=none/\o.data=.seq its n/\its.size<=sizeLine/\zt xs its.toList
def SqT (K:Frg) (H:Hp) (a:Addr) (xs:List V):Prop:=
 Rd H a (.tup xs) ∨
  ∃ (o:Obj) (its:Array Value) (n:Nat),K.lookup a=some o/\o.cls=.type "tuple"/\o.data=.seq its n/\its.size<=sizeLine/\zt xs its.toList/\o.dict=none
def qsx:Value->Option V
 |.none=>some .non
 |.bool b=>some (.bl b)
 |.int i _=>some (.int i)
 |.str x _=>some (.str x)
 |.bytes b _=>some (.byt b)
 |.float b _=>some (.flt b)
 |.ref a=>some (.ref a)
 |.type n=>some (.ty n)
 |_=>none
def jx.abs {x:V} {u:Value} (r:jx x u):qsx u=some x:=by
 cases x with
 |non=>cases r;rfl
 |bl _=>cases r;rfl
 |int _=>obtain ⟨t,rfl⟩:=r;rfl
 |str _=>obtain ⟨t,rfl⟩:=r;rfl
 |byt _=>obtain ⟨t,rfl⟩:=r;rfl
 |flt _=>obtain ⟨t,rfl⟩:=r;rfl
 |ref _=>cases r;rfl
 |ty _=>cases r;rfl
theorem jx.inj {x y:V} {u:Value} (r:jx x u) (q:jx y u):x=y:=Option.some.inj (r.abs.symm.trans q.abs)
theorem zt.inj:∀ {xs ys:List V} {us:List Value},zt xs us->zt ys us->xs=ys
 |_,_,_,.nil,.nil=>rfl
 |_,_,_,.cons r t,.cons r' t'=>by rw [r.inj r',zt.inj t t']
section
variable {X:Cx} {pins:List (Addr×Obj)} {σ:St} {H:Hp} {s:Shared} {a:Addr} {xs ys:List V}
def SqL.of {K:Frg} (h:H a=some (.lst xs)):SqL K H a xs:=.inl (.inl h)
def SqT.of {K:Frg} (h:H a=some (.tup xs)):SqT K H a xs:=.inl (.inl h)
def Inv.list (I:Inv X pins σ H s) (h:SqL X.K H a xs):∃ its:List Value,zt xs its/\PlainL s.heap a its.toArray/\xs.length<=sizeLine:=by
 rcases h with h|⟨o,its,n,hk,hc,hd,hs,hz,r⟩
 ·obtain ⟨z,its,n,r,e⟩:=h.ok I.hok;exact ⟨its,r,⟨_,n,e,rfl,rfl,rfl⟩,z⟩
 ·refine ⟨its.toList,r,⟨o,n,I.kIn a o hk,hc,hd,by simpa using hs⟩,?_⟩;have e:=r.length;simp only [Array.length_toList] at e;omega
def Inv.tuple (I:Inv X pins σ H s) (h:SqT X.K H a xs):∃ its:List Value,zt xs its/\IsTup s.heap a its.toArray/\xs.length<=sizeLine:=by
 rcases h with h|⟨o,its,n,hk,hc,hs,hz,r,_⟩
 ·obtain ⟨z,its,r,p⟩:=h.ok I.hok;exact ⟨its,r,p.tup,z⟩
 ·refine ⟨its.toList,r,⟨o,I.kIn a o hk,hc,n,by simpa using hs⟩,?_⟩;have e:=r.length;simp only [Array.length_toList] at e;omega
def Inv.tupleN (I:Inv X pins σ H s) (h:SqT X.K H a xs):∃ its:List Value,zt xs its/\YJ s.heap a its.toArray/\xs.length<=sizeLine:=by
 rcases h with h|⟨o,its,n,hk,hc,hs,hz,r,dd⟩
 ·obtain ⟨z,its,r,p⟩:=h.ok I.hok;exact ⟨its,r,p,z⟩
 ·refine ⟨its.toList,r,⟨o,I.kIn a o hk,hc,n,by simpa using hs,dd⟩,?_⟩;have e:=r.length;simp only [Array.length_toList] at e;omega
def Inv.list_inj (I:Inv X pins σ H s) (h:SqL X.K H a xs) (h':SqL X.K H a ys):xs=ys:=by
 obtain ⟨its,r,⟨o,n,e,_,_,d⟩,_⟩:=I.list h;obtain ⟨its',r',⟨o',n',e',_,_,d'⟩,_⟩:=I.list h';rw [e] at e';cases e';rw [d] at d';injection d' with d1 _;have:its=its':=by simpa using congrArg Array.toList d1
 subst this;exact r.inj r'
def Inv.tuple_inj (I:Inv X pins σ H s) (h:SqT X.K H a xs) (h':SqT X.K H a ys):xs=ys:=by
 obtain ⟨its,r,⟨o,e,_,n,d⟩,_⟩:=I.tuple h;obtain ⟨its',r',⟨o',e',_,n',d'⟩,_⟩:=I.tuple h';rw [e] at e';cases e';rw [d] at d';injection d' with d1 _;have:its=its':=by simpa using congrArg Array.toList d1
 subst this;exact r.inj r'
end
abbrev Cx.wish (X:Cx) (E:Value->Shared->Prop):Cx:={ X with xe:=E }
abbrev Cx.nox (X:Cx):Cx:=X.wish λ_ _=>False
theorem Cx.Ok.wish {X:Cx} (ok:X.Ok) (E:Value->Shared->Prop):(X.wish E).Ok:=
 ⟨ok.mod,ok.kind,ok.glob,ok.blt,ok.above,ok.inj,ok.has,ok.cab,ok.hd,ok.frames,ok.stk,ok.exf,ok.bs,ok.bsz,ok.noex,ok.exfs,ok.funs,ok.frf⟩
def Cx.Ok.unwish {X:Cx} {E:Value->Shared->Prop} (ok:(X.wish E).Ok):X.Ok:=
 ⟨ok.mod,ok.kind,ok.glob,ok.blt,ok.above,ok.inj,ok.has,ok.cab,ok.hd,ok.frames,ok.stk,ok.exf,ok.bs,ok.bsz,ok.noex,ok.exfs,ok.funs,ok.frf⟩
section
variable {X:Cx} {pins:List (Addr×Obj)} {σ:St} {H:Hp} {s:Shared} {E:Value->Shared->Prop}
theorem Inv.wish (I:Inv X pins σ H s) (E:Value->Shared->Prop):Inv (X.wish E) pins σ H s:=⟨I.ok.wish E,I.os,I.bare,I.base,I.loc,I.cell,I.free,I.freeC,I.pin,I.hok,I.len⟩
theorem Inv.unwish (I:Inv (X.wish E) pins σ H s):Inv X pins σ H s:=⟨I.ok.unwish,I.os,I.bare,I.base,I.loc,I.cell,I.free,I.freeC,I.pin,I.hok,I.len⟩
theorem SP.unwish {D:Ends} {f:Flow} {s':Shared} (h:SP (X.wish E) pins D f s'):SP X pins D f s':=by
 cases f with
 |next=>obtain ⟨σ',H',I,q⟩:=h;exact ⟨σ',H',I.unwish,q⟩
 |brk=>obtain ⟨σ',H',I,q⟩:=h;exact ⟨σ',H',I.unwish,q⟩
 |cont=>obtain ⟨σ',H',I,q⟩:=h;exact ⟨σ',H',I.unwish,q⟩
 |ret u=>obtain ⟨v,σ',H',I,r,q⟩:=h;exact ⟨v,σ',H',I.unwish,r,q⟩
theorem PSs.nox {st:List Stmt} {t:TS} (h:PSs X.nox st t):PSs X st t:=λpins s σ H D I hw=>
 y0 (h pins s σ H D (I.wish _) hw) (λ_ _ q=>q.unwish) λ_ _ z=>False.elim z
end
section
variable {X:Cx} {st:Stmt} {Z1:List Stmt} {t u:TS} {e:Expr} {te:TE} {pos:Pos}
def qo9:TS:=λD σ H=>D.nx σ H
def qsa (t u:TS):TS:=λD σ H=>t { D with nx:=u D } σ H
def qhp:PSs X [] qo9:=λ_ _ σ H _ I h=>wpAny_execs_nil ⟨σ,H,I,h⟩
def qdP (h1:PS X st t) (h2:PSs X Z1 u):PSs X (st::Z1) (qsa t u):=by
 intro pins s σ H D I h;refine wpAny_execs_cons (thn (h1 pins s σ H { D with nx:=u D } I h) λf s1 q=>?_);cases f with
 |next=>
  obtain ⟨σ',H',I',q⟩:=q;exact h2 pins s1 σ' H' D I' q
 |ret v=>exact q
 |brk=>exact q
 |cont=>exact q
def L9 (h1:PS X st t):PSs X [st] t:=by
 intro pins s σ H D I h;refine wpAny_execs_cons (thn (h1 pins s σ H D I h) λf s1 q=>?_);cases f with
 |next=>exact wpAny_execs_nil q
 |ret v=>exact q
 |brk=>exact q
 |cont=>exact q
def Inv.quiet {pins:List (Addr×Obj)} {σ:St} {H:Hp} {s:Shared} (I:Inv X pins σ H s):interactive X.env=false:=by simp [interactive,I.ok.kind]
def qo3 (te:TE):TS:=λD σ H=>te σ H λ_ H1=>D.nx σ H1
def qcc (he:PE X e te) (hs:swapsWith e none pos.line X.env=pure false:=by rfl):PS X (.Expr e pos) (qo3 te):=by
 intro pins s σ H D I h;exact wpAny_Expr_any (thn (he pins s σ H _ I h) λv s1 ⟨x,H1,I1,r1,q1⟩=>⟨σ,H1,I1,q1⟩) I.quiet hs
def qrW (te:TE):TS:=λD σ H=>te σ H D.rt
def qnX (he:PE X e te):PS X (.Return (some e) pos) (qrW te):=by
 intro pins s σ H D I h;exact wpAny_Return_some (thn (he pins s σ H _ I h) λv s1 ⟨x,H1,I1,r1,q1⟩=>⟨x,σ,H1,I1,r1,q1⟩)
def qsp (c:TT) (t u:TS):TS:=λD σ H=>c σ H λb H1=>if b=true then t D σ H1 else u D σ H1
def qmu {c:Expr} {a b:List Stmt} {tc:TT} (hc:PT X c tc) (ha:PSs X a t) (hb:PSs X b u):PS X (.If c a b pos) (qsp tc t u):=by
 intro pins s σ H D I h;refine wpAny_If (thn (hc pins s σ H _ I h) λd s1 ⟨H1,I1,q1⟩=>?_);cases d with
 |true=>exact ha pins s1 σ H1 D I1 q1
 |false=>exact hb pins s1 σ H1 D I1 q1
end
abbrev TG:=V->St->Hp->(St->Hp->Prop)->Prop
abbrev TGs:=List V->St->Hp->(St->Hp->Prop)->Prop
def PG (X:Cx) (target:Expr) (t:TG):Prop:=
 ∀ (pins:List (Addr×Obj)) (s:Shared) (σ:St) (H:Hp) (v:V) (u:Value) (Q:St->Hp->Prop),Inv X pins σ H s->jx v u->t v σ H Q ->
  wpAny (model X.prog X.w) X.A (assign target X.env u) (λ_ s'=>∃ σ' H',Inv X pins σ' H' s'/\Q σ' H') X.xe s
def PGs (X:Cx) (ts:List Expr) (t:TGs):Prop:=
 ∀ (pins:List (Addr×Obj)) (s:Shared) (σ:St) (H:Hp) (vs:List V) (us:List Value) (Q:St->Hp->Prop),Inv X pins σ H s->zt vs us->t vs σ H Q ->
  wpAny (model X.prog X.w) X.A (assignInOrder ((assignEach ts X.env).map (·.2)) us) (λ_ s'=>∃ σ' H',Inv X pins σ' H' s'/\Q σ' H') X.xe s
abbrev qoI:=V->V->V->Hp->(Hp->Prop)->Prop
def qpm (X:Cx) (t:qoI):Prop:=
 ∀ (pins:List (Addr×Obj)) (s:Shared) (σ:St) (H:Hp) (o i v:V) (ov iv u:Value) (Q:Hp->Prop),Inv X pins σ H s->jx o ov->jx i iv->jx v u->t o i v H Q ->
  wpAny (model X.prog X.w) X.A (setItem ov iv u) (λ_ s'=>∃ H',Inv X pins σ H' s'/\Q H') X.xe s
abbrev TIp:=V->V->Hp->VK->Prop
def PIp (X:Cx) (op:Operator) (t:TIp):Prop:=
 ∀ (pins:List (Addr×Obj)) (s:Shared) (σ:St) (H:Hp) (x y:V) (v u:Value) (Q:VK),Inv X pins σ H s->jx x v->jx y u->t x y H Q ->
  wpAny (model X.prog X.w) X.A (inplaceOp op v u) (EP X pins σ Q) X.xe s
section
variable {X:Cx} {pos:Pos}
def qex (i:Nat):TG:=λv σ H Q=>Q (σ.set i (some v)) H
def qiA {i:Nat} {x:Str} (hN:X.N.Nodup) (hi:X.N[i]?=some x) (hx:Loc X.env.scope x) (hf:X.fn x=true\/X.env.scope.names.lookup x=some .local:=by first|exact .inl rfl|exact .inr rfl|assumption):PG X (.Name x pos) (qex i):=by
 intro pins s σ H v u Q I r h;exact wpAny_assign_Name (VN I hN hi hx r (λs' I'=>⟨_,H,I',h⟩) hf)
def qao:TGs:=λvs σ H Q=>vs=[]/\Q σ H
def jK (t:TG) (u:TGs):TGs:=λvs σ H Q=>∃ v r,vs=v::r/\t v σ H λσ' H'=>u r σ' H' Q
def qg5:PGs X [] qao:=by
 intro pins s σ H vs us Q I r h;obtain ⟨e,h⟩:=h;subst e;cases r;exact assignInOrder_nil ⟨σ,H,I,h⟩
def qeq {e:Expr} {es:List Expr} {t:TG} {u:TGs} (h1:PG X e t) (h2:PGs X es u)
  (hs:(assignEach (e::es) X.env).map (·.2)=assign e X.env::(assignEach es X.env).map (·.2):=by rfl):PGs X (e::es) (jK t u):=by
 intro pins s σ H vs us Q I r h;obtain ⟨v,vr,e1,h⟩:=h;subst e1;cases r with
 |cons r rr=>
  rw [hs];refine assignInOrder_cons (thn (h1 pins s σ H _ _ _ I r h) λ_ s1 ⟨σ1,H1,I1,q1⟩=>?_);exact h2 pins s1 σ1 H1 _ _ Q I1 rr q1
def qaF (K:Frg) (n:Nat) (t:TGs):TG:=λv σ H Q=>∃ a xs,v=.ref a/\SqT K H a xs/\xs.length=n/\t xs σ H Q
def qon {es:List Expr} {k:Nat} {t:TGs} {n:Nat} (hc:X.calm=true) (h:PGs X es t)
  (hn:(assignEach es X.env).length=n:=by rfl) (hst:(assignEach es X.env).findIdx? (·.1)=none:=by rfl):PG X (.Tuple es k pos) (qaF X.K n t):=by
 intro pins s σ H v u Q I r hw;obtain ⟨a,xs,e1,hq,hl,hw⟩:=hw;subst e1;cases r;obtain ⟨its,rv,ht,hz⟩:=I.tuple hq;refine assign_Tuple_tuple (I.ok.hd hc) ht (by simp [hn,← hl,rv.length]) hst λh' hx=>?_;have I1:Inv X pins σ H { s with heap:=h' }:=I.kept (t':=s.toks) λb o e=>hx b o (u7 (y6 e)) e;exact h pins _ σ H xs _ Q I1 (by simpa using rv) hw
def qsu (to ti:TE) (t:qoI):TG:=λv σ H Q=>to σ H λo H1=>ti σ H1 λi H2=>t o i v H2 λH3=>Q σ H3
def qfN {o i:Expr} {to ti:TE} {t:qoI} (ho:PE X o to) (hi:PE X i ti) (hs:qpm X t)
  (ha:∀ v,assign (.Subscript o i pos) X.env v=(do
   let ov←holding [v] (eval o X.env)
   let iv←holding [v,ov] (eval i X.env)
   standAt pos
   holding [v,ov,iv] (setItem ov iv v)
   release [v,ov,iv] []):=by intro _;rfl):PG X (.Subscript o i pos) (qsu to ti t):=by
 intro pins s σ H v u Q I r h;rw [ha];refine x8 (wpAny_holding (thn (ho pins s σ H _ I h) λov s1 ⟨x,H1,I1,r1,q1⟩=>?_));refine x8 (wpAny_holding (thn (hi pins s1 σ H1 _ I1 q1) λiv s2 ⟨y,H2,I2,r2,q2⟩=>?_));refine x8 (wpAny_standAt (x8 (wpAny_holding (thn (hs pins s2 σ H2 x y v ov iv u _ I2 r1 r2 r q2) λ_ s3 ⟨H3,I3,q3⟩=>?_))));exact wpAny_release ⟨σ,H3,I3,q3⟩
def qoF (te:TE) (g:TG):TS:=λD σ H=>te σ H λx H1=>g x σ H1 D.nx
def qkp {tg e:Expr} {te:TE} {g:TG} (he:PE X e te) (hg:PG X tg g) (hs:swapsWithSole [tg] e pos.line X.env=pure false:=by rfl) (hw:swappedStores [tg] e X.env=pure none:=by rfl)
  (h1:(assignEach [tg] X.env).map (·.2)=[assign tg X.env]:=by rfl):PS X (.Assign [tg] e pos) (qoF te g):=by
 intro pins s σ H D I h;refine wpAny_Assign_stores (thn (he pins s σ H _ I h) λv s1 ⟨x,H1,I1,r1,q1⟩=>?_) hs hw;rw [h1];exact thn (hg pins s1 σ H1 x v _ I1 r1 q1) λ_ s2 q=>q
def qjS {i:Nat} {x:Str} {e:Expr} {te:TE} {pos':Pos} (hN:X.N.Nodup) (hi:X.N[i]?=some x) (hx:Loc X.env.scope x) (he:PE X e te) (hs:swapsWith e (some (.Name x pos')) pos.line X.env=pure false:=by rfl) (hf:X.fn x=true\/X.env.scope.names.lookup x=some .local:=by first|exact .inl rfl|exact .inr rfl|assumption) :
  PS X (.Assign [.Name x pos'] e pos) (qoF te (qex i)):=by
 intro pins s σ H D I h;refine wpAny_Assign_Name (thn (he pins s σ H _ I h) λv s1 ⟨y,H1,I1,r1,q1⟩=>?_) hs;exact VN I1 hN hi hx r1 (λs2 I2=>⟨_,H1,I2,q1⟩) hf
def qsj (i j:Nat) (ta:TA):TS:=λD σ H=>ta σ H λvs H1=>∃ v w,vs=[v,w]/\D.nx ((σ.set i (some v)).set j (some w)) H1
def qnz {i j:Nat} {x y:Str} {a b:Expr} {ta:TA} {px py pt:Pos} {kt k2 pt2} (hc:X.calm=true) (hN:X.N.Nodup) (hi:X.N[i]?=some x) (hj:X.N[j]?=some y) (hij:i≠j)
  (hx:X.env.scope.names.lookup x=some .local) (hy:X.env.scope.names.lookup y=some .local) (ha:PA X [a,b] ta)
  (hw:swappedStores [.Tuple [.Name x px,.Name y py] kt pt] (.Tuple [a,b] k2 pt2) X.env=pure (some [x,y]))
  (hs:swapsWithSole [.Tuple [.Name x px,.Name y py] kt pt] (.Tuple [a,b] k2 pt2) pos.line X.env=pure false:=by rfl) :
  PS X (.Assign [.Tuple [.Name x px,.Name y py] kt pt] (.Tuple [a,b] k2 pt2) pos) (qsj i j ta):=by
 intro pins s σ H D I h;rw [exec_Assign_arm];refine x8 (wpAny_standAt ?_);rw [hs];refine x8 (x9 ?_);rw [if_neg (by decide)];refine x8 (Tuple_ (thn (ha _ pins s σ H _ I h) λus s1 ⟨vs,H1,I1,r1,q1⟩=>?_));obtain ⟨v,w,e1,q1⟩:=q1;subst e1;obtain ⟨u1,u2,rfl,rv,rw'⟩:∃ u1 u2,us=[u1,u2]/\jx v u1/\jx w u2:=by
  cases r1 with
  |cons p q=>
   cases q with
   |cons p' q'=>
    cases q';exact ⟨_,_,rfl,p,p'⟩
 refine wpAny_newObj_type ?_ (by show 2<=sizeLine;decide);have I2:Inv X pins σ H1 { s1 with heap:=s1.heap.push { cls:=.type "tuple",data:=.seq [u1,u2].toArray } }:=I1.kept (t':=s1.toks) λb o e=>y3 _ e;rw [hw];refine x8 (x9 ?_);show wpAny (model X.prog X.w) X.A (do rule "assign.swapped-stores";let items←unpackItems (.ref s1.heap.objs.size) 2 none;assignInOrder [λv=>bindName X.env y v,λv=>bindName X.env x v] items.reverse;pure Flow.next) _ _ _;refine x8 (wpAny_rule (x8 (unpackItems_tuple (items:=#[u1,u2]) (I.ok.hd hc) (IsTup.new s1.heap _) λh' hx'=>?_)));have I3:=I2.kept (h':=h') (t':=s1.toks) λb o e=>hx' b o (u7 (y6 e)) e;show wpAny _ _ (assignInOrder [λv=>bindName X.env y v,λv=>bindName X.env x v] [u2,u1] >>= λ_=>pure Flow.next) _ _ _;refine x8 (assignInOrder_cons (wpAny_bindName (VN I3 hN hj (.inl hy) rw' (λs2 I4=>?_) (.inr hy))));refine assignInOrder_cons (wpAny_bindName (VN I4 hN hi (.inl hx) rv (λs3 I5=>assignInOrder_nil (x9 ?_)) (.inr hx)));rw [List.set_comm _ _ (Ne.symm hij)] at I5;exact ⟨_,H1,I5,q1⟩
def qrM (i:Nat) (te:TE) (ti:TIp):TS:=λD σ H=>∃ x,σ[i]?=some (some x)/\te σ H λy H1=>ti x y H1 λz H2=>D.nx (σ.set i (some z)) H2
def qnN {i:Nat} {x:Str} {e:Expr} {te:TE} {op:Operator} {ti:TIp} {pos':Pos} (hN:X.N.Nodup) (hi:X.N[i]?=some x) (hx:Loc X.env.scope x) (he:PE X e te) (ho:PIp X op ti) (hf:X.fn x=true\/X.env.scope.names.lookup x=some .local:=by first|exact .inl rfl|exact .inr rfl|assumption) :
  PS X (.AugAssign (.Name x pos') op e pos) (qrM i te ti):=by
 intro pins s σ H D I h;obtain ⟨v,e1,h⟩:=h;obtain ⟨m,hn,hl⟩:=I.loc;have vis:Vis X.env.scope x:=by rcases hx with k|k;exact .inl k;exact .inr (.inl k)
 obtain ⟨u,r,l⟩:=hl i x v hi e1 vis;refine wpAny_AugAssign_Name ?_;have go:wpAny (model X.prog X.w) X.A (eval e X.env) (λw s₂=>wpAny (model X.prog X.w) X.A (inplaceOp op u w) (λr s₃=>wpAny (model X.prog X.w) X.A (storeName X.env x r) (λ_=>SP X pins D .next) X.xe s₃) X.xe s₂) X.xe s:=by
  refine thn (he pins s σ H _ I h) λw s1 ⟨y,H1,I1,r1,q1⟩=>?_;refine thn (ho pins s1 σ H1 v y u w _ I1 r r1 q1) λz s2 ⟨zv,H2,I2,r2,q2⟩=>?_;exact VN I2 hN hi hx r2 (λs3 I3=>⟨_,H2,I3,q2⟩) hf
 rcases l with ⟨hk,hm⟩|⟨hk,c,hc,hcell⟩
 ·exact wpAny_loadName_local I.ok.kind hk hn hm go
 ·rcases hk with hk|hk
  ·exact wpAny_loadName_cell I.ok.kind hk hc hcell go
  ·rcases hx with k|k
   ·have:X.env.scope.names.lookup x=some .free:=hk;rw [k] at this;cases this
   ·have:X.env.scope.names.lookup x=some .free:=hk;rw [k] at this;cases this
def ipI (f:Int->Int->Int):TIp:=λx y H Q=>∃ i j,x=.int i/\y=.int j/\Q (.int (f i j)) H
def qnU:PIp X .Add (ipI λi j=>i+j):=by
 intro pins s σ H x y v u Q I r1 r2 h;obtain ⟨i,j,e1,e2,q⟩:=h;subst e1;subst e2;obtain ⟨t,rfl⟩:=r1;obtain ⟨t',rfl⟩:=r2;exact iadd_int ⟨.int _,H,I.tok _,⟨_,rfl⟩,q⟩
end
section
variable {X:Cx} {pos:Pos}
def qme (c:TT) (tb:TS):TS:=λD σ H=>∃ W:Nat->St->Hp->Prop,(∃ m,W m σ H)/\∀ m σ H,W m σ H ->
 c σ H λb H1=>if b=true then ∃ N:St->Hp->Prop,(∀ σ' H',N σ' H'->∃ m',m'<m/\W m' σ' H')/\tb { D with nx:=N,ct:=N,bk:=D.nx } σ H1 else D.nx σ H1
def qdn {c:Expr} {body:List Stmt} {tc:TT} {tb:TS} (hp:PassesOwn (model X.prog X.w) X.A X.env X.xe) (hc:PT X c tc) (hb:PSs X body tb):PS X (.While c body [] pos) (qme tc tb):=by
 intro pins s σ H D I h;obtain ⟨W,⟨m0,w0⟩,turn⟩:=h;refine wpAny_While (codeAny_whileLoop (λn s'=>∃ σ' H',Inv X pins σ' H' s'/\W n σ' H') ?_ m0 ⟨σ,H,I,w0⟩);rintro n s1 ⟨σ1,H1,I1,w1⟩;refine wpAny_passesOwn hp (thn (hc pins s1 σ1 H1 _ I1 (turn n σ1 H1 w1)) λb s2 ⟨H2,I2,q2⟩=>?_);cases b with
 |true=>
  obtain ⟨N,hN,q2⟩:=q2;rw [if_pos rfl];refine wpAny_passesOwn hp (thn (hb pins s2 σ1 H2 _ I2 q2) λf s3 q3=>?_);cases f with
  |next=>
   obtain ⟨σ3,H3,I3,n3⟩:=q3;obtain ⟨m',hm,w3⟩:=hN σ3 H3 n3;exact ⟨m',hm,σ3,H3,I3,w3⟩
  |cont=>
   obtain ⟨σ3,H3,I3,n3⟩:=q3;obtain ⟨m',hm,w3⟩:=hN σ3 H3 n3;exact ⟨m',hm,σ3,H3,I3,w3⟩
  |brk=>exact q3
  |ret v=>exact q3
 |false=>
  rw [if_neg y8];exact wpAny_execs_nil ⟨σ1,H2,I2,q2⟩
end
structure It where
 go:Nat->Hp->Prop
 yld:Nat->Hp->V->Hp->Prop
 stop:Nat->Hp->Prop
def CB (X:Cx) (pins:List (Addr×Obj)) (H:Hp) (b:Addr):Prop:=
 H b=none/\b≠X.env.locals/\b∉X.fs/\(b∈X.ex\/X.s₀.heap.objs.size<=b)/\(∀ x c,X.env.cells.lookup x=some c->c≠b)/\∀ p∈X.pn++pins,p.1≠b
def Inv.fpOk {X:Cx} {pins:List (Addr×Obj)} {σ:St} {H H':Hp} {s:Shared} {b:Addr} (I:Inv X pins σ H s) (hb:s.heap.objs.size<=b) (hn:H' b=none):CB X pins H' b:=by
 refine ⟨hn,Nat.ne_of_gt (v8 I.lt hb),I.nofs hb,.inr (u0 I.sz hb),λx c e z=>?_,λp hp z=>?_⟩
 ·obtain ⟨v,q⟩:=I.cell x c e;exact absurd (v8 q.lt (by rw [z];exact hb)) (Nat.lt_irrefl _)
 ·exact absurd (v8 (y6 (I.pin p hp).1) (by rw [z];exact hb)) (Nat.lt_irrefl _)
structure Turn (P:Program) (w:World) (K:Frg) (tg:Expr) (J:It) (fp:List Addr) (it:Addr) (tn:Nat->Heap->Prop):Prop where
 mem:it∈fp
 obj:∀ i h,tn i h->∀ b∈fp,∃ o,h.get? b=some o/\∀ v,o.data≠.cell v
 keep:∀ i h h',tn i h->(∀ b∈fp,∀ o,h.get? b=some o->h'.get? b=some o)->tn i h'
 item:∀ (X:Cx),X.prog=P->X.w=w->X.K=K->X.calm=true->∀ (i:Nat) (pins:List (Addr×Obj)) (s:Shared) (σ:St) (H:Hp) (E:Value->Shared->Prop),Inv X pins σ H s->(∀ b∈fp,CB X pins H b)->tn i s.heap->J.go i H ->
  wpAny (model P w) X.A (pyNext (.ref it)) (λr s1=>∃ u,r=some u /\
   wpAny (model P w) X.A (letOwnedTupleGo tg (.ref it) u) (λ_ s2=>∃ x H',Inv X pins σ H' s2/\jx x u/\J.yld i H x H'/\tn (i+1) s2.heap/\∀ b∈fp,H' b=none) E s1) E s
 done:∀ (X:Cx),X.prog=P->X.w=w->X.K=K->X.calm=true->∀ (i:Nat) (pins:List (Addr×Obj)) (s:Shared) (σ:St) (H:Hp) (E:Value->Shared->Prop),Inv X pins σ H s->(∀ b∈fp,CB X pins H b)->tn i s.heap->J.stop i H ->
  wpAny (model P w) X.A (pyNext (.ref it)) (λr s1=>r=none/\Inv X pins σ H s1) E s
 self:∀ (A:Around) (i:Nat) (s:Shared) (Q:Value->Shared->Prop) (E:Value->Shared->Prop),tn i s.heap->Q (.ref it) s->wpAny (model P w) A (pyIter (.ref it)) Q E s
abbrev TI:=St->Hp->(It->Hp->Prop)->Prop
def PIE (X:Cx) (pins:List (Addr×Obj)) (σ:St) (tg:Expr) (R:It->Hp->Prop) (itv:Value) (s2:Shared):Prop:=
 ∃ (it:Addr) (fp:List Addr) (tn:Nat->Heap->Prop) (J:It) (H':Hp),itv=.ref it/\Inv X pins σ H' s2/\Turn X.prog X.w X.K tg J fp it tn/\tn 0 s2.heap/\(∀ b∈fp,CB X pins H' b)/\R J H'
def PI (X:Cx) (tg iter:Expr) (wi:TI):Prop:=
 ∀ (pins:List (Addr×Obj)) (s:Shared) (σ:St) (H:Hp) (R:It->Hp->Prop),Inv X pins σ H s->wi σ H R ->
  wpAny (model X.prog X.w) X.A (eval iter X.env) (λv s1=>wpAny (model X.prog X.w) X.A (pyIter v) (PIE X pins σ tg R) X.xe s1) X.xe s
def qhR {M:Model} {A:Around} {E:Value->Shared->Prop} {s:Shared} {tg:Expr} {it:Addr} {u:Value} {o:Obj} {n:String} {vs:Array Value} {Q:Unit->Shared->Prop} (ho:s.heap.get? it=some o) (hc:o.cls=.type n) (hd:o.data=.fields vs)
    (hn:["enumerate","zip","dict_itemiterator","dict_reverseitemiterator","odict_iterator","itertools.zip_longest","itertools.pairwise"].contains n=false) (hQ:Q () s):wpAny M A (letOwnedTupleGo tg (.ref it) u) Q E s:=by
  unfold letOwnedTupleGo;cases tg<;>first
    |exact x9 hQ
    | (cases u<;>first
        |exact x9 hQ
        | (refine x8 (wpAny_load ho ?_)
           rw [hc,hd];show wpAny M A (if (["enumerate","zip","dict_itemiterator","dict_reverseitemiterator","odict_iterator","itertools.zip_longest","itertools.pairwise"].contains n&&vs[0]?==some (rawInt _))=true then _ else _) Q E s;rw [if_neg (by intro h;rw [hn,Bool.false_and] at h;cases h)];exact x9 hQ))
def Itl (K:Frg) (a:Addr):It:=
 ⟨λi H=>∃ xs x,SqL K H a xs/\xs[i]?=some x,λi H x H'=>H'=H/\∀ xs,SqL K H a xs->xs[i]?=some x,λi H=>∃ xs,SqL K H a xs/\xs.length<=i⟩
def Itt (K:Frg) (a:Addr):It:=
 ⟨λi H=>∃ xs x,SqT K H a xs/\xs[i]?=some x,λi H x H'=>H'=H/\∀ xs,SqT K H a xs->xs[i]?=some x,λi H=>∃ xs,SqT K H a xs/\xs.length<=i⟩
def Itr (lo:Int) (n:Nat):It:=⟨λi _=>i<n,λi H x H'=>H'=H/\x=.int (lo+i),λi _=>n<=i⟩
def qbw {P:Program} {w:World} {K:Frg} {tg:Expr} (a it:Addr):Turn P w K tg (Itl K a) [it] it (λi h=>h.IsListIter it a i) where
 mem:=by simp
 obj:=λi h st b hb=>by
  have e:b=it:=by simpa using hb
  subst e;obtain ⟨o,e,c,d⟩:=st;exact ⟨o,e,λv z=>by rw [d] at z;cases z⟩
 keep:=λi h h' st k=>st.at λo e=>k it (by simp) o e
 item:=by
  intro X hP hw hK hc i pins s σ H E I hf st hg;subst hP hw hK;obtain ⟨xs,x,hq,hx⟩:=hg;obtain ⟨its,rv,p,hz⟩:=I.list hq;obtain ⟨u,hu,ru⟩:=rv.get hx;obtain ⟨f0,f1,f2,f3,f4,f5⟩:=hf it (by simp);refine wpAny_pyNext_list_item st p.isList (x:=u) (by simpa using hu) λh' st' sb=>?_;have I1:Inv X pins σ H { s with heap:=h' }:=I.turned (t':=s.toks) (λb o hb e=>(sb.2 b hb).trans e) f0 f1 f3 f4 f5;obtain ⟨o,e,c,d⟩:=id st';exact ⟨u,rfl,qhR (s:={ s with heap:=h' }) e c d (by decide) ⟨x,H,I1,ru,⟨rfl,λys hy=>by rw [I.list_inj hy hq];exact hx⟩,st',λb hb=>(hf b hb).1⟩⟩
 done:=by
  intro X hP hw hK hc i pins s σ H E I hf st hg;subst hP hw hK;obtain ⟨xs,hq,hx⟩:=hg;obtain ⟨its,rv,p,hz⟩:=I.list hq;obtain ⟨f0,f1,f2,f3,f4,f5⟩:=hf it (by simp);have hl:=rv.length;exact wpAny_pyNext_list_end (I.ok.hd hc) st p.isList (by simp;omega) λh' eb=>⟨rfl,I.turned (t':=s.toks) (λb o hb e=>eb b o hb e) f0 f1 f3 f4 f5⟩
 self:=λ_ _ _ _ _ st h=>wpAny_pyIter_listiter st h
def qaH {P:Program} {w:World} {K:Frg} {tg:Expr} (a it:Addr):Turn P w K tg (Itt K a) [it] it (λi h=>h.IsTupleIter it a i) where
 mem:=by simp
 obj:=λi h st b hb=>by
  have e:b=it:=by simpa using hb
  subst e;obtain ⟨o,e,c,d⟩:=st;exact ⟨o,e,λv z=>by rw [d] at z;cases z⟩
 keep:=λi h h' st k=>st.at λo e=>k it (by simp) o e
 item:=by
  intro X hP hw hK hc i pins s σ H E I hf st hg;subst hP hw hK;obtain ⟨xs,x,hq,hx⟩:=hg;obtain ⟨its,rv,p,hz⟩:=I.tuple hq;obtain ⟨u,hu,ru⟩:=rv.get hx;obtain ⟨f0,f1,f2,f3,f4,f5⟩:=hf it (by simp);refine wpAny_pyNext_tuple_item st (show s.heap.IsTuple a its.toArray from p) (x:=u) (by simpa using hu) λh' st' sb=>?_;have I1:Inv X pins σ H { s with heap:=h' }:=I.turned (t':=s.toks) (λb o hb e=>(sb.2 b hb).trans e) f0 f1 f3 f4 f5;obtain ⟨o,e,c,d⟩:=id st';exact ⟨u,rfl,qhR (s:={ s with heap:=h' }) e c d (by decide) ⟨x,H,I1,ru,⟨rfl,λys hy=>by rw [I.tuple_inj hy hq];exact hx⟩,st',λb hb=>(hf b hb).1⟩⟩
 done:=by
  intro X hP hw hK hc i pins s σ H E I hf st hg;subst hP hw hK;obtain ⟨xs,hq,hx⟩:=hg;obtain ⟨its,rv,p,hz⟩:=I.tuple hq;obtain ⟨f0,f1,f2,f3,f4,f5⟩:=hf it (by simp);have hl:=rv.length;exact wpAny_pyNext_tuple_end (I.ok.hd hc) st (show s.heap.IsTuple a its.toArray from p) (by simp;omega) λh' eb=>⟨rfl,I.turned (t':=s.toks) (λb o hb e=>eb b o hb e) f0 f1 f3 f4 f5⟩
 self:=λ_ _ _ _ _ st h=>wpAny_pyIter_tupleiter st h
def qah {P:Program} {w:World} {K:Frg} {tg:Expr} (it:Addr) (lo:Int) (n:Nat):Turn P w K tg (Itr lo n) [it] it (λi h=>IsRangeIter h it (lo+(i:Nat)*1) ((n:Int)-(i:Nat)) 1) where
 mem:=by simp
 obj:=λi h st b hb=>by
  have e:b=it:=by simpa using hb
  subst e;exact ⟨_,st,λv z=>by
   have z':Data.fields _=Data.cell v:=z;cases z'⟩
 keep:=λi h h' st k=>k it (by simp) _ st
 item:=by
  intro X hP hw hK hc i pins s σ H E I hf st hg;subst hP hw hK;obtain ⟨f0,f1,f2,f3,f4,f5⟩:=hf it (by simp);have W:=Walks.range (prog:=X.prog) (w:=X.w) (I.ok.hd hc) it lo 1 n;refine W.item i s _ _ hg st λv h' tk hv st' kk=>?_;obtain ⟨t,rfl⟩:=hv;have I1:Inv X pins σ H { s with heap:=h',toks:=tk }:=I.turned (λb o hb e=>kk b o (by simpa using hb) e) f0 f1 f3 f4 f5;refine ⟨_,rfl,qhR (s:={ s with heap:=h',toks:=tk }) (n:="range_iterator") st' rfl rfl (by decide) ⟨.int (lo+i),H,I1,⟨t,?_⟩,⟨rfl,rfl⟩,st',λb hb=>(hf b hb).1⟩⟩;rw [Int.mul_one]
 done:=by
  intro X hP hw hK hc i pins s σ H E I hf st hg;subst hP hw hK;obtain ⟨f0,f1,f2,f3,f4,f5⟩:=hf it (by simp);exact wpAny_pyNext_range_end (I.ok.hd hc) st (by have:n<=i:=hg;omega) λh' eb=>⟨rfl,I.turned (t':=s.toks) (λb o hb e=>eb b o hb e) f0 f1 f3 f4 f5⟩
 self:=λ_ _ _ _ _ st h=>wpAny_pyIter_rangeiter st h
section
variable {X:Cx} {tg:Expr}
def NS {pins:List (Addr×Obj)} {σ:St} {H:Hp} {s:Shared} {R:It->Hp->Prop} {E:Value->Shared->Prop} {lo hi:Int} {t u v:Tok} {tk:Nat} (I:Inv X pins σ H s) (h1:-(2 ^ 62)<=lo) (h2:lo<2 ^ 62) (h3:-(2 ^ 62)<=hi) (h4:hi<2 ^ 62)
  (q:R (Itr lo (hi-lo).toNat) H):wpAny (model X.prog X.w) X.A (pyIter (.ref s.heap.objs.size)) (PIE X pins σ tg R) E { s with heap:=s.heap.push { cls:=.type "range",data:=.fields #[.int lo t,.int hi u,.int 1 v] },toks:=tk }:=by
 refine wpAny_pyIter_range (IsRange.new ..) (small_one h1 h2 h3 h4) ?_;have I1:Inv X pins σ H { s with heap:=s.heap.push { cls:=.type "range",data:=.fields #[.int lo t,.int hi u,.int 1 v] },toks:=tk }:=I.kept λb o e=>y3 _ e;refine ⟨(s.heap.push { cls:=.type "range",data:=.fields #[.int lo t,.int hi u,.int 1 v] }).objs.size,[(s.heap.push { cls:=.type "range",data:=.fields #[.int lo t,.int hi u,.int 1 v] }).objs.size],_,_,H,rfl,
  I1.kept (t':=tk) λb o e=>y3 _ e,qah _ lo (hi-lo).toNat,?_,λb hb=>?_,q⟩
 ·have e1:lo+((0:Nat):Int)*1=lo:=by simp
  have e2:(((hi-lo).toNat:Nat):Int)-((0:Nat):Int)=Builtin.Range.rangeSize lo hi 1:=by rw [rangeSize_one];split<;>omega
  show IsRangeIter _ _ (lo+((0:Nat):Int)*1) ((((hi-lo).toNat:Nat):Int)-((0:Nat):Int)) 1;rw [e1,e2];exact y4 _ rfl
 ·have e:b=(s.heap.push { cls:=.type "range",data:=.fields #[.int lo t,.int hi u,.int 1 v] }).objs.size:=by simpa using hb
  subst e;exact I1.fpOk (v5 _) (I1.hok.fresh (v5 _))
def qo2 (ta:TA):TI:=λσ H R=>ta σ H λvs H1=>∃ j:Int,vs=[.int j]/\-(2 ^ 62)<=j/\j<2 ^ 62/\R (Itr 0 j.toNat) H1
def qqI (ta:TA):TI:=λσ H R=>ta σ H λvs H1=>∃ i j:Int,vs=[.int i,.int j]/\(-(2 ^ 62)<=i/\i<2 ^ 62/\-(2 ^ 62)<=j/\j<2 ^ 62)/\R (Itr i (j-i).toNat) H1
def qa3 {a:Expr} {ta:TA} {p pos:Pos} (hg:Gl X "range") (hm:X.mg "range" = none) (ha:PA X [a] ta) (hs:starEach [a] X.env=[(false,eval a X.env)]:=by rfl):PI X tg (.Call (.Name "range" p) [a] [] pos) (qo2 ta):=by
 intro pins s σ H R I h;refine Call_ (UV I hg hm boot_range (PyProof.Rows.callWith_type1 (thn (ha pos pins s σ H _ I h) λus s1 ⟨vs,H1,I1,r1,q1⟩=>?_) hs rfl));obtain ⟨j,e,q1,q2,q⟩:=q1;subst e;cases r1 with
 |cons r rr=>
  cases rr;obtain ⟨t,rfl⟩:=r;exact call_range_1 (NS I1 (by omega) (by omega) q1 q2 (by simpa using q))
def qcO {a b:Expr} {ta:TA} {p pos:Pos} (hg:Gl X "range") (hm:X.mg "range" = none) (ha:PA X [a,b] ta) (hs:starEach [a,b] X.env=[(false,eval a X.env),(false,eval b X.env)]:=by rfl) (hs2:starEach [b] X.env=[(false,eval b X.env)]:=by rfl) :
  PI X tg (.Call (.Name "range" p) [a,b] [] pos) (qqI ta):=by
 intro pins s σ H R I h;refine Call_ (UV I hg hm boot_range (PyProof.Rows.callWith_type1 (thn (ha pos pins s σ H _ I h) λus s1 ⟨vs,H1,I1,r1,q1⟩=>?_) (by rw [hs,hs2]) (by rw [hs2];rfl)));obtain ⟨i,j,e,⟨q1,q2,q3,q4⟩,q⟩:=q1;subst e;cases r1 with
 |cons r rr=>
  cases rr with
  |cons r' rr=>
   cases rr;obtain ⟨t,rfl⟩:=r;obtain ⟨t',rfl⟩:=r';exact call_range_2 (NS I1 q1 q2 q3 q4 q)
def qsk (wi:TI) (g:TG) (tb:TS):TS:=λD σ H=>wi σ H λJ H1=>∃ W:Nat->Nat->St->Hp->Prop,(∃ m,W 0 m σ H1)/\∀ i m σ H,W i m σ H ->
 (J.stop i H/\D.nx σ H)\/(J.go i H/\∃ N:St->Hp->Prop,(∀ σ' H',N σ' H'->∃ m',m'<m/\W (i+1) m' σ' H')/\∀ x H',J.yld i H x H'->g x σ H' λσ2 H2=>tb { D with nx:=N,ct:=N,bk:=D.nx } σ2 H2)
def U1 (fp:List Addr) (h:Heap):List (Addr×Obj):=fp.filterMap λb=>(h.get? b).map λo=>(b,o)
def zd {fp:List Addr} {h:Heap} {b:Addr} {o:Obj} (hb:b∈fp) (e:h.get? b=some o):(b,o)∈U1 fp h:=List.mem_filterMap.mpr ⟨b,hb,by rw [e];rfl⟩
def qcq {fp:List Addr} {h:Heap} {p:Addr×Obj} (hp:p∈U1 fp h):p.1∈fp/\h.get? p.1=some p.2:=by
 obtain ⟨b,hb,e⟩:=List.mem_filterMap.mp hp;cases q:h.get? b with
 |none=>rw [q] at e;cases e
 |some o=>
  rw [q] at e;have e':(b,o)=p:=Option.some.inj e;subst e';exact ⟨hb,q⟩
def Inv.pinned {pins:List (Addr×Obj)} {σ:St} {H:Hp} {s:Shared} {fp:List Addr} (I:Inv X pins σ H s) (hf:∀ b∈fp,CB X pins H b) (ho:∀ b∈fp,∃ o,s.heap.get? b=some o/\∀ v,o.data≠.cell v):Inv X (pins++U1 fp s.heap) σ H s:=
 I.pins_of λp hp=>(List.mem_append.mp hp).elim (λz=>I.pin p (v7 _ z)) λz=>by
  obtain ⟨hb,e⟩:=qcq z;obtain ⟨f0,f1,f2,_⟩:=hf p.1 hb;obtain ⟨o,e',d⟩:=ho p.1 hb;rw [e] at e';cases e';exact ⟨e,f0,f1,f2,d⟩
def Inv.unpinned {pins pl:List (Addr×Obj)} {σ:St} {H:Hp} {s:Shared} (I:Inv X (pins++pl) σ H s):Inv X pins σ H s:=I.pins_of λp hp=>I.pin p (v7 _ (List.mem_append_left _ hp))
def qmi {iter:Expr} {body:List Stmt} {wi:TI} {g:TG} {tb:TS} {pos:Pos} (hp:PassesOwn (model X.prog X.w) X.A X.env X.xe) (hc:X.calm=true) (hi:PI X tg iter wi) (hg:PG X tg g) (hb:PSs X body tb)
  (hs:∀ x,foldedSetIterable iter X.env x=pure x:=by intro _;rfl):PS X (.For tg iter body [] pos) (qsk wi g tb):=by
 intro pins s σ H D I h;refine wpAny_For (thn (hi pins s σ H _ I h) λv s1 h1=>thn h1 λitv s2 h2=>?_) hs;obtain ⟨it,fp,tn,J,H2,e,I2,T,st2,f2,W,⟨m0,w0⟩,turn⟩:=h2;subst e
 -- what stays true of the iterator's objects through the loop
 have stat:∀ {H':Hp},(∀ b∈fp,H' b=none)->∀ b∈fp,CB X pins H' b:=λhn b hb=>⟨hn b hb,(f2 b hb).2⟩
 refine codeAny_forLoop_any (λn s'=>∃ i σ' H',Inv X pins σ' H' s'/\tn i s'.heap/\(∀ b∈fp,H' b=none)/\W i n σ' H') ?_ m0 ⟨0,σ,H2,I2,st2,λb hb=>(f2 b hb).1,w0⟩;rintro n s3 ⟨i,σ3,H3,I3,st3,fr3,w3⟩;rcases turn i n σ3 H3 w3 with ⟨stop,qn⟩|⟨go,N,hN,step⟩
 ·refine wpAny_passesOwn hp (thn (T.done X rfl rfl rfl hc i pins s3 σ3 H3 X.xe I3 (stat fr3) st3 stop) λr s4 ⟨hr,I4⟩=>?_);subst hr;exact wpAny_execs_nil ⟨σ3,H3,I4,qn⟩
 ·refine wpAny_passesOwn hp (thn (T.item X rfl rfl rfl hc i pins s3 σ3 H3 X.xe I3 (stat fr3) st3 go) λr s4 ⟨u,hr,h4⟩=>?_);subst hr;refine wpAny_passesOwn hp (thn h4 λ_ s5 ⟨x,H5,I5,r5,y5,st5,fr5⟩=>?_);have I5':=I5.pinned (stat fr5) (T.obj _ _ st5);refine wpAny_passesOwn hp (thn (hg _ s5 σ3 H5 x u _ I5' r5 (step x H5 y5)) λ_ s6 ⟨σ6,H6,I6,q6⟩=>?_);refine wpAny_passesOwn hp (thn (hb _ s6 σ6 H6 _ I6 q6) λf s7 q7=>?_);have again:∀ {σ7:St} {H7:Hp},Inv X (pins++U1 fp s5.heap) σ7 H7 s7->N σ7 H7->∃ m,m<n/\∃ i σ' H',Inv X pins σ' H' s7/\tn i s7.heap/\(∀ b∈fp,H' b=none)/\W i m σ' H':=λ{σ7 H7} I7 n7=>by
   obtain ⟨m',hm,w7⟩:=hN σ7 H7 n7;refine ⟨m',hm,i+1,σ7,H7,I7.unpinned,T.keep _ _ _ st5 λb hb o e=>(I7.pin (b,o) (v7 _ (v7 _ (zd hb e)))).1,λb hb=>?_,w7⟩;obtain ⟨o,e,d⟩:=T.obj _ _ st5 b hb;exact (I7.pin (b,o) (v7 _ (v7 _ (zd hb e)))).2.1
  cases f with
  |next=>obtain ⟨σ7,H7,I7,n7⟩:=q7;exact again I7 n7
  |cont=>obtain ⟨σ7,H7,I7,n7⟩:=q7;exact again I7 n7
  |brk=>obtain ⟨σ7,H7,I7,q7⟩:=q7;exact ⟨σ7,H7,I7.unpinned,q7⟩
  |ret v=>obtain ⟨x7,σ7,H7,I7,r7,q7⟩:=q7;exact ⟨x7,σ7,H7,I7.unpinned,r7,q7⟩
end
abbrev R2:=V->V->Hp->VK->Prop
def OpR (X:Cx) (f:Value->Value->Sem Value) (r:R2):Prop:=
 ∀ (pins:List (Addr×Obj)) (s:Shared) (σ:St) (H:Hp) (x y:V) (v u:Value) (Q:VK),Inv X pins σ H s->jx x v->jx y u->r x y H Q ->
  wpAny (model X.prog X.w) X.A (f v u) (EP X pins σ Q) X.xe s
def J5 (X:Cx) (f:Value) (r:List V->Hp->VK->Prop):Prop:=
 ∀ (pins:List (Addr×Obj)) (s:Shared) (σ:St) (H:Hp) (xs:List V) (us:List Value) (Q:VK),Inv X pins σ H s->zt xs us->r xs H Q ->
  wpAny (model X.prog X.w) X.A (call f us) (EP X pins σ Q) X.xe s
def tOp (r:R2) (ta tb:TE):TE:=λσ H Q=>ta σ H λx H1=>tb σ H1 λy H2=>r x y H2 Q
def rI (C:Int->Int->Prop) (g:Int->Int->V):R2:=λx y H Q=>∃ i j,x=.int i/\y=.int j/\C i j/\Q (g i j) H
def rI0 (g:Int->Int->V):R2:=λx y H Q=>∃ i j,x=.int i/\y=.int j/\Q (g i j) H
section
variable {X:Cx} {a b c:Expr} {ta tb tc:TE} {pos:Pos}
def qqU (ha:PE X a ta) (hb:PE X b tb) {pins:List (Addr×Obj)} {s:Shared} {σ:St} {H:Hp} {R:V->V->Hp->Prop} (I:Inv X pins σ H s)
  (h:ta σ H λx H1=>tb σ H1 λy H2=>R x y H2) {Q:Value->Shared->Prop} {f:Value->Value->Sem Value}
  (hf:∀ v u s2 x y H2,Inv X pins σ H2 s2->jx x v->jx y u->R x y H2->wpAny (model X.prog X.w) X.A (f v u) Q X.xe s2) :
  wpAny (model X.prog X.w) X.A (eval a X.env) (λv s₁=>wpAny (model X.prog X.w) X.A (eval b X.env) (λu s₂=>wpAny (model X.prog X.w) X.A (f v u) Q X.xe s₂) X.xe s₁) X.xe s:=by
 refine thn (ha pins s σ H _ I h) λv s1 ⟨x,H1,I1,r1,q1⟩=>?_;refine thn (hb pins s1 σ H1 _ I1 q1) λu s2 ⟨y,H2,I2,r2,q2⟩=>?_;exact hf v u s2 x y H2 I2 r1 r2 q2
def qp2 {op:Operator} {r:R2} (ho:OpR X (binaryOp op) r) (ha:PE X a ta) (hb:PE X b tb):PE X (.BinOp a op b pos) (tOp r ta tb):=by
 intro pins s σ H Q I h;exact wpAny_BinOp (qqU ha hb I h λv u s2 x y H2 I2 rx ry q=>ho pins s2 σ H2 x y v u Q I2 rx ry q)
def opI {f:Value->Value->Sem Value} {C:Int->Int->Prop} {g:Int->Int->Int}
  (rule:∀ (i j:Int) (t u:Tok) (s:Shared) (Q:Value->Shared->Prop) (E:Value->Shared->Prop),C i j->Q (.int (g i j) s.toks) { s with toks:=s.toks+1 }->wpAny (model X.prog X.w) X.A (f (.int i t) (.int j u)) Q E s) :
  OpR X f (rI C λi j=>.int (g i j)):=by
 intro pins s σ H x y v u Q I rx ry h;obtain ⟨i,j,rfl,rfl,hc,q⟩:=h;obtain ⟨t,rfl⟩:=rx;obtain ⟨t',rfl⟩:=ry;exact rule i j t t' s _ _ hc ⟨.int (g i j),H,I.tok _,⟨_,rfl⟩,q⟩
def qrb {f:Value->Value->Sem Value} {g:Int->Int->Int}
  (rule:∀ (i j:Int) (t u:Tok) (s:Shared) (Q:Value->Shared->Prop) (E:Value->Shared->Prop),Q (.int (g i j) s.toks) { s with toks:=s.toks+1 }->wpAny (model X.prog X.w) X.A (f (.int i t) (.int j u)) Q E s) :
  OpR X f (rI0 λi j=>.int (g i j)):=by
 intro pins s σ H x y v u Q I rx ry h;obtain ⟨i,j,rfl,rfl,q⟩:=h;obtain ⟨t,rfl⟩:=rx;obtain ⟨t',rfl⟩:=ry;exact rule i j t t' s _ _ ⟨.int (g i j),H,I.tok _,⟨_,rfl⟩,q⟩
def qoK {f:Value->Value->Sem Value} {g:Int->Int->Bool}
  (rule:∀ (i j:Int) (t u:Tok) (s:Shared) (Q:Value->Shared->Prop) (E:Value->Shared->Prop),Q (.bool (g i j)) s->wpAny (model X.prog X.w) X.A (f (.int i t) (.int j u)) Q E s) :
  OpR X f (rI0 λi j=>.bl (g i j)):=by
 intro pins s σ H x y v u Q I rx ry h;obtain ⟨i,j,rfl,rfl,q⟩:=h;obtain ⟨t,rfl⟩:=rx;obtain ⟨t',rfl⟩:=ry;exact rule i j t t' s _ _ ⟨.bl (g i j),H,I,rfl,q⟩
def LG (i j:Int):Prop:=0<j/\j<1073741824
def qau (i j:Int):Prop:=0<=j/\j<=1000000/\i.natAbs<2 ^ 64
def US (i j:Int):Prop:=(-(2 ^ 64)<i/\i<2 ^ 64)\/(-(2 ^ 64)<j/\j<2 ^ 64)
def US.ok {i j:Int} (h:US i j):IntMulOk i j:=by
 rcases h with ⟨h1,h2⟩|⟨h1,h2⟩
 ·exact .of_left (intBits_le_64 h1 h2)
 ·exact .of_right (intBits_le_64 h1 h2)
def qaE (k:Nat):(0:Int)<=2 ^ k:=by
 rw [two_pow_cast];exact Int.natCast_nonneg _
def qnK:OpR X (binaryOp .Add) (rI0 λi j=>.int (i+j)):=qrb λ_ _ _ _ _ _ _ q=>add_int q
def qlc:OpR X (binaryOp .Mult) (rI US λi j=>.int (i*j)):=opI λ_ _ _ _ _ _ _ hc q=>mul_int q hc.ok
def qg8:OpR X (binaryOp .FloorDiv) (rI LG λi j=>.int (i/j)):=opI λi j _ _ _ _ _ hc q=>by
 have h1:(0:Int)<j:=hc.1;have h2:j<1073741824:=hc.2;exact floordiv_int (by omega) (by rw [Int.fdiv_eq_ediv_of_nonneg i (by omega)];exact q) (.inl (PyProof.noPylong_small (by omega)))
def qkm:OpR X (binaryOp .Mod) (rI (λ_ j=>0<j) λi j=>.int (i%j)):=opI λi j _ _ _ _ _ hc q=>by
 have h1:(0:Int)<j:=hc;exact mod_int' (by omega) (by rw [Int.fmod_eq_emod_of_nonneg i (by omega)];exact q)
def qkA:OpR X (binaryOp .Pow) (rI qau λi j=>.int (i ^ j.toNat)):=opI λ_ _ _ _ _ _ _ hc q=>pow_int_small hc.1 hc.2.1 hc.2.2 q
def qmA:OpR X (binaryOp .LShift) (rI qau λi j=>.int (i*2 ^ j.toNat)):=opI λ_ _ _ _ _ _ _ hc q=>lshift_int_small hc.1 hc.2.1 hc.2.2 q
def qmW:OpR X (binaryOp .RShift) (rI (λ_ j=>0<=j) λi j=>.int (i/2 ^ j.toNat)):=opI λi j _ _ _ _ _ hc q=>
 rshift_int hc (by rw [Int.fdiv_eq_ediv_of_nonneg i (qaE _)];exact q)
def qoc:OpR X (binaryOp .BitAnd) (rI0 λi j=>.int (Builtin.bitAnd i j)):=qrb λ_ _ _ _ _ _ _ q=>and_int q
end
def qp9:V->V->Bool
 |.non,.non=>true|.non,.int _=>true|.int _,.non=>true|.non,.bl _=>true|.bl _,.non=>true|.non,.str _=>true|.str _,.non=>true
 |.int _,.int _=>true|.bl _,.bl _=>true|.str _,.str _=>true|.byt _,.byt _=>true
 |.int _,.str _=>true|.str _,.int _=>true|.bl _,.str _=>true|.str _,.bl _=>true
 |_,_=>false
def rEq:R2:=λx y H Q=>qp9 x y=true/\Q (.bl (decide (x=y))) H
def rNe:R2:=λx y H Q=>qp9 x y=true/\Q (.bl (!decide (x=y))) H
def qbz {i j:Int}:decide (V.int i=V.int j)=(i==j):=by
 rw [Bool.eq_iff_iff];simp
def qfz {i j:Bool}:decide (V.bl i=V.bl j)=(i==j):=by
 rw [Bool.eq_iff_iff];simp
def qbe {i j:Str}:decide (V.str i=V.str j)=(i==j):=by
 rw [Bool.eq_iff_iff];simp
def qba {i j:Array UInt8}:decide (V.byt i=V.byt j)=(i.toList==j.toList):=by
 rw [Bool.eq_iff_iff];cases i;cases j;simp
section
variable {X:Cx} {a b c:Expr} {ta tb tc:TE} {pos:Pos}
def qY {pins:List (Addr×Obj)} {σ:St} {H:Hp} {s:Shared} {Q:VK} {k k':Bool} (I:Inv X pins σ H s) (q:Q (.bl k) H) (e:k=k'):EP X pins σ Q (.bool k') s:=by
 subst e;exact ⟨.bl k,H,I,rfl,q⟩
def qqs:OpR X (compareOp .Eq) rEq:=by
 intro pins s σ H x y v u Q I rx ry h;obtain ⟨hs,q⟩:=h;cases x with
 |non=>
  cases rx;cases y with
  |non=>cases ry;exact PySem.EqNone.eq_none_none (qY I q (by simp))
  |bl j=>cases ry;exact PySem.EqNone.eq_none_bool (qY I q (by simp))
  |int j=>obtain ⟨t',rfl⟩:=ry;exact PySem.EqNone.eq_none_int (qY I q (by simp))
  |str j=>obtain ⟨t',rfl⟩:=ry;exact PySem.EqNone.eq_none_str (qY I q (by simp))
  |_=>exact absurd (show false=true from hs) y8
 |bl i=>
  cases rx;cases y with
  |non=>cases ry;exact PySem.EqNone.eq_bool_none (qY I q (by simp))
  |bl j=>cases ry;exact eq_bool (qY I q qfz)
  |str j=>obtain ⟨t',rfl⟩:=ry;exact PySem.EqMixed.eq_bool_str (qY I q (by simp))
  |_=>exact absurd (show false=true from hs) y8
 |int i=>
  obtain ⟨t,rfl⟩:=rx;cases y with
  |non=>cases ry;exact PySem.EqNone.eq_int_none (qY I q (by simp))
  |int j=>obtain ⟨t',rfl⟩:=ry;exact eq_int (qY I q qbz)
  |str j=>obtain ⟨t',rfl⟩:=ry;exact PySem.EqMixed.eq_int_str (qY I q (by simp))
  |_=>exact absurd (show false=true from hs) y8
 |str i=>
  obtain ⟨t,rfl⟩:=rx;cases y with
  |non=>cases ry;exact PySem.EqNone.eq_str_none (qY I q (by simp))
  |bl j=>cases ry;exact PySem.EqMixed.eq_str_bool (qY I q (by simp))
  |int j=>obtain ⟨t',rfl⟩:=ry;exact PySem.EqMixed.eq_str_int (qY I q (by simp))
  |str j=>obtain ⟨t',rfl⟩:=ry;exact eq_str (qY I q qbe)
  |_=>exact absurd (show false=true from hs) y8
 |byt i=>
  obtain ⟨t,rfl⟩:=rx;cases y with
  |byt j=>obtain ⟨t',rfl⟩:=ry;exact PySem.W.eq_bytes (qY I q qba)
  |_=>exact absurd (show false=true from hs) y8
 |_=>cases y<;>exact absurd (show false=true from hs) y8
def qqy:OpR X (compareOp .NotEq) rNe:=by
 intro pins s σ H x y v u Q I rx ry h;obtain ⟨hs,q⟩:=h;cases x with
 |non=>
  cases rx;cases y with
  |non=>cases ry;exact PySem.EqNone.ne_none_none (qY I q (by simp))
  |bl j=>cases ry;exact PySem.EqNone.ne_none_bool (qY I q (by simp))
  |int j=>obtain ⟨t',rfl⟩:=ry;exact PySem.EqNone.ne_none_int (qY I q (by simp))
  |str j=>obtain ⟨t',rfl⟩:=ry;exact PySem.EqNone.ne_none_str (qY I q (by simp))
  |_=>exact absurd (show false=true from hs) y8
 |bl i=>
  cases rx;cases y with
  |non=>cases ry;exact PySem.EqNone.ne_bool_none (qY I q (by simp))
  |bl j=>cases ry;exact ne_bool (qY I q (congrArg not qfz))
  |str j=>obtain ⟨t',rfl⟩:=ry;exact PySem.EqMixed.ne_bool_str (qY I q (by simp))
  |_=>exact absurd (show false=true from hs) y8
 |int i=>
  obtain ⟨t,rfl⟩:=rx;cases y with
  |non=>cases ry;exact PySem.EqNone.ne_int_none (qY I q (by simp))
  |int j=>obtain ⟨t',rfl⟩:=ry;exact ne_int (qY I q (congrArg not qbz))
  |str j=>obtain ⟨t',rfl⟩:=ry;exact PySem.EqMixed.ne_int_str (qY I q (by simp))
  |_=>exact absurd (show false=true from hs) y8
 |str i=>
  obtain ⟨t,rfl⟩:=rx;cases y with
  |non=>cases ry;exact PySem.EqNone.ne_str_none (qY I q (by simp))
  |bl j=>cases ry;exact PySem.EqMixed.ne_str_bool (qY I q (by simp))
  |int j=>obtain ⟨t',rfl⟩:=ry;exact PySem.EqMixed.ne_str_int (qY I q (by simp))
  |str j=>obtain ⟨t',rfl⟩:=ry;exact ne_str (qY I q (congrArg not qbe))
  |_=>exact absurd (show false=true from hs) y8
 |byt i=>
  obtain ⟨t,rfl⟩:=rx;cases y with
  |byt j=>obtain ⟨t',rfl⟩:=ry;exact PySem.W.ne_bytes (qY I q (congrArg not qba))
  |_=>exact absurd (show false=true from hs) y8
 |_=>cases y<;>exact absurd (show false=true from hs) y8
def qh4:OpR X (compareOp .Lt) (rI0 λi j=>.bl (decide (i<j))):=qoK λ_ _ _ _ _ _ _ q=>lt_int q
def qoW:OpR X (compareOp .LtE) (rI0 λi j=>.bl (decide (i<=j))):=qoK λ_ _ _ _ _ _ _ q=>le_int q
def qgZ:OpR X (compareOp .Gt) (rI0 λi j=>.bl (decide (j<i))):=qoK λ_ _ _ _ _ _ _ q=>gt_int q
def qqw:OpR X (compareOp .GtE) (rI0 λi j=>.bl (decide (j<=i))):=qoK λ_ _ _ _ _ _ _ q=>ge_int q
def OpR.or {f:Value->Value->Sem Value} {r r':R2} (h:OpR X f r) (h':OpR X f r'):OpR X f (λx y H Q=>r x y H Q\/r' x y H Q):=by
 intro pins s σ H x y v u Q I rx ry q;rcases q with q|q
 ·exact h pins s σ H x y v u Q I rx ry q
 ·exact h' pins s σ H x y v u Q I rx ry q
def qV (b:Expr) {op:CmpOp} (h:op≠.In:=by decide) (h2:op≠.NotIn:=by decide):behindInMarks op b=false:=by
 have e1:(op==CmpOp.In)=false:=by cases op<;>first|rfl|exact absurd rfl h
 have e2:(op==CmpOp.NotIn)=false:=by cases op<;>first|rfl|exact absurd rfl h2
 cases b<;>simp [behindInMarks,e1,e2]
def qhO {op:CmpOp} {r:R2} (ho:OpR X (compareOp op) r) (ha:PE X a ta) (hb:PE X b tb) (hm:behindInMarks op b=false):PE X (.Compare a [op] [b] pos) (tOp r ta tb):=by
 intro pins s σ H Q I h;exact wpAny_Compare1 (qqU ha hb I h λv u s2 x y H2 I2 rx ry q=>ho pins s2 σ H2 x y v u Q I2 rx ry q) hm
def qok (t:TE):TT:=λσ H Q=>t σ H λx H'=>∃ k,x=.bl k/\Q k H'
def qhF {op:CmpOp} {r:R2} (ho:OpR X (compareOp op) r) (ha:PE X a ta) (hb:PE X b tb) (hm:behindInMarks op b=false):PT X (.Compare a [op] [b] pos) (qok (tOp r ta tb)):=by
 intro pins s σ H Q I h;refine wpAny_isTrue_Compare1 (thn (ha pins s σ H _ I h) λv s1 ⟨x,H1,I1,r1,q1⟩=>thn (hb pins s1 σ H1 _ I1 q1) λu s2 ⟨y,H2,I2,r2,q2⟩=>
  thn (ho pins s2 σ H2 x y v u _ I2 r1 r2 q2) λc s3 ⟨z,H3,I3,r3,k,e,q3⟩=>?_) hm
 subst e;cases r3;exact wpAny_truthy_bool ⟨H3,I3,q3⟩
def KR:(sizeLine:Nat)<2 ^ 63:=by rw [y9];decide
def ED {x:V} {us:List Value} (r:zt [x] us):∃ u,us=[u]/\jx x u:=by
 cases r with
 |cons r1 r2=>cases r2;exact ⟨_,rfl,r1⟩
def qdW {x y:V} {us:List Value} (r:zt [x,y] us):∃ u w',us=[u,w']/\jx x u/\jx y w':=by
 cases r with
 |cons r1 r2=>
  cases r2 with
  |cons r3 r4=>cases r4;exact ⟨_,_,rfl,r1,r3⟩
def M4:J5 X (.builtin "abs") (λxs H Q=>∃ i,xs=[.int i]/\Q (.int (if i<0 then -i else i)) H):=by
 intro pins s σ H xs us Q I r h;obtain ⟨i,rfl,q⟩:=h;obtain ⟨u,rfl,t,rfl⟩:=ED r;exact call_abs_int λu tk=>⟨.int (if i<0 then -i else i),H,I.tok _,⟨_,rfl⟩,q⟩
def qcz (hc:X.calm=true):J5 X (.builtin "min") (λxs H Q=>∃ i j,xs=[.int i,.int j]/\Q (.int (if j<i then j else i)) H):=by
 intro pins s σ H xs us Q I r h;obtain ⟨i,j,rfl,q⟩:=h;obtain ⟨u,w',rfl,⟨t,rfl⟩,⟨t',rfl⟩⟩:=qdW r;refine min_two_ints (I.ok.hd hc) λh' tk k=>⟨_,H,I.kept k,?_,q⟩
 by_cases hj:j<i
 ·rw [if_pos hj,if_pos hj];exact ⟨_,rfl⟩
 ·rw [if_neg hj,if_neg hj];exact ⟨_,rfl⟩
def XX:J5 X (.type "int") (λxs H Q=>(∃ i,xs=[.int i]/\Q (.int i) H)\/∃ k,xs=[.bl k]/\Q (.int (if k then 1 else 0)) H):=by
 intro pins s σ H xs us Q I r h;rcases h with ⟨i,rfl,q⟩|⟨k,rfl,q⟩
 ·obtain ⟨u,rfl,t,rfl⟩:=ED r;exact call_int_int ⟨.int i,H,I,⟨_,rfl⟩,q⟩
 ·obtain ⟨u,rfl,r1⟩:=ED r;cases r1;exact call_int_bool ⟨.int (if k then 1 else 0),H,I.tok _,⟨_,rfl⟩,q⟩
def qrI (K:Frg) (x:V) (H:Hp) (n:Nat):Prop:=
 match x with
 |.str y=>y.length<=sizeLine/\n=y.length
 |.byt y=>y.size<=sizeLine/\n=y.size
 |.ref p=>(∃ xs,SqL K H p xs/\n=xs.length)\/∃ xs,SqT K H p xs/\n=xs.length
 |_=>False
def jj:J5 X (.builtin "len") (λxs H Q=>∃ x n,xs=[x]/\qrI X.K x H n/\Q (.int n) H):=by
 intro pins s σ H xs us Q I r h;obtain ⟨x,n,rfl,e,q⟩:=h;obtain ⟨u,rfl,rx⟩:=ED r;have hl:=KR;have hs:sizeLine=16777216:=y9;cases x with
 |str y=>
  obtain ⟨t,rfl⟩:=rx;obtain ⟨hy,e'⟩:y.length<=sizeLine/\n=y.length:=e;subst e';exact len_str (by omega) ⟨.int _,H,I.tok _,⟨_,rfl⟩,q⟩
 |byt y=>
  obtain ⟨t,rfl⟩:=rx;obtain ⟨hy,e'⟩:y.size<=sizeLine/\n=y.size:=e;subst e';exact PySem.W.len_bytes (by omega) ⟨.int _,H,I.tok _,⟨_,rfl⟩,q⟩
 |ref p=>
  cases rx;have e':(∃ xs,SqL X.K H p xs/\n=xs.length)\/∃ xs,SqT X.K H p xs/\n=xs.length:=e;rcases e' with ⟨xs,hx,e'⟩|⟨xs,hx,e'⟩
  ·subst e';obtain ⟨its,r',pl,hz⟩:=I.list hx;have hlen:=r'.length;exact Calls.call_len_list pl.isList (by simp only [size_toArray];omega) ⟨.int xs.length,H,I.tok _,⟨_,by simp only [size_toArray];rw [hlen]⟩,q⟩
  ·subst e';obtain ⟨its,r',pl,hz⟩:=I.tuple hx;have hlen:=r'.length;exact len_tuple pl (by simp only [size_toArray];omega) ⟨.int xs.length,H,I.tok _,⟨_,by simp only [size_toArray];rw [hlen]⟩,q⟩
 |_=>exact (show False from e).elim
end
section
variable {prog:Program} {w:World} {A:Around} {E:Value->Shared->Prop} {s:Shared} {K:Frg} {x dx C f:Addr} {mA:Str->Option Value} {name:Str} {v:Value}
end
section
variable {P:Program} {w:World} {H H':Hp} {h h':Heap} {a C dx:Addr} {fs fs':List (Str×V)}
end
section
variable {X:Cx} {pins:List (Addr×Obj)} {σ:St} {H:Hp} {s:Shared} {a C dx:Addr} {fs:List (Str×V)} {f:Str} {v:V} {A:Around} {E:Value->Shared->Prop}
end
section
variable {X:Cx} {o e value:Expr} {f:Str} {pos pos' tpos:Pos} {ta tv:TE}
end
section
variable {X:Cx} {pins:List (Addr×Obj)} {σ:St} {H:Hp} {s:Shared} {A:Around} {E:Value->Shared->Prop} {Q:Value->Shared->Prop} {c:Value} {b:Bool}
end
structure Room (k:Nat) (A:Around):Prop where
 hd:A.handled=none
 dp:A.depth+3*k+5<recursionLimit
 un:A.units+16*k+200<cLine
 gd:A.guards=some []
def Room.mono {j k:Nat} {A:Around} (r:Room k A) (h:j<=k):Room j A:=⟨r.hd,by have:=r.dp;omega,by have:=r.un;omega,r.gd⟩
theorem Room.deeper {k:Nat} {A:Around} (r:Room (k+1) A) (env:Env):Room k (A.deeper env):=
 ⟨r.hd,by have:=r.dp;show A.depth+1+3*k+5<_;omega,by have:=r.un;show A.units+3+16*k+200<_;omega,r.gd⟩
theorem Room.in1 {k:Nat} {A:Around} (r:Room (k+1) A):Room k A.in1:=
 ⟨r.hd,by have:=r.dp;show A.depth+3*k+5<_;omega,by have:=r.un;show A.units+1+16*k+200<_;omega,r.gd⟩
theorem Room.depth {k:Nat} {A:Around} (r:Room k A):A.depth<recursionLimit:=by have:=r.dp;omega
theorem Room.units {k:Nat} {A:Around} (r:Room k A):A.units+64<cLine:=by have:=r.un;omega
def qrN:TA:=λ_ H Q=>Q [] H
def qqS (ta:TE) (tr:TA):TA:=λσ H Q=>ta σ H λx H1=>tr σ H1 λxs H2=>Q (x::xs) H2
section
variable {X:Cx} {e:Expr} {es:List Expr} {te:TE} {t:TA} {pos:Pos}
def KY:PA X [] qrN:=λ_ _ _ _ H Q I h=>Calls.spliced_nil ⟨[],H,I,.nil,h⟩
def UT (ha:PE X e te) (hr:PA X es t) (hs:starEach (e::es) X.env=(false,eval e X.env)::starEach es X.env:=by rfl):PA X (e::es) (qqS te t):=by
 intro pos pins s σ H Q I h;rw [hs];show wpAny _ _ (spliced ((false,eval e X.env)::backTo pos (starEach es X.env))) _ _ s;refine Calls.spliced_cons (thn (ha pins s σ H _ I h) λu s1 ⟨x,H1,I1,r1,q1⟩=>?_);exact thn (hr pos pins s1 σ H1 _ I1 q1) λus s2 ⟨xs,H2,I2,r2,q2⟩=>⟨x::xs,H2,I2,.cons r1 r2,q2⟩
def qrR (t:TA):TE:=λσ H Q=>t σ H λxs H1=>xs.length<=sizeLine/\∀ p,H1 p=none->Q (.ref p) (upd H1 p (.tup xs))
def qrQ (t:TA):TE:=λσ H Q=>t σ H λxs H1=>xs.length<=sizeLine/\∀ p,H1 p=none->Q (.ref p) (upd H1 p (.lst xs))
def qln {x1} (h:PA X es t):PE X (.Tuple es x1 pos) (qrR t):=by
 intro pins s σ H Q I hq;refine wpAny_Tuple_spliced (thn (h pos pins s σ H _ I hq) λus s1 ⟨xs,H1,I1,r,z,q⟩=>⟨by rw [← r.length];exact z,?_⟩);have hf:H1 s1.heap.objs.size=none:=I1.hok.fresh (v5 _);refine ⟨.ref s1.heap.objs.size,upd H1 s1.heap.objs.size (.tup xs),I1.laid (t':=s1.toks) (λb u e=>y3 _ e) (v5 _) ?_,rfl,q _ hf⟩;exact ⟨z,us,r,⟨_,y4 _ rfl,rfl,_,rfl,rfl⟩⟩
def qkn (h:PA X es t):PE X (.List es pos) (qrQ t):=by
 intro pins s σ H Q I hq;refine wpAny_List_spliced (thn (h pos pins s σ H _ I hq) λus s1 ⟨xs,H1,I1,r,z,q⟩=>⟨by rw [← r.length];exact z,?_⟩);have hf:H1 s1.heap.objs.size=none:=I1.hok.fresh (v5 _);refine ⟨.ref s1.heap.objs.size,upd H1 s1.heap.objs.size (.lst xs),I1.laid (t':=s1.toks) (λb u e=>y3 _ e) (v5 _) ?_,rfl,q _ hf⟩;exact ⟨z,us,0,r,y4 _ rfl⟩
end
abbrev Sp:=List V->Hp->VK->XK->Prop
abbrev CXT:=List Env->Hp->Shared->XK->Value->Shared->Prop
structure Env0 (P:Program) (w:World) (K:Frg) (mg:Str->Option Value) (base:Heap) (A:Around) (outer:List Env) (s:Shared) (H:Hp):Prop where
 frames:A.frames=some outer
 mod:Mod K mg base
 bs:∀ b o,base.get? b=some o->s.heap.get? b=some o/\H b=none
 bsz:base.objs.size<=s.heap.objs.size
 funs:s.heap.FunFrames base outer
 frf:∀ b∈frs outer,H b=none
 hok:HOk P w H s.heap
 bare:AllBare s.gens
def CE (outer:List Env) (P:Program) (w:World) (H:Hp) (s:Shared) (Q:VK) (u:Value) (s':Shared):Prop:=
 ∃ v H',s'.os=s.os/\AllBare s'.gens/\Un (frs outer) [] H H' s.heap s'.heap/\HOk P w H' s'.heap/\jx v u/\Q v H'
def CR (CX:CXT) (outer:List Env) (P:Program) (w:World) (H:Hp) (s:Shared) (Q:VK) (E:XK) (r:Result) (s':Shared):Prop:=
 match r with
 |.ok (.ret u)=>CE outer P w H s Q u s'
 |.ok _=>False
 |.error e=>CX outer H s E e s'
structure FnOk (P:Program) (w:World) (K:Frg) (mg:Str->Option Value) (base:Heap) (CX:CXT) (k:Nat) (f:Addr) (fd:FuncData) (ps:List Str) (sp:Sp):Prop where
 len:∀ vs H Q E,sp vs H Q E->vs.length=ps.length
 run:∀ (A:Around) (outer:List Env) (s:Shared) (H:Hp) (args:Args) (us:List Value) (vs:List V) (Q:VK) (E:XK),Room k A->Env0 P w K mg base A outer s H->BindsTo s fd args (ps.zip us)->zt vs us->sp vs H Q E ->
  codeAny (model P w) A (.call (.ref f) args) (CR CX outer P w H s Q E) s
theorem FnOk.mono {P:Program} {w:World} {K:Frg} {mg:Str->Option Value} {base:Heap} {CX:CXT} {j k:Nat} {f:Addr} {fd:FuncData} {ps:List Str} {sp:Sp} (F:FnOk P w K mg base CX j f fd ps sp) (h:j<=k) :
  FnOk P w K mg base CX k f fd ps sp:=⟨F.len,λA outer s H args us vs Q E hr=>F.run A outer s H args us vs Q E (hr.mono h)⟩
def FnOk.imp {P:Program} {w:World} {K:Frg} {mg:Str->Option Value} {base:Heap} {CX:CXT} {k:Nat} {f:Addr} {fd:FuncData} {ps:List Str} {sp sp':Sp} (F:FnOk P w K mg base CX k f fd ps sp)
  (h:∀ vs H Q E,sp' vs H Q E->sp vs H Q E):FnOk P w K mg base CX k f fd ps sp':=
 ⟨λvs H Q E q=>F.len vs H Q E (h _ _ _ _ q),λA outer s H args us vs Q E hr he hb hv hs=>F.run A outer s H args us vs Q E hr he hb hv (h _ _ _ _ hs)⟩
theorem Env0.in1 {P:Program} {w:World} {K:Frg} {mg:Str->Option Value} {base:Heap} {A:Around} {outer:List Env} {s:Shared} {H:Hp} (e:Env0 P w K mg base A outer s H) :
  Env0 P w K mg base A.in1 outer s H:=⟨e.frames,e.mod,e.bs,e.bsz,e.funs,e.frf,e.hok,e.bare⟩
section
variable {X:Cx} {pins:List (Addr×Obj)} {σ:St} {H:Hp} {s s':Shared}
def Inv.env0 (I:Inv X pins σ H s):Env0 X.prog X.w X.K X.mg X.base X.A X.stack s H:=
 ⟨I.ok.frames,I.ok.mod,I.bs,u0 I.ok.bsz I.sz,I.stack,I.stkFree,I.hok,I.bare⟩
def Inv.after {Q:VK} {u:Value} (I:Inv X pins σ H s) (h:CE X.stack X.prog X.w H s Q u s'):EP X pins σ Q u s':=by
 obtain ⟨v,H',os,bare,un,hok,r,q⟩:=h;obtain ⟨hh,g,d,t,os'⟩:=s';obtain rfl:os'=s.os:=os;exact ⟨v,H',I.call (h':=hh) (g':=g) (d':=d) (t':=t) (ch:=[]) un hok bare (λb z=>absurd z (by simp)),r,q⟩
end
def qqh (sp:Sp) (dvs:List V) (E:XK) (t:TA):TE:=λσ H Q=>t σ H λvs H1=>sp (vs++dvs) H1 Q E
def DR (K:Frg) (fd:FuncData) (ps:List Str) (ds:List Value):Prop:=
 ∀ (s:Shared) (us:List Value),K.In s.heap->(us++ds).length=ps.length->BindsTo s fd ⟨us,[]⟩ (ps.zip (us++ds))
def DR.all {K:Frg} {fd:FuncData} {ps:List Str} (h:∀ us:List Value,us.length=ps.length->bindArgs fd ⟨us,[]⟩=pure (ps.zip us)):DR K fd ps []:=λs us _ hl=>by
 rw [List.append_nil] at hl ⊢;exact .of_eq (h us hl)
def MZ (CX:CXT) (X:Cx) (E:XK):Prop:=∀ (pins:List (Addr×Obj)) (σ:St) (H:Hp) (s:Shared) (e:Value) (s':Shared),Inv X pins σ H s->CX X.stack H s E e s'->X.xe e s'
section
variable {X:Cx} {CX:CXT} {k:Nat} {f C:Addr} {fd:FuncData} {ps:List Str} {sp:Sp} {dvs:List V} {ds:List Value} {E:XK} {x m:Str} {p pos apos:Pos} {e o:Expr} {es:List Expr} {ta:TE} {t:TA}
def qmv {pins:List (Addr×Obj)} {σ:St} {H:Hp} {s:Shared} {Q:VK} {us:List Value} {vs:List V} (F:FnOk X.prog X.w X.K X.mg X.base CX k f fd ps sp) (hr:Room k X.A) (hb:DR X.K fd ps ds) (hd:zt dvs ds) (hx:MZ CX X E)
  (I:Inv X pins σ H s) (r:zt vs us) (h:sp (vs++dvs) H Q E):wpAny (model X.prog X.w) X.A (call (.ref f) us) (EP X pins σ Q) X.xe s:=by
 have r2:zt (vs++dvs) (us++ds):=r.append hd;have hl:(us++ds).length=ps.length:=by rw [← r2.length];exact F.len _ _ _ _ h
 refine wpAny_call (codeAny_mono (F.run X.A X.stack s H ⟨us,[]⟩ (us++ds) (vs++dvs) Q E hr I.env0 (hb s us I.kIn hl) r2 h) λr s' hq=>?_);cases r with
 |error e=>exact hx pins σ H s e s' I hq
 |ok fl=>
  cases fl with
  |ret u=>exact I.after hq
  |next=>exact False.elim hq
  |brk=>exact False.elim hq
  |cont=>exact False.elim hq
def qc7 (F:FnOk X.prog X.w X.K X.mg X.base CX k f fd ps sp) (hr:Room k X.A) (hg:Gl X x) (hm:X.mg x=some (.ref f)) (hk:PySem.W.keepIn X.K (.ref f)=true) (hb:DR X.K fd ps ds) (hd:zt dvs ds) (hx:MZ CX X E)
  (ha:PA X (e::es) t) (hdb:(x==("__debug__" : Str))=false:=by decide) (he:starEach (e::es) X.env=(false,eval e X.env)::starEach es X.env:=by rfl) (hpl:(backTo pos (starEach es X.env)).any (·.1)=false:=by rfl) :
  PE X (.Call (.Name x p) (e::es) [] pos) (qqh sp dvs E t):=by
 intro pins s σ H Q I h;refine wpAny_Call_Name_kw (XQ I hg hm ?_ hdb);refine PySem.W.callWith_K (h₀:=X.base) I.ok.mod.kin hk (thn (ha pos pins s σ H _ I h) λus s1 ⟨vs,H1,I1,r,q⟩=>⟨I1.kIn,?_⟩) he hpl;exact qmv F hr hb hd hx I1 r q
end
section
variable {X:Cx} {CX:CXT} {k:Nat} {f C:Addr} {fd:FuncData} {ps ks:List Str} {sp:Sp} {E:XK} {x m:Str} {p pos apos kpos:Pos} {e o:Expr} {es:List Expr} {kws:List Keyword} {te ta:TE} {t tk:TA} {nm:Option Str}
variable {g:List Value->List Value->List Value} {gV:List V->List V->List V}
end
structure FnScope (N P:List Str) (sc:Scope):Prop where
 kind:sc.kind=.function
 co:sc.isCoroutine=false
 gen:sc.isGenerator=false
 nd:N.Nodup
 pre:N.take P.length=P
 par:∀ x∈P,sc.names.lookup x=some .local\/sc.names.lookup x=some .cell
 nofree:∀ y∈sc.names,y.2≠.free
theorem KK {kindOf:Str->Option NameKind} {x:Str}:∀ {binds:List (Str×Value)} {m:Str->Option Value},(∀ v,(x,v)∉binds)->bindL kindOf binds m x=m x
 |[],_,_=>rfl
 | (n,v)::r,m,h=>by
  unfold bindL;rw [KK λw hw=>h w (v6 _ hw)];split
  ·have:x≠n:=by rintro rfl;exact h v u9
   simp [this]
  ·rfl
theorem KQ {kindOf:Str->Option NameKind} {x:Str}:∀ {binds:List (Str×Value)} {m:Str->Option Value},(∀ v,(x,v)∉binds)->bindC kindOf binds m x=m x
 |[],_,_=>rfl
 | (n,v)::r,m,h=>by
  unfold bindC;rw [KQ λw hw=>h w (v6 _ hw)];split
  ·rfl
  ·have:x≠n:=by rintro rfl;exact h v u9
   simp [this]
theorem K2 {kindOf:Str->Option NameKind} {x:Str} {v:Value}:∀ {P:List Str} {vs:List Value} {i:Nat} {m:Str->Option Value},P.Nodup->P[i]?=some x->vs[i]?=some v->kindOf x=some .local ->
  bindL kindOf (P.zip vs) m x=some v
 |[],_,_,_,_,h,_,_=>by simp at h
 |_::_,[],_,_,_,_,h,_=>by simp at h
 |p::P,w::vs,0,m,nd,h1,h2,hk=>by
  simp at h1 h2;subst h1;subst h2;show bindL kindOf ((p,w)::P.zip vs) m p=_;unfold bindL;rw [KK λv hv=>(List.nodup_cons.mp nd).1 (List.of_mem_zip hv).1,if_pos hk];simp
 |p::P,w::vs,i+1,m,nd,h1,h2,hk=>by
  show bindL kindOf ((p,w)::P.zip vs) m x=_;unfold bindL;exact K2 (i:=i) (List.nodup_cons.mp nd).2 (by simpa using h1) (by simpa using h2) hk
theorem KI {kindOf:Str->Option NameKind} {x:Str} {v:Value}:∀ {P:List Str} {vs:List Value} {i:Nat} {m:Str->Option Value},P.Nodup->P[i]?=some x->vs[i]?=some v->kindOf x≠some .local ->
  bindC kindOf (P.zip vs) m x=some v
 |[],_,_,_,_,h,_,_=>by simp at h
 |_::_,[],_,_,_,_,h,_=>by simp at h
 |p::P,w::vs,0,m,nd,h1,h2,hk=>by
  simp at h1 h2;subst h1;subst h2;show bindC kindOf ((p,w)::P.zip vs) m p=_;unfold bindC;rw [KQ λv hv=>(List.nodup_cons.mp nd).1 (List.of_mem_zip hv).1,if_neg hk];simp
 |p::P,w::vs,i+1,m,nd,h1,h2,hk=>by
  show bindC kindOf ((p,w)::P.zip vs) m x=_;unfold bindC;exact KI (i:=i) (List.nodup_cons.mp nd).2 (by simpa using h1) (by simpa using h2) hk
def WS (N:List Str) (vs:List V):St:=vs.map some++List.replicate (N.length-vs.length) none
def YD (CX:CXT) (P:Program) (w:World) (K:Frg) (mg:Str->Option Value) (base:Heap) (N:List Str) (qual:Str) (scope:Scope) (f:Addr) (cd:Value) (A:Around) (outer:List Env) (s:Shared) (H:Hp) (E:XK):Cx where
 prog:=P
 w:=w
 K:=K
 mg:=mg
 base:=base
 A:=A.deeper (envOfC qual scope s.heap.objs.size f cd)
 N:=N
 s₀:=s
 H₀:=H
 env:=envOfC qual scope s.heap.objs.size f cd
 outer:=outer
 stack:=envOfC qual scope s.heap.objs.size f cd::outer
 ex:=[]
 calm:=true
 fn:=λ_=>true
 pn:=[]
 xe:=λe s'=>wpAny (model P w) (A.deeper (envOfC qual scope s.heap.objs.size f cd)) (leaving (envOfC qual scope s.heap.objs.size f cd) e) (λ_ s''=>CX outer H s E e s'') (λe' s''=>CX outer H s E e' s'') s'
def NT {sc:Scope} {n:Nat} {x:Str} (h:sc.names.lookup x=some .cell):∃ c,(cellsFrom n sc.names []).lookup x=some c:=by
 have q:=PySem.W.cellsFrom_some sc.names n [] (.inl h);exact Option.isSome_iff_exists.mp q
def qaS {CX:CXT} {P:Program} {w:World} {K:Frg} {mg:Str->Option Value} {base:Heap} {N ps:List Str} {qual:Str} {scope:Scope} {f:Addr} {cd:Value} {A:Around} {outer:List Env} {s s1:Shared} {H:Hp} {E:XK} {us:List Value} {vs:List V}
  (S:FnScope N ps scope) (hd:A.handled=none) (e0:Env0 P w K mg base A outer s H) (hl:vs.length=ps.length) (r:zt vs us)
  (x:InCallC s s.heap.objs.size (bindL (envOfC qual scope s.heap.objs.size f cd).kindOf (ps.zip us) λ_=>none) (cellsFrom (s.heap.objs.size+1) scope.names []) (bindC (envOfC qual scope s.heap.objs.size f cd).kindOf (ps.zip us) λ_=>none) s1) :
  Inv (YD CX P w K mg base N qual scope f cd A outer s H E) [] (WS N vs) H s1:=by
 have hpl:ps.length<=N.length:=by have:=congrArg List.length S.pre;rw [List.length_take] at this;omega
 obtain ⟨h1,tk,rfl,hk⟩:=x.done;have noA:∀ b:Addr,b∉(YD CX P w K mg base N qual scope f cd A outer s H E).ex:=λb z=>absurd (show b∈([]:List Addr) from z) (by simp);refine ⟨⟨e0.mod,S.kind,rfl,rfl,v5 _,λy z c h1 h2=>?_,λy hy=>?_,λy c _ h=>?_,λ_=>hd,Around.frames_deeper e0.frames,.inr ⟨rfl,rfl⟩,λb z=>absurd z (noA b),e0.bs,e0.bsz,λb _ _=>noA b,λb z=>absurd z (noA b),e0.funs,e0.frf⟩,
  rfl,e0.bare,Un.kept hk,⟨_,x.toInCall.ns,λi y v h1 h2 h3=>?_⟩,λy c h=>⟨_,x.cell y c h⟩,e0.hok.fresh (v5 _),λy c h=>?_,λp hp=>absurd (show p∈([]:List (Addr×Obj)) from hp) (by simp),e0.hok.kept hk,?_⟩
 ·exact name_of_addr x.apart (PySem.mem_of_lookup h1) (PySem.mem_of_lookup h2)
 ·have hy:scope.names.lookup y=some .cell\/scope.names.lookup y=some .free:=hy;rcases hy with hy|hy
  ·exact NT hy
  ·exact absurd rfl (S.nofree _ (PySem.mem_of_lookup hy))
 ·exact Nat.le_of_lt (x.above y c (PySem.mem_of_lookup h))
 ·have hi:i<vs.length:=by
   unfold WS at h2;by_cases hi:i<vs.length
   ·exact hi
   ·rw [List.getElem?_append_right (by simpa using hi)] at h2;rw [List.getElem?_replicate] at h2;split at h2<;>cases h2
  have ha:vs[i]?=some v:=by
   unfold WS at h2;rw [List.getElem?_append_left (by simpa using hi),getElem?_map] at h2;cases e:vs[i]? with
   |none=>rw [e] at h2;cases h2
   |some a=>rw [e] at h2;cases h2;rfl
  obtain ⟨u,hu,rv⟩:=r.get ha;have hp:ps[i]?=some y:=by
   rw [← S.pre,List.getElem?_take_of_lt (by omega)];exact h1
  have ndP:ps.Nodup:=by rw [← S.pre];exact S.nd.sublist (List.take_sublist _ _)
  refine ⟨u,rv,?_⟩;rcases S.par y (v9 hp) with k|k
  ·exact .inl ⟨k,K2 ndP hp hu k⟩
  ·obtain ⟨c,e⟩:=NT (n:=s.heap.objs.size+1) k;refine .inr ⟨.inl k,c,e,?_⟩;have q:=x.cell y c e;rw [KI ndP hp hu (by show scope.names.lookup y≠_;rw [k];decide)] at q;exact q
 ·exact e0.hok.fresh (Nat.le_of_lt (x.above y c (PySem.mem_of_lookup h)))
 ·unfold WS;show _=N.length;rw [length_append,length_map,List.length_replicate];omega
def qmP {CX:CXT} {P:Program} {w:World} {K:Frg} {mg:Str->Option Value} {base:Heap} {k:Nat} {f:Addr} {name qual:Str} {params:Arguments} {body:List Stmt} {scope:Scope} {dV kV doc pm cdv ct oc:Value} {an od:Option Addr}
  {osl:Array (Option Value)} {N ps:List Str} {sp:Sp} (lk:K.lookup f=some ⟨oc,od,.func (PySem.W.fnOf name qual params body scope dV kV doc pm an cdv ct),osl⟩) (hcd:PySem.W.codeIn K cdv qual=true) (S:FnScope N ps scope)
  (len:∀ vs H Q E,sp vs H Q E->vs.length=ps.length)
  (hbody:∀ (A:Around) (outer:List Env) (s:Shared) (H:Hp) (vs:List V) (Q:VK) (E:XK),Room k (A.deeper (envOfC qual scope s.heap.objs.size f cdv))->sp vs H Q E ->
   ∃ t,PSs (YD CX P w K mg base N qual scope f cdv A outer s H E) body t/\t { nx:=λ_ H'=>Q .non H',rt:=Q } (WS N vs) H) :
  FnOk P w K mg base CX (k+1) f (PySem.W.fnOf name qual params body scope dV kV doc pm an cdv ct) ps sp:=by
 refine ⟨len,λA outer s H args us vs Q E hr e0 hb r hsp=>?_⟩;have hl:=len _ _ _ _ hsp;have KX:K.In s.heap:=e0.mod.kin.keeps λb o e=>(e0.bs b o e).1;have lim:s.heap.NoLimit:=e0.mod.nolimit.keeps λb o e=>(e0.bs b o e).1;have hkind:∀ y∈ps.zip us,scope.names.lookup y.1=some .local\/(scope.names.lookup y.1=some .cell/\((cellsFrom (s.heap.objs.size+1) scope.names []).lookup y.1).isSome=true):=λ⟨n,v⟩ hy=>by
  rcases S.par n (List.of_mem_zip hy).1 with q|q
  ·exact .inl q
  ·exact .inr ⟨q,PySem.W.cellsFrom_some _ _ _ (.inl q)⟩
 refine codeAny_call_function hr.depth (KX _ _ lk) rfl S.co S.gen rfl (PySem.W.codeRec_of KX hcd) (hb _ _ _ _ ?_);refine wpAny_newFunctionEnv_cells S.kind hkind λenv he s1 x=>?_;subst he;refine ⟨lim.keeps x.toInCall.keep,codeAny_func ?_⟩;obtain ⟨t,ht,hq⟩:=hbody A outer s H vs Q E (hr.deeper _) hsp;have I:Inv (YD CX P w K mg base N qual scope f cdv A outer s H E) [] (WS N vs) H s1:=qaS S hr.hd e0 hl r x;refine y0 (ht [] s1 (WS N vs) H _ I hq) (λfl s' hs=>?_) λe s' hs=>hs;have fin:∀ {σ':St} {H':Hp} {v:V} {u:Value},Inv (YD CX P w K mg base N qual scope f cdv A outer s H E) [] σ' H' s'->jx v u->Q v H'->CE outer P w H s Q u s':=
  λ{σ' H' v u} J rv q=>⟨v,H',J.os,J.bare,J.base,J.hok,rv,q⟩
 cases fl with
 |ret u=>
  obtain ⟨v,σ',H',J,rv,q⟩:=hs;exact fin J rv q
 |next=>
  obtain ⟨σ',H',J,q⟩:=hs;exact fin (v:=V.non) (u:=Value.none) J rfl q
 |brk=>
  obtain ⟨_,_,_,q⟩:=hs;exact False.elim q
 |cont=>
  obtain ⟨_,_,_,q⟩:=hs;exact False.elim q
section
variable {X:Cx} {x:Str} {p pos:Pos} {e:Expr} {es:List Expr} {t:TA} {id T:String} {r:List V->Hp->VK->Prop}
def tCB (r:List V->Hp->VK->Prop) (t:TA):TE:=λσ H Q=>t σ H λvs H1=>r vs H1 Q
def WC (hc:J5 X (.builtin id) r) (hg:Gl X x) (hm:X.mg x=none) (hv:bootBuiltins x=some (.builtin id)) (ha:PA X (e::es) t) (hn:x≠"__name__" := by decide) (hdb:(x==("__debug__" : Str))=false:=by decide)
  (he:starEach (e::es) X.env=(false,eval e X.env)::starEach es X.env:=by rfl) (hpl:(backTo pos (starEach es X.env)).any (·.1)=false:=by rfl):PE X (.Call (.Name x p) (e::es) [] pos) (tCB r t):=by
 intro pins s σ H Q I h;refine wpAny_Call_Name_kw (UV I hg hm hv ?_ hn hdb);exact PyProof.Rows.callWith_builtin1 (thn (ha pos pins s σ H _ I h) λus s1 ⟨vs,H1,I1,r1,q1⟩=>hc pins s1 σ H1 vs us Q I1 r1 q1) he hpl
def KN (hc:J5 X (.type T) r) (hg:Gl X x) (hm:X.mg x=none) (hv:bootBuiltins x=some (.type T)) (ha:PA X (e::es) t) (hn:x≠"__name__" := by decide) (hdb:(x==("__debug__" : Str))=false:=by decide)
  (he:starEach (e::es) X.env=(false,eval e X.env)::starEach es X.env:=by rfl) (hpl:(backTo pos (starEach es X.env)).any (·.1)=false:=by rfl):PE X (.Call (.Name x p) (e::es) [] pos) (tCB r t):=by
 intro pins s σ H Q I h;refine wpAny_Call_Name_kw (UV I hg hm hv ?_ hn hdb);exact PyProof.Rows.callWith_type1 (thn (ha pos pins s σ H _ I h) λus s1 ⟨vs,H1,I1,r1,q1⟩=>hc pins s1 σ H1 vs us Q I1 r1 q1) he hpl
end
end L2
namespace HT
open PySem PyProof.Rows
section
open PySem.SeqAt
open PySem.MeetsSeq PySem.MeetsSeq2 PySem.MeetsSeq3
end
section
variable {prog:Program} {w:World} {A:Around} {E:Value->Shared->Prop} {s:Shared}
def qhX {t b:Addr} {vs ws:List Value} {Q:Value->Shared->Prop} (ht:IsTup s.heap t vs.toArray) (hb:IsTup s.heap b ws.toArray) (hv:vs≠[])
  (h1:ws=[]->Q (.ref t) s) (h2:ws≠[]->Q (.ref s.heap.objs.size) { s with heap:=s.heap.push { cls:=.type "tuple",data:=.seq (vs++ws).toArray } })
  (hsz:vs.length+ws.length<=sizeLine):wpAny (model prog w) A (binaryOp .Add (.ref t) (.ref b)) Q E s:=by
 obtain ⟨⟨cls,dd,data,sl⟩,ho,hc,n,hd⟩:=id ht;obtain ⟨⟨cls2,dd2,data2,sl2⟩,ho2,hc2,n2,hd2⟩:=id hb;simp only at hc hd hc2 hd2;subst hc hd hc2 hd2;have e:vs.toArray++ws.toArray=(vs++ws).toArray:=by simp
 by_cases hw:ws=[]
 ·exact concat_meets ⟨_,ho,rfl⟩ ⟨_,ho2,rfl⟩ noFill_tuple_add seq_tuple_add PySem.F.slot_tuple_add PySem.F.entry_tuple_add (PySem.F.args_tuple_add_2 _ _)
   (tuple_addW1 t b vs.toArray ws.toArray n n2 dd dd2 sl sl2 (by simpa using hv) (by simp [hw])) ⟨ho,ho2,h1 hw⟩
 ·refine concat_meets ⟨_,ho,rfl⟩ ⟨_,ho2,rfl⟩ noFill_tuple_add seq_tuple_add PySem.F.slot_tuple_add PySem.F.entry_tuple_add (PySem.F.args_tuple_add_2 _ _)
   (tuple_addW2 t b vs.toArray ws.toArray n n2 dd dd2 sl sl2 (by simpa using hv) (by simpa using hw) (by rw [size_toArray,size_toArray];exact hsz)) ⟨ho,ho2,?_⟩
  rw [e];exact h2 hw
def sIx (n d:Nat):Option Int->Nat
 |none=>d
 |some v=>if v<0 then (v+(n:Int)).toNat else min v.toNat n
def qmz (n d:Nat) (hd:d<=n) (o:Option Int):sIx n d o<=n:=by
 cases o with
 |none=>exact hd
 |some v=>
  show (if v<0 then (v+(n:Int)).toNat else min v.toNat n)<=n;by_cases hv:v<0
  ·rw [if_pos hv];omega
  ·rw [if_neg hv];exact Nat.min_le_right _ _
def qbp (v:Int) (n d:Nat):(if v<0 then max (v+(n:Int)) 0 else min v (n:Int))=((sIx n d (some v):Nat):Int):=by
 show (if v<0 then max (v+(n:Int)) 0 else min v (n:Int))=(((if v<0 then (v+(n:Int)).toNat else min v.toNat n):Nat):Int);by_cases hv:v<0
 ·simp only [if_pos hv];omega
 ·simp only [if_neg hv];omega
def N9 (lo hi:Option Int) (n:Nat):Builtin.Slice.sliceAdjust lo hi 1 (n:Int)=(((sIx n 0 lo:Nat):Int),((sIx n n hi:Nat):Int)):=by
 have h1:¬ ((1:Int)<0):=by omega
 unfold Builtin.Slice.sliceAdjust;simp only [h1,if_false];refine Prod.ext ?_ ?_
 ·cases lo with
  |none=>rfl
  |some v=>exact qbp v n 0
 ·cases hi with
  |none=>rfl
  |some v=>exact qbp v n n
def qaz (i j:Nat):Builtin.Slice.slicePlaces (i:Int) (j:Int) 1=j-i:=by
 unfold Builtin.Slice.slicePlaces;have h1:(1:Int) > 0:=by omega
 simp only [h1,if_true,Int.ediv_one];split<;>omega
def C0 {v:Value} {o:Option Int} {Q:Option Int->Shared->Prop} (p:IsPart v o) (h:Q o s):wpAny (model prog w) A (Builtin.Slice.slicePartIndex v) Q E s:=by
 cases p with
 |none=>exact slicePart_none h
 |int i t=>exact slicePart_int h
def DT {sl:Addr} {vl vu:Value} {lo hi:Option Int} {n:Nat} {Q:Int×Int×Nat->Shared->Prop} (hs:s.heap.IsSliceOf sl vl vu .none) (pl:IsPart vl lo) (pu:IsPart vu hi)
  (h:Q (((sIx n 0 lo:Nat):Int),1,sIx n n hi-sIx n 0 lo) s):wpAny (model prog w) A (Builtin.Slice.sliceApplied (.ref sl) (pure (n:Int))) Q E s:=by
 obtain ⟨os,hos,hcs,hds⟩:=id hs;unfold Builtin.Slice.sliceApplied Builtin.Slice.sliceFields;refine x8 (x8 (wpAny_field hos hds (x:=vl) rfl (x8 (wpAny_field hos hds (x:=vu) rfl (x8 (wpAny_field hos hds (x:=.none) rfl (x9 ?_)))))));refine x8 (slicePart_none ?_);show wpAny _ _ (if ((1:Int)==0)=true then _ else _) _ _ s;rw [if_neg (by decide)];refine x8 (C0 pl (x8 (C0 pu (x8 (x9 ?_)))));show wpAny _ _ (match Builtin.Slice.sliceAdjust lo hi 1 (n:Int) with|(lo,hi)=>pure (lo,(1:Int),Builtin.Slice.slicePlaces lo hi 1)) _ _ s;rw [N9 lo hi n];show wpAny _ _ (pure (((sIx n 0 lo:Nat):Int),(1:Int),Builtin.Slice.slicePlaces ((sIx n 0 lo:Nat):Int) ((sIx n n hi:Nat):Int) 1)) _ _ s;rw [qaz];exact x9 h
def qd7 (xs:Array Value) (i k:Nat):((List.range k).filterMap λ(m:Nat)=>xs[((i:Int)+(m:Int)*1).toNat]?).toArray=((xs.toList.drop i).take k).toArray:=by
 have e:(λ(m:Nat)=>xs[((i:Int)+(m:Int)*1).toNat]?)=λm=>xs[i+m]?:=by
  funext m;have:((i:Int)+(m:Int)*1).toNat=i+m:=by omega
  rw [this]
 rw [e];have:=pick_run xs i k;rw [List.filterMap_map] at this;have e2:((λx=>xs[x]?)∘λx=>i+x)=λm=>xs[i+m]?:=rfl;rw [e2] at this;rw [this]
def DB {t sl:Addr} {items:Array Value} {vl vu:Value} {lo hi:Option Int} {Q:Value->Shared->Prop} (ht:IsTup s.heap t items) (hs:s.heap.IsSliceOf sl vl vu .none) (pl:IsPart vl lo) (pu:IsPart vu hi)
  (hw:¬ (sIx items.size 0 lo=0/\sIx items.size items.size hi=items.size))
  (h:Q (.ref s.heap.objs.size) { s with heap:=s.heap.push { cls:=.type "tuple",data:=.seq ((items.toList.drop (sIx items.size 0 lo)).take (sIx items.size items.size hi-sIx items.size 0 lo)).toArray } })
  (hsz:items.size<=sizeLine):wpAny (model prog w) A (getItem (.ref t) (.ref sl)) Q E s:=by
 have htake:sizeOk (.seq ((items.toList.drop (sIx items.size 0 lo)).take (sIx items.size items.size hi-sIx items.size 0 lo)).toArray):=by
  show ((items.toList.drop (sIx items.size 0 lo)).take (sIx items.size items.size hi-sIx items.size 0 lo)).toArray.size<=sizeLine;rw [size_toArray,List.length_take,List.length_drop,Array.length_toList];omega
 have hj:sIx items.size items.size hi<=items.size:=qmz _ _ (v5 _) hi;obtain ⟨os,hos,hcs,hds⟩:=id hs;have hTs:s.TypeIs (.ref sl) "slice" := ⟨os,hos,hcs⟩
 unfold getItem
 try with_reducible refine wpAny_holding ?_
 first|refine x8 (x9 ?_)|skip
 refine x8 (wpAny_sequenceKey ht.typeIs (by decide) ?_);refine x8 (wpAny_callSpecial?_slot (name:=Str.ofString "__getitem__") ht.typeIs PyProof.Rows.slot_tuple_getitem
  (wpAny_call_entry PyProof.Rows.slot_tuple_getitem ht.typeIs entry_tuple_getitem ?_ (args_tuple_getitem _ _)))
 show wpAny _ _ (Builtin.Tuple.tupleItemsOf (.ref t) >>= _) _ _ s;refine x8 (tupleItemsOf_ ht ?_);refine x8 (wpAny_typeOf hTs ?_);rw [if_pos (by decide)];refine x8 (DT hs pl pu ?_);have hno:¬ ((((sIx items.size 0 lo:Nat):Int)==0&&(1:Int)==1&&(sIx items.size items.size hi-sIx items.size 0 lo)==items.size)=true):=by
  intro q;rw [Bool.and_eq_true,Bool.and_eq_true] at q;have q1:((sIx items.size 0 lo:Nat):Int)=0:=eq_of_beq q.1.1;have q2:sIx items.size items.size hi-sIx items.size 0 lo=items.size:=eq_of_beq q.2;exact hw ⟨by omega,by omega⟩
 show wpAny _ _ (if (((sIx items.size 0 lo:Nat):Int)==0&&(1:Int)==1&&(sIx items.size items.size hi-sIx items.size 0 lo)==items.size)=true then _ else _) _ _ s;rw [if_neg hno,qd7]
 first
  |exact x8 (m:=Builtin.Tuple.tupleExact _) (wpAny_newObj_type (x9 ⟨_,rfl,x9 h⟩) htake)
  |exact x8 (m:=Builtin.Tuple.tupleExact _) (wpAny_newObj_type (x8 (x9 (x9 ⟨_,rfl,x9 h⟩))) htake)
  |exact x8 (x8 (m:=Builtin.Tuple.tupleExact _) (wpAny_newObj_type (x9 (x9 ⟨_,rfl,x9 h⟩)) htake))
  |exact x8 (x8 (m:=Builtin.Tuple.tupleExact _) (wpAny_newObj_type (x9 ⟨_,rfl,x9 h⟩) htake))
end
end HT
namespace L2
open PySem PySem.Spec PyProof.Rows
abbrev TO:=St->Hp->(Option Int->Hp->Prop)->Prop
def PO (X:Cx) (e:Option Expr) (t:TO):Prop:=
 ∀ (pins:List (Addr×Obj)) (s:Shared) (σ:St) (H:Hp) (Q:Option Int->Hp->Prop),Inv X pins σ H s->t σ H Q ->
  wpAny (model X.prog X.w) X.A (evalPart e X.env) (λu s'=>∃ o H',Inv X pins σ H' s'/\IsPart u o/\Q o H') X.xe s
def qhq:TO:=λ_ H Q=>Q none H
def qqZ (t:TE):TO:=λσ H Q=>t σ H λx H1=>∃ i,x=.int i/\Q (some i) H1
section
variable {X:Cx} {e:Expr} {te:TE} {lo hi:Option Expr} {tl th:TO} {pos p2:Pos}
def qgT:PO X none qhq:=by
 intro pins s σ H Q I h;rw [evalPart_none];exact x9 ⟨none,H,I,.none,h⟩
def qhK (h:PE X e te):PO X (some e) (qqZ te):=by
 intro pins s σ H Q I hw;rw [evalPart_some];refine thn (h pins s σ H _ I hw) λu s1 ⟨x,H1,I1,r1,q1⟩=>?_;obtain ⟨i,rfl,q⟩:=q1;obtain ⟨t,rfl⟩:=r1;exact ⟨some i,H1,I1,.int i t,q⟩
def SlR (X:Cx) (r:V->Option Int->Option Int->Hp->VK->Prop):Prop:=
 ∀ (pins:List (Addr×Obj)) (s:Shared) (σ:St) (H:Hp) (x:V) (v vl vu:Value) (lo hi:Option Int) (sl:Addr) (Q:VK),Inv X pins σ H s->jx x v->s.heap.IsSliceOf sl vl vu .none->IsPart vl lo->IsPart vu hi->r x lo hi H Q ->
  ∃ T id,typeLookup (.type T) "__getitem__" = pure (some (.builtin id))/\s.TypeIs v T/\wpAny (model X.prog X.w) X.A (getItem v (.ref sl)) (EP X pins σ Q) X.xe s
def SlR.or {r r':V->Option Int->Option Int->Hp->VK->Prop} (h:SlR X r) (h':SlR X r'):SlR X (λx lo hi H Q=>r x lo hi H Q\/r' x lo hi H Q):=by
 intro pins s σ H x v vl vu lo hi sl Q I rx hs pl pu q;rcases q with q|q
 ·exact h pins s σ H x v vl vu lo hi sl Q I rx hs pl pu q
 ·exact h' pins s σ H x v vl vu lo hi sl Q I rx hs pl pu q
def tSl (r:V->Option Int->Option Int->Hp->VK->Prop) (te:TE) (tl th:TO):TE:=λσ H Q=>te σ H λx H1=>tl σ H1 λl H2=>th σ H2 λu H3=>r x l u H3 Q
def qek {r:V->Option Int->Option Int->Hp->VK->Prop} (hr:SlR X r) (he:PE X e te) (hl:PO X lo tl) (hu:PO X hi th):PE X (.Subscript e (.Slice lo hi none p2) pos) (tSl r te tl th):=by
 intro pins s σ H Q I h;refine Subscript_ (thn (he pins s σ H _ I h) λv s1 ⟨x,H1,I1,r1,q1⟩=>?_);refine wpAny_Slice (thn (hl pins s1 σ H1 _ I1 q1) λvl s2 ⟨l,H2,I2,pl,q2⟩=>thn (hu pins s2 σ H2 _ I2 q2) λvu s3 ⟨u,H3,I3,pu,q3⟩=>?_);rw [evalPart_none];refine x9 ?_;have I4:Inv X pins σ H3 { s3 with heap:=s3.heap.push { cls:=.type "slice",data:=.fields #[vl,vu,.none] } }:=I3.kept (t':=s3.toks) λb ob q=>y3 _ q;obtain ⟨T,id,hT,ht,hg⟩:=hr pins { s3 with heap:=s3.heap.push { cls:=.type "slice",data:=.fields #[vl,vu,.none] } } σ H3 x v vl vu l u s3.heap.objs.size Q I4 r1 (Heap.IsSliceOf.new ..) pl pu q3;show wpAny (model X.prog X.w) X.A (subscriptTail e (.Slice lo hi none p2) v (.ref s3.heap.objs.size)) (EP X pins σ Q) X.xe { s3 with heap:=s3.heap.push { cls:=.type "slice",data:=.fields #[vl,vu,.none] } };exact tail_any (ops:=[.ref s3.heap.objs.size,v]) ht hT hg (by with_unfolding_all rfl)
def qgN (xs:List V) (lo hi:Option Int):List V:=(xs.drop (HT.sIx xs.length 0 lo)).take (HT.sIx xs.length xs.length hi-HT.sIx xs.length 0 lo)
def WZ (xs:List V) (lo hi:Option Int):(qgN xs lo hi).length<=xs.length:=by
 unfold qgN;rw [List.length_take,List.length_drop];omega
def qrV (K:Frg):V->Option Int->Option Int->Hp->VK->Prop:=λx lo hi H Q=>∃ a xs,x=.ref a/\SqT K H a xs /\
 ¬ (HT.sIx xs.length 0 lo=0/\HT.sIx xs.length xs.length hi=xs.length)/\∀ p,H p=none->Q (.ref p) (upd H p (.tup (qgN xs lo hi)))
def qke:SlR X (qrV X.K):=by
 intro pins s σ H x v vl vu lo hi sl Q I rx hs pl pu h;obtain ⟨a,xs,rfl,hx,hw,q⟩:=h;cases rx;obtain ⟨its,r,ht,hz⟩:=I.tuple hx;have hlen:its.toArray.size=xs.length:=by rw [size_toArray];exact r.length.symm
 refine ⟨"tuple",_,PyProof.Rows.slot_tuple_getitem.lookup,ht.typeIs,?_⟩;refine HT.DB ht hs pl pu (by rw [hlen];exact hw) ?_ (by rw [hlen];exact hz);rw [hlen];refine ⟨.ref s.heap.objs.size,_,I.laid (t':=s.toks) (o:=.tup (qgN xs lo hi)) (λb ob q=>y3 _ q) (v5 _) ?_,rfl,q _ (I.hok.fresh (v5 _))⟩;exact ⟨u0 (WZ xs lo hi) hz,_,(r.drop (HT.sIx xs.length 0 lo)).take (HT.sIx xs.length xs.length hi-HT.sIx xs.length 0 lo),YJ.new _ _⟩
def qll (K:Frg):R2:=λx y H Q=>∃ a b xs ys,x=.ref a/\y=.ref b/\SqT K H a xs/\SqT K H b ys/\xs≠[]/\xs.length+ys.length<=sizeLine /\
 (ys=[]->Q (.ref a) H)/\(ys≠[]->∀ p,H p=none->Q (.ref p) (upd H p (.tup (xs++ys))))
def zt.nil_iff {xs:List V} {us:List Value} (r:zt xs us):us=[]↔xs=[]:=by
 cases r with
 |nil=>simp
 |cons _ _=>simp
def qi1:OpR X (binaryOp .Add) (qll X.K):=by
 intro pins s σ H x y v u Q I rx ry h;obtain ⟨a,b,xs,ys,rfl,rfl,ha,hb,hx,hz,q1,q2⟩:=h;cases rx;cases ry;obtain ⟨its,r1,p1,_⟩:=I.tuple ha;obtain ⟨its2,r2,p2,_⟩:=I.tuple hb;refine HT.qhX p1 p2 (λz=>hx (r1.nil_iff.mp z)) (λz=>⟨.ref a,H,I,rfl,q1 (r2.nil_iff.mp z)⟩) (λz=>?_) (by rw [← r1.length,← r2.length];exact hz);refine ⟨.ref s.heap.objs.size,_,I.laid (t':=s.toks) (o:=.tup (xs++ys)) (λb ob q=>y3 _ q) (v5 _) ?_,rfl,q2 (λw=>z (r2.nil_iff.mpr w)) _ (I.hok.fresh (v5 _))⟩;exact ⟨by rw [length_append];exact hz,_,r1.append r2,YJ.new _ _⟩
end
def ixN (n:Nat) (i:Int):Option Nat:=if 0<=i then (if i<n then some i.toNat else none) else if -(n:Int)<=i then some (i+n).toNat else none
def atI {α:Type} (xs:List α) (i:Int):Option α:=(ixN xs.length i).bind λj=>xs[j]?
def qcX {n:Nat} {i:Int} {j:Nat} (h:ixN n i=some j):seqIndex? i n=some j/\j<n/\-(n:Int)<=i/\i<n:=by
 unfold ixN at h;by_cases h0:0<=i
 ·rw [if_pos h0] at h;by_cases h1:i<n
  ·rw [if_pos h1] at h;have e:i.toNat=j:=Option.some.inj h;exact ⟨by rw [seqIndex_of h0 h1,e],by omega,by omega,h1⟩
  ·rw [if_neg h1] at h;cases h
 ·rw [if_neg h0] at h;by_cases h1:-(n:Int)<=i
  ·rw [if_pos h1] at h;have e:(i+n).toNat=j:=Option.some.inj h;exact ⟨by rw [seqIndex_neg (by omega) h1,e],by omega,h1,by omega⟩
  ·rw [if_neg h1] at h;cases h
def MK {α:Type} {xs:List α} {i:Int} {v:α} (h:atI xs i=some v):∃ j,seqIndex? i xs.length=some j/\xs[j]?=some v/\j<xs.length/\-(xs.length:Int)<=i/\i<xs.length:=by
 unfold atI at h;cases e:ixN xs.length i with
 |none=>rw [e] at h;cases h
 |some j=>
  rw [e] at h;obtain ⟨h1,h2,h3,h4⟩:=qcX e;exact ⟨j,h1,h,h2,h3,h4⟩
def MG (b:Expr):Prop:=∀ o i,subscripted b false o i=operate [o,i] (getItem o i)
def IxR (X:Cx) (r:R2):Prop:=
 ∀ (value slice:Expr) (pins:List (Addr×Obj)) (s:Shared) (σ:St) (H:Hp) (x y:V) (v u:Value) (Q:VK),Inv X pins σ H s->jx x v->jx y u->r x y H Q ->
  subscripted slice false v u=operate [v,u] (getItem v u)->wpAny (model X.prog X.w) X.A (subscriptTail value slice v u) (EP X pins σ Q) X.xe s
def MtR (X:Cx) (id:String) (r:V->List V->Hp->VK->Prop):Prop:=
 ∀ (pins:List (Addr×Obj)) (s:Shared) (σ:St) (H:Hp) (x:V) (xs:List V) (v:Value) (us:List Value) (Q:VK),Inv X pins σ H s->jx x v->zt xs us->r x xs H Q ->
  wpAny (model X.prog X.w) X.A (call (.builtin id) (v::us)) (EP X pins σ Q) X.xe s
section
variable {X:Cx} {a b:Expr} {ta tb:TE} {pos:Pos}
def IxR.or {r r':R2} (h:IxR X r) (h':IxR X r'):IxR X (λx y H Q=>r x y H Q\/r' x y H Q):=by
 intro value slice pins s σ H x y v u Q I rx ry q hs;rcases q with q|q
 ·exact h value slice pins s σ H x y v u Q I rx ry q hs
 ·exact h' value slice pins s σ H x y v u Q I rx ry q hs
def qp4 {r:R2} (hr:IxR X r) (ha:PE X a ta) (hb:PE X b tb) (hs:MG b):PE X (.Subscript a b pos) (tOp r ta tb):=by
 intro pins s σ H Q I h;exact Subscript_ (qqU ha hb I h λv u s2 x y H2 I2 rx ry q=>hr a b pins s2 σ H2 x y v u Q I2 rx ry q (hs _ _))
def qrf (K:Frg):R2:=λx y H Q=>∃ p xs i v,x=.ref p/\y=.int i/\SqL K H p xs/\atI xs i=some v/\Q v H
def qrj (K:Frg):R2:=λx y H Q=>∃ p xs i v,x=.ref p/\y=.int i/\SqT K H p xs/\atI xs i=some v/\Q v H
def qrC:R2:=λx y H Q=>∃ z i c,x=.str z/\y=.int i/\z.length<=sizeLine/\atI z.cps.toList i=some c/\Q (.str ⟨#[c]⟩) H
def qiE:IxR X (qrf X.K):=by
 intro value slice pins s σ H x y v u Q I rx ry h hs;obtain ⟨p,xs,i,z,rfl,rfl,hq,he,q⟩:=h;cases rx;obtain ⟨t,rfl⟩:=ry;obtain ⟨its,r,pl,hz⟩:=I.list hq;obtain ⟨j,h1,h2,h3,h4,h5⟩:=MK he;obtain ⟨w,ew,rw'⟩:=r.get h2;have hl:=r.length;have hn:=KR;have fin:EP X pins σ Q w s:=⟨z,H,I,rw',q⟩
 by_cases h0:0<=i
 ·have hj:i.toNat=j:=by
   rw [seqIndex_of h0 h5] at h1;exact Option.some.inj h1
  exact item_listR pl.isList h0 (by omega) (by rw [hj];simpa using ew) fin hs
 ·have hj:(i+(its.toArray.size:Int)).toNat=j:=by
   rw [seqIndex_neg (by omega) h4] at h1;rw [size_toArray,← hl];exact Option.some.inj h1
  exact subscriptTail_builtinR (x:=w) pl.isList.typeIs slot_list_getitem.lookup
   (wpAny_getItem_list_neg (Q:=λr s'=>r=w/\EP X pins σ Q r s') pl.isList (by omega) (by rw [size_toArray]<;>omega) (by omega) (by rw [hj];simpa using ew) ⟨rfl,fin⟩) hs
def qmp:IxR X (qrj X.K):=by
 intro value slice pins s σ H x y v u Q I rx ry h hs;obtain ⟨p,xs,i,z,rfl,rfl,hq,he,q⟩:=h;cases rx;obtain ⟨t,rfl⟩:=ry;obtain ⟨its,r,pl,hz⟩:=I.tuple hq;obtain ⟨j,h1,h2,h3,h4,h5⟩:=MK he;obtain ⟨w,ew,rw'⟩:=r.get h2;have hl:=r.length;have hn:=KR;have fin:EP X pins σ Q w s:=⟨z,H,I,rw',q⟩
 exact subscriptTail_builtinR (x:=w) pl.typeIs slot_tuple_getitem.lookup
  (getItem_tuple (j:=j) (Q:=λr s'=>r=w/\EP X pins σ Q r s') pl (by omega) (by omega) (by rw [size_toArray,← hl];exact h1) (by simpa using ew) ⟨rfl,fin⟩) hs
def qjJ:IxR X qrC:=by
 intro value slice pins s σ H x y v u Q I rx ry h hs;obtain ⟨z,i,c,rfl,rfl,hz,he,q⟩:=h;obtain ⟨t,rfl⟩:=rx;obtain ⟨t',rfl⟩:=ry;obtain ⟨j,h1,h2,h3,h4,h5⟩:=MK he;have hl:z.cps.toList.length=z.length:=by simp [Str.length]
 rw [hl] at h1 h4 h5;have hn:=KR;exact tail_any (typeIs_str s z t) slot_str_getitem.lookup (getItem_str (c:=c) (by
  have e1:decide (i < -(2 ^ 63:Int))=false:=za1 (by omega);have e2:decide (i ≥ 2 ^ 63)=false:=za1 (by omega);rw [e1,e2,Bool.or_false]) (by rw [h1];simpa using h2) ⟨.str ⟨#[c]⟩,H,I.tok _,⟨_,rfl⟩,q⟩) hs
def rIx (K:Frg):R2:=λx y H Q=>qrf K x y H Q\/qrj K x y H Q\/qrC x y H Q
def qjR:IxR X (rIx X.K):=qiE.or (qmp.or qjJ)
def qae (its:List Value) (n j:Nat) (u:Value):Obj.mapSeq (·.setIfInBounds j u) { cls:=.type "list",data:=.seq its.toArray n }={ cls:=.type "list",data:=.seq (its.set j u).toArray n }:=by
 simp [Obj.mapSeq]
theorem Inv.lst {pins:List (Addr×Obj)} {σ:St} {H:Hp} {s:Shared} {p:Addr} {xs:List V} (I:Inv X pins σ H s) (h:H p=some (.lst xs)) :
  ∃ (its:List Value) (n:Nat),zt xs its/\s.heap.get? p=some { cls:=.type "list",data:=.seq its.toArray n }/\xs.length<=sizeLine:=by
 obtain ⟨z,its,n,r,e⟩:=I.hok p _ h;exact ⟨its,n,r,e,z⟩
def Inv.lstUpd {pins:List (Addr×Obj)} {σ:St} {H:Hp} {s:Shared} {p:Addr} {xs ys:List V} {its its':List Value} {n n':Nat} {f:Obj->Obj} (I:Inv X pins σ H s) (h:H p=some (.lst xs))
  (ho:s.heap.get? p=some { cls:=.type "list",data:=.seq its.toArray n }) (hf:f { cls:=.type "list",data:=.seq its.toArray n }={ cls:=.type "list",data:=.seq its'.toArray n' }) (r:zt ys its') (hz:ys.length<=sizeLine) (t:Nat) :
  Inv X pins σ (upd H p (.lst ys)) { s with heap:=s.heap.update p f,toks:=t }:=by
 have e:(s.heap.update p f).get? p=some { cls:=.type "list",data:=.seq its'.toArray n' }:=by
  rw [Heap.get?_update_self f ho (by rw [hf]<;>rfl),hf]
 refine I.write (x:=p) (e:=p) (by rw [h];trivial) (.inl rfl) (λb u hb q=>(Heap.get?_update_other _ _ (Ne.symm hb)).trans q) ⟨_,e⟩ ?_;exact ⟨hz,its',n',r,e⟩
def qqz:V->V->V->Hp->(Hp->Prop)->Prop:=λo i v H Q=>∃ p xs k j,o=.ref p/\i=.int k/\H p=some (.lst xs)/\ixN xs.length k=some j/\Q (upd H p (.lst (xs.set j v)))
def qey:qpm X qqz:=by
 intro pins s σ H o i v ov iv u Q I ro ri rv h;obtain ⟨p,xs,k,j,rfl,rfl,hp,hj,q⟩:=h;cases ro;obtain ⟨t,rfl⟩:=ri;obtain ⟨its,n,r,ho,hz⟩:=I.lst hp;obtain ⟨h1,h2,h3,h4⟩:=qcX hj;have hl:=r.length;have hn:=KR;have I':Inv X pins σ (upd H p (.lst (xs.set j v))) { s with heap:=s.heap.update p (Obj.mapSeq (·.setIfInBounds j u)) }:=
  I.lstUpd hp ho (qae its n j u) (r.set rv j) (by rw [List.length_set];exact hz) s.toks
 by_cases h0:0<=k
 ·have hk:k.toNat=j:=by
   rw [seqIndex_of h0 h4] at h1;exact Option.some.inj h1
  exact PySem.W.ki_setAt ho h0 (by omega) (by rw [size_toArray,← hl];exact h4) (by rw [hk];exact ⟨_,I',q⟩)
 ·have hk:(k+(its.toArray.size:Int)).toNat=j:=by
   rw [seqIndex_neg (by omega) h3] at h1;rw [size_toArray,← hl];exact Option.some.inj h1
  exact PySem.W.ki_setBack ho (by omega) (by rw [size_toArray,← hl];exact h3) (by omega) (by rw [hk];exact ⟨_,I',q⟩)
def TV (lo hi:Option Int) (n:Nat):(sliceBounds lo hi none n).1=((HT.sIx n 0 lo:Nat):Int)/\(sliceBounds lo hi none n).2.1=((HT.sIx n n hi:Nat):Int)/\(sliceBounds lo hi none n).2.2=1:=by
 refine ⟨?_,?_,rfl⟩
 ·cases lo with
  |none=>simp [sliceBounds,HT.sIx]
  |some i=>
   simp only [sliceBounds,HT.sIx,Option.getD_none,show (1:Int) > 0 by decide,if_true];by_cases h:i<0
   ·simp only [h,if_true]<;>omega
   ·simp only [h,if_false]<;>omega
 ·cases hi with
  |none=>simp [sliceBounds,HT.sIx]
  |some i=>
   simp only [sliceBounds,HT.sIx,Option.getD_none,show (1:Int) > 0 by decide,if_true];by_cases h:i<0
   ·simp only [h,if_true]<;>omega
   ·simp only [h,if_false]<;>omega
def R9 (its:List Value) (lo hi:Option Int):slicePick its.toArray lo hi none=((its.drop (HT.sIx its.length 0 lo)).take (HT.sIx its.length its.length hi-HT.sIx its.length 0 lo)).toArray:=by
 obtain ⟨h1,h2,h3⟩:=TV lo hi its.toArray.size;unfold slicePick;rw [h1,h2,h3];simp only [sliceRange_one,pick_run,size_toArray]<;>rfl
def qrZ (K:Frg):V->Option Int->Option Int->Hp->VK->Prop:=λx lo hi H Q=>∃ a xs,x=.ref a/\SqL K H a xs/\∀ p,H p=none->Q (.ref p) (upd H p (.lst (qgN xs lo hi)))
def qhj:SlR X (qrZ X.K):=by
 intro pins s σ H x v vl vu lo hi sl Q I rx hs pl pu h;obtain ⟨a,xs,rfl,hx,q⟩:=h;cases rx;obtain ⟨its,r,ht,hz⟩:=I.list hx;have hlen:=r.length;refine ⟨"list",_,slot_list_getitem.lookup,ht.isList.typeIs,?_⟩;refine wpAny_getItem_list_slice ht.isList hs pl pu .none (by simp) ?_ (by rw [size_toArray]<;>omega);rw [R9,← hlen];refine ⟨.ref s.heap.objs.size,_,I.laid (t':=s.toks) (o:=.lst (qgN xs lo hi)) (λb ob q=>y3 _ q) (v5 _) ?_,rfl,q _ (I.hok.fresh (v5 _))⟩;exact ⟨u0 (WZ xs lo hi) hz,_,0,(r.drop (HT.sIx xs.length 0 lo)).take (HT.sIx xs.length xs.length hi-HT.sIx xs.length 0 lo),y4 _ rfl⟩
def zg:J5 X (.type "tuple") (λxs H Q=>∃ p ys,xs=[.ref p]/\((SqL X.K H p ys/\∀ l,H l=none->Q (.ref l) (upd H l (.tup ys)))\/(SqT X.K H p ys/\Q (.ref p) H))):=by
 intro pins s σ H xs us Q I r h;obtain ⟨p,ys,rfl,h⟩:=h;obtain ⟨u,rfl,rx⟩:=ED r;cases rx;rcases h with ⟨hq,q⟩|⟨hq,q⟩
 ·obtain ⟨its,r',pl,hz⟩:=I.list hq;have hlen:=r'.length;refine call_tuple_list pl.isList (λh' kp=>?_) (by simp only [size_toArray]<;>omega);have I1:Inv X pins σ H { s with heap:=h' }:=I.kept (t':=s.toks) kp;have I2:Inv X pins σ (upd H h'.objs.size (.tup ys)) { s with heap:=h'.push { cls:=.type "tuple",data:=.seq its.toArray } }:=
   I1.laid (t':=s.toks) (λb o e=>y3 _ e) (v5 _) (show JX X.prog X.w _ _ _ (.tup ys) from ⟨hz,its,r',YJ.new _ _⟩)
  exact ⟨.ref h'.objs.size,_,I2,rfl,q _ (I1.hok.fresh (v5 _))⟩
 ·obtain ⟨its,r',pl,hz⟩:=I.tuple hq;exact call_tuple_same pl ⟨.ref p,H,I,rfl,q⟩
def tyV (K:Frg) (T:String) (x:V) (H:Hp):Prop:=match x with
 |.str _=>T="str"
 |.int _=>T="int"
 |.ref p=>(T="list"/\∃ xs,SqL K H p xs)\/(T="tuple"/\∃ o,K.lookup p=some o/\o.cls=.type "tuple"/\o.dict=none) ∨
   (T="dict"/\((∃ kvs,H p=some (.dK kvs))\/∃ kvs,H p=some (.dT kvs)))\/(T="set"/\∃ S n,H p=some (.set S n))
 |_=>False
def qkD {pins:List (Addr×Obj)} {σ:St} {H:Hp} {s:Shared} {T:String} {x:V} {v:Value} (I:Inv X pins σ H s) (r:jx x v) (ty:tyV X.K T x H) :
  s.TypeIs v T/\∀ a,v=.ref a->∃ ob,s.heap.get? a=some ob/\ob.dict=none:=by
 cases x with
 |str z=>
  obtain ⟨t,rfl⟩:=r;cases (show T="str" from ty);exact ⟨typeIs_str s z t,λ_ e=>nomatch e⟩
 |int i=>
  obtain ⟨t,rfl⟩:=r;cases (show T="int" from ty);exact ⟨typeIs_int s i t,λ_ e=>nomatch e⟩
 |ref p=>
  cases r;rcases ty with ⟨rfl,xs,hq⟩|⟨rfl,o,hk,hc,hd⟩|⟨rfl,hk⟩|⟨rfl,S,n,hk⟩
  ·obtain ⟨its,_,pl,_⟩:=I.list hq;refine ⟨pl.isList.typeIs,λa e=>?_⟩;cases e;obtain ⟨o,n,e,c,hd,_⟩:=pl;exact ⟨o,e,hd⟩
  ·refine ⟨⟨o,I.kIn p o hk,hc⟩,λa e=>?_⟩;cases e;exact ⟨o,I.kIn _ o hk,hd⟩
  ·have z:∃ o,s.heap.get? p=some o/\o.ExactDict:=by
    rcases hk with ⟨kvs,hk⟩|⟨kvs,hk⟩
    ·obtain ⟨_,_,_,_,o,_,_,e,ex,_⟩:=I.hok p _ hk;exact ⟨o,e,ex⟩
    ·obtain ⟨_,_,_,_,o,_,_,e,ex,_⟩:=I.hok p _ hk;exact ⟨o,e,ex⟩
   obtain ⟨o,e,ex⟩:=z;refine ⟨⟨o,e,ex.1⟩,λa e2=>?_⟩;cases e2;exact ⟨o,e,ex.2.1⟩
  ·obtain ⟨o,_,_,_,e,ex,_⟩:=I.hok p _ hk;refine ⟨⟨o,e,ex.1⟩,λa e2=>?_⟩;cases e2;exact ⟨o,e,ex.2.1⟩
 |_=>exact False.elim ty
def tBM (K:Frg) (T:String) (r:V->List V->Hp->VK->Prop) (to:TE) (t:TA):TE:=λσ H Q=>to σ H λx H1=>tyV K T x H1/\t σ H1 λxs H2=>r x xs H2 Q
variable {o e:Expr} {es:List Expr} {to:TE} {t:TA} {name:Str} {apos cpos:Pos} {T id:String} {r:V->List V->Hp->VK->Prop}
def ql5 (pa:PlainAttrs T) (slot:Slot T name id) (hty:typeOf (.builtin id)=pure (.type "method_descriptor")) (hm:MtR X id r) (ho:PE X o to) (ha:PA X (e::es) t)
  (hbase:attributeBase o name X.env (eval o X.env)=eval o X.env:=by rfl)
  (hfew:((backTo cpos (starEach (e::es) X.env)).all (λx=>!x.1)&&(backToKw cpos (keywordEach [] X.env)).all (λx=>x.1.isSome)
   && decide ((e::es).length+([]:List Keyword).length+(if ([]:List Keyword).isEmpty then 0 else 1)<30))=true:=by rfl)
  (hline:(apos.endLine==cpos.line)=true:=by rfl) (hs:starEach (e::es) X.env=(false,eval e X.env)::starEach es X.env:=by rfl) (hplain:(backTo cpos (starEach es X.env)).any (·.1)=false:=by rfl) :
  PE X (.Call (.Attribute o name apos) (e::es) [] cpos) (tBM X.K T r to t):=by
 intro pins s σ H Q I h;refine wpAny_Call_method_late hbase hfew hline rfl (thn (ho pins s σ H _ I h) λv s1 ⟨x,H1,I1,r1,ty,q1⟩=>?_);obtain ⟨h1,h2⟩:=qkD I1 r1 ty;refine ⟨T,id,pa,slot,hty,h1,h2,?_⟩;have hA:=ha cpos pins s1 σ H1 _ I1 q1;rw [hs] at hA ⊢;refine Calls.callWith_builtin (by show (false||(backTo cpos (starEach es X.env)).any (·.1))=false;rw [hplain]<;>rfl) (Calls.evalArgs_plain ?_);exact thn hA λus s2 ⟨vs,H2,I2,r2,q2⟩=>hm pins s2 σ H2 x vs v us Q I2 r1 r2 q2
end
def MtM (X:Cx) (id:String) (r:V->List V->Hp->VK->Prop):Prop:=
 ∀ (pins:List (Addr×Obj)) (s:Shared) (σ:St) (H:Hp) (x:V) (xs:List V) (v:Value) (us:List Value) (Q:VK),Inv X pins σ H s->jx x v->zt xs us->r x xs H Q ->
  wpAny (model X.prog X.w) X.A (call (.builtin id) (v::us)) (EP X pins σ Q) X.xe s
def zt.one:∀ {x:V} {us:List Value},zt [x] us->∃ u,us=[u]/\jx x u
 |_,_,.cons r .nil=>⟨_,rfl,r⟩
def zt.two:∀ {x y:V} {us:List Value},zt [x,y] us->∃ u v,us=[u,v]/\jx x u/\jx y v
 |_,_,_,.cons r (.cons q .nil)=>⟨_,_,rfl,r,q⟩
theorem zt.eraseIdx:∀ {xs:List V} {us:List Value} (i:Nat),zt xs us->zt (xs.eraseIdx i) (us.eraseIdx i)
 |_,_,_,.nil=>.nil
 |_,_,0,.cons _ t=>t
 |_,_,i+1,.cons r t=>.cons r (zt.eraseIdx i t)
theorem zt.reverse {xs:List V} {us:List Value} (h:zt xs us):zt xs.reverse us.reverse:=by
 induction h with
 |nil=>exact .nil
 |cons r t ih=>rw [List.reverse_cons,List.reverse_cons];exact zt.append ih (.cons r .nil)
theorem zt.rep {xs:List V} {us:List Value} (h:zt xs us):∀ k:Nat,zt (List.replicate k xs).flatten (List.replicate k us).flatten
 |0=>.nil
 |k+1=>by
  rw [List.replicate_succ,List.replicate_succ,List.flatten_cons,List.flatten_cons];exact zt.append h (zt.rep h k)
theorem T6 (its:List Value):∀ (k:Nat) (acc:List Value),
  List.foldl (λx1 x2=>x1++x2) acc.toArray (List.replicate k its.toArray)=(acc++(List.replicate k its).flatten).toArray
 |0,acc=>by simp
 |k+1,acc=>by
  have e:acc.toArray++its.toArray=(acc++its).toArray:=by simp
  have e2:(acc++its)++(List.replicate k its).flatten=acc++(List.replicate (k+1) its).flatten:=by
   rw [List.replicate_succ,List.flatten_cons,List.append_assoc]
  rw [← e2,← T6 its k (acc++its),← e,List.replicate_succ,List.foldl_cons]
section
variable {X:Cx} {pins:List (Addr×Obj)} {σ:St} {H:Hp} {s:Shared} {l b:Addr} {xs ys zs:List V}
def Inv.lset {its its':List Value} {n:Nat} {f:Array Value->Array Value} {t':Nat} (I:Inv X pins σ H s) (hH:H l=some (.lst xs))
  (e:s.heap.get? l=some { cls:=.type "list",data:=.seq its.toArray n }) (hf:f its.toArray=its'.toArray) (hv:zt ys its') (hz:ys.length<=sizeLine) :
  Inv X pins σ (upd H l (.lst ys)) { s with heap:=s.heap.update l (Obj.mapSeq f),toks:=t' }:=by
 have q:=PySem.IsL.update e f;rw [hf] at q;refine I.write (x:=l) (e:=l) (by rw [hH];exact trivial) (.inl rfl) (λb' u hb hu=>(Heap.get?_update_other s.heap (Obj.mapSeq f) (Ne.symm hb)).trans hu) ⟨_,q⟩ ?_;exact ⟨hz,its',_,hv,q⟩
def Inv.lnew {its:List Value} {t':Nat} (I:Inv X pins σ H s) (hv:zt ys its) (hz:ys.length<=sizeLine) :
  Inv X pins σ (upd H s.heap.objs.size (.lst ys)) { s with heap:=s.heap.push { cls:=.type "list",data:=.seq its.toArray },toks:=t' }:=
 I.laid (λ_ _ q=>y3 _ q) (v5 _) ⟨hz,its,0,hv,y4 _ rfl⟩
theorem Inv.fresh (I:Inv X pins σ H s):H s.heap.objs.size=none:=I.hok.fresh (v5 _)
def Inv.lstM (I:Inv X pins σ H s) (hH:H l=some (.lst xs)):xs.length<=sizeLine/\∃ (its:List Value) (n:Nat),zt xs its/\xs.length=its.length/\s.heap.get? l=some { cls:=.type "list",data:=.seq its.toArray n }:=by
 obtain ⟨z,its,n,r,e⟩:=I.hok l _ hH;exact ⟨z,its,n,r,r.length,e⟩
def M6 {n:Nat} (h:n<=sizeLine):Builtin.List.listTooLong n=false:=by
 unfold Builtin.List.listTooLong;exact za1 (by omega)
end
section
variable {X:Cx}
def qbg:V->List V->Hp->VK->Prop:=λx vs H Q=>∃ l xs y,x=.ref l/\vs=[y]/\H l=some (.lst xs)/\xs.length<sizeLine/\Q .non (upd H l (.lst (xs++[y])))
def UW:MtM X "list.append" qbg:=by
 intro pins s σ H x vs v us Q I rx rv h;obtain ⟨l,xs,y,rfl,rfl,hH,hz,q⟩:=h;cases rx;obtain ⟨u,rfl,ru⟩:=rv.one;obtain ⟨z,its,n,r,hl,e⟩:=I.lstM hH;refine call_meets F.slot_list_append ⟨_,e,rfl⟩ F.entry_list_append (F.args_list_append_2 _ _) (PySem.list_append l its.toArray n u (by rw [size_toArray];omega)) ⟨e,?_⟩;refine ⟨.non,_,I.lset (its':=its++[u]) hH e (by simp) (r.append (.cons ru .nil)) ?_,rfl,q⟩;rw [length_append,List.length_singleton];omega
def qbR:V->List V->Hp->VK->Prop:=λx vs H Q=>∃ l b xs zs,x=.ref l/\vs=[.ref b]/\H l=some (.lst xs)/\H b=some (.lst zs)/\xs.length+zs.length<=sizeLine/\Q .non (upd H l (.lst (xs++zs)))
def qch:MtM X "list.extend" qbR:=by
 intro pins s σ H x vs v us Q I rx rv h;obtain ⟨l,b,xs,zs,rfl,rfl,hH,hB,hz,q⟩:=h;cases rx;obtain ⟨u,rfl,ru⟩:=rv.one;cases ru;obtain ⟨z,its,n,r,hl,e⟩:=I.lstM hH;obtain ⟨z2,its2,n2,r2,hl2,e2⟩:=I.lstM hB;have hsz:its.toArray.size+its2.toArray.size<=sizeLine:=by rw [size_toArray,size_toArray];omega
 have hlong:¬ (!its.toArray.isEmpty&&Builtin.List.listTooLong (its.toArray.size+its2.toArray.size))=true:=by
  rw [M6 hsz,Bool.and_false];exact y8
 refine call_meets F.slot_list_extend ⟨_,e,rfl⟩ F.entry_list_extend (F.args_list_extend_2 _ _)
  (AutoSeq1.list_extend_list_list_0 l its.toArray n b its2.toArray n2 hlong (by rw [size_toArray];omega) (by omega)) ⟨e,e2,?_⟩
 refine ⟨.non,_,I.lset (its':=its++its2) hH e (by simp) (r.append r2) ?_,rfl,q⟩;rw [length_append];omega
def qrv:R2:=λx y H Q=>∃ l b xs zs,x=.ref l/\y=.ref b/\H l=some (.lst xs)/\H b=some (.lst zs)/\xs.length+zs.length<=sizeLine/\∀ p,H p=none->Q (.ref p) (upd H p (.lst (xs++zs)))
def qna:OpR X (binaryOp .Add) qrv:=by
 intro pins s σ H x y v u Q I rx ry h;obtain ⟨l,b,xs,zs,rfl,rfl,hH,hB,hz,q⟩:=h;cases rx;cases ry;obtain ⟨z,its,n,r,hl,e⟩:=I.lstM hH;obtain ⟨z2,its2,n2,r2,hl2,e2⟩:=I.lstM hB;refine PySem.P.add_list e e2 ?_ (by rw [size_toArray,size_toArray];omega);have ea:its.toArray++its2.toArray=(its++its2).toArray:=by simp
 rw [ea];exact ⟨.ref _,_,I.lnew (t':=s.toks) (r.append r2) (by rw [length_append];omega),rfl,q _ I.fresh⟩
def qrc:R2:=λx y H Q=>∃ l k xs,x=.ref l/\y=.int k/\H l=some (.lst xs)/\-(2 ^ 63)<=k/\k<2 ^ 63/\xs.length*k.toNat<=sizeLine /\
 ∀ p,H p=none->Q (.ref p) (upd H p (.lst (List.replicate k.toNat xs).flatten))
def qhb {α:Type} (xs:List α) (k:Nat):(List.replicate k xs).flatten.length=k*xs.length:=by
 induction k with
 |zero=>simp
 |succ k ih=>rw [List.replicate_succ,List.flatten_cons,length_append,ih,Nat.succ_mul,Nat.add_comm]
def qjz:OpR X (binaryOp .Mult) qrc:=by
 intro pins s σ H x y v u Q I rx ry h;obtain ⟨l,k,xs,rfl,rfl,hH,h1,h2,hz,q⟩:=h;cases rx;obtain ⟨t,rfl⟩:=ry;obtain ⟨z,its,n,r,hl,e⟩:=I.lstM hH;have hlen:its.toArray.size*k.toNat<=sizeLine:=by rw [size_toArray,← hl];exact hz
 have hcap:¬ its.toArray.size*k.toNat > (2 ^ 63-1)/8:=by
  have:(sizeLine:Nat)<=(2 ^ 63-1)/8:=by decide
  omega
 have hfit:¬ (!Builtin.List.listFitsIndex k)=true:=by
  rw [fitsIndex_both h1 h2];exact y8
 have hlong:¬ Builtin.List.listTooLong (its.toArray.size*k.toNat)=true:=by
  rw [M6 hlen];exact y8
 have hnew:List.foldl (λx1 x2=>x1++x2) #[] (List.replicate (if its.toArray.isEmpty=true then 0 else k.toNat) its.toArray)=(List.replicate k.toNat its).flatten.toArray:=by
  have f0:∀ m:Nat,List.foldl (λx1 x2=>x1++x2) #[] (List.replicate m its.toArray)=(List.replicate m its).flatten.toArray:=λm=>by
   have:=T6 its m [];rw [List.nil_append] at this;exact this
  rw [f0];cases its with
  |nil=>simp
  |cons a r'=>rw [if_neg (by simp)]
 refine wpAny_binaryOp_repeat_ref (T:="list") (U:="int") (by decide) ⟨_,e,rfl⟩ (λs'=>typeIs_int s' k t) noFill_list_mul F.fills_int_mul F.slot_int_rmul repeat_list F.slot_int_index.lookup
  (call_meets F.slot_int_rmul (typeIs_int s k t) F.entry_int_rmul (F.args_int_rmul_2 _ _) (int___rmul___int_list k t l its.toArray n)
   ⟨e,rfl,⟨_,e,rfl⟩,call_meets F.slot_list_mul ⟨_,e,rfl⟩ F.entry_list_mul (F.args_list_mul_2 _ _) (AutoListH.list___mul___list_int_3 l its.toArray n k t hfit hcap hlong) ⟨e,?_⟩⟩)
 rw [hnew];exact ⟨.ref _,_,I.lnew (t':=s.toks) (r.rep k.toNat) (by rw [qhb,Nat.mul_comm];exact hz),rfl,q _ I.fresh⟩
end
section
variable {prog:Program} {w:World} {A:Around} {E:Value->Shared->Prop} {s:Shared}
end
section
variable {X:Cx}
end
end L2
namespace Att
open PySem PySem.W PySem.Calls PyProof.Rows
def WV {P:Params} {h:Heap}:∀ (ns:List Int) (vs:List Value),WellAll P h vs (ns.map WData.int)->IntsAre vs ns:=by
 intro ns;induction ns with
 |nil=>
  intro vs w;rw [List.map_nil] at w;cases w;exact .nil
 |cons n ns ih=>
  intro vs w;rw [map_cons] at w;cases w with
  |cons a b=>
   cases a;exact .cons _ _ (ih _ b)
def qde {l:OpenLaw} {n:Nat} (hn:l.most=some n) {P:Params} {h:Heap} {args:List WData} {vals:List Value}
  (hpre:l.row.toRowW.claim.pre args=true) (hwl:WellAll P h vals args) :
  ∃ a vs ns,vals=[Value.ref a]/\args=[WData.list (ns.map WData.int)]/\h.get? a=some { cls:=.type "list",data:=.seq vs.toArray }/\IntsAre vs ns/\ns.length<=n:=by
 have hsh:WShape.hasAll [] args [.list .int]=true:=(pre_splitW hpre).1;have hc:l.pre.holds [] { args:=args }=true:=(pre_splitW hpre).2;obtain ⟨d,r,rfl,h1,h2⟩:=hasAllW_cons hsh;obtain rfl:=hasAllW_nil h2;obtain ⟨xs,rfl,h3⟩:=hasW_list h1;obtain ⟨ns,rfl⟩:=items_int h3;have hlen:ns.length<=n:=by
  unfold OpenLaw.pre at hc;have h4:(WTm.not (.lt (.lit (.int (n:Int))) (.len (.arg 0)))).holds [] { args:=[.list (ns.map .int)] }=true:=by
   have h4:=(holds_andW hc).1;rw [hn] at h4;exact h4
  have h5:=condW_of h4 (w_not (w_lt w_lit (w_len_list (w_arg rfl))));rw [length_map] at h5;refine Nat.le_of_not_lt λq=>?_;have q':(n:Int)<((ns.length:Nat):Int):=by omega
  first
   | (rw [za2 q'] at h5;exact absurd h5 (by decide))
   | (simp at h5;omega)
 cases hwl with
 |cons w1 w2=>
  cases w2;cases w1 with
  |list ho hall=>exact ⟨_,_,ns,rfl,rfl,ho,WV ns _ hall,hlen⟩
def qaN (l:OpenLaw) (args:List WData):l.row.toRowW.claim.post args (.bool true) args=true:=
 postW_of (r:=l.row.toRowW) (X:=(true==true))
  (show WShape.has [] (.bool true) .bool=true by first|rfl|decide|simp [WShape.has,WShape.arms,WShape.armsAll])
  (show (WTm.eq .res (.lit (.bool true))).value [] { args:=args,res:=some (.bool true),after:=args }=some (.bool (true==true)) from w_eq_bool (w_res rfl) w_lit) rfl
def LJ {l:OpenLaw} {n:Nat} {q:Program} {loose:List Str} {XP:(Str->Option Value)->Heap->Prop} {YP:World->Heap->Prop} {d:DefRec}
  (hn:l.most=some n) (hdf:d.params.defaults=[])
  (call:∀ (w:World) (s₀ s₁:Shared) (mg mb:Str->Option Value) (fa:Addr) (o:Obj) (pm cd doc:Value) (a:Addr) (vs:List Value) (ns:List Int),
   Ground q loose [] XP w s₀ mg mb s₁.heap->YP w s₁.heap ->
   s₁.heap.get? fa=some o->o.data=.func (docDef d.name d.params d.body d.scope pm cd doc)->s₁.heap.CodeRec cd d.name->mg d.name=some (.ref fa) ->
   s₁.heap.get? a=some { cls:=.type "list",data:=.seq vs.toArray }->IntsAre vs ns->ns.length<=n->s₁.gens=#[] ->
   codeAny (model l.prog w) callerA (.call (.ref fa) ⟨[.ref a],[]⟩) (λr s'=>r=.ok (.ret (.bool true))/\OldK s₁.heap s'.heap/\s'.os=s₁.os/\AllBare s'.gens) s₁) :
  WalkO q loose XP YP l.row.toRowW d [] (λf vs=>PySem.call f vs):=by
 intro w s₀ s₁ mg mb G Y fa o pm cd doc dV kV ho hd hcd hD hmg hg args vals as hpre hlay hrd hwl hlo;obtain rfl:dV=.none:=Dflts.none hD hdf;obtain rfl:kV=.none:=Dflts.noKw hD;obtain ⟨a,vs,ns,rfl,rfl,hobj,hints,hlen⟩:=qde hn hpre hwl;refine enter_call (codeAny_mono (call w s₀ s₁ mg mb fa o pm cd doc a vs ns G Y ho (fd_plain hd) hcd hmg hobj hints hlen hg) λr s' hq=>?_);obtain ⟨rfl,h2,h3,h4⟩:=hq;exact ⟨.inl ⟨.bool true,.bool true,[],rfl,λ_=>rfl,.bool true,qaN l _,λ_=>⟨List.Pairwise.nil,λ_ hm=>(nomatch hm)⟩⟩,h2,h3,h4⟩
section
variable {prog:Program} {w:World} {A:Around} {E:Value->Shared->Prop} {s:Shared} {K:Frag}
end
end Att
namespace L2
open PySem PySem.Spec PyProof.Rows
theorem SZ:∀ {vs:List Value} {ns:List Int},IntsAre vs ns->zt (ns.map V.int) vs
 |_,_,.nil=>.nil
 |_,_,.cons n t h=>.cons ⟨t,rfl⟩ (SZ h)
def qov (H:Hp):Prop:=∀ b,H b=none\/∃ o xs,H b=some (.frz o (.lst xs))
def qdN {P:Program} {w:World} {K:Frg} {mg mb:Str->Option Value} {CX:CXT} {k:Nat} {fa a:Addr} {fd:FuncData} {x:Str} {sp:Sp} {s₁:Shared} {vs:List Value} {ns:List Int}
  (KX:K.In s₁.heap) (hns:s₁.heap.Ns mainGlobals mg) (hb:s₁.heap.Ns builtinsNs mb) (hbb:∀ x:Str,x≠"__name__" -> mb x=bootBuiltins x) (hlim:s₁.heap.NoLimit) (hg:s₁.gens=#[])
  (ha:s₁.heap.get? a=some { cls:=.type "list",data:=.seq vs.toArray }) (hi:IntsAre vs ns) (hl:ns.length<=sizeLine) (hr:Room k callerA)
  (F:∀ base:Heap,K.In base->base.Ns mainGlobals mg->FnOk P w K mg base CX k fa fd [x] sp) (hbind:∀ (s:Shared) (u:Value),BindsTo s fd ⟨[u],[]⟩ [(x,u)])
  (hsp:∀ H:Hp,qov H->SqL K H a (ns.map V.int)->sp [.ref a] H (λv _=>v=.bl true) λ_ _ _=>False)
  (hCX:∀ H e s',CX [] H s₁ (λ_ _ _=>False) e s'->False) :
  codeAny (model P w) callerA (.call (.ref fa) ⟨[.ref a],[]⟩) (λr s'=>r=.ok (.ret (.bool true))/\OldK s₁.heap s'.heap/\s'.os=s₁.os/\AllBare s'.gens) s₁:=by
 have rv:=SZ hi;have lenV:=hi.length
 -- from an abstract heap in which nothing but the script may be tracked
 have core:∀ H:Hp,qov H->SqL K H a (ns.map V.int)->HOk P w H s₁.heap->(∀ b,H b≠none->b=a)->(H a≠none->K.lookup a=none) ->
   codeAny (model P w) callerA (.call (.ref fa) ⟨[.ref a],[]⟩) (λr s'=>r=.ok (.ret (.bool true))/\OldK s₁.heap s'.heap/\s'.os=s₁.os/\AllBare s'.gens) s₁:=by
  intro H hO hS hok hA hK;have base_of:∀ {b:Addr} {o:Obj},s₁.heap.get? b=some o->H b=none->(qdy s₁.heap H).get? b=some o:=λe n=>qeC e n;have noA:∀ {b:Addr} {o:Obj} {es:Array DictEntry} {ep:Nat},s₁.heap.get? b=some o->o.data=.dict es ep->H b=none:=λ{b o es ep} e d=>by
   cases q:H b with
   |none=>rfl
   |some u=>
    have e':b=a:=hA b (by rw [q];simp);subst e';rw [ha] at e;cases e;have d':Data.seq vs.toArray _=Data.dict es ep:=d;cases d'
  have nsK:∀ {b:Addr} {m:Str->Option Value},s₁.heap.Ns b m->(qdy s₁.heap H).Ns b m:=λ{b m} ⟨o,es,ep,e,d,r⟩=>⟨o,es,ep,base_of e (noA e d),d,r⟩
  have hKb:K.In (qdy s₁.heap H):=λb o e=>base_of (KX b o e) (by
   cases q:H b with
   |none=>rfl
   |some u=>
    have e':b=a:=hA b (by rw [q];simp);subst e';rw [hK (by rw [q];simp)] at e;cases e)
  have hM:Mod K mg (qdy s₁.heap H):=⟨hKb,nsK hns,⟨mb,nsK hb,hbb⟩,let ⟨mc,h1,h2⟩:=hlim;⟨mc,nsK h1,h2⟩⟩
  have e0:Env0 P w K mg (qdy s₁.heap H) callerA [] s₁ H:=⟨rfl,hM,λb o e=>qgP e,Nat.le_of_eq (qcr _ _),trivial,λb hb=>absurd (show b∈([]:List Addr) from hb) (by simp),hok,.of_eq hg⟩
  refine codeAny_mono ((F _ hKb (nsK hns)).run callerA [] s₁ H ⟨[.ref a],[]⟩ [.ref a] [.ref a] _ _ hr e0 (hbind s₁ (.ref a)) (.cons rfl .nil) (hsp H hO hS)) λr s' h=>?_;cases r with
  |error e=>exact (hCX H e s' h).elim
  |ok fl=>
   cases fl with
   |next=>exact False.elim h
   |brk=>exact False.elim h
   |cont=>exact False.elim h
   |ret u=>
    obtain ⟨v,H',os,bare,un,hok',r',q⟩:=h;have q':v=.bl true:=q;subst q';obtain rfl:u=Value.bool true:=r';refine ⟨rfl,OldK.of_keep λb o e=>?_,os,bare⟩;cases q:H b with
    |none=>exact un.keep b o e q (by intro z;exact absurd (show b∈([]:List Addr) from z) (by simp)) (by simp)
    |some u=>
     rcases hO b with z|⟨ob,xs,z⟩
     ·rw [q] at z;cases z
     ·have z2:=un.frzs b ob _ z;obtain ⟨e1,_⟩:=hok b _ z;obtain ⟨e2,_⟩:=hok' b _ z2;rw [e] at e1;cases e1;exact e2
 cases hk:K.lookup a with
 |some o=>
  -- the script is one of the module's own objects
  have e:=KX a o hk;rw [ha] at e;cases e;refine core (λ_=>none) (λ_=>.inl rfl) (.inr ⟨_,vs.toArray,_,hk,rfl,rfl,rfl,by rw [size_toArray,lenV];exact hl,by simpa using rv⟩) (λb u z=>by have z':(none:Option HO)=some u:=z;cases z') (λb z=>absurd rfl z) λz=>absurd rfl z
 |none=>
  refine core (λb=>if b=a then some (.frz { cls:=.type "list",data:=.seq vs.toArray } (.lst (ns.map V.int))) else none) (λb=>?_) (.inl (.inr ⟨{ cls:=.type "list",data:=.seq vs.toArray },if_pos rfl⟩)) (λb u z=>?_) (λb z=>?_) λ_=>hk
  ·by_cases hb:b=a
   ·exact .inr ⟨_,_,if_pos hb⟩
   ·exact .inl (if_neg hb)
  ·by_cases hb:b=a
   ·have z':=(if_pos hb).symm.trans z;cases z';subst hb;exact ⟨ha,by rw [length_map];exact hl,vs,_,rv,ha⟩
   ·have z':=(if_neg hb).symm.trans z;cases z'
  ·by_cases hb:b=a
   ·exact hb
   ·exact absurd (if_neg hb) z
def qiN {l:PySem.W.OpenLaw} {n k:Nat} {q:Program} {loose:List Str} {XP:(Str->Option Value)->Heap->Prop} {YP:World->Heap->Prop} {d:DefRec} {K:Params->PySem.W.Frag} {CX:World->CXT} {sp:World->Sp} {x:Str}
  (hn:l.most=some n) (hn2:n<=sizeLine) (hdf:d.params.defaults=[]) (hr:Room k callerA)
  (hY:∀ (w:World) (h:Heap),YP w h->(K w.params).In h)
  (F:∀ (w:World) (mg:Str->Option Value) (fa:Addr) (h:Heap),(K w.params).In h->h.Ns mainGlobals mg->mg d.name=some (.ref fa) ->
   ∃ fd:FuncData,(∀ (s:Shared) (u:Value),BindsTo s fd ⟨[u],[]⟩ [(x,u)]) /\
    ∀ base:Heap,(K w.params).In base->base.Ns mainGlobals mg->FnOk l.prog w (K w.params) mg base (CX w) k fa fd [x] (sp w))
  (hsp:∀ (w:World) (H:Hp) (a:Addr) (ns:List Int),ns.length<=n->qov H->SqL (K w.params) H a (ns.map V.int)->sp w [.ref a] H (λv _=>v=.bl true) λ_ _ _=>False)
  (hCX:∀ (w:World) (H:Hp) (s:Shared) (e:Value) (s':Shared),CX w [] H s (λ_ _ _=>False) e s'->False) :
  PySem.W.WalkO q loose XP YP l.row.toRowW d [] (λf vs=>PySem.call f vs):=by
 refine Att.LJ hn hdf λw s₀ s₁ mg mb fa o pm cd doc a vs ns G Y ho hd hcd hmg hobj hints hlen hg=>?_;have KX:=hY w _ Y;obtain ⟨fd,hb,hF⟩:=F w mg fa _ KX G.T.g hmg;exact qdN KX G.T.g G.T.b G.T.builtins G.T.nolimit hg hobj hints (u0 hlen hn2) hr hF hb (λH hO hS=>hsp w H a ns hlen hO hS) λH e s'=>hCX w H s₁ e s'
def qS (s:Stmt):Arguments:=match s with
 |.FunctionDef _ a _ _ _ _ _ _ _ _=>a
 |_=>{ posonlyargs:=[],args:=[],vararg:=none,kwonlyargs:=[],kw_defaults:=[],kwarg:=none,defaults:=[] }
def qz (s:Stmt):List Stmt:=match s with
 |.FunctionDef _ _ b _ _ _ _ _ _ _=>b
 |_=>[]
def qf (s:Stmt):Scope:=match s with
 |.FunctionDef _ _ _ _ _ _ sc _ _ _=>sc
 |_=>{ kind:=.function,names:=[],isGenerator:=false,isCoroutine:=false }
abbrev CX0:CXT:=λ_ _ _ _ _ _=>False
abbrev E0:XK:=λ_ _ _=>False
def qp8 {X:Cx}:MZ CX0 X E0:=λ_ _ _ _ _ _ _ h=>h.elim
structure Fun (K:Frg) (x qual:Str) (st:Stmt) (f:Addr) (fd:FuncData):Prop where
 ex:∃ (oc:Value) (od:Option Addr) (kV doc pm:Value) (an:Option Addr) (cdv ct:Value) (osl:Array (Option Value)),
  fd=PySem.W.fnOf x qual (qS st) (qz st) (qf st) .none kV doc pm an cdv ct/\K.lookup f=some ⟨oc,od,.func fd,osl⟩/\PySem.W.codeIn K cdv qual=true
 kp:PySem.W.keepIn K (.ref f)=true
section
variable {P:Program} {w:World} {K:Frg} {mg:Str->Option Value} {base:Heap}
def Fun.ok {x qual:Str} {st:Stmt} {f:Addr} {fd:FuncData} {N ps:List Str} {k:Nat} {sp:Sp} (F:Fun K x qual st f fd) (S:FnScope N ps (qf st)) (len:∀ vs H Q E,sp vs H Q E->vs.length=ps.length)
  (hbody:∀ (cdv:Value) (A:Around) (outer:List Env) (s:Shared) (H:Hp) (vs:List V) (Q:VK) (E:XK),Room k (A.deeper (envOfC qual (qf st) s.heap.objs.size f cdv))->sp vs H Q E ->
   ∃ t,PSs (YD CX0 P w K mg base N qual (qf st) f cdv A outer s H E).nox (qz st) t/\t { nx:=λ_ H'=>Q .non H',rt:=Q } (WS N vs) H):FnOk P w K mg base CX0 (k+1) f fd ps sp:=by
 obtain ⟨oc,od,kV,doc,pm,an,cdv,ct,osl,rfl,lk,hcd⟩:=F.ex;refine qmP lk hcd S len λA outer s H vs Q E hr hsp=>?_;obtain ⟨t,h,q⟩:=hbody cdv A outer s H vs Q E hr hsp;exact ⟨t,h.nox,q⟩
def Fun.binds {x qual:Str} {st:Stmt} {f:Addr} {fd:FuncData} {ps:List Str} (F:Fun K x qual st f fd)
  (h:∀ (kV doc pm:Value) (an:Option Addr) (cdv ct:Value) (us:List Value),us.length=ps.length->bindArgs (PySem.W.fnOf x qual (qS st) (qz st) (qf st) .none kV doc pm an cdv ct) ⟨us,[]⟩=pure (ps.zip us)):DR K fd ps []:=by
 obtain ⟨oc,od,kV,doc,pm,an,cdv,ct,osl,rfl,lk,hcd⟩:=F.ex;exact .all (h kV doc pm an cdv ct)
def j6 {x qual:Str} {st:Stmt} {f:Addr} {oc:Value} {od an:Option Addr} {osl:Array (Option Value)} {kV doc pm cdv ct:Value} (l:K.lookup f=some ⟨oc,od,.func (PySem.W.fnOf x qual (qS st) (qz st) (qf st) .none kV doc pm an cdv ct),osl⟩)
  (c:PySem.W.codeIn K cdv qual=true) (k:PySem.W.keepIn K (.ref f)=true):Fun K x qual st f (PySem.W.fnOf x qual (qS st) (qz st) (qf st) .none kV doc pm an cdv ct):=⟨⟨oc,od,kV,doc,pm,an,cdv,ct,osl,rfl,l,c⟩,k⟩
end
section
variable {X:Cx}
def pv (i:Nat) {x:Str} {pos:Pos} (hN:X.N[i]?=some x:=by rfl) (hv:Vis X.env.scope x:=by first|exact Or.inl rfl|exact Or.inr (Or.inl rfl)|exact Or.inr (Or.inr rfl)) (hd:(x==("__debug__" : Str))=false:=by decide)
  (hcd:(x==("__classdict__" : Str))=false:=by decide):PE X (.Name x pos) (qrn i):=qfL hN hv hd hcd
end
def qkz {A B:Prop} (h:B):if false=true then A else B:=by
 rw [if_neg y8];exact h
def qne {A B:Prop} (h:A):if true=true then A else B:=by
 rw [if_pos rfl];exact h
end L2
set_option maxHeartbeats 4000000
namespace L3
open PySem PySem.Spec PyProof.Rows L2
set_option genInjectivity true in
inductive T where
 |non|bl (b:Bool)|int (i:Int)|str (x:Str)|tup (xs:List T)|ref (a:Addr)
inductive O where
 |lst (xs:List T)
 |frz (xs:List T)
 |dct (kvs:List (Int×T))
 |exn (C:Addr)
 |tab (ks:List Str) (xs:List T)
abbrev Gp:=Addr->Option O
def gu (G:Gp) (a:Addr) (o:O):Gp:=λb=>if b=a then some o else G b
def qu {G:Gp} {a:Addr} {o:O}:gu G a o a=some o:=by unfold gu;rw [if_pos rfl]
def zu {G:Gp} {a b:Addr} {o:O} (h:b≠a):gu G a o b=G b:=by unfold gu;rw [if_neg h]
mutual
inductive Rp (K:Frg) (H:Hp):T->V->Prop
 |non:Rp K H .non .non
 |bl (b:Bool):Rp K H (.bl b) (.bl b)
 |int (i:Int):Rp K H (.int i) (.int i)
 |str (x:Str):Rp K H (.str x) (.str x)
 |ref (a:Addr):Rp K H (.ref a) (.ref a)
 |tup {xs:List T} {a:Addr} {vs:List V}:SqT K H a vs->Rps K H xs vs->Rp K H (.tup xs) (.ref a)
inductive Rps (K:Frg) (H:Hp):List T->List V->Prop
 |nil:Rps K H [] []
 |cons {x:T} {v:V} {xs:List T} {vs:List V}:Rp K H x v->Rps K H xs vs->Rps K H (x::xs) (v::vs)
end
def IsX (a C:Addr) (h:Heap):Prop:=∃ o vs,h.get? a=some o/\o.cls=.ref C/\o.data=.fields vs
def OR (K:Frg) (H:Hp) (a:Addr):O->Prop
 |.lst xs=>∃ vs,H a=some (.lst vs)/\Rps K H xs vs
 |.frz xs=>∃ vs,(∃ o,H a=some (.frz o (.lst vs)))/\Rps K H xs vs
 |.dct kvs=>∃ vs,H a=some (.dK ((kvs.map λp=>(Sum.inl p.1:Key)).zip vs))/\Rps K H (kvs.map λp=>p.2) vs
 |.exn C=>H a=some (.ext (IsX a C))
 |.tab ks xs=>∃ vs,H a=some (.dK ((ks.map λk=>(Sum.inr k:Key)).zip vs))/\Rps K H xs vs
def HR (K:Frg) (G:Gp) (H:Hp):Prop:=∀ a o,G a=some o->OR K H a o
def Kp (G:Gp) (H:Hp) (G':Gp) (H':Hp):Prop:=∀ a o,H a=some o->G a=none->H' a=some o/\G' a=none
def Kp.refl {G:Gp} {H:Hp}:Kp G H G H:=λ_ _ h g=>⟨h,g⟩
def Kp.trans {G G1 G2:Gp} {H H1 H2:Hp} (a:Kp G H G1 H1) (b:Kp G1 H1 G2 H2):Kp G H G2 H2:=λx o h g=>
 let ⟨h1,g1⟩:=a x o h g;b x o h1 g1
section
variable {K:Frg} {G G':Gp} {H H':Hp}
def HR.noneT (hr:HR K G H) {a:Addr} {vs:List V} (h:Rd H a (.tup vs)):G a=none:=by
 cases e:G a with
 |none=>rfl
 |some o=>
  have q:=hr a o e;cases o with
  |lst xs=>
   obtain ⟨us,q1,_⟩:=q;rcases h with h|⟨ob,h⟩<;>(rw [q1] at h;cases h)
  |frz xs=>
   obtain ⟨us,⟨o1,q1⟩,_⟩:=q;rcases h with h|⟨ob,h⟩<;>(rw [q1] at h;cases h)
  |dct kvs=>
   obtain ⟨us,q1,_⟩:=q;rcases h with h|⟨ob,h⟩<;>(rw [q1] at h;cases h)
  |exn C=>
   have q1:H a=some (.ext (IsX a C)):=q;rcases h with h|⟨ob,h⟩<;>(rw [q1] at h;cases h)
  |tab ks xs=>
   obtain ⟨us,q1,_⟩:=q;rcases h with h|⟨ob,h⟩<;>(rw [q1] at h;cases h)
def SH (hr:HR K G H) (k:Kp G H G' H') {a:Addr} {vs:List V} (h:SqT K H a vs):SqT K H' a vs:=by
 rcases h with h|h
 ·have g:=hr.noneT h;rcases h with h|⟨o,h⟩
  ·exact .inl (.inl (k a _ h g).1)
  ·exact .inl (.inr ⟨o,(k a _ h g).1⟩)
 ·exact .inr h
mutual
theorem Rp.keep (hr:HR K G H) (k:Kp G H G' H'):∀ {x:T} {v:V},Rp K H x v->Rp K H' x v
 |_,_,.non=>.non
 |_,_,.bl b=>.bl b
 |_,_,.int i=>.int i
 |_,_,.str x=>.str x
 |_,_,.ref a=>.ref a
 |_,_,.tup h hs=>.tup (SH hr k h) (Rps.keep hr k hs)
theorem Rps.keep (hr:HR K G H) (k:Kp G H G' H'):∀ {x:List T} {v:List V},Rps K H x v->Rps K H' x v
 |_,_,.nil=>.nil
 |_,_,.cons a b=>.cons (Rp.keep hr k a) (Rps.keep hr k b)
end
theorem Rps.length:∀ {xs:List T} {vs:List V},Rps K H xs vs->xs.length=vs.length
 |_,_,.nil=>rfl
 |_,_,.cons _ b=>by simp [Rps.length b]
theorem Rps.get:∀ {xs:List T} {vs:List V} {i:Nat} {x:T},Rps K H xs vs->xs[i]?=some x->∃ v,vs[i]?=some v/\Rp K H x v
 |_,_,_,_,.nil,e=>by simp at e
 |_,_,0,_,.cons r _,e=>by simp at e;subst e;exact ⟨_,rfl,r⟩
 |_,_,i+1,x,.cons _ t,e=>by
  obtain ⟨u,h1,h2⟩:=Rps.get (i:=i) (x:=x) t (by simpa using e);exact ⟨u,by simpa using h1,h2⟩
theorem Rps.append:∀ {xs ys:List T} {vs us:List V},Rps K H xs vs->Rps K H ys us->Rps K H (xs++ys) (vs++us)
 |_,_,_,_,.nil,s=>s
 |_,_,_,_,.cons r t,s=>.cons r (Rps.append t s)
theorem Rps.take:∀ {xs:List T} {vs:List V} (n:Nat),Rps K H xs vs->Rps K H (xs.take n) (vs.take n)
 |_,_,0,_=>.nil
 |_,_,_+1,.nil=>.nil
 |_,_,n+1,.cons r t=>.cons r (Rps.take n t)
theorem Rps.drop:∀ {xs:List T} {vs:List V} (n:Nat),Rps K H xs vs->Rps K H (xs.drop n) (vs.drop n)
 |_,_,0,r=>r
 |_,_,_+1,.nil=>.nil
 |_,_,n+1,.cons _ t=>Rps.drop n t
theorem Rps.set {x:T} {v:V} (r:Rp K H x v):∀ {xs:List T} {vs:List V} (i:Nat),Rps K H xs vs->Rps K H (xs.set i x) (vs.set i v)
 |_,_,_,.nil=>.nil
 |_,_,0,.cons _ t=>.cons r t
 |_,_,i+1,.cons q t=>.cons q (Rps.set r i t)
theorem Rps.ints:∀ (ns:List Int),Rps K H (ns.map T.int) (ns.map V.int)
 |[]=>.nil
 |n::r=>.cons (.int n) (Rps.ints r)
theorem Rps.reverse {xs:List T} {vs:List V} (h:Rps K H xs vs):Rps K H xs.reverse vs.reverse:=by
 induction xs generalizing vs with
 |nil=>cases h;exact .nil
 |cons x r ih=>
  cases h with
  |cons a b=>
   rw [List.reverse_cons,List.reverse_cons];exact (ih b).append (.cons a .nil)
def Kp.laid {p:Addr} {ho:HO} (hp:H p=none):Kp G H G (upd H p ho):=λa o h g=>⟨by rw [qt (qw h hp)];exact h,g⟩
def HR.free (hr:HR K G H) {p:Addr} (hp:H p=none):G p=none:=by
 cases e:G p with
 |none=>rfl
 |some o=>
  have q:=hr p o e;cases o with
  |lst xs=>obtain ⟨us,q1,_⟩:=q;rw [hp] at q1;cases q1
  |frz xs=>obtain ⟨us,⟨o1,q1⟩,_⟩:=q;rw [hp] at q1;cases q1
  |dct kvs=>obtain ⟨us,q1,_⟩:=q;rw [hp] at q1;cases q1
  |exn C=>have q1:H p=some (.ext (IsX p C)):=q;rw [hp] at q1;cases q1
  |tab ks xs=>obtain ⟨us,q1,_⟩:=q;rw [hp] at q1;cases q1
theorem OR.keep (hr:HR K G H) (k:Kp G H G' H') {a:Addr} {o:O} (h:OR K H a o) (e:∀ u,H a=some u->H' a=some u):OR K H' a o:=by
 cases o with
 |lst xs=>obtain ⟨vs,h1,h2⟩:=h;exact ⟨vs,e _ h1,h2.keep hr k⟩
 |frz xs=>obtain ⟨vs,⟨o,h1⟩,h2⟩:=h;exact ⟨vs,⟨o,e _ h1⟩,h2.keep hr k⟩
 |dct kvs=>obtain ⟨vs,h1,h2⟩:=h;exact ⟨vs,e _ h1,h2.keep hr k⟩
 |exn C=>exact e _ h
 |tab ks xs=>obtain ⟨vs,h1,h2⟩:=h;exact ⟨vs,e _ h1,h2.keep hr k⟩
theorem HR.laid (hr:HR K G H) {p:Addr} {ho:HO} (hp:H p=none):HR K G (upd H p ho):=λa o e=>
 (hr a o e).keep hr (Kp.laid hp) λu h=>by rw [qt (qw h hp)];exact h
def Kp.newL {p:Addr} {ho:HO} {o':O} (hp:H p=none):Kp G H (gu G p o') (upd H p ho):=λa o h g=>
 ⟨by rw [qt (qw h hp)];exact h,by rw [zu (qw h hp)];exact g⟩
def HR.newL (hr:HR K G H) {p:Addr} {xs:List T} {vs:List V} (hp:H p=none) (r:Rps K H xs vs):HR K (gu G p (.lst xs)) (upd H p (.lst vs)):=λa o e=>by
 by_cases ha:a=p
 ·subst ha;rw [qu] at e;cases e;exact ⟨vs,qM,r.keep hr (Kp.laid hp)⟩
 ·rw [zu ha] at e;exact (hr a o e).keep hr (Kp.laid hp) λu h=>by rw [qt ha];exact h
def Kp.wr {p:Addr} {ho:HO} {o o':O} (g:G p=some o):Kp G H (gu G p o') (upd H p ho):=λa ob h ga=>by
 have ha:a≠p:=by intro e;subst e;rw [g] at ga;cases ga
 exact ⟨by rw [qt ha];exact h,by rw [zu ha];exact ga⟩
theorem HR.wr (hr:HR K G H) {p:Addr} {ys xs:List T} {vs:List V} (g:G p=some (.lst ys)) (r:Rps K H xs vs):HR K (gu G p (.lst xs)) (upd H p (.lst vs)):=λa o e=>by
 have k:Kp G H (gu G p (.lst xs)) (upd H p (.lst vs)):=Kp.wr g;by_cases ha:a=p
 ·subst ha;rw [qu] at e;cases e;exact ⟨vs,qM,r.keep hr k⟩
 ·rw [zu ha] at e;exact (hr a o e).keep hr k λu h=>by rw [qt ha];exact h
end
abbrev St3:=List (Option T)
structure Rel (K:Frg) (τ:St3) (G:Gp) (σ:L2.St) (H:Hp):Prop where
 hp:HR K G H
 len:τ.length=σ.length
 st:∀ (i:Nat) (t:T),τ[i]?=some (some t)->∃ v,σ[i]?=some (some v)/\Rp K H t v
def Rel.next {K:Frg} {τ:St3} {G G':Gp} {σ:L2.St} {H H':Hp} (r:Rel K τ G σ H) (hr:HR K G' H') (k:Kp G H G' H'):Rel K τ G' σ H':=
 ⟨hr,r.len,λi t e=>let ⟨v,h1,h2⟩:=r.st i t e;⟨v,h1,h2.keep r.hp k⟩⟩
theorem Rel.set {K:Frg} {τ:St3} {G:Gp} {σ:L2.St} {H:Hp} {t:T} {v:V} (r:Rel K τ G σ H) (i:Nat) (h:Rp K H t v):Rel K (τ.set i (some t)) G (σ.set i (some v)) H:=by
 refine ⟨r.hp,by simp [r.len],λj u e=>?_⟩;by_cases hij:i=j
 ·subst hij;rw [List.getElem?_set_self'] at e;have hl:i<τ.length:=by
   cases q:τ[i]? with
   |none=>rw [q] at e;cases e
   |some z=>exact (za4 q).1
  rw [v0 hl] at e;have e':t=u:=by simpa using e
  subst e';exact ⟨v,by rw [List.getElem?_set_self (by rw [← r.len];exact hl)],h⟩
 ·rw [List.getElem?_set_ne hij] at e;obtain ⟨w,h1,h2⟩:=r.st j u e;exact ⟨w,by rw [List.getElem?_set_ne hij];exact h1,h2⟩
abbrev Q3:=T->Gp->Prop
abbrev TE3:=St3->Gp->Q3->Prop
abbrev TT3:=St3->Gp->(Bool->Gp->Prop)->Prop
abbrev TA3:=St3->Gp->(List T->Gp->Prop)->Prop
def Aft (K:Frg) (G:Gp) (H:Hp) (q:Q3) (Q:VK):Prop:=∀ x G',q x G'->∀ v H',Rp K H' x v->HR K G' H'->Kp G H G' H'->Q v H'
def qoB (K:Frg) (G:Gp) (H:Hp) (q:Bool->Gp->Prop) (Q:Bool->Hp->Prop):Prop:=∀ x G',q x G'->∀ H',HR K G' H'->Kp G H G' H'->Q x H'
def qst (K:Frg) (G:Gp) (H:Hp) (q:List T->Gp->Prop) (Q:List V->Hp->Prop):Prop:=∀ x G',q x G'->∀ v H',Rps K H' x v->HR K G' H'->Kp G H G' H'->Q v H'
def lE (K:Frg) (t:TE3):TE:=λσ H Q=>∃ τ G q,Rel K τ G σ H/\t τ G q/\Aft K G H q Q
def lT (K:Frg) (t:TT3):TT:=λσ H Q=>∃ τ G q,Rel K τ G σ H/\t τ G q/\qoB K G H q Q
def lA (K:Frg) (t:TA3):TA:=λσ H Q=>∃ τ G q,Rel K τ G σ H/\t τ G q/\qst K G H q Q
abbrev E3 (X:Cx) (e:Expr) (t:TE3):Prop:=PE X e (lE X.K t)
abbrev C3 (X:Cx) (e:Expr) (t:TT3):Prop:=PT X e (lT X.K t)
abbrev W3 (X:Cx) (e:Expr) (t:TT3):Prop:=PW X e (lT X.K t)
abbrev A3 (X:Cx) (es:List Expr) (t:TA3):Prop:=PA X es (lA X.K t)
def Aft.back {K:Frg} {G G1:Gp} {H H1:Hp} {q:Q3} {Q:VK} (a:Aft K G H q Q) (k:Kp G H G1 H1):Aft K G1 H1 q Q:=λx G' h v H' r hr k'=>a x G' h v H' r hr (k.trans k')
def qoB.back {K:Frg} {G G1:Gp} {H H1:Hp} {q:Bool->Gp->Prop} {Q:Bool->Hp->Prop} (a:qoB K G H q Q) (k:Kp G H G1 H1):qoB K G1 H1 q Q:=λx G' h H' hr k'=>a x G' h H' hr (k.trans k')
def DP {X:Cx} {e:Expr} {t t':TE} (h:PE X e t) (w:∀ σ H Q,t' σ H Q->t σ H Q):PE X e t':=λpins s σ H Q I q=>h pins s σ H Q I (w σ H Q q)
def qpG {X:Cx} {e:Expr} {t t':TT} (h:PT X e t) (w:∀ σ H Q,t' σ H Q->t σ H Q):PT X e t':=λpins s σ H Q I q=>h pins s σ H Q I (w σ H Q q)
def qrL {X:Cx} {e:Expr} {t t':TT} (h:PW X e t) (w:∀ σ H Q,t' σ H Q->t σ H Q):PW X e t':=λwh pins s σ H Q I q=>h wh pins s σ H Q I (w σ H Q q)
def qrx {X:Cx} {e:List Expr} {t t':TA} (h:PA X e t) (w:∀ σ H Q,t' σ H Q->t σ H Q):PA X e t':=λpos pins s σ H Q I q=>h pos pins s σ H Q I (w σ H Q q)
def zN {K:Frg} {ta:TE3} {τ:St3} {G:Gp} {σ:L2.St} {H:Hp} {q:Q3} {Q:VK} (r:Rel K τ G σ H) (h:ta τ G q)
  (n:∀ x G1,q x G1->∀ v H1,Rp K H1 x v->HR K G1 H1->Kp G H G1 H1->Rel K τ G1 σ H1->Q v H1):lE K ta σ H Q:=
 ⟨τ,G,q,r,h,λx G1 hq v H1 rx hr k=>n x G1 hq v H1 rx hr k (r.next hr k)⟩
def CK {K:Frg} {ta:TT3} {τ:St3} {G:Gp} {σ:L2.St} {H:Hp} {q:Bool->Gp->Prop} {Q:Bool->Hp->Prop} (r:Rel K τ G σ H) (h:ta τ G q)
  (n:∀ x G1,q x G1->∀ H1,HR K G1 H1->Kp G H G1 H1->Rel K τ G1 σ H1->Q x H1):lT K ta σ H Q:=
 ⟨τ,G,q,r,h,λx G1 hq H1 hr k=>n x G1 hq H1 hr k (r.next hr k)⟩
def Q8 {K:Frg} {ta:TA3} {τ:St3} {G:Gp} {σ:L2.St} {H:Hp} {q:List T->Gp->Prop} {Q:List V->Hp->Prop} (r:Rel K τ G σ H) (h:ta τ G q)
  (n:∀ x G1,q x G1->∀ v H1,Rps K H1 x v->HR K G1 H1->Kp G H G1 H1->Rel K τ G1 σ H1->Q v H1):lA K ta σ H Q:=
 ⟨τ,G,q,r,h,λx G1 hq v H1 rx hr k=>n x G1 hq v H1 rx hr k (r.next hr k)⟩
section
variable {X:Cx} {a b c:Expr} {ta tb tc:TE3} {pos:Pos}
def v3 (i:Nat):TE3:=λτ G q=>match τ[i]? with|some (some t)=>q t G|_=>False
def qqJ (i:Nat) {x:Str} {pos:Pos} (hN:X.N[i]?=some x:=by rfl) (hv:Vis X.env.scope x:=by first|exact Or.inl rfl|exact Or.inr (Or.inl rfl)|exact Or.inr (Or.inr rfl)) (hd:(x==("__debug__" : Str))=false:=by decide)
  (hcd:(x==("__classdict__" : Str))=false:=by decide):E3 X (.Name x pos) (v3 i):=by
 refine DP (qfL (i:=i) hN hv hd hcd) λσ H Q ⟨τ,G,q,r,h,af⟩=>?_;unfold v3 at h;split at h
 ·rename_i t e;obtain ⟨v,e2,rv⟩:=r.st i t e;exact ⟨v,e2,af t G h v H rv r.hp Kp.refl⟩
 ·exact h.elim
def c3 (t:T):TE3:=λ_ G q=>q t G
def e_c {t:T} {v:V} {e:Expr} (h:PE X e (tC v)) (hr:∀ H,Rp X.K H t v):E3 X e (c3 t):=DP h λσ H Q ⟨τ,G,q,r,h,af⟩=>af t G h v H (hr H) r.hp Kp.refl
def qqG {i:Int} {j pos}:E3 X (.Constant (.int i) j pos) (c3 (.int i)):=e_c qlt λ_=>.int i
def qsm {b:Bool} {j pos}:E3 X (.Constant (.bool b) j pos) (c3 (.bl b)):=e_c qqg λ_=>.bl b
def qpF {j pos}:E3 X (.Constant .none j pos) (c3 .non):=e_c qlL λ_=>.non
def qpj {x:Str} {j pos}:E3 X (.Constant (.str x) j pos) (c3 (.str x)):=e_c qlT λ_=>.str x
def n3:TE3:=λ_ _ _=>False
abbrev R3:=T->T->Gp->Q3->Prop
def LB (K:Frg) (r3:R3) (r:R2):Prop:=∀ x y v u G H q Q,HR K G H->Rp K H x v->Rp K H y u->r3 x y G q->Aft K G H q Q->r v u H Q
def o3 (r:R3) (ta tb:TE3):TE3:=λτ G q=>ta τ G λx G1=>tb τ G1 λy G2=>r x y G2 q
def qeb {K:Frg} {r3:R3} {r:R2} (hr:LB K r3 r) {σ:L2.St} {H:Hp} {Q:VK} (h:lE K (o3 r3 ta tb) σ H Q):tOp r (lE K ta) (lE K tb) σ H Q:=by
 obtain ⟨τ,G,q,rl,h,af⟩:=h;refine zN rl h λx G1 h1 v H1 rx hr1 k1 rl1=>zN rl1 h1 λy G2 h2 u H2 ry hr2 k2 rl2=>?_;exact hr x y v u G2 H2 q Q hr2 (rx.keep hr1 k2) ry h2 (af.back (k1.trans k2))
def qdQ {op:Operator} {r3:R3} {r:R2} (ho:OpR X (binaryOp op) r) (hr:LB X.K r3 r) (ha:E3 X a ta) (hb:E3 X b tb):E3 X (.BinOp a op b pos) (o3 r3 ta tb):=
 DP (qp2 ho ha hb) λ_ _ _ h=>qeb hr h
def qpO {op:CmpOp} {r3:R3} {r:R2} (ho:OpR X (compareOp op) r) (hr:LB X.K r3 r) (ha:E3 X a ta) (hb:E3 X b tb) (hm:behindInMarks op b=false):E3 X (.Compare a [op] [b] pos) (o3 r3 ta tb):=
 DP (qhO ho ha hb hm) λ_ _ _ h=>qeb hr h
def tb3 (t:TE3):TT3:=λτ G q=>t τ G λx G'=>match x with|.bl k=>q k G'|_=>False
def qnW {K:Frg} {t:TE3} {t2:TE} (hw:∀ σ H Q,lE K t σ H Q->t2 σ H Q) {σ:L2.St} {H:Hp} {Q:Bool->Hp->Prop} (h:lT K (tb3 t) σ H Q):qok t2 σ H Q:=by
 obtain ⟨τ,G,q,rl,h,af⟩:=h;refine hw _ _ _ (zN rl h λx G1 h1 v H1 rx hr1 k1 rl1=>?_);cases x with
 |bl k=>cases rx;exact ⟨k,rfl,af k G1 h1 H1 hr1 k1⟩
 |_=>exact h1.elim
def qp0 {op:CmpOp} {r3:R3} {r:R2} (ho:OpR X (compareOp op) r) (hr:LB X.K r3 r) (ha:E3 X a ta) (hb:E3 X b tb) (hm:behindInMarks op b=false):C3 X (.Compare a [op] [b] pos) (tb3 (o3 r3 ta tb)):=
 qpG (qhF ho ha hb hm) λ_ _ _ h=>qnW (λ_ _ _=>qeb hr) h
def ch3 (r r':R3) (ta tb tc:TE3):TE3:=λτ G q=>ta τ G λx G1=>tb τ G1 λy G2=>r x y G2 λz G3=>match z with
 |.bl k=>if k=true then tc τ G3 λw G4=>r' y w G4 q else q (.bl false) G3
 |_=>False
def u3 (r:T->Gp->Q3->Prop) (ta:TE3):TE3:=λτ G q=>ta τ G λx G1=>r x G1 q
def KW:T->Gp->Q3->Prop:=λx G q=>match x with|.int i=>q (.int (-i)) G|_=>False
def iI (f:Int->Int->Int):R3:=λx y G q=>match x,y with|.int i,.int j=>q (.int (f i j)) G|_,_=>False
def iC (C:Int->Int->Prop) (f:Int->Int->Int):R3:=λx y G q=>match x,y with|.int i,.int j=>C i j/\q (.int (f i j)) G|_,_=>False
def iB (f:Int->Int->Bool):R3:=λx y G q=>match x,y with|.int i,.int j=>q (.bl (f i j)) G|_,_=>False
def qnu {K:Frg} {f:Int->Int->Int}:LB K (iI f) (rI0 λi j=>.int (f i j)):=λx y v u G H q Q hr rx ry h af=>by
 cases x<;>try exact h.elim
 cases y<;>try exact h.elim
 cases rx;cases ry;exact ⟨_,_,rfl,rfl,af _ G h _ H (.int _) hr Kp.refl⟩
def CI {K:Frg} {C:Int->Int->Prop} {f:Int->Int->Int}:LB K (iC C f) (rI C λi j=>.int (f i j)):=λx y v u G H q Q hr rx ry h af=>by
 cases x<;>try exact h.elim
 cases y<;>try exact h.elim
 cases rx;cases ry;exact ⟨_,_,rfl,rfl,h.1,af _ G h.2 _ H (.int _) hr Kp.refl⟩
def DH {K:Frg} {f:Int->Int->Bool}:LB K (iB f) (rI0 λi j=>.bl (f i j)):=λx y v u G H q Q hr rx ry h af=>by
 cases x<;>try exact h.elim
 cases y<;>try exact h.elim
 cases rx;cases ry;exact ⟨_,_,rfl,rfl,af _ G h _ H (.bl _) hr Kp.refl⟩
def qpY (ha:E3 X a ta) (hb:E3 X b tb):E3 X (.BinOp a .Mult b pos) (o3 (iC US (·*·)) ta tb):=qdQ qlc CI ha hb
def qqN (ha:E3 X a ta) (hb:E3 X b tb):E3 X (.BinOp a .Mod b pos) (o3 (iC (λ_ j=>0<j) (·%·)) ta tb):=qdQ qkm CI ha hb
def qqA (ha:E3 X a ta) (hb:E3 X b tb):E3 X (.BinOp a .FloorDiv b pos) (o3 (iC LG (·/·)) ta tb):=qdQ qg8 CI ha hb
def qpA (ha:E3 X a ta) (hb:E3 X b tb):E3 X (.BinOp a .Pow b pos) (o3 (iC qau (λi j=>i ^ j.toNat)) ta tb):=qdQ qkA CI ha hb
def qlA (ha:E3 X a ta) (hb:E3 X b tb):E3 X (.BinOp a .BitAnd b pos) (o3 (iI Builtin.bitAnd) ta tb):=qdQ qoc qnu ha hb
def qpJ (ha:E3 X a ta) (hb:E3 X b tb):E3 X (.BinOp a .LShift b pos) (o3 (iC qau (λi j=>i*2 ^ j.toNat)) ta tb):=qdQ qmA CI ha hb
def qpt (ha:E3 X a ta) (hb:E3 X b tb):E3 X (.BinOp a .RShift b pos) (o3 (iC (λ_ j=>0<=j) (λi j=>i/2 ^ j.toNat)) ta tb):=qdQ qmW CI ha hb
def QX:T->T->Option Bool
 |.non,.non=>some true|.non,.int _=>some false|.int _,.non=>some false|.non,.bl _=>some false|.bl _,.non=>some false|.non,.str _=>some false|.str _,.non=>some false
 |.int i,.int j=>some (decide (i=j))|.bl i,.bl j=>some (decide (i=j))|.str i,.str j=>some (decide (i=j))
 |.int _,.str _=>some false|.str _,.int _=>some false|.bl _,.str _=>some false|.str _,.bl _=>some false
 |_,_=>none
def NV {K:Frg} {H:Hp} {x y:T} {v u:V} {k:Bool} (rx:Rp K H x v) (ry:Rp K H y u) (h:QX x y=some k):qp9 v u=true/\decide (v=u)=k:=by
 cases rx<;>cases ry<;>simp [QX] at h<;>subst h<;>refine ⟨rfl,?_⟩<;>simp
def T3 (neg:Bool):R3:=λx y G q=>match y with|.non=>q (.bl (match x with|.non=>!neg|_=>neg)) G|_=>False
variable {tA tB:TT3} {Z1:List Expr}
def TX (t u:TT3):TT3:=λτ G q=>t τ G λk G1=>if k=true then u τ G1 q else q false G1
def or3 (t u:TT3):TT3:=λτ G q=>t τ G λk G1=>if k=true then q true G1 else u τ G1 q
def UX (t:TT3):TT3:=λτ G q=>t τ G λk G1=>q (!k) G1
def qpB (ha:C3 X a tA):W3 X (.BoolOp .Or [a] pos) tA:=ql1 ha
def qsd (ha:C3 X a tA) (hb:W3 X (.BoolOp .Or (b::Z1) pos) tB):W3 X (.BoolOp .Or (a::b::Z1) pos) (or3 tA tB):=
 qrL (qqX ha hb) λ_ _ _ ⟨τ,G,q,rl,h,af⟩=>CK rl h λk G1 h1 H1 hr1 k1 rl1=>by
  cases k with
  |true=>rw [if_pos rfl] at h1 ⊢;exact af _ G1 h1 H1 hr1 k1
  |false=>rw [if_neg y8] at h1 ⊢;exact ⟨τ,G1,q,rl1,h1,af.back k1⟩
def qpy (ha:C3 X a tA):C3 X (.UnaryOp .Not a pos) (UX tA):=
 qpG (qnp ha) λ_ _ _ ⟨τ,G,q,rl,h,af⟩=>CK rl h λk G1 h1 H1 hr1 k1 rl1=>af _ G1 h1 H1 hr1 k1
def qoY {e:Expr} {t:TE3} (h:E3 X e t) (he:∀ whole,isTrue e X.env whole=(do let v←whole;standAt e.pos;holding [v] (truthy v)):=by intro _;rfl):C3 X e (tb3 t):=
 qpG (qnB h he) λ_ _ _ h=>qnW (λ_ _ _ h=>h) h
def j0 (ta tb:TE3):TE3:=λτ G q=>ta τ G λx G1=>match x with|.bl k=>if k=true then tb τ G1 q else q (.bl false) G1|_=>False
def CA (ta tb:TE3):TE3:=λτ G q=>ta τ G λx G1=>match x with|.bl k=>if k=true then q (.bl true) G1 else tb τ G1 q|_=>False
def Z5 (ta:TE3):TE3:=λτ G q=>ta τ G λx G1=>match x with|.bl k=>q (.bl (!k)) G1|_=>False
def qqo {op} (h:E3 X a ta):E3 X (.BoolOp op [a] pos) ta:=qj2 h
def qq1 (ha:E3 X a ta) (hb:E3 X (.BoolOp .And (b::Z1) pos) tb):E3 X (.BoolOp .And (a::b::Z1) pos) (j0 ta tb):=
 DP (qjD ha hb) λ_ _ _ ⟨τ,G,q,rl,h,af⟩=>zN rl h λx G1 h1 v H1 rx hr1 k1 rl1=>by
  cases x with
  |bl k=>
   cases rx;refine ⟨k,rfl,?_⟩;cases k with
   |true=>rw [if_pos rfl];exact ⟨τ,G1,q,rl1,(show tb τ G1 q from by simpa using h1),af.back k1⟩
   |false=>rw [if_neg y8];exact af _ G1 (by simpa using h1) _ H1 (.bl false) hr1 k1
  |_=>exact h1.elim
def qsf (ha:E3 X a ta) (hb:E3 X (.BoolOp .Or (b::Z1) pos) tb):E3 X (.BoolOp .Or (a::b::Z1) pos) (CA ta tb):=
 DP (qqC ha hb) λ_ _ _ ⟨τ,G,q,rl,h,af⟩=>zN rl h λx G1 h1 v H1 rx hr1 k1 rl1=>by
  cases x with
  |bl k=>
   cases rx;refine ⟨k,rfl,?_⟩;cases k with
   |true=>rw [if_pos rfl];exact af _ G1 (by simpa using h1) _ H1 (.bl true) hr1 k1
   |false=>rw [if_neg y8];exact ⟨τ,G1,q,rl1,(show tb τ G1 q from by simpa using h1),af.back k1⟩
  |_=>exact h1.elim
def qqt (ha:E3 X a ta):E3 X (.UnaryOp .Not a pos) (Z5 ta):=
 DP (qmq ha) λ_ _ _ ⟨τ,G,q,rl,h,af⟩=>zN rl h λx G1 h1 v H1 rx hr1 k1 rl1=>by
  cases x with
  |bl k=>cases rx;exact ⟨k,rfl,af _ G1 h1 _ H1 (.bl _) hr1 k1⟩
  |_=>exact h1.elim
def if3 (t:TT3) (ta tb:TE3):TE3:=λτ G q=>t τ G λk G1=>if k=true then ta τ G1 q else tb τ G1 q
def qse {c:Expr} (hc:C3 X c tA) (ha:E3 X a ta) (hb:E3 X b tb):E3 X (.IfExp c a b pos) (if3 tA ta tb):=
 DP (qev hc ha hb) λ_ _ _ ⟨τ,G,q,rl,h,af⟩=>CK rl h λk G1 h1 H1 hr1 k1 rl1=>by
  cases k with
  |true=>rw [if_pos rfl] at h1 ⊢;exact ⟨τ,G1,q,rl1,h1,af.back k1⟩
  |false=>rw [if_neg y8] at h1 ⊢;exact ⟨τ,G1,q,rl1,h1,af.back k1⟩
variable {e:Expr} {es:List Expr} {te:TE3} {t:TA3}
def qk:TA3:=λ_ G q=>q [] G
def qc (ta:TE3) (tr:TA3):TA3:=λτ G q=>ta τ G λx G1=>tr τ G1 λxs G2=>q (x::xs) G2
def qpQ:A3 X [] qk:=qrx KY λ_ H _ ⟨τ,G,q,rl,h,af⟩=>af _ G h _ H .nil rl.hp Kp.refl
def qlC (ha:E3 X e te) (hr:A3 X es t) (hs:starEach (e::es) X.env=(false,eval e X.env)::starEach es X.env:=by rfl):A3 X (e::es) (qc te t):=
 qrx (UT ha hr hs) λ_ _ _ ⟨τ,G,q,rl,h,af⟩=>zN rl h λx G1 h1 v H1 rx hr1 k1 rl1=>Q8 rl1 h1 λxs G2 h2 vs H2 rs hr2 k2 rl2=>
  af _ G2 h2 _ H2 (.cons (rx.keep hr1 k2) rs) hr2 (k1.trans k2)
def j8 (t:TA3):TE3:=λτ G q=>t τ G λxs G1=>xs.length<=sizeLine/\q (.tup xs) G1
def jX (t:TA3):TE3:=λτ G q=>t τ G λxs G1=>xs.length<=sizeLine/\∀ p,G1 p=none->q (.ref p) (gu G1 p (.lst xs))
def qqm {x1} (h:A3 X es t):E3 X (.Tuple es x1 pos) (j8 t):=
 DP (qln h) λ_ _ _ ⟨τ,G,q,rl,h,af⟩=>Q8 rl h λxs G1 h1 vs H1 rs hr1 k1 rl1=>⟨by rw [← rs.length];exact h1.1,λp hp=>
  af _ G1 h1.2 _ _ (.tup (SqT.of qM) (rs.keep hr1 (Kp.laid hp))) (hr1.laid hp) (k1.trans (Kp.laid hp))⟩
def qpT (h:A3 X es t):E3 X (.List es pos) (jX t):=
 DP (qkn h) λ_ _ _ ⟨τ,G,q,rl,h,af⟩=>Q8 rl h λxs G1 h1 vs H1 rs hr1 k1 rl1=>⟨by rw [← rs.length];exact h1.1,λp hp=>
  af _ _ (h1.2 p (hr1.free hp)) _ _ (.ref p) (hr1.newL hp rs) (k1.trans (Kp.newL hp))⟩
def MM (K:Frg) (r3:List T->Gp->Q3->Prop) (r:List V->Hp->VK->Prop):Prop:=∀ xs vs G H q Q,HR K G H->Rps K H xs vs->r3 xs G q->Aft K G H q Q->r vs H Q
def cb3 (r:List T->Gp->Q3->Prop) (t:TA3):TE3:=λτ G q=>t τ G λxs G1=>r xs G1 q
def qm6 {K:Frg} {r3:List T->Gp->Q3->Prop} {r:List V->Hp->VK->Prop} (hr:MM K r3 r) {σ:L2.St} {H:Hp} {Q:VK} (h:lE K (cb3 r3 t) σ H Q):tCB r (lA K t) σ H Q:=by
 obtain ⟨τ,G,q,rl,h,af⟩:=h;exact Q8 rl h λxs G1 h1 vs H1 rs hr1 k1 rl1=>hr xs vs G1 H1 q Q hr1 rs h1 (af.back k1)
def qhU {x:Str} {p:Pos} {id:String} {r3:List T->Gp->Q3->Prop} {r:List V->Hp->VK->Prop} (hc:J5 X (.builtin id) r) (hr:MM X.K r3 r) (hg:Gl X x) (hm:X.mg x=none) (hv:bootBuiltins x=some (.builtin id)) (ha:A3 X (e::es) t) (hn:x≠"__name__" := by decide) (hdb:(x==("__debug__" : Str))=false:=by decide)
  (he:starEach (e::es) X.env=(false,eval e X.env)::starEach es X.env:=by rfl) (hpl:(backTo pos (starEach es X.env)).any (·.1)=false:=by rfl):E3 X (.Call (.Name x p) (e::es) [] pos) (cb3 r3 t):=
 DP (WC hc hg hm hv ha hn hdb he hpl) λ_ _ _ h=>qm6 hr h
def qeJ {x:Str} {p:Pos} {ty:String} {r3:List T->Gp->Q3->Prop} {r:List V->Hp->VK->Prop} (hc:J5 X (.type ty) r) (hr:MM X.K r3 r) (hg:Gl X x) (hm:X.mg x=none) (hv:bootBuiltins x=some (.type ty)) (ha:A3 X (e::es) t) (hn:x≠"__name__" := by decide) (hdb:(x==("__debug__" : Str))=false:=by decide)
  (he:starEach (e::es) X.env=(false,eval e X.env)::starEach es X.env:=by rfl) (hpl:(backTo pos (starEach es X.env)).any (·.1)=false:=by rfl):E3 X (.Call (.Name x p) (e::es) [] pos) (cb3 r3 t):=
 DP (KN hc hg hm hv ha hn hdb he hpl) λ_ _ _ h=>qm6 hr h
end
def getL (G:Gp) (p:Addr):Option (List T):=match G p with|some (.lst xs)=>some xs|some (.frz xs)=>some xs|_=>none
section
variable {K:Frg} {G G':Gp} {H H':Hp}
def jD (hr:HR K G H) {p:Addr} {xs:List T} (h:getL G p=some xs):∃ vs,SqL K H p vs/\Rps K H xs vs:=by
 unfold getL at h;split at h
 ·rename_i ys e;cases h;obtain ⟨vs,h1,h2⟩:=hr p _ e;exact ⟨vs,SqL.of h1,h2⟩
 ·rename_i ys e;cases h;obtain ⟨vs,⟨o,h1⟩,h2⟩:=hr p _ e;exact ⟨vs,.inl (.inr ⟨o,h1⟩),h2⟩
 ·cases h
theorem HR.lst (hr:HR K G H) {p:Addr} {xs:List T} (h:G p=some (.lst xs)):∃ vs,H p=some (.lst vs)/\Rps K H xs vs:=hr p _ h
theorem Rps.atI {xs:List T} {vs:List V} {i:Int} {x:T} (r:Rps K H xs vs) (h:atI xs i=some x):∃ v,L2.atI vs i=some v/\Rp K H x v:=by
 unfold L2.atI at h ⊢;rw [← r.length];cases e:ixN xs.length i with
 |none=>rw [e] at h;cases h
 |some j=>
  rw [e] at h;exact r.get (by simpa using h)
end
def ix3:R3:=λx y G q=>match x,y with
 |.tup xs,.int i=>(match atI xs i with|some z=>q z G|none=>False)
 |.ref p,.int i=>(match getL G p with|some xs=>(match atI xs i with|some z=>q z G|none=>False)|none=>False)
 |_,_=>False
section
variable {X:Cx} {a b c e:Expr} {es:List Expr} {ta tb tc te:TE3} {t:TA3} {pos:Pos}
def qjr {K:Frg}:LB K ix3 (rIx K):=λx y v u G H q Q hr rx ry h af=>by
 cases x<;>try exact h.elim
 case tup xs=>
  cases y<;>try exact h.elim
  case int i=>
   unfold ix3 at h;simp only at h;split at h
   ·rename_i z e;cases ry;cases rx with
    |tup hs rs=>
     obtain ⟨w,e2,rw'⟩:=rs.atI e;exact .inr (.inl ⟨_,_,i,w,rfl,rfl,hs,e2,af z G h w H rw' hr Kp.refl⟩)
   ·exact h.elim
 case ref p=>
  cases y<;>try exact h.elim
  case int i=>
   unfold ix3 at h;simp only at h;split at h
   ·rename_i xs e0;split at h
    ·rename_i z e;cases ry;cases rx;obtain ⟨vs,hs,rs⟩:=jD hr e0;obtain ⟨w,e2,rw'⟩:=rs.atI e;exact .inl ⟨p,vs,i,w,rfl,rfl,hs,e2,af z G h w H rw' hr Kp.refl⟩
    ·exact h.elim
   ·exact h.elim
def qrU (ha:E3 X a ta) (hb:E3 X b tb) (hs:MG b:=by intro _ _;rfl):E3 X (.Subscript a b pos) (o3 ix3 ta tb):=DP (qp4 qjR ha hb hs) λ_ _ _ h=>qeb qjr h
def DK {α:Type} (xs:List α) (lo hi:Option Int):List α:=(xs.drop (HT.sIx xs.length 0 lo)).take (HT.sIx xs.length xs.length hi-HT.sIx xs.length 0 lo)
def Rps.cut {K:Frg} {H:Hp} {xs:List T} {vs:List V} (r:Rps K H xs vs) (lo hi:Option Int):Rps K H (DK xs lo hi) (qgN vs lo hi):=by
 unfold DK qgN;rw [r.length];exact (r.drop _).take _
abbrev TO3:=St3->Gp->(Option Int->Gp->Prop)->Prop
def lO (K:Frg) (t:TO3):TO:=λσ H Q=>∃ τ G q,Rel K τ G σ H/\t τ G q/\∀ x G',q x G'->∀ H',HR K G' H'->Kp G H G' H'->Q x H'
abbrev P3 (X:Cx) (e:Option Expr) (t:TO3):Prop:=PO X e (lO X.K t)
def np3:TO3:=λ_ G q=>q none G
def sp3 (t:TE3):TO3:=λτ G q=>t τ G λx G1=>match x with|.int i=>q (some i) G1|_=>False
def qq5 {X:Cx} {e:Option Expr} {t t':TO} (h:PO X e t) (w:∀ σ H Q,t' σ H Q->t σ H Q):PO X e t':=λpins s σ H Q I q=>h pins s σ H Q I (w σ H Q q)
def qn3:P3 X none np3:=qq5 qgT λ_ H _ ⟨τ,G,q,rl,h,af⟩=>af none G h H rl.hp Kp.refl
def qoh (h:E3 X e te):P3 X (some e) (sp3 te):=qq5 (qhK h) λ_ _ _ ⟨τ,G,q,rl,h,af⟩=>zN rl h λx G1 h1 v H1 rx hr1 k1 rl1=>by
 cases x<;>try exact h1.elim
 cases rx;exact ⟨_,rfl,af _ G1 h1 H1 hr1 k1⟩
def sl3:T->Option Int->Option Int->Gp->Q3->Prop:=λx lo hi G q=>match x with
 |.tup xs=>¬ (HT.sIx xs.length 0 lo=0/\HT.sIx xs.length xs.length hi=xs.length)/\q (.tup (DK xs lo hi)) G
 |.ref p=>(match getL G p with|some xs=>∀ a,G a=none->q (.ref a) (gu G a (.lst (DK xs lo hi)))|none=>False)
 |_=>False
def X6 (te:TE3) (tl th:TO3):TE3:=λτ G q=>te τ G λx G1=>tl τ G1 λl G2=>th τ G2 λu G3=>sl3 x l u G3 q
def qg7 {lo hi:Option Expr} {tl th:TO3} {p2:Pos} (he:E3 X e te) (hl:P3 X lo tl) (hu:P3 X hi th):E3 X (.Subscript e (.Slice lo hi none p2) pos) (X6 te tl th):=
 DP (qek (qke.or qhj) he hl hu) λ_ _ _ ⟨τ,G,q,rl,h,af⟩=>zN rl h λx G1 h1 v H1 rx hr1 k1 rl1=>
  ⟨τ,G1,_,rl1,h1,λl G2 h2 H2 hr2 k2=>⟨τ,G2,_,rl1.next hr2 k2,h2,λu G3 h3 H3 hr3 k3=>by
   have kk:=(k1.trans k2).trans k3;have rx3:=(rx.keep hr1 k2).keep hr2 k3;cases x<;>try exact h3.elim
   case tup xs=>
    cases rx3 with
    |tup hs rs=>
     refine .inl ⟨_,_,rfl,hs,by rw [← rs.length];exact h3.1,λp hp=>?_⟩;exact af _ G3 h3.2 _ _ (.tup (SqT.of qM) ((rs.cut _ _).keep hr3 (Kp.laid hp))) (hr3.laid hp) (kk.trans (Kp.laid hp))
   case ref p=>
    unfold sl3 at h3;simp only at h3;split at h3
    ·rename_i xs e0;cases rx3;obtain ⟨vs,hs,rs⟩:=jD hr3 e0;refine .inr ⟨p,vs,rfl,hs,λa ha=>?_⟩;exact af _ _ (h3 a (hr3.free ha)) _ _ (.ref a) (hr3.newL ha (rs.cut _ _)) (kk.trans (Kp.newL ha))
    ·exact h3.elim⟩⟩
def qbs {K:Frg} {H:Hp} {xs:List T} {vs:List V} (r:Rps K H xs vs):vs=[]↔xs=[]:=by
 cases r<;>simp
def jS:R3:=λx y G q=>match x,y with
 |.tup xs,.tup ys=>xs≠[]/\xs.length+ys.length<=sizeLine/\q (.tup (xs++ys)) G
 |.ref a,.ref b=>(match G a,G b with|some (.lst xs),some (.lst ys)=>xs.length+ys.length<=sizeLine/\∀ p,G p=none->q (.ref p) (gu G p (.lst (xs++ys)))|_,_=>False)
 |.int i,.int j=>q (.int (i+j)) G
 |_,_=>False
def qgR {K:Frg}:LB K jS (λx y H Q=>(rI0 (λi j=>.int (i+j)) x y H Q\/qll K x y H Q)\/qrv x y H Q):=λx y v u G H q Q hr rx ry h af=>by
 cases x<;>try exact h.elim
 case int i=>
  cases y<;>try exact h.elim
  cases rx;cases ry;exact .inl (.inl ⟨_,_,rfl,rfl,af _ G h _ H (.int _) hr Kp.refl⟩)
 case tup xs=>
  cases y<;>try exact h.elim
  case tup ys=>
   obtain ⟨h1,h2,h3⟩:=h;cases rx with
   |tup hs rs=>
    cases ry with
    |tup hs' rs'=>
     refine .inl (.inr ⟨_,_,_,_,rfl,rfl,hs,hs',λz=>h1 ((qbs rs).mp z),by rw [← rs.length,← rs'.length];exact h2,λz=>?_,λz p hp=>?_⟩)
     ·have e:=(qbs rs').mp z;subst e;rw [List.append_nil] at h3;exact af _ G h3 _ H (.tup hs rs) hr Kp.refl
     ·exact af _ G h3 _ _ (.tup (SqT.of qM) ((rs.append rs').keep hr (Kp.laid hp))) (hr.laid hp) (Kp.laid hp)
 case ref a=>
  cases y<;>try exact h.elim
  case ref b=>
   unfold jS at h;simp only at h;split at h
   ·rename_i xs ys e1 e2;cases rx;cases ry;obtain ⟨vs,g1,r1⟩:=hr.lst e1;obtain ⟨us,g2,r2⟩:=hr.lst e2;refine .inr ⟨a,b,vs,us,rfl,rfl,g1,g2,by rw [← r1.length,← r2.length];exact h.1,λp hp=>?_⟩;exact af _ _ (h.2 p (hr.free hp)) _ _ (.ref p) (hr.newL hp (r1.append r2)) (Kp.newL hp)
   ·exact h.elim
def qjZ (ha:E3 X a ta) (hb:E3 X b tb):E3 X (.BinOp a .Add b pos) (o3 jS ta tb):=qdQ ((qnK.or qi1).or qna) qgR ha hb
def JA:T->Bool
 |.non=>true|.bl _=>true|.int _=>true|.str _=>true|_=>false
def eqF:T->T->Bool
 |.non,.non=>true
 |.bl a,.bl b=>a==b
 |.bl a,.int b=>(if a then 1 else 0)==b
 |.int a,.bl b=>a==(if b then 1 else 0)
 |.int a,.int b=>a==b
 |.str a,.str b=>a==b
 |_,_=>false
def in3 (neg:Bool):R3:=λx y G q=>JA x=true/\match y with
 |.tup ys=>ys.all JA=true/\q (.bl (if neg then !(ys.any λy=>eqF y x) else (ys.any λy=>eqF y x))) G
 |.ref p=>(match getL G p with|some ys=>ys.all JA=true/\q (.bl (if neg then !(ys.any λy=>eqF y x) else (ys.any λy=>eqF y x))) G|none=>False)
 |_=>False
def JZ:List T->Gp->Q3->Prop:=λxs G q=>match xs with
 |[.tup ys]=>q (.int ys.length) G
 |[.str y]=>y.length<=sizeLine/\q (.int y.length) G
 |[.ref p]=>(match getL G p with|some ys=>q (.int ys.length) G|none=>False)
 |_=>False
def TH {K:Frg} {H:Hp} {x:T} {vs:List V} (r:Rps K H [x] vs):∃ v,vs=[v]/\Rp K H x v:=by
 cases r with
 |cons a b=>cases b;exact ⟨_,rfl,a⟩
def qoE {K:Frg} {H:Hp} {x y:T} {vs:List V} (r:Rps K H [x,y] vs):∃ v u,vs=[v,u]/\Rp K H x v/\Rp K H y u:=by
 cases r with
 |cons a b=>cases b with|cons c d=>cases d;exact ⟨_,_,rfl,a,c⟩
def QQ {K:Frg}:MM K JZ (λxs H Q=>∃ x n,xs=[x]/\qrI K x H n/\Q (.int n) H):=λxs vs G H q Q hr rs h af=>by
 unfold JZ at h;split at h
 ·obtain ⟨v,rfl,r⟩:=TH rs;cases r with
  |tup hs r2=>exact ⟨_,_,rfl,.inr ⟨_,hs,rfl⟩,by rw [← r2.length];exact af _ G h _ H (.int _) hr Kp.refl⟩
 ·obtain ⟨v,rfl,r⟩:=TH rs;cases r;exact ⟨_,_,rfl,⟨h.1,rfl⟩,af _ G h.2 _ H (.int _) hr Kp.refl⟩
 ·obtain ⟨v,rfl,r⟩:=TH rs;split at h
  ·rename_i ys e;cases r;obtain ⟨us,hs,r2⟩:=jD hr e;exact ⟨_,_,rfl,.inl ⟨_,hs,rfl⟩,by rw [← r2.length];exact af _ G h _ H (.int _) hr Kp.refl⟩
  ·exact h.elim
 ·exact h.elim
def XZ:List T->Gp->Q3->Prop:=λxs G q=>match xs with|[.int i]=>q (.int (if i<0 then -i else i)) G|_=>False
def qbQ {K:Frg}:MM K XZ (λxs H Q=>∃ i,xs=[.int i]/\Q (.int (if i<0 then -i else i)) H):=λxs vs G H q Q hr rs h af=>by
 unfold XZ at h;split at h
 ·obtain ⟨v,rfl,r⟩:=TH rs;cases r;exact ⟨_,rfl,af _ G h _ H (.int _) hr Kp.refl⟩
 ·exact h.elim
def X2:List T->Gp->Q3->Prop:=λxs G q=>match xs with|[.int i,.int j]=>q (.int (if j<i then j else i)) G|_=>False
def qhM {K:Frg}:MM K X2 (λxs H Q=>∃ i j,xs=[.int i,.int j]/\Q (.int (if j<i then j else i)) H):=λxs vs G H q Q hr rs h af=>by
 unfold X2 at h;split at h
 ·obtain ⟨v,u,rfl,r,r'⟩:=qoE rs;cases r;cases r';exact ⟨_,_,rfl,af _ G h _ H (.int _) hr Kp.refl⟩
 ·exact h.elim
def TR:List T->Gp->Q3->Prop:=λxs G q=>match xs with|[.int i,.int j]=>q (.int (if j > i then j else i)) G|_=>False
def WF:List T->Gp->Q3->Prop:=λxs G q=>match xs with|[.int i]=>q (.int i) G|[.bl k]=>q (.int (if k then 1 else 0)) G|_=>False
def LP {K:Frg}:MM K WF (λxs H Q=>(∃ i,xs=[.int i]/\Q (.int i) H)\/∃ k,xs=[.bl k]/\Q (.int (if k then 1 else 0)) H):=λxs vs G H q Q hr rs h af=>by
 unfold WF at h;split at h
 ·obtain ⟨v,rfl,r⟩:=TH rs;cases r;exact .inl ⟨_,rfl,af _ G h _ H (.int _) hr Kp.refl⟩
 ·obtain ⟨v,rfl,r⟩:=TH rs;cases r;exact .inr ⟨_,rfl,af _ G h _ H (.int _) hr Kp.refl⟩
 ·exact h.elim
def zh:List T->Gp->Q3->Prop:=λxs G q=>match xs with
 |[.tup ys]=>q (.tup ys) G
 |[.ref p]=>(match getL G p with|some ys=>q (.tup ys) G|none=>False)
 |_=>False
def QE {K:Frg}:MM K zh (λxs H Q=>∃ p ys,xs=[.ref p]/\((SqL K H p ys/\∀ l,H l=none->Q (.ref l) (upd H l (.tup ys)))\/(SqT K H p ys/\Q (.ref p) H))):=λxs vs G H q Q hr rs h af=>by
 unfold zh at h;split at h
 ·obtain ⟨v,rfl,r⟩:=TH rs;cases r with
  |tup hs r2=>exact ⟨_,_,rfl,.inr ⟨hs,af _ G h _ H (.tup hs r2) hr Kp.refl⟩⟩
 ·obtain ⟨v,rfl,r⟩:=TH rs;split at h
  ·rename_i ys e;cases r;obtain ⟨us,hs,r2⟩:=jD hr e;exact ⟨_,_,rfl,.inl ⟨hs,λl hl=>af _ G h _ _ (.tup (SqT.of qM) (r2.keep hr (Kp.laid hl))) (hr.laid hl) (Kp.laid hl)⟩⟩
  ·exact h.elim
 ·exact h.elim
def Y0:List T->Gp->Q3->Prop:=λxs G q=>match xs with
 |[.tup ys]=>∀ p,G p=none->q (.ref p) (gu G p (.lst ys))
 |[.ref p]=>(match getL G p with|some ys=>∀ p,G p=none->q (.ref p) (gu G p (.lst ys))|none=>False)
 |_=>False
def D6:T->List T->Gp->Q3->Prop:=λx xs G q=>match x,xs with
 |.ref l,[.ref b]=>(match G l,G b with|some (.lst ys),some (.lst zs)=>ys.length+zs.length<=sizeLine/\q .non (gu G l (.lst (ys++zs)))|_,_=>False)
 |_,_=>False
def JO:T->List T->Gp->Q3->Prop:=λx xs G q=>match x,xs with
 |.ref l,[y]=>(match G l with|some (.lst ys)=>ys.length<sizeLine/\q .non (gu G l (.lst (ys++[y])))|_=>False)
 |_,_=>False
def qkh (K:Frg) (r3:T->List T->Gp->Q3->Prop) (r:V->List V->Hp->VK->Prop):Prop:=∀ x xs v vs G H q Q,HR K G H->Rp K H x v->Rps K H xs vs->r3 x xs G q->Aft K G H q Q->r v vs H Q
def qiB {K:Frg}:qkh K D6 qbR:=λx xs v vs G H q Q hr rx rs h af=>by
 unfold D6 at h;split at h
 ·rename_i l b;split at h
  ·rename_i ys zs e1 e2;cases rx;obtain ⟨u,rfl,r⟩:=TH rs;cases r;obtain ⟨vs,g1,r1⟩:=hr.lst e1;obtain ⟨us,g2,r2⟩:=hr.lst e2;exact ⟨l,b,vs,us,rfl,rfl,g1,g2,by rw [← r1.length,← r2.length];exact h.1,af _ _ h.2 _ _ .non (hr.wr e1 (r1.append r2)) (Kp.wr e1)⟩
  ·exact h.elim
 ·exact h.elim
def qh3 {K:Frg}:qkh K JO qbg:=λx xs v vs G H q Q hr rx rs h af=>by
 unfold JO at h;split at h
 ·rename_i l y;split at h
  ·rename_i ys e1;cases rx;obtain ⟨u,rfl,r⟩:=TH rs;obtain ⟨vs,g1,r1⟩:=hr.lst e1;exact ⟨l,vs,u,rfl,rfl,g1,by rw [← r1.length];exact h.1,af _ _ h.2 _ _ .non (hr.wr e1 (r1.append (.cons r .nil))) (Kp.wr e1)⟩
  ·exact h.elim
 ·exact h.elim
def bm3 (r:T->List T->Gp->Q3->Prop) (to:TE3) (t:TA3):TE3:=λτ G q=>to τ G λx G1=>(match x with|.ref p=>(getL G1 p).isSome=true|_=>False)/\t τ G1 λxs G2=>r x xs G2 q
def qpi {o:Expr} {to:TE3} {name:Str} {apos cpos:Pos} {id:String} {r3:T->List T->Gp->Q3->Prop} {r:V->List V->Hp->VK->Prop} (slot:Slot "list" name id) (hty:typeOf (.builtin id)=pure (.type "method_descriptor")) (hm:MtR X id r) (hr:qkh X.K r3 r) (ho:E3 X o to) (ha:A3 X (e::es) t)
  (hbase:attributeBase o name X.env (eval o X.env)=eval o X.env:=by rfl)
  (hfew:((backTo cpos (starEach (e::es) X.env)).all (λx=>!x.1)&&(backToKw cpos (keywordEach [] X.env)).all (λx=>x.1.isSome)
   && decide ((e::es).length+([]:List Keyword).length+(if ([]:List Keyword).isEmpty then 0 else 1)<30))=true:=by rfl)
  (hline:(apos.endLine==cpos.line)=true:=by rfl) (hs:starEach (e::es) X.env=(false,eval e X.env)::starEach es X.env:=by rfl) (hplain:(backTo cpos (starEach es X.env)).any (·.1)=false:=by rfl) :
  E3 X (.Call (.Attribute o name apos) (e::es) [] cpos) (bm3 r3 to t):=
 DP (ql5 PySem.F.plainAttrs_list slot hty hm ho ha hbase hfew hline hs hplain) λ_ _ _ ⟨τ,G,q,rl,h,af⟩=>zN rl h λx G1 h1 v H1 rx hr1 k1 rl1=>by
  obtain ⟨hp,h1⟩:=h1;cases x<;>try exact hp.elim
  case ref p=>
   cases rx;have hp':(getL G1 p).isSome=true:=hp;obtain ⟨ys,e⟩:=Option.isSome_iff_exists.mp hp';obtain ⟨us,hs,r2⟩:=jD hr1 e;exact ⟨.inl ⟨rfl,us,hs⟩,Q8 rl1 h1 λxs G2 h2 vs H2 rs hr2 k2 rl2=>hr _ xs _ vs G2 H2 q _ hr2 (.ref p) rs h2 (af.back (k1.trans k2))⟩
def qeB {o:Expr} {to:TE3} {apos cpos:Pos} (ho:E3 X o to) (ha:A3 X [e] t)
  (hbase:attributeBase o "append" X.env (eval o X.env)=eval o X.env:=by rfl)
  (hfew:((backTo cpos (starEach [e] X.env)).all (λx=>!x.1)&&(backToKw cpos (keywordEach [] X.env)).all (λx=>x.1.isSome)
   && decide (([e]:List Expr).length+([]:List Keyword).length+(if ([]:List Keyword).isEmpty then 0 else 1)<30))=true:=by rfl)
  (hline:(apos.endLine==cpos.line)=true:=by rfl) (hs:starEach [e] X.env=(false,eval e X.env)::starEach [] X.env:=by rfl) (hplain:(backTo cpos (starEach [] X.env)).any (·.1)=false:=by rfl) :
  E3 X (.Call (.Attribute o "append" apos) [e] [] cpos) (bm3 JO to t):=qpi PySem.F.slot_list_append PySem.F.type_list_append UW qh3 ho ha hbase hfew hline hs hplain
def qee {o:Expr} {to:TE3} {apos cpos:Pos} (ho:E3 X o to) (ha:A3 X [e] t)
  (hbase:attributeBase o "extend" X.env (eval o X.env)=eval o X.env:=by rfl)
  (hfew:((backTo cpos (starEach [e] X.env)).all (λx=>!x.1)&&(backToKw cpos (keywordEach [] X.env)).all (λx=>x.1.isSome)
   && decide (([e]:List Expr).length+([]:List Keyword).length+(if ([]:List Keyword).isEmpty then 0 else 1)<30))=true:=by rfl)
  (hline:(apos.endLine==cpos.line)=true:=by rfl) (hs:starEach [e] X.env=(false,eval e X.env)::starEach [] X.env:=by rfl) (hplain:(backTo cpos (starEach [] X.env)).any (·.1)=false:=by rfl) :
  E3 X (.Call (.Attribute o "extend" apos) [e] [] cpos) (bm3 D6 to t):=qpi PySem.F.slot_list_extend PySem.F.type_list_extend qch qiB ho ha hbase hfew hline hs hplain
end
def tyT (G:Gp):T->Option String
 |.non=>some "NoneType" |.bl _=>some "bool" |.int _=>some "int" |.str _=>some "str" |.tup _=>some "tuple"
 |.ref p=>if (getL G p).isSome then some "list" else none
def VB (t c:String):Bool:=t==c||(t == "bool" && c == "int")
def qeD (K:Frg):∀ t∈["NoneType","bool","int","str","tuple","list"],∀ c∈["bool","int","str","tuple","list"],PySem.W.kitOne K (.type t) (.type c)=some (VB t c):=by
 intro t ht c hc;simp only [mem_cons,not_mem_nil,or_false] at ht hc;rcases ht with rfl|rfl|rfl|rfl|rfl|rfl<;>rcases hc with rfl|rfl|rfl|rfl|rfl<;>kernel_rfl
section
variable {X:Cx} {a b c e:Expr} {es:List Expr} {ta tb tc te:TE3} {t:TA3} {pos:Pos}
def TyS (K:Frg) (H:Hp) (x:V) (t:String):Prop:=match x with
 |.non=>t="NoneType" |.bl _=>t="bool" |.int _=>t="int" |.str _=>t="str"
 |.ref a=>(t="tuple"/\∃ vs,SqT K H a vs)\/(t="list"/\∃ vs,SqL K H a vs)
 |_=>False
def TyS.mem {K:Frg} {H:Hp} {x:V} {t:String} (h:TyS K H x t):t∈["NoneType","bool","int","str","tuple","list"]:=by
 cases x<;>simp [TyS] at h<;>first|(subst h;decide)|(rcases h with ⟨rfl,_⟩|⟨rfl,_⟩<;>decide)
def TyS.kitx {pins:List (Addr×Obj)} {σ:L2.St} {H:Hp} {s:Shared} {x:V} {u:Value} {t:String} (I:Inv X pins σ H s) (rx:jx x u) (h:TyS X.K H x t) :
  ∃ HH:Heap->Prop,PySem.W.KitX X.K u (.type t) HH/\HH s.heap/\u≠.builtin "__main__.__loader__#opaque" := by
 cases x with
 |non=>cases (show u=Value.none from rx);cases (show t=_ from h);exact ⟨_,PySem.W.kitx_none,True.intro,λz=>nomatch z⟩
 |bl y=>cases (show u=Value.bool y from rx);cases (show t=_ from h);exact ⟨_,PySem.W.kitx_bool,True.intro,λz=>nomatch z⟩
 |int i=>obtain ⟨tk,q⟩:=(show ∃ t,u=Value.int i t from rx);cases q;cases (show t=_ from h);exact ⟨_,PySem.W.kitx_int,True.intro,λz=>nomatch z⟩
 |str y=>obtain ⟨tk,q⟩:=(show ∃ t,u=Value.str y t from rx);cases q;cases (show t=_ from h);exact ⟨_,PySem.W.kitx_str,True.intro,λz=>nomatch z⟩
 |ref a=>
  cases (show u=Value.ref a from rx);rcases (show (t="tuple"/\∃ vs,SqT X.K H a vs)\/(t="list"/\∃ vs,SqL X.K H a vs) from h) with ⟨rfl,vs,hs⟩|⟨rfl,vs,hs⟩
  ·obtain ⟨its,_,p,_⟩:=I.tuple hs;obtain ⟨o,h1,h2,_⟩:=p;exact ⟨_,PySem.W.kitx_tuple,⟨o,h1,h2⟩,λz=>nomatch z⟩
  ·obtain ⟨its,_,p,_⟩:=I.list hs;obtain ⟨o,n,h1,h2,_⟩:=p;exact ⟨_,PySem.W.kitx_list,⟨o,h1,h2⟩,λz=>nomatch z⟩
 |_=>exact False.elim h
abbrev L8:List String:=["bool","int","str","tuple","list"]
def qdT:J5 X (.builtin "isinstance") (λxs H Q=>∃ x t c,xs=[x,.ty c]/\TyS X.K H x t/\c∈L8/\Q (.bl (VB t c)) H):=by
 intro pins s σ H xs us Q I r h;obtain ⟨x,t,c,rfl,ht,hc,q⟩:=h;obtain ⟨u,w,rfl,rx,rc⟩:=qdW r;cases (show w=Value.type c from rc);obtain ⟨HH,kx,hh,ne⟩:=ht.kitx I rx;exact PySem.W.kia_one kx I.kIn hh (qeD X.K t ht.mem c hc) ne λtk=>⟨.bl _,H,I.tok tk,rfl,q⟩
def ql9 {K:Frg} {G:Gp} {H:Hp} (hr:HR K G H) {x:T} {v:V} {t:String} (r:Rp K H x v) (h:tyT G x=some t):TyS K H v t:=by
 cases r with
 |non=>cases h;rfl
 |bl _=>cases h;rfl
 |int _=>cases h;rfl
 |str _=>cases h;rfl
 |tup hs rs=>cases h;exact .inl ⟨rfl,_,hs⟩
 |ref a=>
  have h:(if (getL G a).isSome then some "list" else none)=some t:=h;split at h
  ·rename_i e;cases h;obtain ⟨ys,e⟩:=Option.isSome_iff_exists.mp e;obtain ⟨us,hs,_⟩:=jD hr e;exact .inr ⟨rfl,us,hs⟩
  ·cases h
def DX (f:String->Bool) (te:TE3):TE3:=λτ G q=>te τ G λx G1=>match tyT G1 x with|some t=>q (.bl (f t)) G1|none=>False
def qpn {tn:Str} {ty:String} {p p2:Pos} (he:E3 X e te) (hg:Gl X "isinstance") (hm:X.mg "isinstance" = none) (hg2:Gl X tn) (hm2:X.mg tn=none) (hv:bootBuiltins tn=some (.type ty)) (hmem:ty∈L8:=by decide) (hn:tn≠"__name__" := by decide) (hdb:(tn==("__debug__" : Str))=false:=by decide)
  (hs:starEach [e,.Name tn p2] X.env=(false,eval e X.env)::starEach [.Name tn p2] X.env:=by rfl) (hs2:starEach [.Name tn p2] X.env=(false,eval (.Name tn p2) X.env)::starEach [] X.env:=by rfl) (hpl:(backTo pos (starEach [.Name tn p2] X.env)).any (·.1)=false:=by rfl) :
  E3 X (.Call (.Name "isinstance" p) [e,.Name tn p2] [] pos) (DX (λt=>VB t ty) te):=
 DP (WC qdT hg hm PyProof.Rows.boot_isinstance (UT he (UT (qiL (v:=.ty ty) hg2 hm2 hv rfl hn hdb) KY hs2) hs) (by decide) (by decide) hs hpl)
  λ_ _ _ ⟨τ,G,q,rl,h,af⟩=>zN rl h λx G1 h1 v H1 rx hr1 k1 rl1=>by
   split at h1
   ·rename_i t e1;exact ⟨_,t,ty,rfl,ql9 hr1 rx e1,hmem,af _ G1 h1 _ H1 (.bl _) hr1 k1⟩
   ·exact h1.elim
structure Ends3 where
 nx:St3->Gp->Prop
 rt:Q3
 bk:St3->Gp->Prop:=λ_ _=>False
 ct:St3->Gp->Prop:=λ_ _=>False
abbrev TS3:=Ends3->St3->Gp->Prop
def qgf (K:Frg) (G:Gp) (H:Hp) (q:St3->Gp->Prop) (Q:L2.St->Hp->Prop):Prop:=∀ τ G',q τ G'->∀ σ H',Rel K τ G' σ H'->Kp G H G' H'->Q σ H'
structure AftD (K:Frg) (G:Gp) (H:Hp) (d:Ends3) (D:Ends):Prop where
 nx:qgf K G H d.nx D.nx
 rt:Aft K G H d.rt D.rt
 bk:qgf K G H d.bk D.bk
 ct:qgf K G H d.ct D.ct
def qgf.back {K:Frg} {G G1:Gp} {H H1:Hp} {q:St3->Gp->Prop} {Q:L2.St->Hp->Prop} (a:qgf K G H q Q) (k:Kp G H G1 H1):qgf K G1 H1 q Q:=λx G' h v H' r k'=>a x G' h v H' r (k.trans k')
theorem AftD.back {K:Frg} {G G1:Gp} {H H1:Hp} {d:Ends3} {D:Ends} (a:AftD K G H d D) (k:Kp G H G1 H1):AftD K G1 H1 d D:=⟨a.nx.back k,a.rt.back k,a.bk.back k,a.ct.back k⟩
def lS (K:Frg) (t:TS3):TS:=λD σ H=>∃ τ G d,Rel K τ G σ H/\t d τ G/\AftD K G H d D
abbrev S3 (X:Cx) (st:Stmt) (t:TS3):Prop:=PS X st (lS X.K t)
abbrev B3 (X:Cx) (st:List Stmt) (t:TS3):Prop:=PSs X st (lS X.K t)
def MH {X:Cx} {st:Stmt} {t t':TS} (h:PS X st t) (w:∀ D σ H,t' D σ H->t D σ H):PS X st t':=λpins s σ H D I q=>h pins s σ H D I (w D σ H q)
def qk2 {X:Cx} {st:List Stmt} {t t':TS} (h:PSs X st t) (w:∀ D σ H,t' D σ H->t D σ H):PSs X st t':=λpins s σ H D I q=>h pins s σ H D I (w D σ H q)
variable {st:Stmt} {Z1:List Stmt} {t1 t2:TS3} {tA:TT3}
def qZ:TS3:=λd τ G=>d.nx τ G
def qF (t u:TS3):TS3:=λd τ G=>t { d with nx:=u d } τ G
def qpI:B3 X [] qZ:=qk2 qhp λ_ σ H ⟨τ,G,d,rl,h,af⟩=>af.nx τ G h σ H rl Kp.refl
def qkI (h1:S3 X st t1) (h2:B3 X Z1 t2):B3 X (st::Z1) (qF t1 t2):=qk2 (qdP h1 h2) λD σ H ⟨τ,G,d,rl,h,af⟩=>
 ⟨τ,G,{ d with nx:=t2 d },rl,h,⟨λτ' G' h' σ' H' rl' k'=>⟨τ',G',d,rl',h',af.back k'⟩,af.rt,af.bk,af.ct⟩⟩
def qqP (h1:S3 X st t1):B3 X [st] t1:=L9 h1
def q5 (te:TE3):TS3:=λd τ G=>te τ G λ_ G1=>d.nx τ G1
def qni (he:E3 X e te) (hs:swapsWith e none pos.line X.env=pure false:=by rfl):S3 X (.Expr e pos) (q5 te):=MH (qcc he hs) λ_ σ H ⟨τ,G,d,rl,h,af⟩=>
 zN rl h λx G1 h1 v H1 rx hr1 k1 rl1=>af.nx τ G1 h1 σ H1 rl1 k1
def zm (te:TE3):TS3:=λd τ G=>te τ G d.rt
def qpS (he:E3 X e te):S3 X (.Return (some e) pos) (zm te):=MH (qnX he) λ_ σ H ⟨τ,G,d,rl,h,af⟩=>⟨τ,G,d.rt,rl,h,af.rt⟩
def YZ:TS3:=λd _ G=>d.rt .non G
def ZC (c:TT3) (t u:TS3):TS3:=λd τ G=>c τ G λk G1=>if k=true then t d τ G1 else u d τ G1
def qsc {c:Expr} {ba bb:List Stmt} (hc:C3 X c tA) (ha:B3 X ba t1) (hb:B3 X bb t2):S3 X (.If c ba bb pos) (ZC tA t1 t2):=MH (qmu hc ha hb) λ_ σ H ⟨τ,G,d,rl,h,af⟩=>
 CK rl h λk G1 h1 H1 hr1 k1 rl1=>by
  cases k with
  |true=>rw [if_pos rfl] at h1 ⊢;exact ⟨τ,G1,d,rl1,h1,af.back k1⟩
  |false=>rw [if_neg y8] at h1 ⊢;exact ⟨τ,G1,d,rl1,h1,af.back k1⟩
def WA:TS3:=λ_ _ _=>False
def qiC {sts:List Stmt}:B3 X sts WA:=λ_ _ _ _ _ _ ⟨_,_,_,_,h,_⟩=>h.elim
abbrev TG3:=T->St3->Gp->(St3->Gp->Prop)->Prop
abbrev LD:=List T->St3->Gp->(St3->Gp->Prop)->Prop
def lG (K:Frg) (t:TG3):TG:=λv σ H Q=>∃ x τ G q,Rp K H x v/\Rel K τ G σ H/\t x τ G q/\qgf K G H q Q
def lGs (K:Frg) (t:LD):TGs:=λv σ H Q=>∃ x τ G q,Rps K H x v/\Rel K τ G σ H/\t x τ G q/\qgf K G H q Q
abbrev G3 (X:Cx) (e:Expr) (t:TG3):Prop:=PG X e (lG X.K t)
abbrev Gs3 (X:Cx) (es:List Expr) (t:LD):Prop:=PGs X es (lGs X.K t)
def qou {X:Cx} {e:Expr} {t t':TG} (h:PG X e t) (w:∀ v σ H Q,t' v σ H Q->t v σ H Q):PG X e t':=λpins s σ H v u Q I r q=>h pins s σ H v u Q I r (w v σ H Q q)
def qjp {X:Cx} {e:List Expr} {t t':TGs} (h:PGs X e t) (w:∀ v σ H Q,t' v σ H Q->t v σ H Q):PGs X e t':=λpins s σ H v u Q I r q=>h pins s σ H v u Q I r (w v σ H Q q)
def gn3 (i:Nat):TG3:=λx τ G q=>q (τ.set i (some x)) G
def qjm {i:Nat} {x:Str} (hN:X.N.Nodup) (hi:X.N[i]?=some x:=by rfl) (hx:Loc X.env.scope x:=by first|exact Or.inl rfl|exact Or.inr rfl) (hf:X.fn x=true\/X.env.scope.names.lookup x=some .local:=by first|exact .inl rfl|exact .inr rfl):G3 X (.Name x pos) (gn3 i):=
 qou (qiA hN hi hx hf) λv σ H Q ⟨x,τ,G,q,rx,rl,h,af⟩=>af _ G h _ H (rl.set i rx) Kp.refl
def zG:LD:=λxs τ G q=>match xs with|[]=>q τ G|_=>False
def qo (t:TG3) (u:LD):LD:=λxs τ G q=>match xs with|x::r=>t x τ G λτ' G'=>u r τ' G' q|[]=>False
def qqr:Gs3 X [] zG:=qjp qg5 λv σ H Q ⟨x,τ,G,q,rx,rl,h,af⟩=>by
 cases rx with
 |nil=>exact ⟨rfl,af _ G h _ H rl Kp.refl⟩
 |cons _ _=>exact h.elim
def qlr {tg:TG3} {tgs:LD} (h1:G3 X e tg) (h2:Gs3 X es tgs) (hs:(assignEach (e::es) X.env).map (·.2)=assign e X.env::(assignEach es X.env).map (·.2):=by rfl):Gs3 X (e::es) (qo tg tgs):=qjp (qeq h1 h2 hs) λv σ H Q ⟨x,τ,G,q,rx,rl,h,af⟩=>by
 cases rx with
 |nil=>exact h.elim
 |cons r rs=>exact ⟨_,_,rfl,_,τ,G,_,r,rl,h,λτ' G' h' σ' H' rl' k'=>⟨_,τ',G',q,rs.keep rl.hp k',rl',h',af.back k'⟩⟩
def zH (n:Nat) (t:LD):TG3:=λx τ G q=>match x with|.tup xs=>xs.length=n/\t xs τ G q|_=>False
def qqH {k:Nat} {tgs:LD} {n:Nat} (hc:X.calm=true) (h:Gs3 X es tgs) (hn:(assignEach es X.env).length=n:=by rfl) (hst:(assignEach es X.env).findIdx? (·.1)=none:=by rfl):G3 X (.Tuple es k pos) (zH n tgs):=
 qou (qon hc h hn hst) λv σ H Q ⟨x,τ,G,q,rx,rl,h,af⟩=>by
  cases x<;>try exact h.elim
  case tup xs=>
   cases rx with
   |tup hs rs=>exact ⟨_,_,rfl,hs,by rw [← rs.length];exact h.1,_,τ,G,q,rs,rl,h.2,af⟩
def DU:T->T->T->Gp->(Gp->Prop)->Prop:=λo i v G q=>match o,i with
 |.ref p,.int k=>(match G p with|some (.lst xs)=>(match ixN xs.length k with|some j=>q (gu G p (.lst (xs.set j v)))|none=>False)|_=>False)
 |_,_=>False
def jE (to ti:TE3):TG3:=λx τ G q=>to τ G λo G1=>ti τ G1 λi G2=>DU o i x G2 λG3=>q τ G3
def qqY {o i : Expr} {to ti : TE3} (ho : E3 X o to) (hi : E3 X i ti) (ha : ∀ v,assign (.Subscript o i pos) X.env v = (do
      let ov←holding [v] (eval o X.env)
      let iv←holding [v,ov] (eval i X.env)
      standAt pos
      holding [v,ov,iv] (setItem ov iv v)
      release [v,ov,iv] []):=by intro _;rfl):G3 X (.Subscript o i pos) (jE to ti):=
  qou (qfN ho hi qey ha) λv σ H Q ⟨x,τ,G,q,rx,rl,h,af⟩=>zN rl h λy G1 h1 u H1 ry hr1 k1 rl1=>zN rl1 h1 λz G2 h2 w H2 rz hr2 k2 rl2=>by
    have rx2:=(rx.keep rl.hp k1).keep hr1 k2;have ry2:=ry.keep hr1 k2;unfold DU at h2;split at h2
    · rename_i p k;split at h2
      · rename_i xs e;split at h2
        · rename_i j ej;cases ry2;cases rz;obtain ⟨vs,g1,r1⟩:=hr2.lst e;have kk:Kp G2 H2 (gu G2 p (.lst (xs.set j x))) (upd H2 p (.lst (vs.set j v))):=Kp.wr e;exact ⟨p,vs,k,j,rfl,rfl,g1,by rw [← r1.length];exact ej,af τ _ h2 σ _ (rl2.next (hr2.wr e (r1.set rx2 j)) kk) ((k1.trans k2).trans kk)⟩
        · exact h2.elim
      · exact h2.elim
    · exact h2.elim
def qN (te:TE3) (g:TG3):TS3:=λd τ G=>te τ G λx G1=>g x τ G1 d.nx
def qqp {tg e:Expr} {g:TG3} (he:E3 X e te) (hg:G3 X tg g) (hs:swapsWithSole [tg] e pos.line X.env=pure false:=by rfl) (hw:swappedStores [tg] e X.env=pure none:=by rfl)
  (h1:(assignEach [tg] X.env).map (·.2)=[assign tg X.env]:=by rfl):S3 X (.Assign [tg] e pos) (qN te g):=MH (qkp he hg hs hw h1) λ_ σ H ⟨τ,G,d,rl,h,af⟩=>
 zN rl h λx G1 h1 v H1 rx hr1 k1 rl1=>⟨x,τ,G1,d.nx,rx,rl1,h1,af.nx.back k1⟩
def qpq (i:Nat) {x:Str} {e:Expr} {pos':Pos} (hN:X.N.Nodup) (he:E3 X e te) (hi:X.N[i]?=some x:=by rfl) (hx:Loc X.env.scope x:=by first|exact Or.inl rfl|exact Or.inr rfl) (hs:swapsWith e (some (.Name x pos')) pos.line X.env=pure false:=by rfl) (hf:X.fn x=true\/X.env.scope.names.lookup x=some .local:=by first|exact .inl rfl|exact .inr rfl) :
  S3 X (.Assign [.Name x pos'] e pos) (qN te (gn3 i)):=MH (qjS hN hi hx he hs hf) λ_ σ H ⟨τ,G,d,rl,h,af⟩=>
 zN rl h λx G1 h1 v H1 rx hr1 k1 rl1=>af.nx _ G1 h1 _ H1 (rl1.set i rx) k1
def DZ (i j:Nat) (ta:TA3):TS3:=λd τ G=>ta τ G λxs G1=>match xs with|[x,y]=>d.nx ((τ.set i (some x)).set j (some y)) G1|_=>False
def qpN {i j:Nat} {x y:Str} {a b:Expr} {tt:TA3} {px py pt:Pos} {kt k2 pt2} (hc:X.calm=true) (hN:X.N.Nodup) (hi:X.N[i]?=some x) (hj:X.N[j]?=some y) (hij:i≠j)
  (hx:X.env.scope.names.lookup x=some .local) (hy:X.env.scope.names.lookup y=some .local) (ha:A3 X [a,b] tt)
  (hw:swappedStores [.Tuple [.Name x px,.Name y py] kt pt] (.Tuple [a,b] k2 pt2) X.env=pure (some [x,y]):=by rfl)
  (hs:swapsWithSole [.Tuple [.Name x px,.Name y py] kt pt] (.Tuple [a,b] k2 pt2) pos.line X.env=pure false:=by rfl) :
  S3 X (.Assign [.Tuple [.Name x px,.Name y py] kt pt] (.Tuple [a,b] k2 pt2) pos) (DZ i j tt):=MH (qnz hc hN hi hj hij hx hy ha hw hs) λ_ σ H ⟨τ,G,d,rl,h,af⟩=>
 Q8 rl h λxs G1 h1 vs H1 rs hr1 k1 rl1=>by
  split at h1
  ·obtain ⟨v,u,rfl,r,r'⟩:=qoE rs;exact ⟨v,u,rfl,af.nx _ G1 h1 _ H1 ((rl1.set i r).set j r') k1⟩
  ·exact h1.elim
end
abbrev TI3:=St3->Gp->(List T->(Gp->Prop)->Gp->Prop)->Prop
def qi8 (K:Frg) (J:It) (items:List T) (stay:Gp->Prop) (G0:Gp) (H0:Hp):Prop:=∀ G H,HR K G H->Kp G0 H0 G H->stay G ->
 (∀ i x,items[i]?=some x->J.go i H)/\(∀ i x v H',items[i]?=some x->J.yld i H v H'->Rp K H' x v/\HR K G H'/\Kp G H G H')/\J.stop items.length H
def lI (K:Frg) (wi:TI3):TI:=λσ H R=>∃ τ G r,Rel K τ G σ H/\wi τ G r/\∀ items stay G',r items stay G'->∀ J H',HR K G' H'->Kp G H G' H'->qi8 K J items stay G' H'->R J H'
abbrev I3 (X:Cx) (tg iter:Expr) (wi:TI3):Prop:=PI X tg iter (lI X.K wi)
def qoj {X:Cx} {tg e:Expr} {t t':TI} (h:PI X tg e t) (w:∀ σ H R,t' σ H R->t σ H R):PI X tg e t':=λpins s σ H R I q=>h pins s σ H R I (w σ H R q)
section
variable {X:Cx} {a b c e l tg:Expr} {es:List Expr} {ta tb tc te:TE3} {t:TA3} {pos:Pos}
def qlj {tl:TE} (hl:PE X l tl):PI X tg l (λσ H R=>tl σ H λx H1=>∃ a,x=.ref a/\(((∃ xs,SqL X.K H1 a xs)/\R (Itl X.K a) H1)\/((∃ xs,SqT X.K H1 a xs)/\R (Itt X.K a) H1))):=by
 intro pins s σ H R I h;refine thn (hl pins s σ H _ I h) λv s1 ⟨x,H1,I1,r1,q1⟩=>?_;obtain ⟨a,e,⟨⟨xs,hq⟩,q⟩|⟨⟨xs,hq⟩,q⟩⟩:=q1
 ·subst e;cases r1;obtain ⟨its,rv,p,hz⟩:=I1.list hq;refine wpAny_pyIter_list p.isList ?_;refine ⟨s1.heap.objs.size,[s1.heap.objs.size],_,_,H1,rfl,I1.kept (t':=s1.toks) λb o e=>y3 _ e,qbw a _,⟨_,y4 _ rfl,rfl,rfl⟩,λb hb=>?_,q⟩;have e:b=s1.heap.objs.size:=by simpa using hb
  subst e;exact I1.fpOk (v5 _) (I1.hok.fresh (v5 _))
 ·subst e;cases r1;obtain ⟨its,rv,p,hz⟩:=I1.tuple hq;refine wpAny_pyIter_tuple (show s1.heap.IsTuple a its.toArray from p) ?_;refine ⟨s1.heap.objs.size,[s1.heap.objs.size],_,_,H1,rfl,I1.kept (t':=s1.toks) λb o e=>y3 _ e,qaH a _,⟨_,y4 _ rfl,rfl,rfl⟩,λb hb=>?_,q⟩;have e:b=s1.heap.objs.size:=by simpa using hb
  subst e;exact I1.fpOk (v5 _) (I1.hok.fresh (v5 _))
def YH (tl:TE3):TI3:=λτ G r=>tl τ G λx G1=>match x with
 |.tup xs=>r xs (λ_=>True) G1
 |.ref p=>(match getL G1 p with|some xs=>r xs (λG=>getL G p=some xs) G1|none=>False)
 |_=>False
def qoa {K:Frg} {p:Addr} {xs:List T} {G0:Gp} {H0:Hp}:qi8 K (Itl K p) xs (λG=>getL G p=some xs) G0 H0:=by
 intro G H hr _ hs;obtain ⟨vs,sq,rs⟩:=jD hr hs;refine ⟨λi x hi=>?_,λi x v H' hi y=>?_,⟨vs,sq,by rw [rs.length];exact v5 _⟩⟩
 ·obtain ⟨v,hv,_⟩:=rs.get hi;exact ⟨vs,v,sq,hv⟩
 ·obtain ⟨e,y⟩:=y;subst e;obtain ⟨w,hw,rw'⟩:=rs.get hi;have e2:=(y vs sq).symm.trans hw;cases e2;exact ⟨rw',hr,Kp.refl⟩
def qmd {K:Frg} {p:Addr} {xs:List T} {vs:List V} {G0:Gp} {H0:Hp} (hr0:HR K G0 H0) (sq0:SqT K H0 p vs) (rs0:Rps K H0 xs vs):qi8 K (Itt K p) xs (λ_=>True) G0 H0:=by
 intro G H hr k _;have sq:=SH hr0 k sq0;have rs:=rs0.keep hr0 k;refine ⟨λi x hi=>?_,λi x v H' hi y=>?_,⟨vs,sq,by rw [rs.length];exact v5 _⟩⟩
 ·obtain ⟨v,hv,_⟩:=rs.get hi;exact ⟨vs,v,sq,hv⟩
 ·obtain ⟨e,y⟩:=y;subst e;obtain ⟨w,hw,rw'⟩:=rs.get hi;have e2:=(y vs sq).symm.trans hw;cases e2;exact ⟨rw',hr,Kp.refl⟩
def qqa (hl:E3 X l te):I3 X tg l (YH te):=qoj (qlj hl) λσ H R ⟨τ,G,r,rl,h,af⟩=>zN rl h λx G1 h1 v H1 rx hr1 k1 rl1=>by
 cases x<;>try exact h1.elim
 case tup xs=>
  cases rx with
  |tup hs rs=>exact ⟨_,rfl,.inr ⟨⟨_,hs⟩,af _ _ G1 h1 _ H1 hr1 k1 (qmd hr1 hs rs)⟩⟩
 case ref p=>
  simp only at h1;split at h1
  ·rename_i xs e0;cases rx;obtain ⟨vs,hs,rs⟩:=jD hr1 e0;exact ⟨_,rfl,.inl ⟨⟨_,hs⟩,af _ _ G1 h1 _ H1 hr1 k1 qoa⟩⟩
  ·exact h1.elim
def qaK (lo:Int) (n:Nat):List T:=(List.range n).map λ(i:Nat)=>T.int (lo+(i:Int))
def qfa {K:Frg} {lo:Int} {n:Nat} {G0:Gp} {H0:Hp}:qi8 K (Itr lo n) (qaK lo n) (λ_=>True) G0 H0:=by
 intro G H hr k _;have hl:(qaK lo n).length=n:=by simp [qaK]
 refine ⟨λi x hi=>?_,λi x v H' hi y=>?_,(show n<=(qaK lo n).length by rw [hl];exact v5 n)⟩
 ·have:=(za4 hi).1;rw [hl] at this;exact this
 ·obtain ⟨e,y⟩:=y;subst e;subst y;have h1:=(za4 hi).1;rw [hl] at h1;unfold qaK at hi;rw [getElem?_map,List.getElem?_range h1] at hi;have e:T.int (lo+(i:Int))=x:=by simpa using hi
  subst e;exact ⟨.int _,hr,Kp.refl⟩
def jy (ta:TA3):TI3:=λτ G r=>ta τ G λxs G1=>match xs with
 |[.int j]=>(-(2 ^ 62)<=j/\j<2 ^ 62)/\r (qaK 0 j.toNat) (λ_=>True) G1
 |[.int i,.int j]=>(-(2 ^ 62)<=i/\i<2 ^ 62/\-(2 ^ 62)<=j/\j<2 ^ 62)/\r (qaK i (j-i).toNat) (λ_=>True) G1
 |_=>False
def qeH {p:Pos} (hg:Gl X "range") (hm:X.mg "range" = none) (ha:A3 X [a] t) (hs:starEach [a] X.env=[(false,eval a X.env)]:=by rfl) (h1:∀ τ G q,t τ G q->t τ G λxs G=>q xs G/\xs.length=1):I3 X tg (.Call (.Name "range" p) [a] [] pos) (jy t):=
 qoj (qa3 hg hm ha hs) λσ H R ⟨τ,G,r,rl,h,af⟩=>Q8 rl (h1 _ _ _ h) λxs G1 h1 vs H1 rs hr1 k1 rl1=>by
  obtain ⟨h1,hl⟩:=h1;simp only at h1;split at h1
  ·obtain ⟨v,rfl,r1⟩:=TH rs;cases r1;exact ⟨_,rfl,h1.1.1,h1.1.2,af _ _ G1 h1.2 _ H1 hr1 k1 qfa⟩
  ·simp at hl
  ·exact h1.elim
def qdo {p:Pos} (hg:Gl X "range") (hm:X.mg "range" = none) (ha:A3 X [a,b] t) (hs:starEach [a,b] X.env=[(false,eval a X.env),(false,eval b X.env)]:=by rfl) (hs2:starEach [b] X.env=[(false,eval b X.env)]:=by rfl) (h1:∀ τ G q,t τ G q->t τ G λxs G=>q xs G/\xs.length=2):I3 X tg (.Call (.Name "range" p) [a,b] [] pos) (jy t):=
 qoj (qcO hg hm ha hs hs2) λσ H R ⟨τ,G,r,rl,h,af⟩=>Q8 rl (h1 _ _ _ h) λxs G1 h1 vs H1 rs hr1 k1 rl1=>by
  obtain ⟨h1,hl⟩:=h1;simp only at h1;split at h1
  ·simp at hl
  ·obtain ⟨v,u,rfl,r1,r2⟩:=qoE rs;cases r1;cases r2;exact ⟨_,_,rfl,h1.1,af _ _ G1 h1.2 _ H1 hr1 k1 qfa⟩
  ·exact h1.elim
def SE (stay:Gp->Prop) (g:TG3) (tb:TS3) (d:Ends3):List T->St3->Gp->Prop
 |[],τ,G=>stay G/\d.nx τ G
 |x::r,τ,G=>stay G/\g x τ G λτ2 G2=>tb { d with nx:=SE stay g tb d r,ct:=SE stay g tb d r,bk:=d.nx } τ2 G2
def C8 (wi:TI3) (g:TG3) (tb:TS3):TS3:=λd τ G=>wi τ G λitems stay G1=>SE stay g tb d items τ G1
def qqT {iter:Expr} {body:List Stmt} {wi:TI3} {g:TG3} {tb:TS3} (hp:PassesOwn (model X.prog X.w) X.A X.env X.xe) (hc:X.calm=true) (hi:I3 X tg iter wi) (hg:G3 X tg g) (hb:B3 X body tb)
  (hs:∀ x,foldedSetIterable iter X.env x=pure x:=by intro _;rfl):S3 X (.For tg iter body [] pos) (C8 wi g tb):=
 MH (qmi hp hc hi hg hb hs) λD σ H ⟨τ,G,d,rl,h,af⟩=>by
  refine ⟨τ,G,_,rl,h,λitems stay G1 h1 J H1 hr1 k1 ok=>?_⟩;refine ⟨λi m σ' H'=>m=items.length-i/\i<=items.length/\∃ τ' G',Rel X.K τ' G' σ' H'/\Kp G1 H1 G' H'/\SE stay g tb d (items.drop i) τ' G',⟨_,rfl,Nat.zero_le _,τ,G1,rl.next hr1 k1,Kp.refl,by simpa using h1⟩,?_⟩;rintro i m σ' H' ⟨rfl,hi,τ',G',rl',k',h'⟩;by_cases hlt:i<items.length
  ·rw [List.drop_eq_getElem_cons hlt] at h';obtain ⟨hst,h'⟩:=h';obtain ⟨go,yld,_⟩:=ok G' H' rl'.hp k' hst;have hx:items[i]?=some items[i]:=v0 hlt;refine .inr ⟨go i _ hx,λσ2 H2=>∃ τ2 G2,Rel X.K τ2 G2 σ2 H2/\Kp G1 H1 G2 H2/\SE stay g tb d (items.drop (i+1)) τ2 G2,λσ2 H2 h2=>⟨_,by omega,rfl,hlt,h2⟩,λv H2 y=>?_⟩;obtain ⟨rv,hr2,k2⟩:=yld i _ v H2 hx y;have k3:Kp G1 H1 G' H2:=k'.trans k2;refine ⟨_,τ',G',_,rv,rl'.next hr2 k2,h',λτ3 G3 h3 σ3 H3 rl3 k4=>?_⟩;have k5:Kp G H G3 H3:=(k1.trans k3).trans k4;refine ⟨τ3,G3,_,rl3,h3,⟨λτ4 G4 h4 σ4 H4 rl4 k6=>⟨τ4,G4,rl4,(k3.trans k4).trans k6,h4⟩,af.rt.back k5,af.nx.back k5,λτ4 G4 h4 σ4 H4 rl4 k6=>⟨τ4,G4,rl4,(k3.trans k4).trans k6,h4⟩⟩⟩
  ·have e:i=items.length:=by omega
   subst e;rw [List.drop_length] at h';obtain ⟨_,_,stop⟩:=ok G' H' rl'.hp k' h'.1;exact .inl ⟨stop,af.nx τ' G' h'.2 σ' H' rl' (k1.trans k')⟩
def qcL {stay:Gp->Prop} {g:TG3} {tb:TS3} {d:Ends3} (items:List T) (Pv:Nat->St3->Gp->Prop) {τ:St3} {G:Gp} (h0:Pv 0 τ G) (hst:∀ i τ G,i<=items.length->Pv i τ G->stay G)
  (hs:∀ i x τ G (nx:St3->Gp->Prop),items[i]?=some x->Pv i τ G->(∀ τ G,Pv (i+1) τ G->nx τ G)->g x τ G λτ2 G2=>tb { d with nx:=nx,ct:=nx,bk:=d.nx } τ2 G2)
  (hd:∀ τ G,Pv items.length τ G->d.nx τ G):SE stay g tb d items τ G:=by
 have key:∀ (r:List T) (i:Nat) τ G,items.drop i=r->i<=items.length->Pv i τ G->SE stay g tb d r τ G:=by
  intro r;induction r with
  |nil=>
   intro i τ G e hi p;have:i=items.length:=by have:=congrArg List.length e;simp at this;omega
   subst this;exact ⟨hst _ τ G hi p,hd τ G p⟩
  |cons x r ih=>
   intro i τ G e hi p;have hl:i<items.length:=by
    apply Classical.byContradiction;intro z;rw [List.drop_eq_nil_of_le (by omega)] at e;cases e
   have e':=List.drop_eq_getElem_cons hl;rw [e] at e';injection e' with e1 e2;refine ⟨hst i τ G hi p,hs i x τ G _ (by rw [v0 hl,e1]) p λτ2 G2 p2=>ih (i+1) τ2 G2 e2.symm hl p2⟩
 exact key items 0 τ G (by simp) (Nat.zero_le _) h0
def C7 (c:TT3) (tb:TS3):TS3:=λd τ G=>∃ W:Nat->St3->Gp->Prop,(∃ m,W m τ G)/\∀ m τ G,W m τ G ->
 c τ G λb G1=>if b=true then ∃ N:St3->Gp->Prop,(∀ τ' G',N τ' G'->∃ m',m'<m/\W m' τ' G')/\tb { d with nx:=N,ct:=N,bk:=d.nx } τ G1 else d.nx τ G1
def qiH {c:Expr} {body:List Stmt} {tc:TT3} {tb:TS3} (hp:PassesOwn (model X.prog X.w) X.A X.env X.xe) (hc:C3 X c tc) (hb:B3 X body tb):S3 X (.While c body [] pos) (C7 tc tb):=
 MH (qdn hp hc hb) λD σ H ⟨τ,G,d,rl,⟨W,⟨m0,w0⟩,turn⟩,af⟩=>by
  refine ⟨λm σ' H'=>∃ τ' G',Rel X.K τ' G' σ' H'/\Kp G H G' H'/\W m τ' G',⟨m0,τ,G,rl,Kp.refl,w0⟩,?_⟩;rintro m σ' H' ⟨τ',G',rl',k',w'⟩;refine CK rl' (turn m τ' G' w') λb G1 h1 H1 hr1 k1 rl1=>?_;cases b with
  |true=>
   rw [if_pos rfl] at h1 ⊢;obtain ⟨N,hN,h1⟩:=h1;refine ⟨λσ2 H2=>∃ τ2 G2,Rel X.K τ2 G2 σ2 H2/\Kp G H G2 H2/\N τ2 G2,λσ2 H2 ⟨τ2,G2,r2,k2,n2⟩=>?_,τ',G1,_,rl1,h1,⟨λτ2 G2 h2 σ2 H2 r2 k2=>⟨τ2,G2,r2,(k'.trans k1).trans k2,h2⟩,af.rt.back (k'.trans k1),af.nx.back (k'.trans k1),λτ2 G2 h2 σ2 H2 r2 k2=>⟨τ2,G2,r2,(k'.trans k1).trans k2,h2⟩⟩⟩;obtain ⟨m',hm,w2⟩:=hN τ2 G2 n2;exact ⟨m',hm,τ2,G2,r2,k2,w2⟩
  |false=>
   rw [if_neg y8] at h1 ⊢;exact af.nx τ' G1 h1 σ' H1 rl1 (k'.trans k1)
abbrev Sp3:=List T->Gp->Q3->Prop
def lSp (K:Frg) (sp:Sp3):Sp:=λvs H Q _=>∃ ts G q,HR K G H/\Rps K H ts vs/\sp ts G q/\Aft K G H q Q
def Fn3 (P:Program) (w:World) (K:Frg) (mg:Str->Option Value) (base:Heap) (k:Nat) (x:Str) (sp:Sp3):Prop:=
 ∃ f fd ps,FnOk P w K mg base CX0 k f fd ps (lSp K sp)/\DR K fd ps []/\PySem.W.keepIn K (.ref f)=true/\mg x=some (.ref f)
theorem Fn3.mono {P:Program} {w:World} {K:Frg} {mg:Str->Option Value} {base:Heap} {j k:Nat} {x:Str} {sp:Sp3} (F:Fn3 P w K mg base j x sp) (h:j<=k):Fn3 P w K mg base k x sp:=
 let ⟨f,fd,ps,a,b,c,d⟩:=F;⟨f,fd,ps,a.mono h,b,c,d⟩
theorem Fn3.imp {P:Program} {w:World} {K:Frg} {mg:Str->Option Value} {base:Heap} {k:Nat} {x:Str} {sp sp':Sp3} (F:Fn3 P w K mg base k x sp) (h:∀ ts G q,sp' ts G q->sp ts G q):Fn3 P w K mg base k x sp':=
 let ⟨f,fd,ps,a,b,c,d⟩:=F;⟨f,fd,ps,a.imp λvs H Q E ⟨ts,G,q,h1,h2,h3,h4⟩=>⟨ts,G,q,h1,h2,h _ _ _ h3,h4⟩,b,c,d⟩
def qm9 {k:Nat} {x:Str} {p:Pos} {sp:Sp3} (F:Fn3 X.prog X.w X.K X.mg X.base k x sp) (hr:Room k X.A) (hg:Gl X x) (ha:A3 X (e::es) t) (hdb:(x==("__debug__" : Str))=false:=by decide)
  (he:starEach (e::es) X.env=(false,eval e X.env)::starEach es X.env:=by rfl) (hpl:(backTo pos (starEach es X.env)).any (·.1)=false:=by rfl):E3 X (.Call (.Name x p) (e::es) [] pos) (cb3 sp t):=by
 obtain ⟨f,fd,ps,F,b,kp,m⟩:=F;refine DP (qc7 F hr hg m kp b .nil qp8 ha hdb he hpl) λσ H Q ⟨τ,G,q,rl,h,af⟩=>Q8 rl h λxs G1 h1 vs H1 rs hr1 k1 rl1=>?_;rw [List.append_nil];exact ⟨xs,G1,q,hr1,rs,h1,af.back k1⟩
def qm (N:List Str) (ts:List T):St3:=ts.map some++List.replicate (N.length-ts.length) none
def W1 {K:Frg} {N:List Str} {G:Gp} {H:Hp} {ts:List T} {vs:List V} (hr:HR K G H) (rs:Rps K H ts vs):Rel K (qm N ts) G (L2.WS N vs) H:=by
 refine ⟨hr,by simp [qm,L2.WS,rs.length],λi t e=>?_⟩;unfold qm at e;by_cases hi:i<ts.length
 ·rw [List.getElem?_append_left (by simpa using hi),getElem?_map] at e;cases q:ts[i]? with
  |none=>rw [q] at e;cases e
  |some z=>
   rw [q] at e;have e':z=t:=by simpa using e
   subst e';obtain ⟨v,hv,r⟩:=rs.get q;refine ⟨v,?_,r⟩;unfold L2.WS;rw [List.getElem?_append_left (by rw [length_map,← rs.length];exact hi),getElem?_map,hv];rfl
 ·rw [List.getElem?_append_right (by simpa using hi),List.getElem?_replicate] at e;split at e<;>cases e
def qmL {P:Program} {w:World} {K:Frg} {mg:Str->Option Value} {base:Heap} {x qual:Str} {st:Stmt} {f:Addr} {fd:FuncData} {N ps:List Str} {k:Nat} {sp:Sp3} {t3:TS3} (F:Fun K x qual st f fd) (S:FnScope N ps (qf st)) (bd:DR K fd ps []) (hm:mg x=some (.ref f))
  (body:∀ (cdv:Value) (A:Around) (outer:List Env) (s:Shared) (H:Hp) (E:XK),Room k (A.deeper (envOfC qual (qf st) s.heap.objs.size f cdv)) ->
   B3 (YD CX0 P w K mg base N qual (qf st) f cdv A outer s H E).nox (qz st) t3)
  (read:∀ ts G q,sp ts G q->ts.length=ps.length/\t3 { nx:=λ_ G'=>q .non G',rt:=q } (qm N ts) G):Fn3 P w K mg base (k+1) x sp:=by
 refine ⟨f,fd,ps,F.ok S (λvs H Q E ⟨ts,G,q,h1,h2,h3,h4⟩=>by rw [← h2.length];exact (read ts G q h3).1) λcdv A outer s H vs Q E hr ⟨ts,G,q,h1,h2,h3,h4⟩=>?_,bd,F.kp,hm⟩;refine ⟨_,body cdv A outer s H E hr,qm N ts,G,_,W1 h1 h2,(read ts G q h3).2,⟨λτ' G' h' σ' H' rl' k'=>h4 _ G' h' _ H' .non rl'.hp k',h4,λ_ _ z=>z.elim,λ_ _ z=>z.elim⟩⟩
def qjj (xs:List T):Option Bool:=match xs with
 |[]=>some true
 |.bl k::r=>(match qjj r with|some j=>some (k&&j)|none=>none)
 |_=>none
def qoM (xs:List T):Option Bool:=match xs with
 |[]=>some false
 |.bl k::r=>(match qoM r with|some j=>some (k||j)|none=>none)
 |_=>none
def qdV {P:Program} {w:World} {A:Around} {its:List Value} {ks:List Bool} (h:its=ks.map Value.bool):TruthOf P w A (λi v=>its.toArray[i]?=some v) (λi=>ks.getD i true):=by
 intro i v s Q E hp hq;subst h;have hp':ks[i]?.map Value.bool=some v:=by simpa using hp
 cases e:ks[i]? with
 |none=>rw [e] at hp';cases hp'
 |some k=>
  rw [e] at hp';cases hp';have:ks.getD i true=k:=by rw [getD_eq_getElem?_getD,e];rfl
  have hq:Q (ks.getD i true) s:=hq;rw [this] at hq;exact wpAny_truthy_bool hq
theorem CN:∀ {ks:List Bool} {us:List Value},zt (ks.map V.bl) us->us=ks.map Value.bool
 |[],_,r=>by cases r;rfl
 |k::ks,_,r=>by
  cases r with
  |cons a b=>rw [show _=Value.bool k from a,CN b];rfl
def qbv (ks:List Bool):((List.range ks.length).all λi=>ks.getD i true)=ks.all id:=by
 induction ks with
 |nil=>rfl
 |cons k ks ih=>
  rw [length_cons,List.range_succ_eq_map,List.all_cons,List.all_map,List.all_cons];congr 1
def Z2 (hc:X.calm=true):J5 X (.builtin "all") (λxs H Q=>∃ (p:Addr) (ks:List Bool),xs=[.ref p]/\SqL X.K H p (ks.map V.bl)/\Q (.bl (ks.all id)) H):=by
 intro pins s σ H xs us Q I r h;obtain ⟨p,ks,rfl,hq,q⟩:=h;obtain ⟨u,rfl,rp⟩:=ED r;cases (show u=Value.ref p from rp);obtain ⟨its,rv,pl,hz⟩:=I.list hq;have hb:=CN rv;have hlen:its.length=ks.length:=by rw [hb];simp
 have hp:p<s.heap.objs.size:=by obtain ⟨o,n,e,_⟩:=pl;exact y6 e
 refine call_all_walk (wpAny_pyIter_list pl.isList ⟨s.heap.objs.size,_,_,_,_,_,λi=>ks.getD i true,rfl,Walks.list (A:=X.A.in1) (show X.A.in1.handled=none from I.ok.hd hc) s.heap.objs.size p (u7 hp) its.toArray,⟨⟨_,y4 _ rfl,rfl,rfl⟩,?_⟩,qdV hb,λh' tk hk=>?_⟩)
 ·obtain ⟨o,n,e,c,_,d⟩:=pl;exact ⟨o,y3 _ e,c,n,d⟩
 ·refine ⟨.bl _,H,?_,rfl,by rw [size_toArray,hlen,qbv];exact q⟩;exact I.kept (h':=h') (t':=tk) λb o e=>hk b o (by simp;exact u7 (y6 e)) (y3 _ e)
end
def CD (env:Env):List (Str×NameKind)->List (Str×Addr)->List (Str×Addr)
 |[],cs=>cs
 | (n,k)::r,cs=>if k=.free then CD env r ((n,(env.cells.lookup n).getD 0)::cs) else CD env r cs
def QV {scope:Scope} {env:Env} (h:∀ y∈scope.names,y.2=.free->∃ c,env.cells.lookup y.1=some c):closureFor scope env=pure (CD env scope.names []):=by
 have key:∀ (l:List (Str×NameKind)) (cs:List (Str×Addr)),(∀ y∈l,y.2=.free->∃ c,env.cells.lookup y.1=some c) ->
   (forIn l cs λ(x:Str×NameKind) (r:List (Str×Addr))=>if (x.2==NameKind.free)=true then (do let a←cellOf env x.1;pure (ForInStep.yield ((x.1,a)::r))) else pure (ForInStep.yield r))=(pure (CD env l cs):Sem _):=by
  intro l;induction l with
  |nil=>intro cs _;rfl
  |cons y r ih=>
   intro cs hl;obtain ⟨n,k⟩:=y;rw [List.forIn_cons];by_cases hk:k=.free
   ·subst hk;obtain ⟨c,hc⟩:=hl (n,.free) u9 rfl;have e:cellOf env n=pure c:=by unfold cellOf;rw [show List.lookup n env.cells=some c from hc]
    simp only [beq_self_eq_true,if_true];rw [e,pure_bind,pure_bind];show forIn r ((n,c)::cs) _=_;rw [ih _ λz hz=>hl z (v6 _ hz)];show _=(pure (if NameKind.free=NameKind.free then CD env r ((n,(env.cells.lookup n).getD 0)::cs) else CD env r cs):Sem _);rw [if_pos rfl,show List.lookup n env.cells=some c from hc];rfl
   ·have hb:(k==NameKind.free)=false:=by cases k<;>first|rfl|exact absurd rfl hk
    simp only [hb,Bool.false_eq_true,if_false];rw [pure_bind];show forIn r cs _=_;rw [ih _ λz hz=>hl z (v6 _ hz)];show _=(pure (if k=NameKind.free then CD env r ((n,(env.cells.lookup n).getD 0)::cs) else CD env r cs):Sem _);rw [if_neg hk]
 have:=key scope.names [] h;unfold closureFor;refine Eq.trans ?_ this;exact bind_pure (m:=Sem) _
theorem UC {env:Env}:∀ (l:List (Str×NameKind)) (cs:List (Str×Addr)) (x:Str) (c:Addr),(∀ y∈l,y.2=.free->∃ c,env.cells.lookup y.1=some c) ->
  (∀ x c,cs.lookup x=some c->env.cells.lookup x=some c)->(CD env l cs).lookup x=some c->env.cells.lookup x=some c
 |[],_,_,_,_,h,e=>h _ _ e
 | (n,k)::r,cs,x,c,hl,h,e=>by
  unfold CD at e;split at e
  ·rename_i hk;refine UC r _ x c (λy hy=>hl y (v6 _ hy)) (λx c e=>?_) e;rw [List.lookup_cons] at e;split at e
   ·rename_i hx;have hx':x=n:=by simpa using hx
    subst hx';obtain ⟨d,hd⟩:=hl (x,k) u9 hk;have hd:List.lookup x env.cells=some d:=hd;rw [hd] at e ⊢;exact e
   ·exact h _ _ e
  ·exact UC r cs x c (λy hy=>hl y (v6 _ hy)) h e
theorem D9 {env:Env}:∀ (l:List (Str×NameKind)) (cs:List (Str×Addr)) (x:Str),((x,NameKind.free)∈l\/∃ c,cs.lookup x=some c)->∃ c,(CD env l cs).lookup x=some c
 |[],_,_,h=>by
  rcases h with h|h
  ·simp at h
  ·exact h
 | (n,k)::r,cs,x,h=>by
  unfold CD;have put:∀ d:Addr,(x=n\/∃ c,cs.lookup x=some c)->∃ c,((n,d)::cs).lookup x=some c:=λd z=>by
   rw [List.lookup_cons];cases hx:x==n with
   |true=>exact ⟨d,rfl⟩
   |false=>
    rcases z with z|z
    ·rw [z] at hx;simp at hx
    ·exact z
  split
  ·rename_i hk;refine D9 r _ x ?_;rcases h with h|h
   ·rcases mem_cons.mp h with e|e
    ·cases e;exact .inr (put _ (.inl rfl))
    ·exact .inl e
   ·exact .inr (put _ (.inr h))
  ·rename_i hk;refine D9 r _ x ?_;rcases h with h|h
   ·rcases mem_cons.mp h with e|e
    ·cases e;exact absurd rfl hk
    ·exact .inl e
   ·exact .inr h
theorem RN {env:Env}:∀ (l:List (Str×NameKind)) (cs:List (Str×Addr)) (x:Str) (c:Addr),(CD env l cs).lookup x=some c->(x,NameKind.free)∈l\/cs.lookup x=some c
 |[],_,_,_,e=>.inr e
 | (n,k)::r,cs,x,c,e=>by
  unfold CD at e;split at e
  ·rename_i hk;rcases RN r _ x c e with z|z
   ·exact .inl (v6 _ z)
   ·rw [List.lookup_cons] at z;split at z
    ·rename_i hx;have hx':x=n:=by simpa using hx
     subst hx';subst hk;exact .inl u9
    ·exact .inr z
  ·rcases RN r cs x c e with z|z
   ·exact .inl (v6 _ z)
   ·exact .inr z
theorem EO {α:Type}:∀ (xs ys:List (Str×α)) (x:Str),(xs++ys).lookup x=(match xs.lookup x with|some c=>some c|none=>ys.lookup x)
 |[],ys,x=>rfl
 | (n,c)::xs,ys,x=>by
  rw [cons_append,List.lookup_cons,List.lookup_cons];cases x==n with
  |true=>rfl
  |false=>exact EO xs ys x
theorem jM:∀ (l:List (Str×NameKind)) {n:Nat} {acc:List (Str×Addr)},cellsFrom n l acc=cellsFrom n l []++acc
 |[],_,_=>rfl
 | (x,k)::r,n,acc=>by
  unfold cellsFrom;split
  ·rw [jM r (acc:=(x,n)::acc),jM r (acc:=[(x,n)]),List.append_assoc];rfl
  ·exact jM r
theorem J3:∀ (l:List (Str×NameKind)) (n:Nat) (acc:List (Str×Addr)) (x:Str) (c:Addr),(x,c)∈cellsFrom n l acc->(x,NameKind.cell)∈l\/(x,c)∈acc
 |[],_,_,_,_,h=>.inr h
 | (y,k)::r,n,acc,x,c,h=>by
  unfold cellsFrom at h;split at h
  ·rename_i hk;have hk:k=.cell:=by simpa using hk
   rcases J3 r _ _ x c h with z|z
   ·exact .inl (v6 _ z)
   ·rcases mem_cons.mp z with e|e
    ·cases e;subst hk;exact .inl u9
    ·exact .inr e
  ·rcases J3 r _ _ x c h with z|z
   ·exact .inl (v6 _ z)
   ·exact .inr z
theorem QW:∀ (l:List (Str×NameKind)) (n:Nat) (acc:List (Str×Addr)) (x:Str),((x,NameKind.cell)∈l\/∃ c,acc.lookup x=some c)->∃ c,(cellsFrom n l acc).lookup x=some c
 |[],_,_,_,h=>by
  rcases h with h|h
  ·simp at h
  ·exact h
 | (y,k)::r,n,acc,x,h=>by
  unfold cellsFrom;have put:(x=y\/∃ c,acc.lookup x=some c)->∃ c,((y,n)::acc).lookup x=some c:=λz=>by
   rw [List.lookup_cons];cases hx:x==y with
   |true=>exact ⟨n,rfl⟩
   |false=>
    rcases z with z|z
    ·rw [z] at hx;simp at hx
    ·exact z
  split
  ·refine QW r _ _ x ?_;rcases h with h|h
   ·rcases mem_cons.mp h with e|e
    ·cases e;exact .inr (put (.inl rfl))
    ·exact .inl e
   ·exact .inr (put (.inr h))
  ·rename_i hk;refine QW r _ _ x ?_;rcases h with h|h
   ·rcases mem_cons.mp h with e|e
    ·cases e;exact absurd rfl hk
    ·exact .inl e
   ·exact .inr h
def jh {M:Model} {A:Around} {E:Value->Shared->Prop} {s:Shared} {scope:Scope} {globals:Addr} {cl:List (Str×Addr)} {qual:Str} {env:Env} {Q:Env->Shared->Prop}
  (hQ:∀ h₁:Heap,h₁.Ns s.heap.objs.size (λ_=>none)->(∀ b o,s.heap.get? b=some o->h₁.get? b=some o)->CellsOk h₁ (s.heap.objs.size+1) (cellsFrom (s.heap.objs.size+1) scope.names [])->Q (newEnv scope s.heap.objs.size globals (cellsFrom (s.heap.objs.size+1) scope.names cl) qual none .none (some env) builtinsNs) { s with heap:=h₁ }) :
  wpAny M A (newFunctionEnv scope globals cl [] qual none .none (some env)) Q E s:=by
 simp only [newFunctionEnv,Option.isSome_some,if_true];refine x8 (wpAny_alloc ?_);refine x8 (wpAny_layCells _ (λname kind cells=>by cases hkc:kind==NameKind.cell<;>simp [hkc]) _ _ _ _ ?_);have ok:=cellsFrom_ok scope.names (s.heap.push { cls:=.type "dict",data:=.dict #[] }) (s.heap.objs.size+1) [] ⟨λ_ _ hm=>(nomatch hm),List.Pairwise.nil⟩ (by rw [Heap.size_push];exact v5 _);rw [Heap.size_push] at ok;rw [show ({ s with heap:=s.heap.push { cls:=.type "dict",data:=.dict #[] } }:Shared).heap.objs.size=s.heap.objs.size+1 from Heap.size_push ..];rw [List.forIn_nil];refine x8 (x9 (x9 ?_));exact hQ _ ((Heap.Ns.new s.heap (.type "dict")).keeps (pushCells_keeps _ _)) (λb o e=>pushCells_keeps _ _ b o (y3 _ e)) ok
def qh (X:Cx) (N':List Str) (scope:Scope) (s:Shared) (H:Hp) (fp:List Addr):Cx where
 prog:=X.prog
 w:=X.w
 K:=X.K
 mg:=X.mg
 base:=X.base
 A:=X.A
 N:=N'
 s₀:=s
 H₀:=H
 env:=compEnvC scope (cellsFrom (s.heap.objs.size+1) scope.names (CD X.env scope.names [])) s.heap.objs.size X.env
 outer:=X.stack
 stack:=X.stack
 ex:=fp
 fn:=λx=>scope.names.lookup x==some .cell
 calm:=true
 pn:=[]
 xe:=λ_ _=>False
def LF (outer inner:Scope):Bool:=(inner.kind==.function)&&inner.names.all λy=>
 (y.2 != .cell||inner.names.lookup y.1==some .cell)&&(y.2 != .local||inner.names.lookup y.1==some .local)&&(y.2 != .free||(inner.names.lookup y.1==some .free&&(outer.names.lookup y.1==some .cell||outer.names.lookup y.1==some .free)))
def cap {α:Type} (m:List (Option Nat)) (σ:List (Option α)):List (Option α):=m.map λo=>match o with|some j=>(σ[j]?).join|none=>none
def J1 (N N':List Str) (scope:Scope) (m:List (Option Nat)):Bool:=(m.length==N'.length)&&(m.zip N').all λp=>match p.1 with
 |none=>true
 |some j=>N[j]?==some p.2&&scope.names.lookup p.2==some .free
def qcK {α:Type} {m:List (Option Nat)} {σ:List (Option α)} {i:Nat} {v:α} (h:(cap m σ)[i]?=some (some v)):∃ j,m[i]?=some (some j)/\σ[j]?=some (some v):=by
 unfold cap at h;rw [getElem?_map] at h;cases e:m[i]? with
 |none=>rw [e] at h;cases h
 |some o=>
  rw [e] at h;cases o with
  |none=>cases h
  |some j=>
   refine ⟨j,rfl,?_⟩;have h':(σ[j]?).join=some v:=by simpa using h
   cases q:σ[j]? with
   |none=>rw [q] at h';cases h'
   |some z=>rw [q] at h';exact congrArg some h'
def qb9 {N N':List Str} {scope:Scope} {m:List (Option Nat)} (h:J1 N N' scope m=true) {i j:Nat} {x:Str} (e:m[i]?=some (some j)) (hx:N'[i]?=some x):N[j]?=some x/\scope.names.lookup x=some .free:=by
 unfold J1 at h;rw [Bool.and_eq_true] at h;have hm:(some j,x)∈m.zip N':=v9 (i:=i) (List.getElem?_zip_eq_some.mpr ⟨e,hx⟩);have:=List.all_eq_true.mp h.2 _ hm;simp only [Bool.and_eq_true,beq_iff_eq] at this;exact this
def qi7 {N N':List Str} {scope:Scope} {m:List (Option Nat)} {α:Type} (σ:List (Option α)) (h:J1 N N' scope m=true):(cap m σ).length=N'.length:=by
 unfold J1 at h;rw [Bool.and_eq_true] at h;unfold cap;rw [length_map];simpa using h.1
structure ScFacts (outer inner:Scope):Prop where
 kind:inner.kind=.function
 own:∀ y∈inner.names,y.2=.cell->inner.names.lookup y.1=some .cell
 loc:∀ y∈inner.names,y.2=.local->inner.names.lookup y.1=some .local
 free:∀ y∈inner.names,y.2=.free->inner.names.lookup y.1=some .free/\(outer.names.lookup y.1=some .cell\/outer.names.lookup y.1=some .free)
def VQ {outer inner:Scope} (h:LF outer inner=true):ScFacts outer inner:=by
 unfold LF at h;rw [Bool.and_eq_true] at h;have ha:=List.all_eq_true.mp h.2;refine ⟨by simpa using h.1,λy hy e=>?_,λy hy e=>?_,λy hy e=>?_⟩
 ·have:=ha y hy;rw [e] at this;simpa using this
 ·have:=ha y hy;rw [e] at this;simpa using this
 ·have:=ha y hy;rw [e] at this;simpa using this
def Z4 {scope:Scope} {env:Env} {x:Str} {k:NameKind} (h:(relabel scope env).names.lookup x=some k):scope.names.lookup x=some k\/(k=.cell/\scope.names.lookup x=some .free):=by
 have key:∀ (l:List (Str×NameKind)),(l.map λ(n,k)=>if (k==NameKind.free&&env.scope.kind==.function&&env.kindOf n==some .cell) then (n,NameKind.cell) else (n,k)).lookup x=some k->l.lookup x=some k\/(k=.cell/\l.lookup x=some .free):=by
  intro l;induction l with
  |nil=>intro h;simp at h
  |cons y r ih=>
   intro h;obtain ⟨n,j⟩:=y;rw [map_cons] at h;dsimp only at h;by_cases hc:(j==NameKind.free&&env.scope.kind==.function&&env.kindOf n==some .cell)=true
   ·rw [if_pos hc,List.lookup_cons] at h;rw [List.lookup_cons];cases hx:x==n with
    |true=>
     rw [hx] at h;have hk:NameKind.cell=k:=by simpa using h
     have hj:j=.free:=by simp only [Bool.and_eq_true,beq_iff_eq] at hc;exact hc.1.1
     exact .inr ⟨hk.symm,by rw [hj]⟩
    |false=>rw [hx] at h;exact ih h
   ·rw [if_neg hc,List.lookup_cons] at h;rw [List.lookup_cons];cases hx:x==n with
    |true=>rw [hx] at h;exact .inl h
    |false=>rw [hx] at h;exact ih h
 exact key scope.names h
def PF (X:Cx) (ifs:List Expr) (t:TT):Prop:=
 ∀ (pins:List (Addr×Obj)) (s:Shared) (σ:L2.St) (H:Hp) (Q:Bool->Hp->Prop),Inv X pins σ H s->t σ H Q ->
  wpAny (model X.prog X.w) X.A (forIn ifs true λc r=>if r=true then do let ok←isTrue c X.env (eval c X.env);pure (ForInStep.yield ok) else pure (ForInStep.yield r)) (TP X pins σ Q) X.xe s
def qnd {X:Cx}:PF X [] (λ_ H Q=>Q true H):=λ_ _ _ H _ I h=>wpAny_tests_nil ⟨H,I,h⟩
def qkC {X:Cx} {c:Expr} {t:TT} (h:PT X c t):PF X [c] t:=λpins s σ H Q I q=>wpAny_tests_one (h pins s σ H Q I q)
section
variable {X:Cx} {pins:List (Addr×Obj)} {σ:L2.St} {H:Hp} {s:Shared}
def WI {N':List Str} {scope:Scope} {fp:List Addr} {m:List (Option Nat)} {h1:Heap} {mm:Str->Option Value} (hc:X.calm=true) (I:Inv X pins σ H s) (sc:ScFacts X.env.scope scope) (hcap:J1 X.N N' scope m=true)
  (hfp:∀ b∈fp,CB X pins H b) (hob:∀ b∈fp,∃ o,s.heap.get? b=some o) (hns:h1.Ns s.heap.objs.size mm) (hk:∀ b o,s.heap.get? b=some o->h1.get? b=some o) (hown:CellsOk h1 (s.heap.objs.size+1) (cellsFrom (s.heap.objs.size+1) scope.names [])) :
  Inv (qh X N' scope s H fp) [] (cap m σ) H { s with heap:=h1 }:=by
 have hcl:∀ y∈scope.names,y.2=.free->∃ c,X.env.cells.lookup y.1=some c:=λy hy e=>by
  rcases (sc.free y hy e).2 with z|z
  ·exact I.ok.has y.1 (.inl z)
  ·exact I.ok.has y.1 (.inr z)
 have cl:∀ x c,(CD X.env scope.names []).lookup x=some c->X.env.cells.lookup x=some c:=λx c e=>UC scope.names [] x c hcl (λ_ _ z=>by simp at z) e;have clt:∀ x c,(CD X.env scope.names []).lookup x=some c->c<s.heap.objs.size:=λx c e=>by
  obtain ⟨v,q⟩:=I.cell x c (cl x c e);exact q.lt
 -- a cell of the block: its own,or one from around
 have cs:∀ x c,(cellsFrom (s.heap.objs.size+1) scope.names (CD X.env scope.names [])).lookup x=some c->((x,c)∈cellsFrom (s.heap.objs.size+1) scope.names []/\s.heap.objs.size+1<=c/\h1.IsCell c none)\/(CD X.env scope.names []).lookup x=some c:=λx c e=>by
  rw [jM,EO] at e;cases q:(cellsFrom (s.heap.objs.size+1) scope.names []).lookup x with
  |none=>rw [q] at e;exact .inr e
  |some d=>
   rw [q] at e;cases e;have mem:=PySem.mem_of_lookup q;exact .inl ⟨mem,(hown.empty x _ mem).2,(hown.empty x _ mem).1⟩
 have fpne:∀ b∈fp,b≠s.heap.objs.size:=λb hb=>let ⟨o,e⟩:=hob b hb;u7 (y6 e)
 refine ⟨⟨I.ok.mod,sc.kind,I.ok.glob,I.ok.blt,v5 _,λx y c e1 e2=>?_,λx hx=>?_,λx c hf e=>?_,λ_=>I.ok.hd hc,I.ok.frames,.inl rfl,λb hb=>⟨fpne b hb,λx c e=>?_⟩,I.bs,u0 I.ok.bsz I.sz,λb o e hb=>?_,λb hb z=>?_,I.stack,I.stkFree⟩,
  rfl,I.bare,Un.kept hk,⟨mm,hns,λi x v e1 e2 e3=>?_⟩,λx c e=>?_,I.fresh,λx c e=>?_,λp hp=>absurd (show p∈([]:List (Addr×Obj)) from hp) (by simp),I.hok.kept hk,qi7 σ hcap⟩
 ·rcases cs x c e1 with ⟨m1,l1,_⟩|z1<;>rcases cs y c e2 with ⟨m2,l2,_⟩|z2
  ·exact PySem.name_of_addr hown.apart m1 m2
  ·exact absurd (clt y c z2) (Nat.not_lt.mpr (u0 (Nat.le_succ _) l1))
  ·exact absurd (clt x c z1) (Nat.not_lt.mpr (u0 (Nat.le_succ _) l2))
  ·exact I.ok.inj x y c (cl x c z1) (cl y c z2)
 ·have hx:(relabel scope X.env).names.lookup x=some .cell\/(relabel scope X.env).names.lookup x=some .free:=hx;have hf:scope.names.lookup x=some .cell\/scope.names.lookup x=some .free:=by
   rcases hx with z|z
   ·rcases Z4 z with q|⟨_,q⟩
    ·exact .inl q
    ·exact .inr q
   ·rcases Z4 z with q|⟨q,_⟩
    ·exact .inr q
    ·cases q
  show ∃ c,(cellsFrom (s.heap.objs.size+1) scope.names (CD X.env scope.names [])).lookup x=some c;rcases hf with hf|hf
  ·exact QW scope.names _ _ x (.inl (PySem.mem_of_lookup hf))
  ·exact QW scope.names _ _ x (.inr (D9 scope.names [] x (.inl (PySem.mem_of_lookup hf))))
 ·have hf:scope.names.lookup x=some .cell:=by simpa [qh] using hf
  rcases cs x c e with ⟨_,l1,_⟩|z1
  ·exact u0 (Nat.le_succ _) l1
  ·rcases RN scope.names [] x c z1 with q|q
   ·rw [(sc.free _ q rfl).1] at hf;cases hf
   ·simp at q
 ·rcases cs x c e with ⟨_,l1,_⟩|z1
  ·obtain ⟨o,eo⟩:=hob b hb;exact Nat.ne_of_gt (v8 (y6 eo) (u0 (Nat.le_succ _) l1))
  ·exact (hfp b hb).2.2.2.2.1 x c (cl x c z1)
 ·rcases (hfp b hb).2.2.2.1 with z|z
  ·exact I.ok.noex b o e z
  ·exact absurd (v8 (y6 e) (u0 I.ok.bsz z)) (Nat.lt_irrefl _)
 ·rcases mem_cons.mp (I.stkSub b z) with q|q
  ·exact (hfp b hb).2.1 q
  ·exact (hfp b hb).2.2.1 q
 ·obtain ⟨j,ej,es⟩:=qcK e2;obtain ⟨hN,hfr⟩:=qb9 hcap ej e1;have mem:=PySem.mem_of_lookup hfr;have ho:=(sc.free _ mem rfl).2;obtain ⟨m0,hn0,hl0⟩:=I.loc;obtain ⟨u,ru,lk⟩:=hl0 j x v hN es (ho.elim (λz=>.inr (.inl z)) λz=>.inr (.inr z));refine ⟨u,ru,.inr ⟨?_,?_⟩⟩
  ·rcases e3 with z|z|z
   ·rcases Z4 z with q|⟨q,_⟩
    ·rw [hfr] at q;cases q
    ·cases q
   ·exact .inl z
   ·exact .inr z
  ·rcases lk with ⟨z,_⟩|⟨_,c,hc',hcell⟩
   ·have z:X.env.scope.names.lookup x=some .local:=z;rcases ho with q|q<;>(rw [z] at q;cases q)
   ·obtain ⟨c',hc2⟩:=D9 (env:=X.env) scope.names [] x (.inl mem);have e:=cl x c' hc2;rw [hc'] at e;cases e;obtain ⟨o,eo,d⟩:=hcell;refine ⟨c,?_,o,hk c o eo,d⟩;show (cellsFrom (s.heap.objs.size+1) scope.names (CD X.env scope.names [])).lookup x=some c;rw [jM,EO];cases q:(cellsFrom (s.heap.objs.size+1) scope.names []).lookup x with
    |none=>exact hc2
    |some d=>
     rcases J3 scope.names _ [] x d (PySem.mem_of_lookup q) with z|z
     ·rw [sc.own _ z rfl] at hfr;cases hfr
     ·simp at z
 ·rcases cs x c e with ⟨_,_,z⟩|z1
  ·exact ⟨none,z⟩
  ·obtain ⟨v,o,eo,d⟩:=I.cell x c (cl x c z1);exact ⟨v,o,hk c o eo,d⟩
 ·rcases cs x c e with ⟨_,l1,_⟩|z1
  ·exact I.hok.fresh (u0 (Nat.le_succ _) l1)
  ·exact I.freeC x c (cl x c z1)
def VT {N':List Str} {scope:Scope} {fp:List Addr} {pins':List (Addr×Obj)} {σ':L2.St} {H':Hp} {s':Shared} {h2:Heap} (I:Inv X pins σ H s) (hfp:∀ b∈fp,CB X pins H b) (J:Inv (qh X N' scope s H fp) pins' σ' H' s')
  (sb:Heap.SameBut s.heap.objs.size s'.heap h2):Inv X pins σ H' { s' with heap:=h2 }:=by
 have ne:∀ b o,s.heap.get? b=some o->b≠s.heap.objs.size:=λb o e=>u7 (y6 e);have g:∀ b,b≠s.heap.objs.size->h2.get? b=s'.heap.get? b:=λb hb=>sb.2 b hb;have hn:H' s.heap.objs.size=none:=J.free;have u:Un (frs X.stack) fp H H' s.heap s'.heap:=J.base;refine I.call' (s':={ s' with heap:=h2 }) J.os ⟨λb o e n hb hx=>?_,λb o e n hb hx=>?_,u.free,λb o e hx=>?_,u.tups,u.frzs,u.tbls⟩ (λa o e=>?_) J.bare λb hb=>⟨(hfp b hb).2.2.2.1,(hfp b hb).2.1,(hfp b hb).2.2.2.2.1,(hfp b hb).2.2.2.2.2⟩
 ·show h2.get? b=_;rw [g b (ne b o e)];exact u.keep b o e n hb hx
 ·show ∃ sl,h2.get? b=_;rw [g b (ne b o e)];exact u.slot b o e n hb hx
 ·show ∃ o',h2.get? b=_;rw [g b (ne b o e)];exact u.there b o e hx
 ·refine (J.hok a o e).stay (λb v hb q=>?_) (λ_ q=>q) λ_ _ q=>q;have hb':b≠s.heap.objs.size:=by
   intro z;subst z;rcases hb with z|z
   ·rw [← z] at e;rw [hn] at e;cases e
   ·rw [hn] at z;cases z
  rw [g b hb'];exact q
end
def tLC (wi:TI) (g:TG) (tif:TT) (te:TE) (m:List (Option Nat)):TE:=λσ H Q=>wi σ H λJ H1=>∀ D,H1 D=none ->
 ∃ W:Nat->Nat->L2.St->Hp->Prop,(∃ n,W 0 n (cap m σ) (upd H1 D (.lst [])))/\∀ i n σ H,W i n σ H ->
  (J.stop i H/\Q (.ref D) H)\/(J.go i H/\∀ x H',J.yld i H x H'->g x σ H' λσ2 H2=>tif σ2 H2 λk H3=>
   if k=true then te σ2 H3 λy H4=>∃ zs,H4 D=some (.lst zs)/\zs.length<sizeLine/\∃ n',n'<n/\W (i+1) n' σ2 (upd H4 D (.lst (zs++[y])))
   else ∃ n',n'<n/\W (i+1) n' σ2 H3)
section
variable {X:Cx}
def qps {elt tg iter:Expr} {ifs:List Expr} {scope:Scope} {pos:Pos} {N':List Str} {m:List (Option Nat)} {wi:TI} {g:TG} {tif:TT} {te:TE} (hc:X.calm=true) (hi:PI X tg iter wi)
  (hg:∀ s H fp,PG (qh X N' scope s H fp) tg g) (hf:∀ s H fp,PF (qh X N' scope s H fp) ifs tif) (he:∀ s H fp,PE (qh X N' scope s H fp) elt te)
  (hsc:LF X.env.scope scope=true) (hcap:J1 X.N N' scope m=true) (hs:∀ x,foldedSetIterable iter X.env x=pure x:=by intro _;rfl) :
  PE X (.ListComp elt [⟨tg,iter,ifs,0⟩] scope pos) (tLC wi g tif te m):=by
 intro pins s σ H Q I h;have sc:=VQ hsc;have hcl:∀ y∈scope.names,y.2=.free->∃ c,X.env.cells.lookup y.1=some c:=λy hy e=>by
  rcases (sc.free y hy e).2 with z|z
  ·exact I.ok.has y.1 (.inl z)
  ·exact I.ok.has y.1 (.inr z)
 rw [eval_ListComp];refine wpAny_comprehension_free (use:=none) (g:=⟨tg,iter,ifs,0⟩) (gs:=[]) rfl hs (QV hcl) sc.kind sc.loc ?_;show wpAny _ _ (eval iter X.env) _ _ s;refine thn (hi pins s σ H _ I h) λv s1 h1=>thn h1 λitv s2 h2=>?_;obtain ⟨it,fp,tn,J,H2,rfl,I2,T,st2,f2,hW⟩:=h2;refine wpAny_newObj_type ?_;have hD:H2 s2.heap.objs.size=none:=I2.fresh;obtain ⟨W,⟨n0,w0⟩,turn⟩:=hW _ hD;generalize hDe:s2.heap.objs.size=D at *;have I3:Inv X pins σ (upd H2 D (.lst [])) { s2 with heap:=s2.heap.push { cls:=.type "list",dict:=none,data:=.seq ([]:List Value).toArray } }:=by
  subst hDe;exact I2.laid (t':=s2.toks) (λb u e=>y3 _ e) (v5 _) ⟨Nat.zero_le _,[],0,.nil,y4 _ rfl⟩
 have ob2:=T.obj 0 _ st2;have ob3:∀ b∈fp,∃ o,(s2.heap.push { cls:=.type "list",dict:=none,data:=.seq ([]:List Value).toArray }).get? b=some o:=λb hb=>let ⟨o,e,_⟩:=ob2 b hb;⟨o,y3 _ e⟩
 have f3:∀ b∈fp,CB X pins (upd H2 D (.lst [])) b:=λb hb=>by
  obtain ⟨o,e,_⟩:=ob2 b hb;have:b≠D:=by rw [← hDe];exact u7 (y6 e)
  exact ⟨by rw [qt this];exact (f2 b hb).1,(f2 b hb).2⟩
 have k23:∀ b o,s2.heap.get? b=some o->(s2.heap.push { cls:=.type "list",dict:=none,data:=.seq ([]:List Value).toArray }).get? b=some o:=λb o e=>y3 _ e;generalize hH3:upd H2 D (.lst [])=H3 at *;generalize hs3:({ s2 with heap:=s2.heap.push { cls:=.type "list",dict:=none,data:=.seq ([]:List Value).toArray } }:Shared)=s3 at *;have ob3:∀ b∈fp,∃ o,s3.heap.get? b=some o:=by rw [← hs3];exact ob3
 have k23:∀ b o,s2.heap.get? b=some o->s3.heap.get? b=some o:=by rw [← hs3];exact k23
 refine jh λh₁ hns hk hown=>?_;have I4:Inv (qh X N' scope s3 H3 fp) [] (cap m σ) H3 { s3 with heap:=h₁ }:=WI hc I3 sc hcap f3 ob3 hns hk hown;have tn4:tn 0 h₁:=T.keep _ _ _ st2 λb hb o e=>hk b o (k23 b o e);have fr4:∀ b∈fp,H3 b=none:=λb hb=>(f3 b hb).1;have stat:∀ {H':Hp},(∀ b∈fp,H' b=none)->∀ b∈fp,CB (qh X N' scope s3 H3 fp) [] H' b:=λhn b hb=>by
  refine ⟨hn b hb,I4.ok.exf b hb |>.1,I4.ok.exfs b hb,.inl hb,λx c e=>(I4.ok.exf b hb).2 x c e,λp hp=>absurd (show p∈([]:List (Addr×Obj)) from hp) (by simp)⟩
 show codeAny (model X.prog X.w) X.A (.compStart (.ListComp elt [⟨tg,iter,ifs,0⟩] scope pos) 0 (.ref it) (.ref D) (qh X N' scope s3 H3 fp).env) (compPost (model X.prog X.w) X.A X.xe none (EP X pins σ Q) (.ref D) s3.heap.objs.size) { s3 with heap:=h₁ };have loop:codeAny (model X.prog X.w) X.A (.compLoop (.ListComp elt [⟨tg,iter,ifs,0⟩] scope pos) 0 (.ref it) (.ref D) (qh X N' scope s3 H3 fp).env) (compPost (model X.prog X.w) X.A X.xe none (EP X pins σ Q) (.ref D) s3.heap.objs.size) { s3 with heap:=h₁ }:=by
  refine codeAny_loop rfl (λn s'=>∃ i σ' H',Inv (qh X N' scope s3 H3 fp) [] σ' H' s'/\tn i s'.heap/\(∀ b∈fp,H' b=none)/\W i n σ' H') (λn s' hI=>?_) n0 ⟨0,cap m σ,H3,I4,tn4,fr4,w0⟩;show wpAny _ X.A ((compTurn (.ListComp elt [⟨tg,iter,ifs,0⟩] scope pos) 0 (.ref it) (.ref D) (qh X N' scope s3 H3 fp).env).onRaise (λx=>do noteFrame x (qh X N' scope s3 H3 fp).env;theTreesLotGoes x)) _ _ s';refine wpAny_noted ?_;rw [compTurn_list];refine x8 (wpAny_standAt (x8 ?_));obtain ⟨i,σ5,H5,I5,st5,fr5,w5⟩:=hI;rcases turn i n σ5 H5 w5 with ⟨stop,q⟩|⟨go,step⟩
  ·refine thn (T.done (qh X N' scope s3 H3 fp) rfl rfl rfl rfl i [] s' σ5 H5 _ I5 (stat fr5) st5 stop) λr s6 ⟨hr,I6⟩=>?_;subst hr;refine x9 ?_;obtain ⟨mm,hn6,_⟩:=I6.loc;exact ⟨mm,hn6,λh' sb=>⟨.ref D,H5,VT I3 f3 I6 sb,rfl,q⟩⟩
  ·refine thn (T.item (qh X N' scope s3 H3 fp) rfl rfl rfl rfl i [] s' σ5 H5 _ I5 (stat fr5) st5 go) λr s6 ⟨u,hr,h6⟩=>?_;subst hr;refine x8 (thn h6 λ_ s7 ⟨x,H7,I7,r7,y7,st7,fr7⟩=>?_);have I7':=I7.pinned (stat fr7) (T.obj _ _ st7);have again:∀ {σ8:L2.St} {H8:Hp} {s8:Shared},Inv (qh X N' scope s3 H3 fp) ([]++U1 fp s7.heap) σ8 H8 s8->(∃ n',n'<n/\W (i+1) n' σ8 H8) ->
     ∃ m',m'<n/\∃ i σ' H',Inv (qh X N' scope s3 H3 fp) [] σ' H' s8/\tn i s8.heap/\(∀ b∈fp,H' b=none)/\W i m' σ' H':=λ{σ8 H8 s8} I8 ⟨n',hn,w8⟩=>by
    refine ⟨n',hn,i+1,σ8,H8,I8.unpinned,T.keep _ _ _ st7 λb hb o e=>(I8.pin (b,o) (v7 _ (v7 _ (zd hb e)))).1,λb hb=>?_,w8⟩;obtain ⟨o,e,d⟩:=T.obj _ _ st7 b hb;exact (I8.pin (b,o) (v7 _ (v7 _ (zd hb e)))).2.1
   refine x8 (y0 (hg s3 H3 fp _ s7 σ5 H7 x u _ I7' r7 (step x H7 y7)) (λ_ s8 ⟨σ8,H8,I8,q8⟩=>?_) λ_ _ z=>z.elim);refine x8 (y0 (hf s3 H3 fp _ s8 σ8 H8 _ I8 q8) (λk s9 ⟨H9,I9,q9⟩=>?_) λ_ _ z=>z.elim);cases k with
   |false=>
    rw [if_neg y8] at q9;exact x9 ⟨rfl,again I9 q9⟩
   |true=>
    rw [if_pos rfl] at q9;refine x8 (x8 (y0 (he s3 H3 fp _ s9 σ8 H9 _ I9 q9) (λw s10 ⟨y,H10,I10,r10,q10⟩=>?_) λ_ _ z=>z.elim));obtain ⟨zs,hz,hl,q10⟩:=q10;refine x8 (y0 (UW (X:=qh X N' scope s3 H3 fp) _ s10 σ8 H10 (.ref D) [y] (.ref D) [w] (λ_ H11=>H11=upd H10 D (.lst (zs++[y]))) I10 rfl (.cons r10 .nil) ⟨D,zs,y,rfl,rfl,hz,hl,rfl⟩) (λ_ s11 ⟨_,H11,I11,_,e11⟩=>?_) λ_ _ z=>z.elim);subst e11;exact x9 (x9 ⟨rfl,again I11 q10⟩)
 exact codeAny_compStart_list loop (T.self X.A 0 _ _ _ tn4 loop)
end
section
variable {K:Frg} {G G':Gp} {H H':Hp}
def qih {D:Addr} {o:HO} {ws:List V} (hD:H D=some (.lst ws)) {a:Addr} {vs:List V} (h:SqT K H a vs):SqT K (upd H D o) a vs:=by
 rcases h with h|h
 ·refine .inl ?_;rcases h with h|⟨ob,h⟩
  ·have:a≠D:=by intro e;subst e;rw [hD] at h;cases h
   exact .inl (by rw [qt this];exact h)
  ·have:a≠D:=by intro e;subst e;rw [hD] at h;cases h
   exact .inr ⟨ob,by rw [qt this];exact h⟩
 ·exact .inr h
mutual
theorem Rp.wrD {D:Addr} {o:HO} {ws:List V} (hD:H D=some (.lst ws)):∀ {x:T} {v:V},Rp K H x v->Rp K (upd H D o) x v
 |_,_,.non=>.non
 |_,_,.bl b=>.bl b
 |_,_,.int i=>.int i
 |_,_,.str x=>.str x
 |_,_,.ref a=>.ref a
 |_,_,.tup h hs=>.tup (qih hD h) (Rps.wrD hD hs)
theorem Rps.wrD {D:Addr} {o:HO} {ws:List V} (hD:H D=some (.lst ws)):∀ {x:List T} {v:List V},Rps K H x v->Rps K (upd H D o) x v
 |_,_,.nil=>.nil
 |_,_,.cons a b=>.cons (Rp.wrD hD a) (Rps.wrD hD b)
end
theorem HR.wrD {D:Addr} {o:HO} {ws:List V} (hr:HR K G H) (hD:H D=some (.lst ws)) (g:G D=none):HR K G (upd H D o):=λa ob e=>by
 have ha:a≠D:=by intro z;subst z;rw [g] at e;cases e
 have q:=hr a ob e;cases ob with
 |lst xs=>obtain ⟨vs,h1,h2⟩:=q;exact ⟨vs,by rw [qt ha];exact h1,h2.wrD hD⟩
 |frz xs=>obtain ⟨vs,⟨o1,h1⟩,h2⟩:=q;exact ⟨vs,⟨o1,by rw [qt ha];exact h1⟩,h2.wrD hD⟩
 |dct kvs=>obtain ⟨vs,h1,h2⟩:=q;exact ⟨vs,by rw [qt ha];exact h1,h2.wrD hD⟩
 |exn C=>have h1:H a=some (.ext (IsX a C)):=q;exact (show _=_ by rw [qt ha];exact h1)
 |tab ks xs=>obtain ⟨vs,h1,h2⟩:=q;exact ⟨vs,by rw [qt ha];exact h1,h2.wrD hD⟩
theorem Rel.wrD {D:Addr} {o:HO} {ws:List V} {τ:St3} {σ:L2.St} (r:Rel K τ G σ H) (hD:H D=some (.lst ws)) (g:G D=none):Rel K τ G σ (upd H D o):=
 ⟨r.hp.wrD hD g,r.len,λi t e=>let ⟨v,h1,h2⟩:=r.st i t e;⟨v,h1,h2.wrD hD⟩⟩
def Kp.wrD {D:Addr} {o:HO} (k:Kp G H G' H') (hD:H D=none):Kp G H G' (upd H' D o):=λa ob h g=>by
 obtain ⟨h1,h2⟩:=k a ob h g;exact ⟨by rw [qt (qw h hD)];exact h1,h2⟩
def qdw {α:Type} {m:List (Option Nat)} {σ:List (Option α)} {i j:Nat} (h:m[i]?=some (some j)):(cap m σ)[i]?=some ((σ[j]?).join):=by
 unfold cap;rw [getElem?_map,h];rfl
theorem Rel.cap {τ:St3} {σ:L2.St} (r:Rel K τ G σ H) (m:List (Option Nat)):Rel K (cap m τ) G (L3.cap m σ) H:=by
 refine ⟨r.hp,by simp [L3.cap],λi t e=>?_⟩;obtain ⟨j,e1,e2⟩:=qcK e;obtain ⟨v,h1,h2⟩:=r.st j t e2;exact ⟨v,by rw [qdw e1,h1];rfl,h2⟩
end
def qax (stay:Gp->Prop) (g:TG3) (tif:TT3) (te:TE3) (q:Q3):List T->List T->St3->Gp->Prop
 |[],ys,_,G=>stay G/\∀ p,G p=none->q (.ref p) (gu G p (.lst ys))
 |x::r,ys,τ,G=>stay G/\g x τ G λτ2 G2=>tif τ2 G2 λk G3=>if k=true then te τ2 G3 λy G4=>ys.length<sizeLine/\qax stay g tif te q r (ys++[y]) τ2 G4 else qax stay g tif te q r ys τ2 G3
def lc3 (wi:TI3) (g:TG3) (tif:TT3) (te:TE3) (m:List (Option Nat)):TE3:=λτ G q=>wi τ G λitems stay G1=>qax stay g tif te q items [] (cap m τ) G1
abbrev F3 (X:Cx) (ifs:List Expr) (t:TT3):Prop:=PF X ifs (lT X.K t)
def tt3:TT3:=λ_ G q=>q true G
def qpE {X:Cx}:F3 X [] tt3:=λpins s σ H Q I ⟨τ,G,q,rl,h,af⟩=>qnd pins s σ H Q I (af true G h H rl.hp Kp.refl)
def qpw {X:Cx} {c:Expr} {t:TT3} (h:C3 X c t):F3 X [c] t:=qkC h
section
variable {X:Cx}
def qsv {elt tg iter:Expr} {ifs:List Expr} {scope:Scope} {pos:Pos} (N':List Str) (m:List (Option Nat)) {wi:TI3} {g:TG3} {tif:TT3} {te:TE3} (hc:X.calm=true) (hi:I3 X tg iter wi)
  (hg:∀ s H fp,G3 (qh X N' scope s H fp) tg g) (hf:∀ s H fp,F3 (qh X N' scope s H fp) ifs tif) (he:∀ s H fp,E3 (qh X N' scope s H fp) elt te)
  (hsc:LF X.env.scope scope=true) (hcap:J1 X.N N' scope m=true) (hs:∀ x,foldedSetIterable iter X.env x=pure x:=by intro _;rfl) :
  E3 X (.ListComp elt [⟨tg,iter,ifs,0⟩] scope pos) (lc3 wi g tif te m):=
 DP (qps (g:=lG X.K g) (tif:=lT X.K tif) (te:=lE X.K te) hc hi hg hf he hsc hcap hs) λσ H Q ⟨τ,G,q,rl,h,af⟩=>by
  refine ⟨τ,G,_,rl,h,λitems stay G1 h1 J H1 hr1 k1 ok D hD=>?_⟩;have gD:G1 D=none:=hr1.free hD;refine ⟨λi n σ' H'=>n=items.length-i/\i<=items.length/\∃ τ' G' ys vs,Rel X.K τ' G' σ' H'/\Kp G1 H1 G' H'/\H' D=some (.lst vs)/\Rps X.K H' ys vs/\G' D=none/\qax stay g tif te q (items.drop i) ys τ' G',
   ⟨_,rfl,Nat.zero_le _,cap m τ,G1,[],[],((rl.next hr1 k1).cap m).next (hr1.laid hD) (Kp.laid hD),Kp.laid hD,qM,.nil,gD,by simpa using h1⟩,?_⟩
  rintro i n σ' H' ⟨rfl,hi,τ',G',ys,vs,rl',k',hDl,rys,gD',h'⟩;by_cases hlt:i<items.length
  ·rw [List.drop_eq_getElem_cons hlt] at h';obtain ⟨hst,h'⟩:=h';obtain ⟨go,yld,_⟩:=ok G' H' rl'.hp k' hst;have hx:items[i]?=some items[i]:=v0 hlt;refine .inr ⟨go i _ hx,λv H2 y=>?_⟩;obtain ⟨rv,hr2,k2⟩:=yld i _ v H2 hx y;have nxt:∀ {τ4:St3} {G4:Gp} {σ4:L2.St} {H4:Hp} {ys4:List T} {vs4:List V},Rel X.K τ4 G4 σ4 H4->Kp G1 H1 G4 H4->H4 D=some (.lst vs4)->Rps X.K H4 ys4 vs4->G4 D=none->qax stay g tif te q (items.drop (i+1)) ys4 τ4 G4 ->
     ∃ n',n'<items.length-i/\(n'=items.length-(i+1)/\i+1<=items.length/\∃ τ' G' ys vs,Rel X.K τ' G' σ4 H4/\Kp G1 H1 G' H4/\H4 D=some (.lst vs)/\Rps X.K H4 ys vs/\G' D=none/\qax stay g tif te q (items.drop (i+1)) ys τ' G'):=
    λ{τ4 G4 σ4 H4 ys4 vs4} a b c d e f=>⟨_,by omega,rfl,hlt,τ4,G4,ys4,vs4,a,b,c,d,e,f⟩
   refine ⟨_,τ',G',_,rv,rl'.next hr2 k2,h',λτ3 G3 h3 σ3 H3 rl3 k3=>⟨τ3,G3,_,rl3,h3,λk G4 h4 H4 hr4 k4=>?_⟩⟩;have kk:=(k2.trans k3).trans k4;obtain ⟨hD4,gD4⟩:=kk D _ hDl gD';have rys4:=rys.keep rl'.hp kk;cases k with
   |false=>
    rw [if_neg y8] at h4;refine qkz ?_;exact nxt (rl3.next hr4 k4) (k'.trans kk) hD4 rys4 gD4 h4
   |true=>
    rw [if_pos rfl] at h4;refine qne ?_;refine ⟨τ3,G4,_,rl3.next hr4 k4,h4,λz G5 h5 w H5 rw5 hr5 k5=>?_⟩;obtain ⟨hD5,gD5⟩:=k5 D _ hD4 gD4;have rys5:=rys4.keep hr4 k5;exact ⟨vs,hD5,by rw [← rys.length];exact h5.1,nxt (((rl3.next hr4 k4).next hr5 k5).wrD hD5 gD5) (((k'.trans kk).trans k5).wrD hD) qM ((rys5.append (.cons rw5 .nil)).wrD hD5) gD5 h5.2⟩
  ·have e:i=items.length:=by omega
   subst e;rw [List.drop_length] at h';obtain ⟨_,_,stop⟩:=ok G' H' rl'.hp k' h'.1;refine .inl ⟨stop,af _ _ (h'.2 D gD') _ H' (.ref D) (λa o e=>?_) λa o e ga=>?_⟩
   ·by_cases ha:a=D
    ·subst ha;rw [qu] at e;cases e;exact ⟨vs,hDl,rys⟩
    ·rw [zu ha] at e;exact rl'.hp a o e
   ·obtain ⟨e1,g1⟩:=k1 a o e ga;obtain ⟨e2,g2⟩:=k' a o e1 g1;exact ⟨e2,by rw [zu (qw e1 hD)];exact g2⟩
end
structure Src (P:Program) (w:World) (it c:Addr) (St:Nat->Heap->Prop) (Has:Array Value->Heap->Prop):Prop where
 obj:∀ {k h},St k h->∃ o,h.get? it=some o/\∀ v,o.data≠.cell v
 keep:∀ {k h h'},St k h->(∀ o,h.get? it=some o->h'.get? it=some o)->St k h'
 hkeep:∀ {xs h h'},Has xs h->(∀ o,h.get? c=some o->h'.get? c=some o)->Has xs h'
 item:∀ {A:Around} {s:Shared} {k:Nat} {xs:Array Value} {x:Value} {Q:Value->Shared->Prop} {E:Value->Shared->Prop},St k s.heap->Has xs s.heap->xs[k]?=some x ->
  (∀ h',St (k+1) h'->Heap.SameBut it s.heap h'->Q x { s with heap:=h' })->wpAny (model P w) A (Builtin.SmallTypes.nextOf (.ref it)) Q E s
 done:∀ {A:Around} {s:Shared} {k:Nat} {xs:Array Value} {Q:Value->Shared->Prop} {E:Value->Shared->Prop},A.handled=none->St k s.heap->Has xs s.heap->xs[k]?=none ->
  (∀ h' e,Heap.ExtBut it s.heap h'->(∃ o,h'.get? e=some o/\o.cls=.type "StopIteration")->E (.ref e) { s with heap:=h' })->wpAny (model P w) A (Builtin.SmallTypes.nextOf (.ref it)) Q E s
def qdv {P:Program} {w:World} (it l:Addr):Src P w it l (λk h=>h.IsListIter it l k) (λxs h=>h.IsList l xs) where
 obj:=λst=>let ⟨o,e,_,d⟩:=st;⟨o,e,λv z=>by rw [d] at z;cases z⟩
 keep:=λst k=>st.at λo e=>k o e
 hkeep:=λst k=>st.at λo e=>k o e
 item:=λst hl hx hQ=>wpAny_nextOf_list_item st hl hx hQ
 done:=λhh st hl hx hE=>wpAny_nextOf_list_end hh st hl hx hE
def qal {P:Program} {w:World} {A:Around} {s:Shared} {it t:Addr} {i:Nat} {its:Array Value} {x:Value} {Q:Value->Shared->Prop} {E:Value->Shared->Prop} (hit:s.heap.IsTupleIter it t i) (ht:s.heap.IsTuple t its) (hx:its[i]?=some x)
  (hQ:∀ h',h'.IsTupleIter it t (i+1)->Heap.SameBut it s.heap h'->Q x { s with heap:=h' }):wpAny (model P w) A (Builtin.SmallTypes.nextOf (.ref it)) Q E s:=by
 obtain ⟨o1,e1,c1,d1⟩:=id hit;obtain ⟨o2,e2,_,n2,d2⟩:=ht;unfold Builtin.SmallTypes.nextOf;refine x8 (wpAny_callSpecial?_slot (name:=Str.ofString "__next__") hit.typeIs F.slot_tuple_iterator_next (wpAny_call_entry F.slot_tuple_iterator_next hit.typeIs F.entry_tuple_iterator_next ?_ (F.args_tuple_iterator_next_1 _)));refine x8 (m:=field (.ref it) 0) (wpAny_field e1 d1 (x:=.ref t) rfl ?_);rw [if_neg (show ¬ ((Value.ref t==Value.none)=true) by exact y8)];refine x8 (m:=field (.ref it) 1) (wpAny_field e1 d1 (x:=.int i 0) rfl ?_);refine x8 (m:=seqItems? (.ref t)) (wpAny_seqItems e2 d2 ?_);simp only [Int.toNat_natCast,hx];refine x8 (wpAny_setField e1 d1 (by simp) (x9 ⟨x,rfl,x9 (hQ _ ⟨_,Heap.get?_update_self _ e1 (Obj.isFreed_of_fields (Obj.data_mapFields d1 _)),(Obj.cls_mapFields ..).trans c1,?_⟩ (Heap.SameBut.update ..))⟩));rw [Obj.data_mapFields d1];simp [rawInt]
def CC {P:Program} {w:World} {A:Around} {s:Shared} {it t:Addr} {i:Nat} {its:Array Value} {Q:Value->Shared->Prop} {E:Value->Shared->Prop} (hh:A.handled=none) (hit:s.heap.IsTupleIter it t i) (ht:s.heap.IsTuple t its) (hx:its[i]?=none)
  (hE:∀ h' e,Heap.ExtBut it s.heap h'->(∃ o,h'.get? e=some o/\o.cls=.type "StopIteration")->E (.ref e) { s with heap:=h' }):wpAny (model P w) A (Builtin.SmallTypes.nextOf (.ref it)) Q E s:=by
 obtain ⟨o1,e1,c1,d1⟩:=id hit;obtain ⟨o2,e2,_,n2,d2⟩:=ht;unfold Builtin.SmallTypes.nextOf;refine x8 (wpAny_callSpecial?_slot (name:=Str.ofString "__next__") hit.typeIs F.slot_tuple_iterator_next (wpAny_call_entry F.slot_tuple_iterator_next hit.typeIs F.entry_tuple_iterator_next ?_ (F.args_tuple_iterator_next_1 _)));refine x8 (m:=field (.ref it) 0) (wpAny_field e1 d1 (x:=.ref t) rfl ?_);rw [if_neg (show ¬ ((Value.ref t==Value.none)=true) by exact y8)];refine x8 (m:=field (.ref it) 1) (wpAny_field e1 d1 (x:=.int i 0) rfl ?_);refine x8 (m:=seqItems? (.ref t)) (wpAny_seqItems e2 d2 ?_);simp only [Int.toNat_natCast,hx];refine x8 (wpAny_rule (x8 (wpAny_setField e1 d1 (by simp) ?_)));refine x8 (m:=newExc (.type "StopIteration") []) ?_;simp only [newExc,newTuple];refine x8 (wpAny_newObj_type ?_ (by size_fits));refine x8 (m:=firstArgMember _ _) (wpAny_of_eq (a:=Value.none) (by first|rfl|(simp only [firstArgMember]<;>rfl)) (wpAny_newObj_type ?_ (by size_fits)));simp only [raiseNew];refine x8 (wpAny_handled ?_)
 first|rw [show A.in1.handled=Option.none from hh]|rw [show A.handled=Option.none from hh]
 exact x8 (x9 (wpAny_throw (hE _ _ (((Heap.SameBut.update ..).extBut.push _).push _) ⟨_,y4 _ rfl,rfl⟩)))
def qh0 {P:Program} {w:World} (it t:Addr):Src P w it t (λk h=>h.IsTupleIter it t k) (λxs h=>h.IsTuple t xs) where
 obj:=λst=>let ⟨o,e,_,d⟩:=st;⟨o,e,λv z=>by rw [d] at z;cases z⟩
 keep:=λst k=>st.at λo e=>k o e
 hkeep:=λst k=>st.at λo e=>k o e
 item:=λst hl hx hQ=>qal st hl hx hQ
 done:=λhh st hl hx hE=>CC hh st hl hx hE
structure ZA (z ti to i1 i2 c1 c2:Addr):Prop where
 ne:([z,ti,to,i1,i2]:List Addr).Nodup
 a1:c1∉[z,to,i1,i2]
 a2:c2∉[z,to,i1,i2]
section
variable {P:Program} {w:World} {A:Around} {s:Shared} {z ti to i1 i2 c1 c2:Addr} {S1 S2:Nat->Heap->Prop} {H1 H2:Array Value->Heap->Prop} {k1 k2:Nat} {xs ys:Array Value} {x y a b:Value} {E:Value->Shared->Prop}
def qdr {Q:Value->Shared->Prop} (R1:Src P w i1 c1 S1 H1) (R2:Src P w i2 c2 S2 H2) (D:ZA z ti to i1 i2 c1 c2) (hz:IsZip s.heap z ti to .none) (hi:IsPair s.heap ti (.ref i1) (.ref i2)) (ho:IsPair s.heap to a b)
  (p1:S1 k1 s.heap) (p2:S2 k2 s.heap) (l1:H1 xs s.heap) (l2:H2 ys s.heap) (hx:xs[k1]?=some x) (hy:ys[k2]?=some y)
  (hQ:∀ h',IsZip h' z ti to (rawInt s.heap.objs.size)->IsPair h' to x y->S1 (k1+1) h'->S2 (k2+1) h'->IsPair h' s.heap.objs.size x y->(∀ c o,c∉[z,to,i1,i2]->s.heap.get? c=some o->h'.get? c=some o)->Q (.ref s.heap.objs.size) { s with heap:=h' }) :
  wpAny (model P w) A (Builtin.«zip.__next__» ⟨[.ref z],[]⟩) (λfin s'=>∃ v,fin=.done (.ret v)/\Q v s') E s:=by
 have ne:=D.ne;simp only [List.nodup_cons,mem_cons,not_mem_nil,not_or,or_false] at ne;obtain ⟨⟨n1,n2,n3,n4⟩,⟨n5,n6,n7⟩,⟨n8,n9⟩,n10,_⟩:=ne;have a1:=D.a1;have a2:=D.a2;simp only [mem_cons,not_mem_nil,not_or,or_false] at a1 a2;obtain ⟨q1,q2,q3,q4⟩:=a1;obtain ⟨r1,r2,r3,r4⟩:=a2;refine x8 (m:=field (.ref z) 2) (wpAny_field hz rfl (x:=.bool false) rfl ?_);refine x8 (m:=field (.ref z) 3) (wpAny_field hz rfl (x:=.ref ti) rfl ?_);refine x8 (wpAny_seqItems hi rfl ?_);refine x8 (m:=Builtin.SmallTypes.ownedTupleIsFree (.ref z)) ?_;unfold Builtin.SmallTypes.ownedTupleIsFree;refine x8 (wpAny_field hz rfl (x:=Value.none) rfl (x9 ?_));simp only [if_true];refine x8 (wpAny_rule (x8 (wpAny_field hz rfl (x:=.ref to) rfl (x8 (wpAny_setField_rec hz (by simp) λg1 z1 s1=>?_)))))
 replace z1:IsZip g1 z ti to Value.ellipsis:=z1
 refine x8 ?_;simp only [List.zipIdx_cons,List.zipIdx_nil,List.forIn_cons,List.forIn_nil];refine x8 (x8 (wpAny_onRaise (x8 (m:=Builtin.SmallTypes.nextOf (.ref i1)) ?_)));refine R1.item (R1.keep p1 λo e=>s1.extBut _ _ (Ne.symm n3) e) (R1.hkeep l1 λo e=>s1.extBut _ _ q1 e) hx λg2 p12 s2=>x9 ?_;have t2:IsPair g2 to a b:=s2.extBut _ _ n8 (s1.extBut _ _ (Ne.symm n2) ho);refine x8 (wpAny_seqItems t2 rfl (x8 (wpAny_updateSeq_pair t2 λg3 t3 s3=>?_)))
 replace t3:IsPair g3 to x b:=t3
 refine x8 (wpAny_letGo (x9 (x8 (x8 (wpAny_onRaise (x8 (m:=Builtin.SmallTypes.nextOf (.ref i2)) ?_))))));refine R2.item (R2.keep p2 λo e=>s3.extBut _ _ (Ne.symm n9) (s2.extBut _ _ (Ne.symm n10) (s1.extBut _ _ (Ne.symm n4) e))) (R2.hkeep l2 λo e=>s3.extBut _ _ r2 (s2.extBut _ _ r3 (s1.extBut _ _ r1 e))) hy λg4 p24 s4=>x9 ?_;have t4:IsPair g4 to x b:=s4.extBut _ _ n9 t3;refine x8 (wpAny_seqItems t4 rfl (x8 (wpAny_updateSeq_pair t4 λg5 t5 s5=>?_)))
 replace t5:IsPair g5 to x y:=t5
 refine x8 (wpAny_letGo (x9 (x9 (x8 (wpAny_seqItems t5 rfl (x8 (wpAny_newTuple ?_)))))));have sz:g5.objs.size=s.heap.objs.size:=by rw [s5.1,s4.1,s3.1,s2.1,s1.1]
 have z5:IsZip g5 z ti to Value.ellipsis:=s5.extBut _ _ n2 (s4.extBut _ _ n4 (s3.extBut _ _ n2 (s2.extBut _ _ n3 z1)));have kk:∀ c o,c∉[z,to,i1,i2]->s.heap.get? c=some o->g5.get? c=some o:=λc o hc e=>by
  simp only [mem_cons,not_mem_nil,not_or,or_false] at hc;exact s5.extBut _ _ hc.2.1 (s4.extBut _ _ hc.2.2.2 (s3.extBut _ _ hc.2.1 (s2.extBut _ _ hc.2.2.1 (s1.extBut _ _ hc.1 e))))
 have p15:S1 (k1+1) g5:=R1.keep p12 λo e=>s5.extBut _ _ (Ne.symm n8) (s4.extBut _ _ n10 (s3.extBut _ _ (Ne.symm n8) e));have p25:S2 (k2+1) g5:=R2.keep p24 λo e=>s5.extBut _ _ (Ne.symm n9) e;have zlt:z<g5.objs.size:=y6 z5;refine x8 (m:=Builtin.SmallTypes.ownedTupleHandOut (.ref z) (.ref g5.objs.size)) ?_;unfold Builtin.SmallTypes.ownedTupleHandOut;have z6:IsZip (g5.push { cls:=.type "tuple",data:=.seq #[x,y] }) z ti to Value.ellipsis:=y3 _ z5;refine x8 (wpAny_setField_rec z6 (by simp) λg7 z7 s7=>?_)
 replace z7:IsZip g7 z ti to (rawInt g5.objs.size):=z7
 refine wpAny_setField_rec z7 (by simp) λg8 z8 s8=>?_
 replace z8:IsZip g8 z ti to (rawInt g5.objs.size):=z8
 have up:∀ c o,c≠z->g5.get? c=some o->g8.get? c=some o:=λc o hc e=>s8.extBut _ _ hc (s7.extBut _ _ hc (y3 _ e));have t8:IsPair g8 g5.objs.size x y:=s8.extBut _ _ (Nat.ne_of_gt zlt) (s7.extBut _ _ (Nat.ne_of_gt zlt) (y4 _ rfl));rw [sz] at z8 t8;refine x9 ⟨_,rfl,?_⟩;show Q (Value.ref g5.objs.size) _;rw [sz];exact hQ g8 z8 (up _ _ (Ne.symm n2) t5) (R1.keep p15 λo e=>up _ o (Ne.symm n3) e) (R2.keep p25 λo e=>up _ o (Ne.symm n4) e) t8 λc o hc e=>up c o (λq=>hc (by simp [q])) (kk c o hc e)
def qhT {Q:Fin->Shared->Prop} (hh:A.handled=none) (R1:Src P w i1 c1 S1 H1) (R2:Src P w i2 c2 S2 H2) (D:ZA z ti to i1 i2 c1 c2) (hz:IsZip s.heap z ti to .none) (hi:IsPair s.heap ti (.ref i1) (.ref i2)) (ho:IsPair s.heap to a b)
  (p1:S1 k1 s.heap) (p2:S2 k2 s.heap) (l1:H1 xs s.heap) (l2:H2 ys s.heap) (hend:xs[k1]?=none\/ys[k2]?=none)
  (hE:∀ h' e,(∀ c o,c∉[z,to,i1,i2]->s.heap.get? c=some o->h'.get? c=some o)->(∃ o,h'.get? e=some o/\o.cls=.type "StopIteration")->E (.ref e) { s with heap:=h' }) :
  wpAny (model P w) A (Builtin.«zip.__next__» ⟨[.ref z],[]⟩) Q E s:=by
 have ne:=D.ne;simp only [List.nodup_cons,mem_cons,not_mem_nil,not_or,or_false] at ne;obtain ⟨⟨n1,n2,n3,n4⟩,⟨n5,n6,n7⟩,⟨n8,n9⟩,n10,_⟩:=ne;have a1:=D.a1;have a2:=D.a2;simp only [mem_cons,not_mem_nil,not_or,or_false] at a1 a2;obtain ⟨q1,q2,q3,q4⟩:=a1;obtain ⟨r1,r2,r3,r4⟩:=a2;refine x8 (m:=field (.ref z) 2) (wpAny_field hz rfl (x:=.bool false) rfl ?_);refine x8 (m:=field (.ref z) 3) (wpAny_field hz rfl (x:=.ref ti) rfl ?_);refine x8 (wpAny_seqItems hi rfl ?_);refine x8 (m:=Builtin.SmallTypes.ownedTupleIsFree (.ref z)) ?_;unfold Builtin.SmallTypes.ownedTupleIsFree;refine x8 (wpAny_field hz rfl (x:=Value.none) rfl (x9 ?_));simp only [if_true];refine x8 (wpAny_rule (x8 (wpAny_field hz rfl (x:=.ref to) rfl (x8 (wpAny_setField_rec hz (by simp) λg1 z1 s1=>?_)))))
 replace z1:IsZip g1 z ti to Value.ellipsis:=z1
 refine x8 ?_;simp only [List.zipIdx_cons,List.zipIdx_nil,List.forIn_cons,List.forIn_nil];refine x8 (x8 (wpAny_onRaise (x8 (m:=Builtin.SmallTypes.nextOf (.ref i1)) ?_)));cases hx:xs[k1]? with
 |none=>
  refine R1.done hh (R1.keep p1 λo e=>s1.extBut _ _ (Ne.symm n3) e) (R1.hkeep l1 λo e=>s1.extBut _ _ q1 e) hx λg2 e s2 ⟨oe,he,ce⟩=>?_;have z2:IsZip g2 z ti to Value.ellipsis:=s2 _ _ n3 z1;have ez:e≠z:=λq=>by subst q;rw [z2] at he;cases he;simp at ce
  refine wpAny_setField_rec z2 (by simp) λg3 _ s3=>hE g3 e (λc o hc q=>?_) ⟨oe,s3.extBut _ _ ez he,ce⟩;simp only [mem_cons,not_mem_nil,not_or,or_false] at hc;exact s3.extBut _ _ hc.1 (s2 _ _ hc.2.2.1 (s1.extBut _ _ hc.1 q))
 |some x=>
  have hy:ys[k2]?=none:=by rcases hend with q|q;rw [hx] at q;cases q;exact q
  refine R1.item (R1.keep p1 λo e=>s1.extBut _ _ (Ne.symm n3) e) (R1.hkeep l1 λo e=>s1.extBut _ _ q1 e) hx λg2 p12 s2=>x9 ?_;have t2:IsPair g2 to a b:=s2.extBut _ _ n8 (s1.extBut _ _ (Ne.symm n2) ho);refine x8 (wpAny_seqItems t2 rfl (x8 (wpAny_updateSeq_pair t2 λg3 t3 s3=>?_)));refine x8 (wpAny_letGo (x9 (x8 (x8 (wpAny_onRaise (x8 (m:=Builtin.SmallTypes.nextOf (.ref i2)) ?_))))));refine R2.done hh (R2.keep p2 λo e=>s3.extBut _ _ (Ne.symm n9) (s2.extBut _ _ (Ne.symm n10) (s1.extBut _ _ (Ne.symm n4) e))) (R2.hkeep l2 λo e=>s3.extBut _ _ r2 (s2.extBut _ _ r3 (s1.extBut _ _ r1 e))) hy λg4 e s4 ⟨oe,he,ce⟩=>?_;have z4:IsZip g4 z ti to Value.ellipsis:=s4 _ _ n4 (s3.extBut _ _ n2 (s2.extBut _ _ n3 z1));have ez:e≠z:=λq=>by subst q;rw [z4] at he;cases he;simp at ce
  refine wpAny_setField_rec z4 (by simp) λg5 _ s5=>hE g5 e (λc o hc q=>?_) ⟨oe,s5.extBut _ _ ez he,ce⟩;simp only [mem_cons,not_mem_nil,not_or,or_false] at hc;exact s5.extBut _ _ hc.1 (s4 _ _ hc.2.2.2 (s3.extBut _ _ hc.2.1 (s2.extBut _ _ hc.2.2.1 (s1.extBut _ _ hc.1 q))))
end
abbrev qp1 (b:Bool):String:=if b then "list_iterator" else "tuple_iterator"
abbrev zQ (b:Bool) (c:Addr):Obj:={ cls:=.type (qp1 b),data:=.fields #[.ref c,.int 0 0] }
def qdq (b:Bool) (it c:Addr) (k:Nat) (h:Heap):Prop:=match b with|true=>h.IsListIter it c k|false=>h.IsTupleIter it c k
def LH (b:Bool) (c:Addr) (xs:Array Value) (h:Heap):Prop:=match b with|true=>h.IsList c xs|false=>h.IsTuple c xs
def zR {P:Program} {w:World} (b:Bool) (it c:Addr):Src P w it c (qdq b it c) (LH b c):=by
 cases b
 ·exact qh0 it c
 ·exact qdv it c
def L6 {P:Program} {w:World} {A:Around} {s:Shared} {b:Bool} {c:Addr} {xs:Array Value} {Q:Value->Shared->Prop} {E:Value->Shared->Prop} (h:LH b c xs s.heap) (q:Q (.ref s.heap.objs.size) { s with heap:=s.heap.push (zQ b c) }) :
  wpAny (model P w) A (pyIter (.ref c)) Q E s:=by
 cases b
 ·exact wpAny_pyIter_tuple (show s.heap.IsTuple c xs from h) q
 ·exact wpAny_pyIter_list (show s.heap.IsList c xs from h) q
def qc3 {b:Bool} {c:Addr} {xs:Array Value} {h:Heap} {o:Obj} (q:LH b c xs h):LH b c xs (h.push o):=by
 cases b
 ·exact (show h.IsTuple c xs from q).at λ_ e=>y3 _ e
 ·exact (show h.IsList c xs from q).at λ_ e=>y3 _ e
abbrev zh1 (h:Heap) (o1:Obj):Heap:=h.push o1
abbrev zh2 (h:Heap) (o1 o2:Obj):Heap:=(zh1 h o1).push o2
abbrev zh3 (h:Heap) (o1 o2:Obj):Heap:=(zh2 h o1 o2).push { cls:=.type "tuple",data:=.seq #[.ref h.objs.size,.ref (zh1 h o1).objs.size] }
abbrev zh4 (h:Heap) (o1 o2:Obj):Heap:=(zh3 h o1 o2).push { cls:=.type "tuple",data:=.seq #[.none,.none] }
abbrev zh5 (h:Heap) (o1 o2:Obj):Heap:=(zh4 h o1 o2).push { cls:=.type "zip",data:=.fields #[.none,.bool false,.bool false,.ref (zh2 h o1 o2).objs.size,.ref (zh3 h o1 o2).objs.size] }
def qbt (c1 c2:Addr) (o1 o2:Obj) :
  Meets (Builtin.«zip.__new__» ⟨[.type "zip",.ref c1,.ref c2],[]⟩) (λ_ R s=>
   (∀ (P:Program) (w:World) (A:Around) (Q:Value->Shared->Prop) (E:Value->Shared->Prop),Q (.ref s.heap.objs.size) { s with heap:=zh1 s.heap o1 }->wpAny (model P w) A (pyIter (.ref c1)) Q E s) /\
   (∀ (P:Program) (w:World) (A:Around) (Q:Value->Shared->Prop) (E:Value->Shared->Prop),Q (.ref (zh1 s.heap o1).objs.size) { s with heap:=zh2 s.heap o1 o2 }->wpAny (model P w) A (pyIter (.ref c2)) Q E { s with heap:=zh1 s.heap o1 }) /\
   R (.ok (.ret (.ref (zh4 s.heap o1 o2).objs.size))) { s with heap:=zh5 s.heap o1 o2 }):=
 .of_wp λprog w A R s h=>by
  obtain ⟨hp,g,d,tk,os⟩:=s;obtain ⟨h1,h2,h⟩:=h;have hsub:=sub_zip;have k1:=λA Q E=>h1 prog w A Q E;have k2:=λA Q E=>h2 prog w A Q E
  wp_walk using k1 _ _ _,k2 _ _ _
  exact ⟨_,rfl,h⟩
def qdM (b1 b2:Bool) (z ti to i1 i2 c1 c2:Addr) (k:Nat) (h:Heap):Prop:=
 IsZip h z ti to .none/\IsPair h ti (.ref i1) (.ref i2)/\(∃ a b,IsPair h to a b)/\qdq b1 i1 c1 k h/\qdq b2 i2 c2 k h
section
variable {P:Program} {w:World} {A:Around} {s:Shared} {E:Value->Shared->Prop}
def qd3 {b1 b2:Bool} {c1 c2:Addr} {xs ys:Array Value} {Q:Value->Shared->Prop} (h1:LH b1 c1 xs s.heap) (h2:LH b2 c2 ys s.heap)
  (q:∀ h',qdM b1 b2 (s.heap.objs.size+4) (s.heap.objs.size+2) (s.heap.objs.size+3) s.heap.objs.size (s.heap.objs.size+1) c1 c2 0 h'->(∀ c o,s.heap.get? c=some o->h'.get? c=some o)->Q (.ref (s.heap.objs.size+4)) { s with heap:=h' }) :
  wpAny (model P w) A (call (.type "zip") [.ref c1,.ref c2]) Q E s:=by
 refine callType_new F.called_zip (by decide) (F.typeCall_zip_2 _ _) (F.newCall_zip_2 _ _) (λobj=>F.args_object_init_3 obj _ _) F.entry_zip_new
  (qbt c1 c2 (zQ b1 c1) (zQ b2 c2)) ⟨λP w A Q E q=>L6 h1 q,λP w A Q E q=>L6 (s:={ s with heap:=zh1 s.heap (zQ b1 c1) }) (qc3 h2) q,?_⟩
 have e1:(zh1 s.heap (zQ b1 c1)).objs.size=s.heap.objs.size+1:=Heap.size_push ..;have e2:(zh2 s.heap (zQ b1 c1) (zQ b2 c2)).objs.size=s.heap.objs.size+2:=by rw [Heap.size_push,e1]
 have e3:(zh3 s.heap (zQ b1 c1) (zQ b2 c2)).objs.size=s.heap.objs.size+3:=by rw [Heap.size_push,e2]
 have e4:(zh4 s.heap (zQ b1 c1) (zQ b2 c2)).objs.size=s.heap.objs.size+4:=by rw [Heap.size_push,e3]
 have g5:(zh5 s.heap (zQ b1 c1) (zQ b2 c2)).get? (zh4 s.heap (zQ b1 c1) (zQ b2 c2)).objs.size=some _:=y4 _ rfl;have g4:(zh5 s.heap (zQ b1 c1) (zQ b2 c2)).get? (zh3 s.heap (zQ b1 c1) (zQ b2 c2)).objs.size=some _:=y3 _ (y4 _ rfl);have g3:(zh5 s.heap (zQ b1 c1) (zQ b2 c2)).get? (zh2 s.heap (zQ b1 c1) (zQ b2 c2)).objs.size=some _:=y3 _ (y3 _ (y4 _ rfl));have g2:(zh5 s.heap (zQ b1 c1) (zQ b2 c2)).get? (zh1 s.heap (zQ b1 c1)).objs.size=some (zQ b2 c2):=y3 _ (y3 _ (y3 _ (y4 _ rfl)));have g1:(zh5 s.heap (zQ b1 c1) (zQ b2 c2)).get? s.heap.objs.size=some (zQ b1 c1):=y3 _ (y3 _ (y3 _ (y3 _ (y4 _ rfl))));show _/\_;rw [e2,e3,e4] at g5;rw [e1,e2] at g3;rw [e3] at g4;rw [e1] at g2;rw [e4];refine ⟨⟨_,g5,rfl⟩,q _ ⟨g5,g3,⟨_,_,g4⟩,?_,?_⟩ λc o e=>y3 _ (y3 _ (y3 _ (y3 _ (y3 _ e))))⟩
 ·cases b1<;>exact ⟨_,g1,rfl,rfl⟩
 ·cases b2<;>exact ⟨_,g2,rfl,rfl⟩
def qdJ {b1 b2:Bool} {z ti to i1 i2 c1 c2:Addr} {k:Nat} {xs ys:Array Value} {x y:Value} {Q:Option Value->Shared->Prop} (D:ZA z ti to i1 i2 c1 c2) (st:qdM b1 b2 z ti to i1 i2 c1 c2 k s.heap) (l1:LH b1 c1 xs s.heap) (l2:LH b2 c2 ys s.heap) (hx:xs[k]?=some x) (hy:ys[k]?=some y)
  (hQ:∀ h',IsZip h' z ti to (rawInt s.heap.objs.size)->IsPair h' ti (.ref i1) (.ref i2)->(∃ a b,IsPair h' to a b)->qdq b1 i1 c1 (k+1) h'->qdq b2 i2 c2 (k+1) h'->IsPair h' s.heap.objs.size x y->(∀ c o,c∉[z,to,i1,i2]->s.heap.get? c=some o->h'.get? c=some o)->Q (some (.ref s.heap.objs.size)) { s with heap:=h' }) :
  wpAny (model P w) A (pyNext (.ref z)) Q E s:=by
 obtain ⟨hz,hi,⟨a,b,ho⟩,p1,p2⟩:=st;have ty:s.TypeIs (.ref z) "zip" := ⟨_,hz,rfl⟩
 have nti:ti∉[z,to,i1,i2]:=by
  have ne:=D.ne;simp only [List.nodup_cons,mem_cons,not_mem_nil,not_or,or_false] at ne ⊢;exact ⟨Ne.symm ne.1.1,ne.2.1.1,ne.2.1.2.1,ne.2.1.2.2⟩
 unfold pyNext;exact x8 (wpAny_attempt (wpAny_callSpecial?_slot (name:=Str.ofString "__next__") ty F.slot_zip_next (wpAny_call_entry F.slot_zip_next ty F.entry_zip_next
  (qdr (zR b1 i1 c1) (zR b2 i2 c2) D hz hi ho p1 p2 l1 l2 hx hy λh' u1 u2 u3 u4 u5 u6=>x9 (hQ h' u1 (u6 _ _ nti hi) ⟨_,_,u2⟩ u3 u4 u5 u6)) (F.args_zip_next_1 _))))
def KS {b1 b2:Bool} {z ti to i1 i2 c1 c2:Addr} {k:Nat} {xs ys:Array Value} {Q:Option Value->Shared->Prop} (hh:A.handled=none) (D:ZA z ti to i1 i2 c1 c2) (st:qdM b1 b2 z ti to i1 i2 c1 c2 k s.heap) (l1:LH b1 c1 xs s.heap) (l2:LH b2 c2 ys s.heap) (hend:xs[k]?=none\/ys[k]?=none)
  (hQ:∀ h',(∀ c o,c∉[z,to,i1,i2]->s.heap.get? c=some o->h'.get? c=some o)->Q none { s with heap:=h' }):wpAny (model P w) A (pyNext (.ref z)) Q E s:=by
 obtain ⟨hz,hi,⟨a,b,ho⟩,p1,p2⟩:=st;have ty:s.TypeIs (.ref z) "zip" := ⟨_,hz,rfl⟩
 unfold pyNext;refine x8 (wpAny_attempt (wpAny_callSpecial?_slot (name:=Str.ofString "__next__") ty F.slot_zip_next (wpAny_call_entry F.slot_zip_next ty F.entry_zip_next
  (qhT hh (zR b1 i1 c1) (zR b2 i2 c2) D hz hi ho p1 p2 l1 l2 hend λh' e hk ⟨o,q1,q2⟩=>?_) (F.args_zip_next_1 _))))
 exact x8 (wpAny_isInstance (T:="StopIteration") (b:=true) ⟨o,q1,q2⟩ isSubtype_stop (x9 (hQ _ hk)))
end
def SqB (K:Frg) (b:Bool) (H:Hp) (a:Addr) (xs:List V):Prop:=match b with|true=>SqL K H a xs|false=>SqT K H a xs
def SqB.get {X:Cx} {pins:List (Addr×Obj)} {σ:L2.St} {H:Hp} {s:Shared} {b:Bool} {a:Addr} {xs:List V} (I:Inv X pins σ H s) (h:SqB X.K b H a xs):∃ its:List Value,zt xs its/\LH b a its.toArray s.heap/\xs.length<=sizeLine:=by
 cases b
 ·obtain ⟨its,r,p,hz⟩:=I.tuple (show SqT X.K H a xs from h);exact ⟨its,r,(show s.heap.IsTuple a its.toArray from p),hz⟩
 ·obtain ⟨its,r,p,hz⟩:=I.list (show SqL X.K H a xs from h);exact ⟨its,r,p.isList,hz⟩
def SqB.inj {X:Cx} {pins:List (Addr×Obj)} {σ:L2.St} {H:Hp} {s:Shared} {b:Bool} {a:Addr} {xs ys:List V} (I:Inv X pins σ H s) (h:SqB X.K b H a xs) (h':SqB X.K b H a ys):xs=ys:=by
 cases b
 ·exact I.tuple_inj h h'
 ·exact I.list_inj h h'
def Itz (K:Frg) (b1 b2:Bool) (c1 c2:Addr):It:=
  ⟨λi H=>∃ xs ys x y,SqB K b1 H c1 xs/\SqB K b2 H c2 ys/\xs[i]?=some x/\ys[i]?=some y,
   λi H v H'=>∃ p x y,H p=none/\v=.ref p/\H'=upd H p (.tup [x,y])/\(∀ xs,SqB K b1 H c1 xs->xs[i]?=some x)/\(∀ ys,SqB K b2 H c2 ys->ys[i]?=some y),
   λi H=>∃ xs ys,SqB K b1 H c1 xs/\SqB K b2 H c2 ys/\(xs.length<=i\/ys.length<=i)⟩
def qh7 {b:Bool} {c:Addr} {xs:Array Value} {h:Heap} (q:LH b c xs h):c<h.objs.size:=by
 cases b
 ·obtain ⟨o,e,_⟩:=(show h.IsTuple c xs from q);exact y6 e
 ·obtain ⟨o,e,_⟩:=(show h.IsList c xs from q);exact y6 e
def qdZ {P:Program} {w:World} {K:Frg} {es:List Expr} {k1:Nat} {pt:Pos} {b1 b2:Bool} {z ti to i1 i2 c1 c2:Addr} (D:ZA z ti to i1 i2 c1 c2):Turn P w K (.Tuple es k1 pt) (Itz K b1 b2 c1 c2) [z,ti,to,i1,i2] z (qdM b1 b2 z ti to i1 i2 c1 c2) where
 mem:=by simp
 obj:=λi h ⟨hz,hi,⟨a,b,ho⟩,p1,p2⟩ c hc=>by
  simp only [mem_cons,not_mem_nil,or_false] at hc;rcases hc with rfl|rfl|rfl|rfl|rfl
  ·exact ⟨_,hz,λv q=>by cases q⟩
  ·exact ⟨_,hi,λv q=>by cases q⟩
  ·exact ⟨_,ho,λv q=>by cases q⟩
  ·exact (zR (P:=P) (w:=w) b1 c c1).obj p1
  ·exact (zR (P:=P) (w:=w) b2 c c2).obj p2
 keep:=λi h h' ⟨hz,hi,⟨a,b,ho⟩,p1,p2⟩ k=>
  ⟨k z (by simp) _ hz,k ti (by simp) _ hi,⟨a,b,k to (by simp) _ ho⟩,(zR (P:=P) (w:=w) b1 i1 c1).keep p1 λo e=>k i1 (by simp) o e,(zR (P:=P) (w:=w) b2 i2 c2).keep p2 λo e=>k i2 (by simp) o e⟩
 item:=by
  intro X hP hw hK hc i pins s σ H E I hf st hg;subst hP hw hK;obtain ⟨xs,ys,x,y,sq1,sq2,hx,hy⟩:=hg;obtain ⟨its1,rv1,l1,z1⟩:=sq1.get I;obtain ⟨its2,rv2,l2,z2⟩:=sq2.get I;obtain ⟨u1,hu1,ru1⟩:=rv1.get hx;obtain ⟨u2,hu2,ru2⟩:=rv2.get hy;refine qdJ D st l1 l2 (x:=u1) (y:=u2) (by simpa using hu1) (by simpa using hu2) λh' hz hi ho p1 p2 hp hk=>?_;have hfr:H s.heap.objs.size=none:=I.fresh;have free:∀ b∈[z,ti,to,i1,i2],H b=none:=λb hb=>(hf b hb).1;refine ⟨_,rfl,wpAny_letOwnedTupleGo_zip hz λh2 hz2 s2=>?_⟩;have zlt:z<s.heap.objs.size:=y6 st.1;have hp2:IsPair h2 s.heap.objs.size u1 u2:=(s2.2 _ (Nat.ne_of_gt zlt)).trans hp;have ne:=D.ne;simp only [List.nodup_cons,mem_cons,not_mem_nil,not_or,or_false] at ne;have up:∀ c o,c≠z->h'.get? c=some o->h2.get? c=some o:=λc o hc e=>(s2.2 c hc).trans e;have kk:∀ c o,c∉[z,to,i1,i2]->s.heap.get? c=some o->h2.get? c=some o:=λc o hc e=>up c o (λq=>hc (by simp [q])) (hk c o hc e);have I3:Inv X pins σ (upd H s.heap.objs.size (.tup [x,y])) { s with heap:=h2 }:=by
   refine I.step (g':=s.gens) (d':=s.drawn) (t':=s.toks) (ch:=[z,to,i1,i2]) (λb hb=>?_) (λb o _ _ hcb e _=>kk b o hcb e) (λb o _ _ hcb e _=>⟨o.slots,kk b o hcb e⟩) (λb o _ e n=>by rw [qt (u7 (y6 e))];exact n) (λb o hcb e=>⟨o,kk b o hcb e⟩)
    (λb _ e=>by rw [qt (qw e hfr)];exact e) (λb _ _ e=>by rw [qt (qw e hfr)];exact e) (λb ps e=>⟨#[],by rw [qt (qw e hfr),e];simp⟩) (λm hm=>?_) (λb u e=>?_) I.bare
   ·obtain ⟨f0,f1,f2,f3,f4,f5⟩:=hf b (by simp only [mem_cons,not_mem_nil,or_false] at hb ⊢;rcases hb with q|q|q|q<;>simp [q]);exact ⟨f3,f1,f4,f5⟩
   ·obtain ⟨o,es',ep,ho',r⟩:=hm;refine ⟨o,es',ep,kk _ o (λq=>?_) ho',r⟩;obtain ⟨f0,f1,_⟩:=hf X.env.locals (by simp only [mem_cons,not_mem_nil,or_false] at q ⊢;rcases q with q|q|q|q<;>simp [q]);exact f1 rfl
   ·by_cases hb:b=s.heap.objs.size
    ·subst hb;rw [qM] at e;cases e;exact ⟨by show 2<=sizeLine;decide,[u1,u2],.cons ru1 (.cons ru2 .nil),⟨_,hp2,rfl,_,rfl,rfl⟩⟩
    ·rw [qt hb] at e;refine (I.hok b u e).stay (λc v hcb q=>kk c v (λm=>?_) q) (λ_ q=>by rw [qt (qw q hfr)];exact q) λ_ _ q=>by rw [qt (qw q hfr)];exact q
     have hn:=free c (by simp only [mem_cons,not_mem_nil,or_false] at m ⊢;rcases m with q|q|q|q<;>simp [q]);rcases hcb with q|q
     ·rw [q] at hn;rw [hn] at e;cases e
     ·rw [hn] at q;cases q
  refine ⟨.ref s.heap.objs.size,_,I3,rfl,⟨_,x,y,hfr,rfl,rfl,λzs q=>by rw [q.inj I sq1];exact hx,λzs q=>by rw [q.inj I sq2];exact hy⟩,⟨hz2,up _ _ (Ne.symm ne.1.1) hi,let ⟨a,b,q⟩:=ho;⟨a,b,up _ _ (Ne.symm ne.1.2.1) q⟩,(zR (P:=X.prog) (w:=X.w) b1 i1 c1).keep p1 λo e=>up _ o (Ne.symm ne.1.2.2.1) e,(zR (P:=X.prog) (w:=X.w) b2 i2 c2).keep p2 λo e=>up _ o (Ne.symm ne.1.2.2.2) e⟩,λb hb=>?_⟩;rw [qt (λq=>?_)]
  ·exact free b hb
  ·subst q;obtain ⟨hz0,hi0,⟨a0,b0,ho0⟩,q1,q2⟩:=st;simp only [mem_cons,not_mem_nil,or_false] at hb;rcases hb with q|q|q|q|q
   ·exact absurd q (Nat.ne_of_gt zlt)
   ·exact absurd q (Nat.ne_of_gt (y6 hi0))
   ·exact absurd q (Nat.ne_of_gt (y6 ho0))
   ·obtain ⟨o,e,_⟩:=(zR (P:=X.prog) (w:=X.w) b1 i1 c1).obj q1;exact absurd q (Nat.ne_of_gt (y6 e))
   ·obtain ⟨o,e,_⟩:=(zR (P:=X.prog) (w:=X.w) b2 i2 c2).obj q2;exact absurd q (Nat.ne_of_gt (y6 e))
 done:=by
  intro X hP hw hK hc i pins s σ H E I hf st hg;subst hP hw hK;obtain ⟨xs,ys,sq1,sq2,hend⟩:=hg;obtain ⟨its1,rv1,l1,z1⟩:=sq1.get I;obtain ⟨its2,rv2,l2,z2⟩:=sq2.get I;have e1:=rv1.length;have e2:=rv2.length;refine KS (I.ok.hd hc) D st l1 l2 (by rcases hend with q|q;exact .inl (by simp;omega);exact .inr (by simp;omega)) λh' hk=>⟨rfl,?_⟩
  have free:∀ b∈[z,ti,to,i1,i2],H b=none:=λb hb=>(hf b hb).1;refine I.step (g':=s.gens) (d':=s.drawn) (t':=s.toks) (ch:=[z,to,i1,i2]) (λb hb=>?_) (λb o _ _ hcb e _=>hk b o hcb e) (λb o _ _ hcb e _=>⟨o.slots,hk b o hcb e⟩) (λ_ _ _ _ n=>n) (λb o hcb e=>⟨o,hk b o hcb e⟩) (λ_ _ e=>e) (λ_ _ _ e=>e) (λb ps e=>⟨#[],by rw [e];simp⟩) (λm hm=>?_) (λb u e=>?_) I.bare
  ·obtain ⟨f0,f1,f2,f3,f4,f5⟩:=hf b (by simp only [mem_cons,not_mem_nil,or_false] at hb ⊢;rcases hb with q|q|q|q<;>simp [q]);exact ⟨f3,f1,f4,f5⟩
  ·obtain ⟨o,es',ep,ho',r⟩:=hm;refine ⟨o,es',ep,hk _ o (λq=>?_) ho',r⟩;obtain ⟨f0,f1,_⟩:=hf X.env.locals (by simp only [mem_cons,not_mem_nil,or_false] at q ⊢;rcases q with q|q|q|q<;>simp [q]);exact f1 rfl
  ·refine (I.hok b u e).stay (λc v hcb q=>hk c v (λm=>?_) q) (λ_ q=>q) λ_ _ q=>q;have hn:=free c (by simp only [mem_cons,not_mem_nil,or_false] at m ⊢;rcases m with q|q|q|q<;>simp [q]);rcases hcb with q|q
   ·rw [q] at hn;rw [hn] at e;cases e
   ·rw [hn] at q;cases q
 self:=λA i s Q E st h=>wpAny_pyIter_zip st.1 h
def qj6 {n c1 c2:Addr} (h1:c1<n) (h2:c2<n):ZA (n+4) (n+2) (n+3) n (n+1) c1 c2:=by
 have k:∀ n c:Nat,c<n->c≠n+4/\c≠n+3/\c≠n/\c≠n+1:=λn c h=>by omega
 have d:∀ n:Nat,(([n+4,n+2,n+3,n,n+1]:List Nat)).Nodup:=λn=>by
  simp only [List.nodup_cons,mem_cons,not_mem_nil,not_or,or_false,List.nodup_nil,and_true,not_false_eq_true];omega
 refine ⟨d n,?_,?_⟩
 ·simp only [mem_cons,not_mem_nil,not_or,or_false];exact k n c1 h1
 ·simp only [mem_cons,not_mem_nil,not_or,or_false];exact k n c2 h2
section
variable {X:Cx} {a b e l:Expr} {es:List Expr} {pos:Pos}
def qkX {p pt:Pos} {k1:Nat} {ta:TA} (hg:Gl X "zip") (hm:X.mg "zip" = none) (ha:PA X [a,b] ta) (hs:starEach [a,b] X.env=[(false,eval a X.env),(false,eval b X.env)]:=by rfl) (hs2:starEach [b] X.env=[(false,eval b X.env)]:=by rfl) :
  PI X (.Tuple es k1 pt) (.Call (.Name "zip" p) [a,b] [] pos) (λσ H R=>ta σ H λvs H1=>∃ b1 b2 c1 c2 xs ys,vs=[.ref c1,.ref c2]/\SqB X.K b1 H1 c1 xs/\SqB X.K b2 H1 c2 ys/\R (Itz X.K b1 b2 c1 c2) H1):=by
 intro pins s σ H R I h;refine Call_ (UV I hg hm PyProof.Rows.boot_zip (PyProof.Rows.callWith_type1 (thn (ha pos pins s σ H _ I h) λus s1 ⟨vs,H1,I1,r1,q1⟩=>?_) (by rw [hs,hs2]) (by rw [hs2];rfl)));obtain ⟨b1,b2,c1,c2,xs,ys,rfl,sq1,sq2,q⟩:=q1;obtain ⟨u1,u2,rfl,e1,e2⟩:=qdW r1;cases (show u1=Value.ref c1 from e1);cases (show u2=Value.ref c2 from e2);obtain ⟨its1,rv1,l1,z1⟩:=sq1.get I1;obtain ⟨its2,rv2,l2,z2⟩:=sq2.get I1;refine qd3 l1 l2 λh' st hk=>wpAny_pyIter_zip st.1 ?_;refine ⟨s1.heap.objs.size+4,[s1.heap.objs.size+4,s1.heap.objs.size+2,s1.heap.objs.size+3,s1.heap.objs.size,s1.heap.objs.size+1],_,_,H1,rfl,I1.kept (t':=s1.toks) hk,qdZ (qj6 (qh7 l1) (qh7 l2)),st,λc hc=>?_,q⟩;have hle:s1.heap.objs.size<=c:=by
  simp only [mem_cons,not_mem_nil,or_false] at hc;rcases hc with rfl|rfl|rfl|rfl|rfl<;>first|exact v5 _|exact Nat.le_add_right _ _
 exact I1.fpOk hle (I1.hok.fresh hle)
end
def JQ (G:Gp):T->Option (List T)
 |.tup xs=>some xs
 |.ref p=>getL G p
 |_=>none
def qbS {K:Frg} {G0:Gp} {H0:Hp} {x:T} {v:V} {us:List T} (hr0:HR K G0 H0) (rx:Rp K H0 x v) (h:JQ G0 x=some us) :
  ∃ b c,v=.ref c/\∀ G H,HR K G H->Kp G0 H0 G H->JQ G x=some us->∃ vs,SqB K b H c vs/\Rps K H us vs:=by
 cases rx with
 |tup hs rs=>
  cases h;exact ⟨false,_,rfl,λG H hr k _=>⟨_,(SH hr0 k hs:SqT K H _ _),rs.keep hr0 k⟩⟩
 |ref a=>exact ⟨true,a,rfl,λG H hr k hq=>let ⟨vs,h1,h2⟩:=jD hr (show getL G a=some us from hq);⟨vs,h1,h2⟩⟩
 |_=>cases h
def qdL (us vs:List T):List T:=(us.zip vs).map λp=>.tup [p.1,p.2]
def M7 {us vs:List T} {i:Nat} {x:T} (h:(qdL us vs)[i]?=some x):∃ a b,us[i]?=some a/\vs[i]?=some b/\x=.tup [a,b]:=by
 unfold qdL at h;rw [getElem?_map] at h;cases e:(us.zip vs)[i]? with
 |none=>rw [e] at h;cases h
 |some p=>
  rw [e] at h;have:=List.getElem?_zip_eq_some.mp e;exact ⟨p.1,p.2,this.1,this.2,by simpa using h.symm⟩
def qk5 {K:Frg} {b1 b2:Bool} {c1 c2:Addr} {x y:T} {us vs:List T} {G0:Gp} {H0:Hp}
  (f1:∀ G H,HR K G H->Kp G0 H0 G H->JQ G x=some us->∃ vs,SqB K b1 H c1 vs/\Rps K H us vs) (f2:∀ G H,HR K G H->Kp G0 H0 G H->JQ G y=some vs->∃ ws,SqB K b2 H c2 ws/\Rps K H vs ws) :
  qi8 K (Itz K b1 b2 c1 c2) (qdL us vs) (λG=>JQ G x=some us/\JQ G y=some vs) G0 H0:=by
 intro G H hr k ⟨h1,h2⟩;obtain ⟨p,sp,rp⟩:=f1 G H hr k h1;obtain ⟨q,sq,rq⟩:=f2 G H hr k h2;refine ⟨λi z hz=>?_,λi z v H' hz hy=>?_,⟨p,q,sp,sq,?_⟩⟩
 ·obtain ⟨a,b,ha,hb,_⟩:=M7 hz;obtain ⟨v,hv,_⟩:=rp.get ha;obtain ⟨w,hw,_⟩:=rq.get hb;exact ⟨p,q,v,w,sp,sq,hv,hw⟩
 ·obtain ⟨a,b,ha,hb,rfl⟩:=M7 hz;obtain ⟨t,v1,v2,ht,rfl,rfl,g1,g2⟩:=hy;obtain ⟨v,hv,rv⟩:=rp.get ha;obtain ⟨w,hw,rw'⟩:=rq.get hb;have e1:=(g1 p sp).symm.trans hv;have e2:=(g2 q sq).symm.trans hw;obtain rfl:v1=v:=Option.some.inj e1;obtain rfl:v2=w:=Option.some.inj e2;have kk:Kp G H G (upd H t (.tup [v1,v2])):=Kp.laid ht;exact ⟨.tup (SqT.of qM) (.cons (rv.keep hr kk) (.cons (rw'.keep hr kk) .nil)),hr.laid ht,kk⟩
 ·rw [← rp.length,← rq.length,show (qdL us vs).length=min us.length vs.length by simp [qdL]];omega
def qdK (ta:TA3):TI3:=λτ G r=>ta τ G λxs G1=>match xs with
 |[x,y]=>(match JQ G1 x,JQ G1 y with|some us,some vs=>r (qdL us vs) (λG=>JQ G x=some us/\JQ G y=some vs) G1|_,_=>False)
 |_=>False
section
variable {X:Cx} {a b e l:Expr} {es:List Expr} {pos:Pos} {t:TA3}
def qqQ {p pt:Pos} {k1:Nat} (hg:Gl X "zip") (hm:X.mg "zip" = none) (ha:A3 X [a,b] t) (hs:starEach [a,b] X.env=[(false,eval a X.env),(false,eval b X.env)]:=by rfl) (hs2:starEach [b] X.env=[(false,eval b X.env)]:=by rfl) :
  I3 X (.Tuple es k1 pt) (.Call (.Name "zip" p) [a,b] [] pos) (qdK t):=
 qoj (qkX hg hm ha hs hs2) λσ H R ⟨τ,G,r,rl,h,af⟩=>Q8 rl h λxs G1 h1 vs H1 rs hr1 k1 rl1=>by
  split at h1
  ·rename_i x y;split at h1
   ·rename_i us ws e1 e2;obtain ⟨v,u,rfl,r1,r2⟩:=qoE rs;obtain ⟨b1,c1,rfl,f1⟩:=qbS hr1 r1 e1;obtain ⟨b2,c2,rfl,f2⟩:=qbS hr1 r2 e2;obtain ⟨p,sp,_⟩:=f1 G1 H1 hr1 Kp.refl e1;obtain ⟨q,sq,_⟩:=f2 G1 H1 hr1 Kp.refl e2;exact ⟨b1,b2,c1,c2,p,q,rfl,sp,sq,af _ _ G1 h1 _ H1 hr1 k1 (qk5 f1 f2)⟩
   ·exact h1.elim
  ·exact h1.elim
def WM:List T->Gp->Q3->Prop:=λxs G q=>match xs with
 |[.ref p]=>(match getL G p with|some ys=>(match qjj ys with|some k=>q (.bl k) G|none=>False)|none=>False)
 |_=>False
theorem qcn {K:Frg} {H:Hp}:∀ {ys:List T} {vs:List V} {k:Bool},Rps K H ys vs->qjj ys=some k->∃ ks:List Bool,vs=ks.map V.bl/\ks.all id=k
 |_,_,_,.nil,h=>by cases h;exact ⟨[],rfl,rfl⟩
 |y::ys,_,k,.cons a b,h=>by
  unfold qjj at h;split at h
  ·rename_i e;cases e
  ·rename_i j r e;cases e;split at h
   ·rename_i i ei;obtain ⟨ks,rfl,hk⟩:=qcn b ei;cases a;cases h;exact ⟨j::ks,rfl,by rw [List.all_cons,hk];rfl⟩
   ·cases h
  ·cases h
def L4 {K:Frg}:MM K WM (λxs H Q=>∃ (p:Addr) (ks:List Bool),xs=[.ref p]/\SqL K H p (ks.map V.bl)/\Q (.bl (ks.all id)) H):=λxs vs G H q Q hr rs h af=>by
 unfold WM at h;split at h
 ·rename_i p;obtain ⟨v,rfl,r⟩:=TH rs;cases r;split at h
  ·rename_i ys e0;split at h
   ·rename_i k e1;obtain ⟨us,hs,r2⟩:=jD hr e0;obtain ⟨ks,rfl,hk⟩:=qcn r2 e1;exact ⟨p,ks,rfl,hs,by rw [hk];exact af _ G h _ H (.bl _) hr Kp.refl⟩
   ·exact h.elim
  ·exact h.elim
 ·exact h.elim
end
def qqx:Value->Bool
 |.type t=>t == "list"
 |_=>false
def DA:List (Addr×Obj)->Bool
 |[]=>true
 |p::r=>if qqx p.2.cls then false else DA r
theorem CP:∀ {K:List (Addr×Obj)} {a:Addr} {o:Obj},DA K=true->K.lookup a=some o->o.cls≠.type "list"
 |[],_,_,_,e=>by simp at e
 | (b,x)::r,a,o,h,e=>by
  unfold DA at h;split at h
  ·cases h
  ·rename_i hx;rw [List.lookup_cons] at e;split at e
   ·cases e;intro z;rw [z] at hx;exact hx rfl
   ·exact CP h e
def qas {K:Frg} {H:Hp} {a:Addr} {ns:List Int} (hK:DA K=true) (hO:qov H) (hS:SqL K H a (ns.map V.int)):∃ o,H a=some (.frz o (.lst (ns.map V.int))):=by
 rcases hS with (h|h)|⟨o,its,n,h1,h2,_⟩
 ·rcases hO a with z|⟨o,xs,z⟩<;>(rw [h] at z;cases z)
 ·exact h
 ·exact absurd h2 (CP hK h1)
def only (a:Addr) (ns:List Int):Gp:=λb=>if b=a then some (.frz (ns.map T.int)) else none
def qh6 {K:Frg} {H:Hp} {a:Addr} {ns:List Int} (h:∃ o,H a=some (.frz o (.lst (ns.map V.int)))):HR K (only a ns) H:=λb o e=>by
 unfold only at e;split at e
 ·rename_i hb;subst hb;cases e;exact ⟨_,h,Rps.ints ns⟩
 ·cases e
def CW:Sp3:=λts G q=>∃ (a:Addr) (ns:List Int),ts=[.ref a]/\G a=some (.frz (ns.map T.int))/\ns.length<=63/\∀ G',q (.bl true) G'
def qp6 {l:PySem.W.OpenLaw} {k:Nat} {q:Program} {loose:List Str} {XP:(Str->Option Value)->Heap->Prop} {YP:World->Heap->Prop} {d:DefRec} {K:Params->PySem.W.Frag} {x:Str} (hn:l.most=some 63) (hdf:d.params.defaults=[]) (hr:Room k callerA)
  (hY:∀ (w:World) (h:Heap),YP w h->(K w.params).In h) (hK:∀ w:World,DA (K w.params)=true)
  (F:∀ (w:World) (mg:Str->Option Value) (fa:Addr) (h:Heap),(K w.params).In h->h.Ns mainGlobals mg->mg d.name=some (.ref fa) ->
   ∃ fd:FuncData,(∀ (s:Shared) (u:Value),BindsTo s fd ⟨[u],[]⟩ [(x,u)])/\∀ base:Heap,(K w.params).In base->base.Ns mainGlobals mg->FnOk l.prog w (K w.params) mg base CX0 k fa fd [x] (lSp (K w.params) CW)) :
  PySem.W.WalkO q loose XP YP l.row.toRowW d [] (λf vs=>PySem.call f vs):=
 L2.qiN (n:=63) (k:=k) (x:=x) (CX:=λ_=>CX0) (sp:=λw=>lSp (K w.params) CW) hn (by decide) hdf hr hY F
  (λw H a ns hl hO hS=>⟨[.ref a],only a ns,λt _=>t=.bl true,qh6 (qas (hK w) hO hS),.cons (.ref a) .nil,⟨a,ns,rfl,by simp [only],hl,λ_=>rfl⟩,λt G' e v H' r _ _=>by subst e;cases r;rfl⟩) λ_ _ _ _ _ z=>z
def qh8 {P:Program} {w:World} {K:Frg} {mg:Str->Option Value} {base:Heap} {x qual:Str} {st:Stmt} {f:Addr} {fd:FuncData} {N ps:List Str} {k:Nat} {sp:Sp3} {t3:TS3} (F:Fun K x qual st f fd) (S:FnScope N ps (qf st))
  (body:∀ (cdv:Value) (A:Around) (outer:List Env) (s:Shared) (H:Hp) (E:XK),Room k (A.deeper (envOfC qual (qf st) s.heap.objs.size f cdv)) ->
   B3 (YD CX0 P w K mg base N qual (qf st) f cdv A outer s H E).nox (qz st) t3)
  (read:∀ ts G q,sp ts G q->ts.length=ps.length/\t3 { nx:=λ_ G'=>q .non G',rt:=q } (qm N ts) G):FnOk P w K mg base CX0 (k+1) f fd ps (lSp K sp):=by
 refine F.ok S (λvs H Q E ⟨ts,G,q,h1,h2,h3,h4⟩=>by rw [← h2.length];exact (read ts G q h3).1) λcdv A outer s H vs Q E hr ⟨ts,G,q,h1,h2,h3,h4⟩=>?_;refine ⟨_,body cdv A outer s H E hr,qm N ts,G,_,W1 h1 h2,(read ts G q h3).2,⟨λτ' G' h' σ' H' rl' k'=>h4 _ G' h' _ H' .non rl'.hp k',h4,λ_ _ z=>z.elim,λ_ _ z=>z.elim⟩⟩
abbrev eh1 (h:Heap) (o1:Obj):Heap:=h.push o1
abbrev eh2 (h:Heap) (o1:Obj):Heap:=(eh1 h o1).push { cls:=.type "enumerate",data:=.fields #[.none,.bool false,.ref h.objs.size,rawInt 0,.none,.none] }
def NZ (c:Addr) (o1:Obj) (ob:Obj) :
  Meets (Builtin.«enumerate.__new__» ⟨[.type "enumerate",.ref c],[]⟩) (λ_ R s=>s.heap.get? c=some ob /\
   (∀ (P:Program) (w:World) (A:Around) (Q:Value->Shared->Prop) (E:Value->Shared->Prop),Q (.ref s.heap.objs.size) { s with heap:=eh1 s.heap o1 }->wpAny (model P w) A (pyIter (.ref c)) Q E s) /\
   R (.ok (.ret (.ref (eh1 s.heap o1).objs.size))) { s with heap:=eh2 s.heap o1 }):=
 .of_wp λprog w A R s h=>by
  obtain ⟨hp,g,d,tk,os⟩:=s;obtain ⟨hl,h1,h⟩:=h;have hsub:=sub_enumerate;have k1:=λA Q E=>h1 prog w A Q E
  wp_walk using wpAny_loadPart' hl
  refine wpAny_stack_any λst=>x9 ?_;split
  ·rename_i c _ _ _ _ _;cases (c==Value.type "enumerate")
   ·wp_walk using wpAny_loadPart' hl,k1 _ _ _
    exact ⟨_,rfl,h⟩
   ·wp_walk using wpAny_loadPart' hl,k1 _ _ _
    exact ⟨_,rfl,h⟩
  ·wp_walk using wpAny_loadPart' hl,k1 _ _ _
   exact ⟨_,rfl,h⟩
def qei {b:Bool} {c:Addr} {xs:Array Value} {h:Heap} (q:LH b c xs h):∃ o,h.get? c=some o:=by
 cases b
 ·obtain ⟨o,e,_⟩:=(show h.IsTuple c xs from q);exact ⟨o,e⟩
 ·obtain ⟨o,e,_⟩:=(show h.IsList c xs from q);exact ⟨o,e⟩
section
variable {P:Program} {w:World} {A:Around} {s:Shared} {E:Value->Shared->Prop}
def qbf {b:Bool} {c:Addr} {xs:Array Value} {Q:Value->Shared->Prop} (h1:LH b c xs s.heap)
  (q:∀ h',IsEnum h' (s.heap.objs.size+1) s.heap.objs.size 0 .none->qdq b s.heap.objs.size c 0 h'->(∀ c o,s.heap.get? c=some o->h'.get? c=some o)->Q (.ref (s.heap.objs.size+1)) { s with heap:=h' }) :
  wpAny (model P w) A (call (.type "enumerate") [.ref c]) Q E s:=by
 obtain ⟨ob,hob⟩:=qei h1;refine callType_new F.called_enumerate (by decide) (F.typeCall_enumerate_1 _) (F.newCall_enumerate_1 _) (λobj=>F.args_object_init_2 obj _) F.entry_enumerate_new
  (NZ c (zQ b c) ob) ⟨hob,λP w A Q E q=>L6 h1 q,?_⟩
 have e1:(eh1 s.heap (zQ b c)).objs.size=s.heap.objs.size+1:=Heap.size_push ..;have g2:(eh2 s.heap (zQ b c)).get? (eh1 s.heap (zQ b c)).objs.size=some _:=y4 _ rfl;have g1:(eh2 s.heap (zQ b c)).get? s.heap.objs.size=some (zQ b c):=y3 _ (y4 _ rfl);show _/\_;rw [e1] at g2 ⊢;refine ⟨⟨_,g2,rfl⟩,q _ g2 ?_ λc o e=>y3 _ (y3 _ e)⟩;cases b<;>exact ⟨_,g1,rfl,rfl⟩
end
def qef {P:Program} {w:World} {A:Around} (hh:A.handled=none) (b:Bool) (it c:Addr) (hne:c≠it) (xs:Array Value) :
  Draws P w A it [it,c] xs.size (λi v=>xs[i]?=some v) (λi h=>qdq b it c i h/\LH b c xs h) where
 live:=λi h st=>let ⟨o,e,_⟩:=(zR (P:=P) (w:=w) b it c).obj st.1;⟨o,e⟩
 frame:=λi h h' st hk=>⟨(zR (P:=P) (w:=w) b it c).keep st.1 λo e=>hk it (by simp) o e,(zR (P:=P) (w:=w) b it c).hkeep st.2 λo e=>hk c (by simp) o e⟩
 item:=λi s Q E hi st hQ=>by
  refine (zR (P:=P) (w:=w) b it c).item st.1 st.2 (x:=xs[i]) (by simp [hi]) λh' st' sb=>?_;exact hQ _ h' s.toks (by simp [hi]) ⟨st',(zR (P:=P) (w:=w) b it c).hkeep st.2 λo e=>(sb.2 c hne).trans e⟩ sb
 done:=λs Q E st hE=>(zR (P:=P) (w:=w) b it c).done hh st.1 st.2 (by simp) hE
def RY {P:Program} {w:World} {A:Around} {s:Shared} {E:Value->Shared->Prop} {b:Bool} {e it c:Addr} {i:Nat} {xs:Array Value} {old:Value} {Q:Option Value->Shared->Prop} (hh:A.handled=none) (he:IsEnum s.heap e it i old) (p1:qdq b it c i s.heap) (l1:LH b c xs s.heap) (hx:xs[i]?=none)
  (hQ:∀ h',Heap.ExtBut it s.heap h'->Q none { s with heap:=h' }):wpAny (model P w) A (pyNext (.ref e)) Q E s:=by
 have hT:s.TypeIs (.ref e) "enumerate" := ⟨_,he,rfl⟩
 unfold pyNext;refine x8 (wpAny_attempt (wpAny_callSpecial?_slot (name:=Str.ofString "__next__") hT F.slot_enumerate_next
  (wpAny_call_entry F.slot_enumerate_next hT F.entry_enumerate_next ?_ (F.args_enumerate_next_1 _))))
 show wpAny _ _ (field (.ref e) 2 >>= _) _ _ _;refine x8 (wpAny_field he rfl (x:=.ref it) rfl ?_);refine x8 ((zR (P:=P) (w:=w) b it c).done (show A.in1.handled=none from hh) p1 l1 hx λh' x he' hx'=>?_);obtain ⟨o,ho,hc⟩:=hx';refine x8 (wpAny_isInstance (T:="StopIteration") (b:=true) ⟨o,ho,hc⟩ isSubtype_stop ?_);exact x9 (hQ _ he')
def Ite (K:Frg) (b:Bool) (c:Addr):It:=
  ⟨λi H=>∃ xs x,SqB K b H c xs/\xs[i]?=some x,
   λi H v H'=>∃ p x,H p=none/\v=.ref p/\H'=upd H p (.tup [.int i,x])/\(∀ xs,SqB K b H c xs->xs[i]?=some x),
   λi H=>∃ xs,SqB K b H c xs/\xs.length<=i⟩
def qka (b:Bool) (e it c:Addr) (k:Nat) (h:Heap):Prop:=(∃ old,IsEnum h e it k old)/\qdq b it c k h
def qcs {P:Program} {w:World} {K:Frg} {es:List Expr} {k1:Nat} {pt:Pos} {b:Bool} {e it c:Addr} (n1:e≠it) (n2:c≠e) (n3:c≠it):Turn P w K (.Tuple es k1 pt) (Ite K b c) [e,it] e (qka b e it c) where
 mem:=by simp
 obj:=λi h ⟨⟨old,he⟩,p1⟩ d hd=>by
  simp only [mem_cons,not_mem_nil,or_false] at hd;rcases hd with rfl|rfl
  ·exact ⟨_,he,λv q=>by cases q⟩
  ·exact (zR (P:=P) (w:=w) b d c).obj p1
 keep:=λi h h' ⟨⟨old,he⟩,p1⟩ k=>⟨⟨old,k e (by simp) _ he⟩,(zR (P:=P) (w:=w) b it c).keep p1 λo e=>k it (by simp) o e⟩
 item:=by
  intro X hP hw hK hc i pins s σ H E I hf st hg;subst hP hw hK;obtain ⟨xs,x,sq,hx⟩:=hg;obtain ⟨its,rv,l1,z1⟩:=sq.get I;obtain ⟨u,hu,ru⟩:=rv.get hx;obtain ⟨⟨old,he⟩,p1⟩:=st;have hil:i<its.toArray.size:=by have:=(za4 hu).1;simpa using this
  refine wpAny_pyNext_enum_itemD (qef (show X.A.in1.handled=none from I.ok.hd hc) b it c n3 its.toArray) he ⟨p1,l1⟩ hil n1 (by simp only [mem_cons,not_mem_nil,or_false,not_or];exact ⟨n1,Ne.symm n2⟩) λy h' tk hy ho st' ht hsz hk=>?_;have hy':y=u:=by
   have:its.toArray[i]?=some u:=by simpa using hu
   rw [this] at hy;exact (Option.some.inj hy).symm
  subst hy';have hfr:H s.heap.objs.size=none:=I.fresh;have free:∀ b∈[e,it],H b=none:=λb hb=>(hf b hb).1;refine ⟨_,rfl,wpAny_letOwnedTupleGo_enum ho λh2 hz2 s2=>?_⟩;have elt:e<s.heap.objs.size:=y6 he;have hp2:h2.get? s.heap.objs.size=some { cls:=.type "tuple",data:=.seq #[.int i tk,y] }:=(s2.2 _ (Nat.ne_of_gt elt)).trans ht;have up:∀ c o,c≠e->h'.get? c=some o->h2.get? c=some o:=λc o hc e=>(s2.2 c hc).trans e;have kk:∀ c o,c∉[e,it]->s.heap.get? c=some o->h2.get? c=some o:=λc o hc q=>by
   simp only [mem_cons,not_mem_nil,or_false,not_or] at hc;exact up c o hc.1 (hk c o hc.1 hc.2 q)
  have I3:Inv X pins σ (upd H s.heap.objs.size (.tup [.int i,x])) { s with heap:=h2,toks:=tk+1 }:=by
   refine I.step (g':=s.gens) (d':=s.drawn) (t':=tk+1) (ch:=[e,it]) (λb hb=>?_) (λb o _ _ hcb e _=>kk b o hcb e) (λb o _ _ hcb e _=>⟨o.slots,kk b o hcb e⟩) (λb o _ e n=>by rw [qt (u7 (y6 e))];exact n) (λb o hcb e=>⟨o,kk b o hcb e⟩)
    (λb _ e=>by rw [qt (qw e hfr)];exact e) (λb _ _ e=>by rw [qt (qw e hfr)];exact e) (λb ps e=>⟨#[],by rw [qt (qw e hfr),e];simp⟩) (λm hm=>?_) (λb u e=>?_) I.bare
   ·obtain ⟨f0,f1,f2,f3,f4,f5⟩:=hf b hb;exact ⟨f3,f1,f4,f5⟩
   ·obtain ⟨o,es',ep,ho',r⟩:=hm;refine ⟨o,es',ep,kk _ o (λq=>?_) ho',r⟩;obtain ⟨f0,f1,_⟩:=hf X.env.locals q;exact f1 rfl
   ·by_cases hb:b=s.heap.objs.size
    ·subst hb;rw [qM] at e;cases e;exact ⟨by show 2<=sizeLine;decide,[.int i tk,y],.cons ⟨tk,rfl⟩ (.cons ru .nil),⟨_,hp2,rfl,_,rfl,rfl⟩⟩
    ·rw [qt hb] at e;refine (I.hok b u e).stay (λc v hcb q=>kk c v (λm=>?_) q) (λ_ q=>by rw [qt (qw q hfr)];exact q) λ_ _ q=>by rw [qt (qw q hfr)];exact q
     have hn:=free c m;rcases hcb with q|q
     ·rw [q] at hn;rw [hn] at e;cases e
     ·rw [hn] at q;cases q
  refine ⟨.ref s.heap.objs.size,_,I3,rfl,⟨_,x,hfr,rfl,rfl,λzs q=>by rw [q.inj I sq];exact hx⟩,⟨⟨_,by push_cast;exact hz2⟩,(zR (P:=X.prog) (w:=X.w) b it c).keep st'.1 λo e=>up _ o (Ne.symm n1) e⟩,λb hb=>?_⟩;rw [qt (λq=>?_)]
  ·exact free b hb
  ·subst q;simp only [mem_cons,not_mem_nil,or_false] at hb;rcases hb with q|q
   ·exact absurd q (Nat.ne_of_gt elt)
   ·obtain ⟨o,e,_⟩:=(zR (P:=X.prog) (w:=X.w) b it c).obj p1;exact absurd q (Nat.ne_of_gt (y6 e))
 done:=by
  intro X hP hw hK hc i pins s σ H E I hf st hg;subst hP hw hK;obtain ⟨xs,sq,hend⟩:=hg;obtain ⟨its,rv,l1,z1⟩:=sq.get I;obtain ⟨⟨old,he⟩,p1⟩:=st;have e1:=rv.length;have free:∀ b∈[e,it],H b=none:=λb hb=>(hf b hb).1;refine RY (I.ok.hd hc) he p1 l1 (by simp;omega) λh' hk0=>⟨rfl,?_⟩
  have hk:∀ c o,c∉[e,it]->s.heap.get? c=some o->h'.get? c=some o:=λc o hcb q=>hk0 c o (by simp only [mem_cons,not_mem_nil,or_false,not_or] at hcb;exact hcb.2) q;refine I.step (g':=s.gens) (d':=s.drawn) (t':=s.toks) (ch:=[e,it]) (λb hb=>?_) (λb o _ _ hcb e _=>hk b o hcb e) (λb o _ _ hcb e _=>⟨o.slots,hk b o hcb e⟩) (λ_ _ _ _ n=>n) (λb o hcb e=>⟨o,hk b o hcb e⟩) (λ_ _ e=>e) (λ_ _ _ e=>e) (λb ps e=>⟨#[],by rw [e];simp⟩) (λm hm=>?_) (λb u e=>?_) I.bare
  ·obtain ⟨f0,f1,f2,f3,f4,f5⟩:=hf b hb;exact ⟨f3,f1,f4,f5⟩
  ·obtain ⟨o,es',ep,ho',r⟩:=hm;refine ⟨o,es',ep,hk _ o (λq=>?_) ho',r⟩;obtain ⟨f0,f1,_⟩:=hf X.env.locals q;exact f1 rfl
  ·refine (I.hok b u e).stay (λc v hcb q=>hk c v (λm=>?_) q) (λ_ q=>q) λ_ _ q=>q;have hn:=free c m;rcases hcb with q|q
   ·rw [q] at hn;rw [hn] at e;cases e
   ·rw [hn] at q;cases q
 self:=λA i s Q E st h=>let ⟨⟨old,he⟩,_⟩:=st;wpAny_pyIter_enum he h
section
variable {X:Cx} {a b e l:Expr} {es:List Expr} {pos:Pos}
def qiO {p pt:Pos} {k1:Nat} {ta:TA} (hg:Gl X "enumerate") (hm:X.mg "enumerate" = none) (ha:PA X [a] ta) (hs:starEach [a] X.env=[(false,eval a X.env)]:=by rfl) :
  PI X (.Tuple es k1 pt) (.Call (.Name "enumerate" p) [a] [] pos) (λσ H R=>ta σ H λvs H1=>∃ b1 c1 xs,vs=[.ref c1]/\SqB X.K b1 H1 c1 xs/\R (Ite X.K b1 c1) H1):=by
 intro pins s σ H R I h;refine Call_ (UV I hg hm PyProof.Rows.boot_enumerate (PyProof.Rows.callWith_type1 (thn (ha pos pins s σ H _ I h) λus s1 ⟨vs,H1,I1,r1,q1⟩=>?_) (by rw [hs];rfl) (by rfl)));obtain ⟨b1,c1,xs,rfl,sq1,q⟩:=q1;obtain ⟨u1,rfl,e1⟩:=ED r1;cases (show u1=Value.ref c1 from e1);obtain ⟨its1,rv1,l1,z1⟩:=sq1.get I1;refine qbf l1 λh' he hit hk=>wpAny_pyIter_enum he ?_;have lt:=qh7 l1;have ne3:∀ n c:Nat,c<n->n+1≠n/\c≠n+1/\c≠n:=λn c h=>by omega
 obtain ⟨m1,m2,m3⟩:=ne3 _ _ lt;refine ⟨s1.heap.objs.size+1,[s1.heap.objs.size+1,s1.heap.objs.size],_,_,H1,rfl,I1.kept (t':=s1.toks) hk,qcs m1 m2 m3,⟨⟨_,he⟩,hit⟩,λc hc=>?_,q⟩;have hle:s1.heap.objs.size<=c:=by
  simp only [mem_cons,not_mem_nil,or_false] at hc;rcases hc with rfl|rfl<;>first|exact v5 _|exact Nat.le_add_right _ _
 exact I1.fpOk hle (I1.hok.fresh hle)
end
def QU (k:Nat):List T->List T
 |[]=>[]
 |x::r=>.tup [.int (k:Int),x]::QU (k+1) r
def qeo (us:List T):List T:=QU 0 us
theorem DI:∀ {us:List T} {k i:Nat} {x:T},(QU k us)[i]?=some x->∃ a,us[i]?=some a/\x=.tup [.int ((k+i:Nat):Int),a]
 |[],_,_,_,h=>by simp [QU] at h
 |u::us,k,0,x,h=>by simp [QU] at h;exact ⟨u,rfl,by simp [← h]⟩
 |u::us,k,i+1,x,h=>by
  simp [QU] at h;obtain ⟨a,ha,hx⟩:=DI h;exact ⟨a,by simpa using ha,by rw [hx];congr 4;omega⟩
theorem DL:∀ (us:List T) (k:Nat),(QU k us).length=us.length
 |[],_=>rfl
 |u::us,k=>by simp [QU,DL us]
def T7 (us:List T):(qeo us).length=us.length:=DL us 0
def WU {us:List T} {i:Nat} {x:T} (h:(qeo us)[i]?=some x):∃ a,us[i]?=some a/\x=.tup [.int (i:Int),a]:=by
 obtain ⟨a,ha,hx⟩:=DI h;exact ⟨a,ha,by rw [hx];congr 4;omega⟩
def qod {K:Frg} {b1:Bool} {c1:Addr} {x:T} {us:List T} {G0:Gp} {H0:Hp}
  (f1:∀ G H,HR K G H->Kp G0 H0 G H->JQ G x=some us->∃ vs,SqB K b1 H c1 vs/\Rps K H us vs) :
  qi8 K (Ite K b1 c1) (qeo us) (λG=>JQ G x=some us) G0 H0:=by
 intro G H hr k h1;obtain ⟨p,sp,rp⟩:=f1 G H hr k h1;refine ⟨λi z hz=>?_,λi z v H' hz hy=>?_,⟨p,sp,?_⟩⟩
 ·obtain ⟨a,ha,_⟩:=WU hz;obtain ⟨v,hv,_⟩:=rp.get ha;exact ⟨p,v,sp,hv⟩
 ·obtain ⟨a,ha,rfl⟩:=WU hz;obtain ⟨t,v1,ht,rfl,rfl,g1⟩:=hy;obtain ⟨v,hv,rv⟩:=rp.get ha;have e1:=(g1 p sp).symm.trans hv;obtain rfl:v1=v:=Option.some.inj e1;have kk:Kp G H G (upd H t (.tup [.int i,v1])):=Kp.laid ht;exact ⟨.tup (SqT.of qM) (.cons (.int _) (.cons (rv.keep hr kk) .nil)),hr.laid ht,kk⟩
 ·rw [← rp.length,T7];exact v5 _
def CJ (ta:TA3):TI3:=λτ G r=>ta τ G λxs G1=>match xs with
 |[x]=>(match JQ G1 x with|some us=>r (qeo us) (λG=>JQ G x=some us) G1|_=>False)
 |_=>False
section
variable {X:Cx} {a b e l:Expr} {es:List Expr} {pos:Pos} {t:TA3}
def qlv {p pt:Pos} {k1:Nat} (hg:Gl X "enumerate") (hm:X.mg "enumerate" = none) (ha:A3 X [a] t) (hs:starEach [a] X.env=[(false,eval a X.env)]:=by rfl) :
  I3 X (.Tuple es k1 pt) (.Call (.Name "enumerate" p) [a] [] pos) (CJ t):=
 qoj (qiO hg hm ha hs) λσ H R ⟨τ,G,r,rl,h,af⟩=>Q8 rl h λxs G1 h1 vs H1 rs hr1 k1 rl1=>by
  split at h1
  ·rename_i x;split at h1
   ·rename_i us e1;obtain ⟨v,rfl,r1⟩:=TH rs;obtain ⟨b1,c1,rfl,f1⟩:=qbS hr1 r1 e1;obtain ⟨p,sp,_⟩:=f1 G1 H1 hr1 Kp.refl e1;exact ⟨b1,c1,p,rfl,sp,af _ _ G1 h1 _ H1 hr1 k1 (qod f1)⟩
   ·exact h1.elim
  ·exact h1.elim
end
section
variable {X:Cx} {a b c e:Expr} {es:List Expr} {ta tb tc te:TE3} {t:TA3} {pos:Pos}
def X7 (i:Nat) (r:R3) (te:TE3):TS3:=λd τ G=>match τ[i]? with
 |some (some x)=>te τ G λy G1=>r x y G1 λz G2=>d.nx (τ.set i (some z)) G2
 |_=>False
def qen (i:Nat) {x:Str} {pos':Pos} (hN:X.N.Nodup) (he:E3 X e te) (hi:X.N[i]?=some x:=by rfl) (hx:Loc X.env.scope x:=by first|exact Or.inl rfl|exact Or.inr rfl) (hf:X.fn x=true\/X.env.scope.names.lookup x=some .local:=by first|exact .inl rfl|exact .inr rfl) :
  S3 X (.AugAssign (.Name x pos') .Add e pos) (X7 i (iI (·+·)) te):=
 MH (qnN (i:=i) hN hi hx he qnU hf) λD σ H ⟨τ,G,d,rl,h,af⟩=>by
  unfold X7 at h;split at h
  ·rename_i x e1;obtain ⟨v,e2,rv⟩:=rl.st i x e1;refine ⟨v,e2,zN rl h λy G1 h1 u H1 ry hr1 k1 rl1=>?_⟩;have rv1:=rv.keep rl.hp k1;cases x<;>try exact h1.elim
   cases y<;>try exact h1.elim
   cases rv1;cases ry;exact ⟨_,_,rfl,rfl,af.nx _ G1 h1 _ H1 (rl1.set i (.int _)) k1⟩
  ·exact h.elim
def qiu (ns:List Int):Prop:=ns.length<=1000000/\∀ x∈ns,-1000000000000<=x/\x<=1000000000000
theorem MA (ns:List Int):∀ j,j<=ns.length->preSum (λi=>ns.getD i 0) j=(ns.take j).sum
 |0,_=>by simp [preSum]
 |j+1,h=>by
  have hj:j<ns.length:=h;unfold preSum;rw [MA ns j (by omega),List.take_succ_eq_append_getElem hj,List.sum_append,getD_eq_getElem?_getD,v0 hj];simp
theorem qgo:∀ (ns:List Int),(∀ x∈ns,-1000000000000<=x/\x<=1000000000000)->-1000000000000*(ns.length:Int)<=ns.sum/\ns.sum<=1000000000000*(ns.length:Int)
 |[],_=>by simp
 |n::r,h=>by
  have h1:=h n u9;have h2:=qgo r λx hx=>h x (v6 _ hx);rw [List.sum_cons,length_cons];omega
def RG (hc:X.calm=true):J5 X (.builtin "sum") (λxs H Q=>∃ (p:Addr) (ns:List Int),xs=[.ref p]/\SqL X.K H p (ns.map V.int)/\qiu ns/\Q (.int ns.sum) H):=by
 intro pins s σ H xs us Q I r h;obtain ⟨p,ns,rfl,hq,ok,q⟩:=h;obtain ⟨u,rfl,rp⟩:=ED r;cases (show u=Value.ref p from rp);obtain ⟨its,rv,pl,hz⟩:=I.list hq;have hlen:its.length=ns.length:=by have:=rv.length;simp at this;omega
 have hp:p<s.heap.objs.size:=by obtain ⟨o,n,e,_⟩:=pl;exact y6 e
 have bd:∀ j,j<=ns.length->InLong (preSum (λi=>ns.getD i 0) j):=λj hj=>by
  rw [MA ns j hj];have:=qgo (ns.take j) λx hx=>ok.2 x (List.mem_of_mem_take hx);have hl:(ns.take j).length<=1000000:=u0 (by rw [List.length_take];omega) ok.1;unfold InLong;omega
 refine call_sum_walk (wpAny_pyIter_list pl.isList ⟨s.heap.objs.size,_,_,_,_,_,λi=>ns.getD i 0,rfl,Walks.list (A:=X.A.in1) (show X.A.in1.handled=none from I.ok.hd hc) s.heap.objs.size p (u7 hp) its.toArray,⟨⟨_,y4 _ rfl,rfl,rfl⟩,?_⟩,λb hb=>?_,λi v hv=>?_,λj hj=>?_,λh' tk t' hk=>?_⟩)
 ·obtain ⟨o,n,e,c,_,d⟩:=pl;exact ⟨o,y3 _ e,c,n,d⟩
 ·have lt1:∀ n c:Nat,c<n->c<n+1:=λn c h=>by omega
  rw [show (({ s with heap:=s.heap.push _ }:Shared).heap.objs.size)=s.heap.objs.size+1 from Heap.size_push ..];simp only [mem_cons,not_mem_nil,or_false] at hb;rcases hb with rfl|rfl
  ·exact Nat.lt_succ_self _
  ·exact lt1 _ _ hp
 ·have hv':its[i]?=some v:=by simpa using hv
  obtain ⟨hi,_⟩:=za4 hv';have hi':i<ns.length:=by omega
  obtain ⟨u,hu,ru⟩:=rv.get (i:=i) (show (ns.map V.int)[i]?=some (V.int (ns[i])) by simp [hi']);rw [hv'] at hu;cases hu;obtain ⟨t,rfl⟩:=ru;exact ⟨t,by show Value.int ns[i] t=Value.int (ns.getD i 0) t;rw [getD_eq_getElem?_getD,v0 hi'];rfl⟩
 ·have hj':j<ns.length:=by rw [size_toArray] at hj;omega
  refine ⟨?_,bd _ hj'⟩;have:=ok.2 (ns.getD j 0) (by rw [getD_eq_getElem?_getD,v0 hj'];exact za0 hj');show InLong (ns.getD j 0);unfold InLong;omega
 ·refine ⟨.int _,H,?_,⟨_,rfl⟩,by rw [size_toArray,hlen,MA ns _ (v5 _),List.take_length];exact q⟩;exact I.kept (h':=h') (t':=tk) λb o e=>hk b o (by simp;exact u7 (y6 e)) (y3 _ e)
def TN:List T->Option (List Int)
 |[]=>some []
 |.int i::r=>(match TN r with|some ns=>some (i::ns)|none=>none)
 |_=>none
def TB (ns:List Int):TN (ns.map T.int)=some ns:=by
 induction ns with
 |nil=>rfl
 |cons n r ih=>simp [TN,ih]
theorem RO:∀ {xs:List T} {ns:List Int},TN xs=some ns->xs=ns.map T.int
 |[],_,h=>by simp [TN] at h;subst h;rfl
 |x::r,ns,h=>by
  unfold TN at h;split at h
  ·rename_i e;cases e
  ·rename_i i r' e;cases e;split at h
   ·rename_i ms e2;cases h;rw [RO e2];rfl
   ·cases h
  ·cases h
def qoS:List T->Gp->Q3->Prop:=λxs G q=>match xs with
 |[.ref p]=>(match getL G p with|some ys=>(match TN ys with|some ns=>qiu ns/\q (.int ns.sum) G|none=>False)|none=>False)
 |_=>False
theorem RR {K:Frg} {H:Hp}:∀ {ns:List Int} {vs:List V},Rps K H (ns.map T.int) vs->vs=ns.map V.int
 |[],_,r=>by cases r;rfl
 |n::ns,_,r=>by
  cases r with
  |cons a b=>cases a;rw [RR b];rfl
def qif {K:Frg}:MM K qoS (λxs H Q=>∃ (p:Addr) (ns:List Int),xs=[.ref p]/\SqL K H p (ns.map V.int)/\qiu ns/\Q (.int ns.sum) H):=λxs vs G H q Q hr rs h af=>by
 unfold qoS at h;split at h
 ·rename_i p;obtain ⟨v,rfl,r⟩:=TH rs;cases r;split at h
  ·rename_i ys e0;split at h
   ·rename_i ns e1;obtain ⟨us,hs,r2⟩:=jD hr e0;have:=RO e1;subst this;have:=RR r2;subst this;exact ⟨p,ns,rfl,hs,h.1,af _ G h.2 _ H (.int _) hr Kp.refl⟩
   ·exact h.elim
  ·exact h.elim
 ·exact h.elim
def TD:List T->Gp->Q3->Prop:=λxs G q=>match xs with
 |[.ref p]=>(match getL G p with|some ys=>(match qoM ys with|some k=>q (.bl k) G|none=>False)|none=>False)
 |_=>False
end
section
variable {X:Cx}
def qir {elt tg iter:Expr} {ifs:List Expr} {scope:Scope} {pos cpos:Pos} {N':List Str} {m:List (Option Nat)} {wi:TI} {g:TG} {tif:TT} {te:TE} {use:Option (Value->Sem Unit)} {Qc:Value->Shared->Prop} {QD:Addr->Hp->Prop} (hc:X.calm=true) (hi:PI X tg iter wi)
  (hg:∀ s H fp,PG (qh X N' scope s H fp) tg g) (hf:∀ s H fp,PF (qh X N' scope s H fp) ifs tif) (he:∀ s H fp,PE (qh X N' scope s H fp) elt te)
  (hsc:LF X.env.scope scope=true) (hcap:J1 X.N N' scope m=true) (hs:∀ x,foldedSetIterable iter X.env x=pure x) {pins:List (Addr×Obj)} {s:Shared} {σ:L2.St} {H:Hp} (I:Inv X pins σ H s)
  (h:wi σ H λJ H1=>∀ D,H1 D=none ->
   ∃ W:Nat->Nat->L2.St->Hp->Prop,(∃ n,W 0 n (cap m σ) (upd H1 D (.lst [])))/\∀ i n σ H,W i n σ H ->
    (J.stop i H/\QD D H)\/(J.go i H/\∀ x H',J.yld i H x H'->g x σ H' λσ2 H2=>tif σ2 H2 λk H3=>
     if k=true then te σ2 H3 λy H4=>∃ zs,H4 D=some (.lst zs)/\zs.length<sizeLine/\∃ n',n'<n/\W (i+1) n' σ2 (upd H4 D (.lst (zs++[y])))
     else ∃ n',n'<n/\W (i+1) n' σ2 H3))
  (fin:∀ (D:Addr) (s3:Shared) (H3:Hp) (fp:List Addr) (s6:Shared) (H6:Hp) (σ6:L2.St) (r:Flow),Inv X pins σ H3 s3->(∀ b∈fp,CB X pins H3 b)->Inv (qh X N' scope s3 H3 fp) [] σ6 H6 s6->QD D H6->compPost (model X.prog X.w) X.A X.xe use Qc (.ref D) s3.heap.objs.size (.ok r) s6) :
  wpAny (model X.prog X.w) X.A (comprehension (.ListComp elt [⟨tg,iter,ifs,0⟩] scope pos) scope X.env cpos (newList []) false (eval iter X.env) use) Qc X.xe s:=by
 have sc:=VQ hsc;have hcl:∀ y∈scope.names,y.2=.free->∃ c,X.env.cells.lookup y.1=some c:=λy hy e=>by
  rcases (sc.free y hy e).2 with z|z
  ·exact I.ok.has y.1 (.inl z)
  ·exact I.ok.has y.1 (.inr z)
 refine wpAny_comprehension_free (g:=⟨tg,iter,ifs,0⟩) (gs:=[]) rfl hs (QV hcl) sc.kind sc.loc ?_;show wpAny _ _ (eval iter X.env) _ _ s;refine thn (hi pins s σ H _ I h) λv s1 h1=>thn h1 λitv s2 h2=>?_;obtain ⟨it,fp,tn,J,H2,rfl,I2,T,st2,f2,hW⟩:=h2;refine wpAny_newObj_type ?_;have hD:H2 s2.heap.objs.size=none:=I2.fresh;obtain ⟨W,⟨n0,w0⟩,turn⟩:=hW _ hD;generalize hDe:s2.heap.objs.size=D at *;have I3:Inv X pins σ (upd H2 D (.lst [])) { s2 with heap:=s2.heap.push { cls:=.type "list",dict:=none,data:=.seq ([]:List Value).toArray } }:=by
  subst hDe;exact I2.laid (t':=s2.toks) (λb u e=>y3 _ e) (v5 _) ⟨Nat.zero_le _,[],0,.nil,y4 _ rfl⟩
 have ob2:=T.obj 0 _ st2;have ob3:∀ b∈fp,∃ o,(s2.heap.push { cls:=.type "list",dict:=none,data:=.seq ([]:List Value).toArray }).get? b=some o:=λb hb=>let ⟨o,e,_⟩:=ob2 b hb;⟨o,y3 _ e⟩
 have f3:∀ b∈fp,CB X pins (upd H2 D (.lst [])) b:=λb hb=>by
  obtain ⟨o,e,_⟩:=ob2 b hb;have:b≠D:=by rw [← hDe];exact u7 (y6 e)
  exact ⟨by rw [qt this];exact (f2 b hb).1,(f2 b hb).2⟩
 have k23:∀ b o,s2.heap.get? b=some o->(s2.heap.push { cls:=.type "list",dict:=none,data:=.seq ([]:List Value).toArray }).get? b=some o:=λb o e=>y3 _ e;generalize hH3:upd H2 D (.lst [])=H3 at *;generalize hs3:({ s2 with heap:=s2.heap.push { cls:=.type "list",dict:=none,data:=.seq ([]:List Value).toArray } }:Shared)=s3 at *;have ob3:∀ b∈fp,∃ o,s3.heap.get? b=some o:=by rw [← hs3];exact ob3
 have k23:∀ b o,s2.heap.get? b=some o->s3.heap.get? b=some o:=by rw [← hs3];exact k23
 refine jh λh₁ hns hk hown=>?_;have I4:Inv (qh X N' scope s3 H3 fp) [] (cap m σ) H3 { s3 with heap:=h₁ }:=WI hc I3 sc hcap f3 ob3 hns hk hown;have tn4:tn 0 h₁:=T.keep _ _ _ st2 λb hb o e=>hk b o (k23 b o e);have fr4:∀ b∈fp,H3 b=none:=λb hb=>(f3 b hb).1;have stat:∀ {H':Hp},(∀ b∈fp,H' b=none)->∀ b∈fp,CB (qh X N' scope s3 H3 fp) [] H' b:=λhn b hb=>by
  refine ⟨hn b hb,I4.ok.exf b hb |>.1,I4.ok.exfs b hb,.inl hb,λx c e=>(I4.ok.exf b hb).2 x c e,λp hp=>absurd (show p∈([]:List (Addr×Obj)) from hp) (by simp)⟩
 show codeAny (model X.prog X.w) X.A (.compStart (.ListComp elt [⟨tg,iter,ifs,0⟩] scope pos) 0 (.ref it) (.ref D) (qh X N' scope s3 H3 fp).env) (compPost (model X.prog X.w) X.A X.xe use Qc (.ref D) s3.heap.objs.size) { s3 with heap:=h₁ };have loop:codeAny (model X.prog X.w) X.A (.compLoop (.ListComp elt [⟨tg,iter,ifs,0⟩] scope pos) 0 (.ref it) (.ref D) (qh X N' scope s3 H3 fp).env) (compPost (model X.prog X.w) X.A X.xe use Qc (.ref D) s3.heap.objs.size) { s3 with heap:=h₁ }:=by
  refine codeAny_loop rfl (λn s'=>∃ i σ' H',Inv (qh X N' scope s3 H3 fp) [] σ' H' s'/\tn i s'.heap/\(∀ b∈fp,H' b=none)/\W i n σ' H') (λn s' hI=>?_) n0 ⟨0,cap m σ,H3,I4,tn4,fr4,w0⟩;show wpAny _ X.A ((compTurn (.ListComp elt [⟨tg,iter,ifs,0⟩] scope pos) 0 (.ref it) (.ref D) (qh X N' scope s3 H3 fp).env).onRaise (λx=>do noteFrame x (qh X N' scope s3 H3 fp).env;theTreesLotGoes x)) _ _ s';refine wpAny_noted ?_;rw [compTurn_list];refine x8 (wpAny_standAt (x8 ?_));obtain ⟨i,σ5,H5,I5,st5,fr5,w5⟩:=hI;rcases turn i n σ5 H5 w5 with ⟨stop,q⟩|⟨go,step⟩
  ·refine thn (T.done (qh X N' scope s3 H3 fp) rfl rfl rfl rfl i [] s' σ5 H5 _ I5 (stat fr5) st5 stop) λr s6 ⟨hr,I6⟩=>?_;subst hr;refine x9 ?_;exact fin D s3 H3 fp s6 H5 σ5 _ I3 f3 I6 q
  ·refine thn (T.item (qh X N' scope s3 H3 fp) rfl rfl rfl rfl i [] s' σ5 H5 _ I5 (stat fr5) st5 go) λr s6 ⟨u,hr,h6⟩=>?_;subst hr;refine x8 (thn h6 λ_ s7 ⟨x,H7,I7,r7,y7,st7,fr7⟩=>?_);have I7':=I7.pinned (stat fr7) (T.obj _ _ st7);have again:∀ {σ8:L2.St} {H8:Hp} {s8:Shared},Inv (qh X N' scope s3 H3 fp) ([]++U1 fp s7.heap) σ8 H8 s8->(∃ n',n'<n/\W (i+1) n' σ8 H8) ->
     ∃ m',m'<n/\∃ i σ' H',Inv (qh X N' scope s3 H3 fp) [] σ' H' s8/\tn i s8.heap/\(∀ b∈fp,H' b=none)/\W i m' σ' H':=λ{σ8 H8 s8} I8 ⟨n',hn,w8⟩=>by
    refine ⟨n',hn,i+1,σ8,H8,I8.unpinned,T.keep _ _ _ st7 λb hb o e=>(I8.pin (b,o) (v7 _ (v7 _ (zd hb e)))).1,λb hb=>?_,w8⟩;obtain ⟨o,e,d⟩:=T.obj _ _ st7 b hb;exact (I8.pin (b,o) (v7 _ (v7 _ (zd hb e)))).2.1
   refine x8 (y0 (hg s3 H3 fp _ s7 σ5 H7 x u _ I7' r7 (step x H7 y7)) (λ_ s8 ⟨σ8,H8,I8,q8⟩=>?_) λ_ _ z=>z.elim);refine x8 (y0 (hf s3 H3 fp _ s8 σ8 H8 _ I8 q8) (λk s9 ⟨H9,I9,q9⟩=>?_) λ_ _ z=>z.elim);cases k with
   |false=>
    rw [if_neg y8] at q9;exact x9 ⟨rfl,again I9 q9⟩
   |true=>
    rw [if_pos rfl] at q9;refine x8 (x8 (y0 (he s3 H3 fp _ s9 σ8 H9 _ I9 q9) (λw s10 ⟨y,H10,I10,r10,q10⟩=>?_) λ_ _ z=>z.elim));obtain ⟨zs,hz,hl,q10⟩:=q10;refine x8 (y0 (UW (X:=qh X N' scope s3 H3 fp) _ s10 σ8 H10 (.ref D) [y] (.ref D) [w] (λ_ H11=>H11=upd H10 D (.lst (zs++[y]))) I10 rfl (.cons r10 .nil) ⟨D,zs,y,rfl,rfl,hz,hl,rfl⟩) (λ_ s11 ⟨_,H11,I11,_,e11⟩=>?_) λ_ _ z=>z.elim);subst e11;exact x9 (x9 ⟨rfl,again I11 q10⟩)
 exact codeAny_compStart_list loop (T.self X.A 0 _ _ _ tn4 loop)
def qet {i:Nat} {y:Str} {py spos:Pos} {elt tg iter:Expr} {ifs:List Expr} {scope:Scope} {pos:Pos} {N':List Str} {m:List (Option Nat)} {wi:TI} {g:TG} {tif:TT} {te:TE} (hc:X.calm=true) (hN:X.N.Nodup) (hi:PI X tg iter wi)
  (hg:∀ s H fp,PG (qh X N' scope s H fp) tg g) (hf:∀ s H fp,PF (qh X N' scope s H fp) ifs tif) (he:∀ s H fp,PE (qh X N' scope s H fp) elt te)
  (hsc:LF X.env.scope scope=true) (hcap:J1 X.N N' scope m=true) (hs:∀ x,foldedSetIterable iter X.env x=pure x) (hiy:X.N[i]?=some y) (hl:X.env.scope.names.lookup y=some .local)
  (hsw:swapsWith (.ListComp elt [⟨tg,iter,ifs,0⟩] scope pos) (some (.Name y py)) spos.line X.env=pure true) :
  PS X (.Assign [.Name y py] (.ListComp elt [⟨tg,iter,ifs,0⟩] scope pos) spos) (qoF (tLC wi g tif te m) (qex i)):=by
 intro pins s σ H D I h;rw [exec_Assign_Name_used _ _ _ _ hsw];refine x8 (wpAny_standAt (x8 ?_));show wpAny _ X.A (do let _←comprehension (.ListComp elt [⟨tg,iter,ifs,0⟩] scope pos) scope X.env _ (newList []) false (eval iter X.env) (some (assign (.Name y py) X.env))) _ _ s;refine x8 (y0 (qir (use:=some (assign (.Name y py) X.env)) (QD:=λD' H'=>D.nx (σ.set i (some (.ref D'))) H') (Qc:=λ_ s'=>∃ σ' H',Inv X pins σ' H' s'/\D.nx σ' H') hc hi hg hf he hsc hcap hs I h λD' s3 H3 fp s6 H6 σ6 r I3 f3 I6 q=>?_) (λ_ s' hq=>x9 (x9 hq)) λ_ _ e=>e);have I7:Inv X pins σ H6 s6:=VT (h2:=s6.heap) I3 f3 I6 ⟨rfl,λ_ _=>rfl⟩;obtain ⟨mm,hn6,_⟩:=I6.loc;have hfC:CB X pins H6 s3.heap.objs.size:=I3.fpOk (v5 _) I6.free;obtain ⟨f0,f1,f2,f3',f4,f5⟩:=hfC;show wpAny _ X.A (assign (.Name y py) X.env (.ref D')) _ _ _;refine wpAny_assign_Name (XS I7 hN hiy (.inl hl) (v:=.ref D') rfl (λs8 I8 hch=>?_) (.inr hl));obtain ⟨a,sb,ha⟩:=hch;have hne:s3.heap.objs.size≠a:=by
  rcases ha with rfl|ha
  ·exact f1
  ·exact Ne.symm (f4 _ _ ha)
 refine ⟨mm,hn6.sameBut sb hne,λh' sb'=>⟨_,_,I8.turned (t':=s8.toks) (λb o hb e=>(sb'.2 b hb).trans e) f0 f1 f3' f4 f5,q⟩⟩
end
def qqD {K:Frg} {m:List (Option Nat)} {wi:TI3} {g:TG3} {tif:TT3} {te:TE3} {σ:L2.St} {H:Hp} {Q:VK} (hh:lE K (lc3 wi g tif te m) σ H Q):tLC (lI K wi) (lG K g) (lT K tif) (lE K te) m σ H Q:=by
  obtain ⟨τ,G,q,rl,h,af⟩:=hh;refine ⟨τ,G,_,rl,h,λitems stay G1 h1 J H1 hr1 k1 ok D hD=>?_⟩;have gD:G1 D=none:=hr1.free hD;refine ⟨λi n σ' H'=>n=items.length-i/\i<=items.length/\∃ τ' G' ys vs,Rel K τ' G' σ' H'/\Kp G1 H1 G' H'/\H' D=some (.lst vs)/\Rps K H' ys vs/\G' D=none/\qax stay g tif te q (items.drop i) ys τ' G',
   ⟨_,rfl,Nat.zero_le _,cap m τ,G1,[],[],((rl.next hr1 k1).cap m).next (hr1.laid hD) (Kp.laid hD),Kp.laid hD,qM,.nil,gD,by simpa using h1⟩,?_⟩
  rintro i n σ' H' ⟨rfl,hi,τ',G',ys,vs,rl',k',hDl,rys,gD',h'⟩;by_cases hlt:i<items.length
  ·rw [List.drop_eq_getElem_cons hlt] at h';obtain ⟨hst,h'⟩:=h';obtain ⟨go,yld,_⟩:=ok G' H' rl'.hp k' hst;have hx:items[i]?=some items[i]:=v0 hlt;refine .inr ⟨go i _ hx,λv H2 y=>?_⟩;obtain ⟨rv,hr2,k2⟩:=yld i _ v H2 hx y;have nxt:∀ {τ4:St3} {G4:Gp} {σ4:L2.St} {H4:Hp} {ys4:List T} {vs4:List V},Rel K τ4 G4 σ4 H4->Kp G1 H1 G4 H4->H4 D=some (.lst vs4)->Rps K H4 ys4 vs4->G4 D=none->qax stay g tif te q (items.drop (i+1)) ys4 τ4 G4 ->
     ∃ n',n'<items.length-i/\(n'=items.length-(i+1)/\i+1<=items.length/\∃ τ' G' ys vs,Rel K τ' G' σ4 H4/\Kp G1 H1 G' H4/\H4 D=some (.lst vs)/\Rps K H4 ys vs/\G' D=none/\qax stay g tif te q (items.drop (i+1)) ys τ' G'):=
    λ{τ4 G4 σ4 H4 ys4 vs4} a b c d e f=>⟨_,by omega,rfl,hlt,τ4,G4,ys4,vs4,a,b,c,d,e,f⟩
   refine ⟨_,τ',G',_,rv,rl'.next hr2 k2,h',λτ3 G3 h3 σ3 H3 rl3 k3=>⟨τ3,G3,_,rl3,h3,λk G4 h4 H4 hr4 k4=>?_⟩⟩;have kk:=(k2.trans k3).trans k4;obtain ⟨hD4,gD4⟩:=kk D _ hDl gD';have rys4:=rys.keep rl'.hp kk;cases k with
   |false=>
    rw [if_neg y8] at h4;refine qkz ?_;exact nxt (rl3.next hr4 k4) (k'.trans kk) hD4 rys4 gD4 h4
   |true=>
    rw [if_pos rfl] at h4;refine qne ?_;refine ⟨τ3,G4,_,rl3.next hr4 k4,h4,λz G5 h5 w H5 rw5 hr5 k5=>?_⟩;obtain ⟨hD5,gD5⟩:=k5 D _ hD4 gD4;have rys5:=rys4.keep hr4 k5;exact ⟨vs,hD5,by rw [← rys.length];exact h5.1,nxt (((rl3.next hr4 k4).next hr5 k5).wrD hD5 gD5) (((k'.trans kk).trans k5).wrD hD) qM ((rys5.append (.cons rw5 .nil)).wrD hD5) gD5 h5.2⟩
  ·have e:i=items.length:=by omega
   subst e;rw [List.drop_length] at h';obtain ⟨_,_,stop⟩:=ok G' H' rl'.hp k' h'.1;refine .inl ⟨stop,af _ _ (h'.2 D gD') _ H' (.ref D) (λa o e=>?_) λa o e ga=>?_⟩
   ·by_cases ha:a=D
    ·subst ha;rw [qu] at e;cases e;exact ⟨vs,hDl,rys⟩
    ·rw [zu ha] at e;exact rl'.hp a o e
   ·obtain ⟨e1,g1⟩:=k1 a o e ga;obtain ⟨e2,g2⟩:=k' a o e1 g1;exact ⟨e2,by rw [zu (qw e1 hD)];exact g2⟩
def qhm {X:Cx} {py spos:Pos} {elt tg iter:Expr} {ifs:List Expr} {scope:Scope} {pos:Pos} {y:Str} (i:Nat) (N':List Str) (m:List (Option Nat)) {wi:TI3} {g:TG3} {tif:TT3} {te:TE3} (hc:X.calm=true) (hN:X.N.Nodup) (hi:I3 X tg iter wi)
  (hg:∀ s H fp,G3 (qh X N' scope s H fp) tg g) (hf:∀ s H fp,F3 (qh X N' scope s H fp) ifs tif) (he:∀ s H fp,E3 (qh X N' scope s H fp) elt te)
  (hsc:LF X.env.scope scope=true) (hcap:J1 X.N N' scope m=true) (hl:X.env.scope.names.lookup y=some .local) (hsw:swapsWith (.ListComp elt [⟨tg,iter,ifs,0⟩] scope pos) (some (.Name y py)) spos.line X.env=pure true) (hiy:X.N[i]?=some y:=by rfl) (hs:∀ x,foldedSetIterable iter X.env x=pure x:=by intro _;rfl) :
  S3 X (.Assign [.Name y py] (.ListComp elt [⟨tg,iter,ifs,0⟩] scope pos) spos) (qN (lc3 wi g tif te m) (gn3 i)):=
 MH (qet (g:=lG X.K g) (tif:=lT X.K tif) (te:=lE X.K te) hc hN hi hg hf he hsc hcap hs hiy hl hsw) λ_ σ H ⟨τ,G,d,rl,h,af⟩=>
  qqD ⟨τ,G,_,rl,h,λx G1 h1 v H1 rx hr1 k1=>af.nx _ G1 h1 _ H1 ((rl.next hr1 k1).set i rx) k1⟩
end L3
set_option autoImplicit true
namespace L3
open PySem PySem.Spec PyProof.Rows L2
structure jE3 (X:Cx) (e:Expr) (t:TE3):Prop where h:E3 X e t
structure jC3 (X:Cx) (e:Expr) (t:TT3):Prop where h:C3 X e t
structure jW3 (X:Cx) (e:Expr) (t:TT3):Prop where h:W3 X e t
structure jA3 (X:Cx) (e:List Expr) (t:TA3):Prop where h:A3 X e t
structure jP3 (X:Cx) (e:Option Expr) (t:TO3):Prop where h:P3 X e t
structure jS3 (X:Cx) (e:Stmt) (t:TS3):Prop where h:S3 X e t
structure jB3 (X:Cx) (e:List Stmt) (t:TS3):Prop where h:B3 X e t
structure jG3 (X:Cx) (e:Expr) (t:TG3):Prop where h:G3 X e t
structure jGs3 (X:Cx) (e:List Expr) (t:LD):Prop where h:Gs3 X e t
structure jI3 (X:Cx) (tg e:Expr) (t:TI3):Prop where h:I3 X tg e t
structure jF3 (X:Cx) (e:List Expr) (t:TT3):Prop where h:F3 X e t
def qb {X:Cx} (i:Nat) {x:Str} {pos:Pos} (hN:X.N[i]?=some x:=by rfl) (hv:Vis X.env.scope x:=by first|exact Or.inl rfl|exact Or.inr (Or.inl rfl)|exact Or.inr (Or.inr rfl)) (hd:(x==("__debug__" : Str))=false:=by decide)
  (hcd:(x==("__classdict__" : Str))=false:=by decide):jE3 X (.Name x pos) (v3 i):=
 ⟨qqJ (i:=i) (hN:=hN) (hv:=hv) (hd:=hd) (hcd:=hcd)⟩
def qi {X:Cx} {i:Int} {j pos}:jE3 X (.Constant (.int i) j pos) (c3 (.int i)):=
 ⟨qqG ⟩
def YE {X:Cx} {b:Bool} {j pos}:jE3 X (.Constant (.bool b) j pos) (c3 (.bl b)):=
 ⟨qsm ⟩
def qgA {X:Cx} {j pos}:jE3 X (.Constant .none j pos) (c3 .non):=
 ⟨qpF ⟩
def jJ {X:Cx} {x:Str} {j pos}:jE3 X (.Constant (.str x) j pos) (c3 (.str x)):=
 ⟨qpj ⟩
def VF {ta:TE3} {tb:TE3} {pos:Pos} {a:Expr} {b:Expr} {X:Cx} {op:CmpOp} {r3:R3} {r:R2} (ho:OpR X (compareOp op) r) (hr:LB X.K r3 r) (ha:jE3 X a ta) (hb:jE3 X b tb) (hm:behindInMarks op b=false):jE3 X (.Compare a [op] [b] pos) (o3 r3 ta tb):=
 ⟨qpO (ho:=ho) (hr:=hr) (ha:=ha.h) (hb:=hb.h) (hm:=hm)⟩
def z3 {ta:TE3} {tb:TE3} {pos:Pos} {a:Expr} {b:Expr} {X:Cx} {op:CmpOp} {r3:R3} {r:R2} (ho:OpR X (compareOp op) r) (hr:LB X.K r3 r) (ha:jE3 X a ta) (hb:jE3 X b tb) (hm:behindInMarks op b=false):jC3 X (.Compare a [op] [b] pos) (tb3 (o3 r3 ta tb)):=
 ⟨qp0 (ho:=ho) (hr:=hr) (ha:=ha.h) (hb:=hb.h) (hm:=hm)⟩
def QC {ta:TE3} {tb:TE3} {pos:Pos} {a:Expr} {b:Expr} {X:Cx} (ha:jE3 X a ta) (hb:jE3 X b tb):jE3 X (.BinOp a .Mult b pos) (o3 (iC US (·*·)) ta tb):=
 ⟨qpY (ha:=ha.h) (hb:=hb.h)⟩
def VL {ta:TE3} {tb:TE3} {pos:Pos} {a:Expr} {b:Expr} {X:Cx} (ha:jE3 X a ta) (hb:jE3 X b tb):jE3 X (.BinOp a .Mod b pos) (o3 (iC (λ_ j=>0<j) (·%·)) ta tb):=
 ⟨qqN (ha:=ha.h) (hb:=hb.h)⟩
def XC {ta:TE3} {tb:TE3} {pos:Pos} {a:Expr} {b:Expr} {X:Cx} (ha:jE3 X a ta) (hb:jE3 X b tb):jE3 X (.BinOp a .FloorDiv b pos) (o3 (iC LG (·/·)) ta tb):=
 ⟨qqA (ha:=ha.h) (hb:=hb.h)⟩
def qjK {ta:TE3} {tb:TE3} {pos:Pos} {a:Expr} {b:Expr} {X:Cx} (ha:jE3 X a ta) (hb:jE3 X b tb):jE3 X (.BinOp a .Pow b pos) (o3 (iC qau (λi j=>i ^ j.toNat)) ta tb):=
 ⟨qpA (ha:=ha.h) (hb:=hb.h)⟩
def LL {ta:TE3} {tb:TE3} {pos:Pos} {a:Expr} {b:Expr} {X:Cx} (ha:jE3 X a ta) (hb:jE3 X b tb):jE3 X (.BinOp a .BitAnd b pos) (o3 (iI Builtin.bitAnd) ta tb):=
 ⟨qlA (ha:=ha.h) (hb:=hb.h)⟩
def MS {ta:TE3} {tb:TE3} {pos:Pos} {a:Expr} {b:Expr} {X:Cx} (ha:jE3 X a ta) (hb:jE3 X b tb):jE3 X (.BinOp a .LShift b pos) (o3 (iC qau (λi j=>i*2 ^ j.toNat)) ta tb):=
 ⟨qpJ (ha:=ha.h) (hb:=hb.h)⟩
def qnF {ta:TE3} {tb:TE3} {pos:Pos} {a:Expr} {b:Expr} {X:Cx} (ha:jE3 X a ta) (hb:jE3 X b tb):jE3 X (.BinOp a .RShift b pos) (o3 (iC (λ_ j=>0<=j) (λi j=>i/2 ^ j.toNat)) ta tb):=
 ⟨qpt (ha:=ha.h) (hb:=hb.h)⟩
def NP {tA:TT3} {pos:Pos} {a:Expr} {X:Cx} (ha:jC3 X a tA):jW3 X (.BoolOp .Or [a] pos) tA:=
 ⟨qpB (ha:=ha.h)⟩
def qdp {Z1:List Expr} {tA:TT3} {tB:TT3} {pos:Pos} {a:Expr} {X:Cx} (ha:jC3 X a tA) (hb:jW3 X (.BoolOp .Or (b::Z1) pos) tB):jW3 X (.BoolOp .Or (a::b::Z1) pos) (or3 tA tB):=
 ⟨qsd (ha:=ha.h) (hb:=hb.h)⟩
def XT {tA:TT3} {pos:Pos} {a:Expr} {X:Cx} (ha:jC3 X a tA):jC3 X (.UnaryOp .Not a pos) (UX tA):=
 ⟨qpy (ha:=ha.h)⟩
def VZ {X:Cx} {e:Expr} {t:TE3} (h:jE3 X e t) (he:∀ whole,isTrue e X.env whole=(do let v←whole;standAt e.pos;holding [v] (truthy v)):=by intro _;rfl):jC3 X e (tb3 t):=
 ⟨qoY (h:=h.h) (he:=he)⟩
def S0 {ta:TE3} {pos:Pos} {a:Expr} {X:Cx} {op} (h:jE3 X a ta):jE3 X (.BoolOp op [a] pos) ta:=
 ⟨qqo (h:=h.h)⟩
def C1 {Z1:List Expr} {ta:TE3} {tb:TE3} {pos:Pos} {a:Expr} {X:Cx} (ha:jE3 X a ta) (hb:jE3 X (.BoolOp .And (b::Z1) pos) tb):jE3 X (.BoolOp .And (a::b::Z1) pos) (j0 ta tb):=
 ⟨qq1 (ha:=ha.h) (hb:=hb.h)⟩
def qqL {Z1:List Expr} {ta:TE3} {tb:TE3} {pos:Pos} {a:Expr} {X:Cx} (ha:jE3 X a ta) (hb:jE3 X (.BoolOp .Or (b::Z1) pos) tb):jE3 X (.BoolOp .Or (a::b::Z1) pos) (CA ta tb):=
 ⟨qsf (ha:=ha.h) (hb:=hb.h)⟩
def qlR {ta:TE3} {pos:Pos} {a:Expr} {X:Cx} (ha:jE3 X a ta):jE3 X (.UnaryOp .Not a pos) (Z5 ta):=
 ⟨qqt (ha:=ha.h)⟩
def qdz {tA:TT3} {ta:TE3} {tb:TE3} {pos:Pos} {a:Expr} {b:Expr} {X:Cx} {c:Expr} (hc:jC3 X c tA) (ha:jE3 X a ta) (hb:jE3 X b tb):jE3 X (.IfExp c a b pos) (if3 tA ta tb):=
 ⟨qse (hc:=hc.h) (ha:=ha.h) (hb:=hb.h)⟩
def qd {X:Cx} :jA3 X [] qk:=
 ⟨qpQ ⟩
def qa {te:TE3} {t:TA3} {es:List Expr} {X:Cx} (ha:jE3 X e te) (hr:jA3 X es t) (hs:starEach (e::es) X.env=(false,eval e X.env)::starEach es X.env:=by rfl):jA3 X (e::es) (qc te t):=
 ⟨qlC (ha:=ha.h) (hr:=hr.h) (hs:=hs)⟩
def qX {t:TA3} {pos:Pos} {es:List Expr} {X:Cx} {x1} (h:jA3 X es t):jE3 X (.Tuple es x1 pos) (j8 t):=
 ⟨qqm (h:=h.h)⟩
def zU {t:TA3} {pos:Pos} {es:List Expr} {X:Cx} (h:jA3 X es t):jE3 X (.List es pos) (jX t):=
 ⟨qpT (h:=h.h)⟩
def qQ {t:TA3} {pos:Pos} {es:List Expr} {X:Cx} {x:Str} {p:Pos} {id:String} {r3:List T->Gp->Q3->Prop} {r:List V->Hp->VK->Prop} (hc:J5 X (.builtin id) r) (hr:MM X.K r3 r) (hg:Gl X x) (hm:X.mg x=none) (hv:bootBuiltins x=some (.builtin id)) (ha:jA3 X (e::es) t) (hn:x≠"__name__" := by decide) (hdb:(x==("__debug__" : Str))=false:=by decide)
  (he:starEach (e::es) X.env=(false,eval e X.env)::starEach es X.env:=by rfl) (hpl:(backTo pos (starEach es X.env)).any (·.1)=false:=by rfl):jE3 X (.Call (.Name x p) (e::es) [] pos) (cb3 r3 t):=
 ⟨qhU (hc:=hc) (hr:=hr) (hg:=hg) (hm:=hm) (hv:=hv) (ha:=ha.h) (hn:=hn) (hdb:=hdb) (he:=he) (hpl:=hpl)⟩
def zq {t:TA3} {pos:Pos} {es:List Expr} {X:Cx} {x:Str} {p:Pos} {ty:String} {r3:List T->Gp->Q3->Prop} {r:List V->Hp->VK->Prop} (hc:J5 X (.type ty) r) (hr:MM X.K r3 r) (hg:Gl X x) (hm:X.mg x=none) (hv:bootBuiltins x=some (.type ty)) (ha:jA3 X (e::es) t) (hn:x≠"__name__" := by decide) (hdb:(x==("__debug__" : Str))=false:=by decide)
  (he:starEach (e::es) X.env=(false,eval e X.env)::starEach es X.env:=by rfl) (hpl:(backTo pos (starEach es X.env)).any (·.1)=false:=by rfl):jE3 X (.Call (.Name x p) (e::es) [] pos) (cb3 r3 t):=
 ⟨qeJ (hc:=hc) (hr:=hr) (hg:=hg) (hm:=hm) (hv:=hv) (ha:=ha.h) (hn:=hn) (hdb:=hdb) (he:=he) (hpl:=hpl)⟩
def qU {ta:TE3} {tb:TE3} {pos:Pos} {a:Expr} {b:Expr} {X:Cx} (ha:jE3 X a ta) (hb:jE3 X b tb) (hs:MG b:=by intro _ _;rfl):jE3 X (.Subscript a b pos) (o3 ix3 ta tb):=
 ⟨qrU (ha:=ha.h) (hb:=hb.h) (hs:=hs)⟩
def qh2 {X:Cx} :jP3 X none np3:=
 ⟨qn3 ⟩
def qha {te:TE3} {e:Expr} {X:Cx} (h:jE3 X e te):jP3 X (some e) (sp3 te):=
 ⟨qoh (h:=h.h)⟩
def qdH {te:TE3} {pos:Pos} {e:Expr} {X:Cx} {lo hi:Option Expr} {tl th:TO3} {p2:Pos} (he:jE3 X e te) (hl:jP3 X lo tl) (hu:jP3 X hi th):jE3 X (.Subscript e (.Slice lo hi none p2) pos) (X6 te tl th):=
 ⟨qg7 (he:=he.h) (hl:=hl.h) (hu:=hu.h)⟩
def zj {ta:TE3} {tb:TE3} {pos:Pos} {a:Expr} {b:Expr} {X:Cx} (ha:jE3 X a ta) (hb:jE3 X b tb):jE3 X (.BinOp a .Add b pos) (o3 jS ta tb):=
 ⟨qjZ (ha:=ha.h) (hb:=hb.h)⟩
def JE {t:TA3} {e:Expr} {X:Cx} {o:Expr} {to:TE3} {apos cpos:Pos} (ho:jE3 X o to) (ha:jA3 X [e] t)
  (hbase:attributeBase o "append" X.env (eval o X.env)=eval o X.env:=by rfl)
  (hfew:((backTo cpos (starEach [e] X.env)).all (λx=>!x.1)&&(backToKw cpos (keywordEach [] X.env)).all (λx=>x.1.isSome)
   && decide (([e]:List Expr).length+([]:List Keyword).length+(if ([]:List Keyword).isEmpty then 0 else 1)<30))=true:=by rfl)
  (hline:(apos.endLine==cpos.line)=true:=by rfl) (hs:starEach [e] X.env=(false,eval e X.env)::starEach [] X.env:=by rfl) (hplain:(backTo cpos (starEach [] X.env)).any (·.1)=false:=by rfl):jE3 X (.Call (.Attribute o "append" apos) [e] [] cpos) (bm3 JO to t):=
 ⟨qeB (ho:=ho.h) (ha:=ha.h) (hbase:=hbase) (hfew:=hfew) (hline:=hline) (hs:=hs) (hplain:=hplain)⟩
def qaY {t:TA3} {e:Expr} {X:Cx} {o:Expr} {to:TE3} {apos cpos:Pos} (ho:jE3 X o to) (ha:jA3 X [e] t)
  (hbase:attributeBase o "extend" X.env (eval o X.env)=eval o X.env:=by rfl)
  (hfew:((backTo cpos (starEach [e] X.env)).all (λx=>!x.1)&&(backToKw cpos (keywordEach [] X.env)).all (λx=>x.1.isSome)
   && decide (([e]:List Expr).length+([]:List Keyword).length+(if ([]:List Keyword).isEmpty then 0 else 1)<30))=true:=by rfl)
  (hline:(apos.endLine==cpos.line)=true:=by rfl) (hs:starEach [e] X.env=(false,eval e X.env)::starEach [] X.env:=by rfl) (hplain:(backTo cpos (starEach [] X.env)).any (·.1)=false:=by rfl):jE3 X (.Call (.Attribute o "extend" apos) [e] [] cpos) (bm3 D6 to t):=
 ⟨qee (ho:=ho.h) (ha:=ha.h) (hbase:=hbase) (hfew:=hfew) (hline:=hline) (hs:=hs) (hplain:=hplain)⟩
def TZ {te:TE3} {pos:Pos} {e:Expr} {X:Cx} {tn:Str} {ty:String} {p p2:Pos} (he:jE3 X e te) (hg:Gl X "isinstance") (hm:X.mg "isinstance" = none) (hg2:Gl X tn) (hm2:X.mg tn=none) (hv:bootBuiltins tn=some (.type ty)) (hmem:ty∈L8:=by decide) (hn:tn≠"__name__" := by decide) (hdb:(tn==("__debug__" : Str))=false:=by decide)
  (hs:starEach [e,.Name tn p2] X.env=(false,eval e X.env)::starEach [.Name tn p2] X.env:=by rfl) (hs2:starEach [.Name tn p2] X.env=(false,eval (.Name tn p2) X.env)::starEach [] X.env:=by rfl) (hpl:(backTo pos (starEach [.Name tn p2] X.env)).any (·.1)=false:=by rfl):jE3 X (.Call (.Name "isinstance" p) [e,.Name tn p2] [] pos) (DX (λt=>VB t ty) te):=
 ⟨qpn (he:=he.h) (hg:=hg) (hm:=hm) (hg2:=hg2) (hm2:=hm2) (hv:=hv) (hmem:=hmem) (hn:=hn) (hdb:=hdb) (hs:=hs) (hs2:=hs2) (hpl:=hpl)⟩
def jC {X:Cx} :jB3 X [] qZ:=
 ⟨qpI ⟩
def qj {Z1:List Stmt} {st:Stmt} {t1:TS3} {t2:TS3} {X:Cx} (h1:jS3 X st t1) (h2:jB3 X Z1 t2):jB3 X (st::Z1) (qF t1 t2):=
 ⟨qkI (h1:=h1.h) (h2:=h2.h)⟩
def qq {st:Stmt} {t1:TS3} {X:Cx} (h1:jS3 X st t1):jB3 X [st] t1:=
 ⟨qqP (h1:=h1.h)⟩
def QP {te:TE3} {pos:Pos} {e:Expr} {X:Cx} (he:jE3 X e te) (hs:swapsWith e none pos.line X.env=pure false:=by rfl):jS3 X (.Expr e pos) (q5 te):=
 ⟨qni (he:=he.h) (hs:=hs)⟩
def qA {te:TE3} {pos:Pos} {e:Expr} {X:Cx} (he:jE3 X e te):jS3 X (.Return (some e) pos) (zm te):=
 ⟨qpS (he:=he.h)⟩
def JB {tA:TT3} {t1:TS3} {t2:TS3} {pos:Pos} {X:Cx} {c:Expr} {ba bb:List Stmt} (hc:jC3 X c tA) (ha:jB3 X ba t1) (hb:jB3 X bb t2):jS3 X (.If c ba bb pos) (ZC tA t1 t2):=
 ⟨qsc (hc:=hc.h) (ha:=ha.h) (hb:=hb.h)⟩
def RF {X:Cx} {sts:List Stmt}:jB3 X sts WA:=
 ⟨qiC ⟩
def qr {pos:Pos} {X:Cx} {i:Nat} {x:Str} (hN:X.N.Nodup) (hi:X.N[i]?=some x:=by rfl) (hx:Loc X.env.scope x:=by first|exact Or.inl rfl|exact Or.inr rfl) (hf:X.fn x=true\/X.env.scope.names.lookup x=some .local:=by first|exact .inl rfl|exact .inr rfl):jG3 X (.Name x pos) (gn3 i):=
 ⟨qjm (hN:=hN) (hi:=hi) (hx:=hx) (hf:=hf)⟩
def QA {X:Cx} :jGs3 X [] zG:=
 ⟨qqr ⟩
def qv {es:List Expr} {X:Cx} {tg:TG3} {tgs:LD} (h1:jG3 X e tg) (h2:jGs3 X es tgs) (hs:(assignEach (e::es) X.env).map (·.2)=assign e X.env::(assignEach es X.env).map (·.2):=by rfl):jGs3 X (e::es) (qo tg tgs):=
 ⟨qlr (h1:=h1.h) (h2:=h2.h) (hs:=hs)⟩
def QL {pos:Pos} {es:List Expr} {X:Cx} {k:Nat} {tgs:LD} {n:Nat} (hc:X.calm=true) (h:jGs3 X es tgs) (hn:(assignEach es X.env).length=n:=by rfl) (hst:(assignEach es X.env).findIdx? (·.1)=none:=by rfl):jG3 X (.Tuple es k pos) (zH n tgs):=
 ⟨qqH (hc:=hc) (h:=h.h) (hn:=hn) (hst:=hst)⟩
def qb6 {pos : Pos} {X : Cx} {o i : Expr} {to ti : TE3} (ho : jE3 X o to) (hi : jE3 X i ti) (ha : ∀ v,assign (.Subscript o i pos) X.env v = (do
      let ov←holding [v] (eval o X.env)
      let iv←holding [v,ov] (eval i X.env)
      standAt pos
      holding [v,ov,iv] (setItem ov iv v)
      release [v,ov,iv] []):=by intro _;rfl):jG3 X (.Subscript o i pos) (jE to ti):=
  ⟨qqY (ho:=ho.h) (hi:=hi.h) (ha:=ha)⟩
def Q9 {te:TE3} {pos:Pos} {X:Cx} {tg e:Expr} {g:TG3} (he:jE3 X e te) (hg:jG3 X tg g) (hs:swapsWithSole [tg] e pos.line X.env=pure false:=by rfl) (hw:swappedStores [tg] e X.env=pure none:=by rfl)
  (h1:(assignEach [tg] X.env).map (·.2)=[assign tg X.env]:=by rfl):jS3 X (.Assign [tg] e pos) (qN te g):=
 ⟨qqp (he:=he.h) (hg:=hg.h) (hs:=hs) (hw:=hw) (h1:=h1)⟩
def qL {te:TE3} {pos:Pos} {X:Cx} (i:Nat) {x:Str} {e:Expr} {pos':Pos} (hN:X.N.Nodup) (he:jE3 X e te) (hi:X.N[i]?=some x:=by rfl) (hx:Loc X.env.scope x:=by first|exact Or.inl rfl|exact Or.inr rfl) (hs:swapsWith e (some (.Name x pos')) pos.line X.env=pure false:=by rfl) (hf:X.fn x=true\/X.env.scope.names.lookup x=some .local:=by first|exact .inl rfl|exact .inr rfl):jS3 X (.Assign [.Name x pos'] e pos) (qN te (gn3 i)):=
 ⟨qpq (i:=i) (hN:=hN) (he:=he.h) (hi:=hi) (hx:=hx) (hs:=hs) (hf:=hf)⟩
def qa5 {pos:Pos} {X:Cx} {i j:Nat} {x y:Str} {a b:Expr} {tt:TA3} {px py pt:Pos} {kt k2 pt2} (hc:X.calm=true) (hN:X.N.Nodup) (hi:X.N[i]?=some x) (hj:X.N[j]?=some y) (hij:i≠j)
  (hx:X.env.scope.names.lookup x=some .local) (hy:X.env.scope.names.lookup y=some .local) (ha:jA3 X [a,b] tt)
  (hw:swappedStores [.Tuple [.Name x px,.Name y py] kt pt] (.Tuple [a,b] k2 pt2) X.env=pure (some [x,y]):=by rfl)
  (hs:swapsWithSole [.Tuple [.Name x px,.Name y py] kt pt] (.Tuple [a,b] k2 pt2) pos.line X.env=pure false:=by rfl):jS3 X (.Assign [.Tuple [.Name x px,.Name y py] kt pt] (.Tuple [a,b] k2 pt2) pos) (DZ i j tt):=
 ⟨qpN (hc:=hc) (hN:=hN) (hi:=hi) (hj:=hj) (hij:=hij) (hx:=hx) (hy:=hy) (ha:=ha.h) (hw:=hw) (hs:=hs)⟩
def YL {te:TE3} {X:Cx} {tg:Expr} {l:Expr} (hl:jE3 X l te):jI3 X tg l (YH te):=
 ⟨qqa (hl:=hl.h)⟩
def qI {t:TA3} {pos:Pos} {a:Expr} {X:Cx} {tg:Expr} {p:Pos} (hg:Gl X "range") (hm:X.mg "range" = none) (ha:jA3 X [a] t) (hs:starEach [a] X.env=[(false,eval a X.env)]:=by rfl) (h1:∀ τ G q,t τ G q->t τ G λxs G=>q xs G/\xs.length=1):jI3 X tg (.Call (.Name "range" p) [a] [] pos) (jy t):=
 ⟨qeH (hg:=hg) (hm:=hm) (ha:=ha.h) (hs:=hs) (h1:=h1)⟩
def KT {t:TA3} {pos:Pos} {a:Expr} {b:Expr} {X:Cx} {tg:Expr} {p:Pos} (hg:Gl X "range") (hm:X.mg "range" = none) (ha:jA3 X [a,b] t) (hs:starEach [a,b] X.env=[(false,eval a X.env),(false,eval b X.env)]:=by rfl) (hs2:starEach [b] X.env=[(false,eval b X.env)]:=by rfl) (h1:∀ τ G q,t τ G q->t τ G λxs G=>q xs G/\xs.length=2):jI3 X tg (.Call (.Name "range" p) [a,b] [] pos) (jy t):=
 ⟨qdo (hg:=hg) (hm:=hm) (ha:=ha.h) (hs:=hs) (hs2:=hs2) (h1:=h1)⟩
def V2 {pos:Pos} {X:Cx} {tg:Expr} {iter:Expr} {body:List Stmt} {wi:TI3} {g:TG3} {tb:TS3} (hp:PassesOwn (model X.prog X.w) X.A X.env X.xe) (hc:X.calm=true) (hi:jI3 X tg iter wi) (hg:jG3 X tg g) (hb:jB3 X body tb)
  (hs:∀ x,foldedSetIterable iter X.env x=pure x:=by intro _;rfl):jS3 X (.For tg iter body [] pos) (C8 wi g tb):=
 ⟨qqT (hp:=hp) (hc:=hc) (hi:=hi.h) (hg:=hg.h) (hb:=hb.h) (hs:=hs)⟩
def NO {pos:Pos} {X:Cx} {c:Expr} {body:List Stmt} {tc:TT3} {tb:TS3} (hp:PassesOwn (model X.prog X.w) X.A X.env X.xe) (hc:jC3 X c tc) (hb:jB3 X body tb):jS3 X (.While c body [] pos) (C7 tc tb):=
 ⟨qiH (hp:=hp) (hc:=hc.h) (hb:=hb.h)⟩
def ql {t:TA3} {pos:Pos} {es:List Expr} {X:Cx} {k:Nat} {x:Str} {p:Pos} {sp:Sp3} (F:Fn3 X.prog X.w X.K X.mg X.base k x sp) (hr:Room k X.A) (hg:Gl X x) (ha:jA3 X (e::es) t) (hdb:(x==("__debug__" : Str))=false:=by decide)
  (he:starEach (e::es) X.env=(false,eval e X.env)::starEach es X.env:=by rfl) (hpl:(backTo pos (starEach es X.env)).any (·.1)=false:=by rfl):jE3 X (.Call (.Name x p) (e::es) [] pos) (cb3 sp t):=
 ⟨qm9 (F:=F) (hr:=hr) (hg:=hg) (ha:=ha.h) (hdb:=hdb) (he:=he) (hpl:=hpl)⟩
def UI {X:Cx} {elt tg iter:Expr} {ifs:List Expr} {scope:Scope} {pos:Pos} (N':List Str) (m:List (Option Nat)) {wi:TI3} {g:TG3} {tif:TT3} {te:TE3} (hc:X.calm=true) (hi:jI3 X tg iter wi)
  (hg:∀ s H fp,jG3 (qh X N' scope s H fp) tg g) (hf:∀ s H fp,jF3 (qh X N' scope s H fp) ifs tif) (he:∀ s H fp,jE3 (qh X N' scope s H fp) elt te)
  (hsc:LF X.env.scope scope=true) (hcap:J1 X.N N' scope m=true) (hs:∀ x,foldedSetIterable iter X.env x=pure x:=by intro _;rfl):jE3 X (.ListComp elt [⟨tg,iter,ifs,0⟩] scope pos) (lc3 wi g tif te m):=
 ⟨qsv (N':=N') (m:=m) (hc:=hc) (hi:=hi.h) (hg:=(λs H fp=>(hg s H fp).h)) (hf:=(λs H fp=>(hf s H fp).h)) (he:=(λs H fp=>(he s H fp).h)) (hsc:=hsc) (hcap:=hcap) (hs:=hs)⟩
def zT {X:Cx}:jF3 X [] tt3:=
 ⟨qpE ⟩
def qjs {X:Cx} {c:Expr} {t:TT3} (h:jC3 X c t):jF3 X [c] t:=
 ⟨qpw (h:=h.h)⟩
def qlH {t:TA3} {pos:Pos} {es:List Expr} {a:Expr} {b:Expr} {X:Cx} {p pt:Pos} {k1:Nat} (hg:Gl X "zip") (hm:X.mg "zip" = none) (ha:jA3 X [a,b] t) (hs:starEach [a,b] X.env=[(false,eval a X.env),(false,eval b X.env)]:=by rfl) (hs2:starEach [b] X.env=[(false,eval b X.env)]:=by rfl):jI3 X (.Tuple es k1 pt) (.Call (.Name "zip" p) [a,b] [] pos) (qdK t):=
 ⟨qqQ (hg:=hg) (hm:=hm) (ha:=ha.h) (hs:=hs) (hs2:=hs2)⟩
def qcf {t:TA3} {pos:Pos} {es:List Expr} {a:Expr} {X:Cx} {p pt:Pos} {k1:Nat} (hg:Gl X "enumerate") (hm:X.mg "enumerate" = none) (ha:jA3 X [a] t) (hs:starEach [a] X.env=[(false,eval a X.env)]:=by rfl):jI3 X (.Tuple es k1 pt) (.Call (.Name "enumerate" p) [a] [] pos) (CJ t):=
 ⟨qlv (hg:=hg) (hm:=hm) (ha:=ha.h) (hs:=hs)⟩
def qa2 {te:TE3} {pos:Pos} {e:Expr} {X:Cx} (i:Nat) {x:Str} {pos':Pos} (hN:X.N.Nodup) (he:jE3 X e te) (hi:X.N[i]?=some x:=by rfl) (hx:Loc X.env.scope x:=by first|exact Or.inl rfl|exact Or.inr rfl) (hf:X.fn x=true\/X.env.scope.names.lookup x=some .local:=by first|exact .inl rfl|exact .inr rfl):jS3 X (.AugAssign (.Name x pos') .Add e pos) (X7 i (iI (·+·)) te):=
 ⟨qen (i:=i) (hN:=hN) (he:=he.h) (hi:=hi) (hx:=hx) (hf:=hf)⟩
def qem {X:Cx} {py spos:Pos} {elt tg iter:Expr} {ifs:List Expr} {scope:Scope} {pos:Pos} {y:Str} (i:Nat) (N':List Str) (m:List (Option Nat)) {wi:TI3} {g:TG3} {tif:TT3} {te:TE3} (hc:X.calm=true) (hN:X.N.Nodup) (hi:jI3 X tg iter wi)
  (hg:∀ s H fp,jG3 (qh X N' scope s H fp) tg g) (hf:∀ s H fp,jF3 (qh X N' scope s H fp) ifs tif) (he:∀ s H fp,jE3 (qh X N' scope s H fp) elt te)
  (hsc:LF X.env.scope scope=true) (hcap:J1 X.N N' scope m=true) (hl:X.env.scope.names.lookup y=some .local) (hsw:swapsWith (.ListComp elt [⟨tg,iter,ifs,0⟩] scope pos) (some (.Name y py)) spos.line X.env=pure true) (hiy:X.N[i]?=some y:=by rfl) (hs:∀ x,foldedSetIterable iter X.env x=pure x:=by intro _;rfl):jS3 X (.Assign [.Name y py] (.ListComp elt [⟨tg,iter,ifs,0⟩] scope pos) spos) (qN (lc3 wi g tif te m) (gn3 i)):=
 ⟨qhm (i:=i) (N':=N') (m:=m) (hc:=hc) (hN:=hN) (hi:=hi.h) (hg:=(λs H fp=>(hg s H fp).h)) (hf:=(λs H fp=>(hf s H fp).h)) (he:=(λs H fp=>(he s H fp).h)) (hsc:=hsc) (hcap:=hcap) (hl:=hl) (hsw:=hsw) (hiy:=hiy) (hs:=hs)⟩
def jpt {X:Cx} {e:Expr} {t:TT3} (h:jW3 X e t):jC3 X e t:=⟨PW.pt h.h⟩
def qiZ {P:Program} {w:World} {K:Frg} {mg:Str->Option Value} {base:Heap} {x qual:Str} {st:Stmt} {f:Addr} {fd:FuncData} {N ps:List Str} {k:Nat} {sp:Sp3} {t3:TS3} (F:Fun K x qual st f fd) (S:FnScope N ps (qf st)) (bd:DR K fd ps []) (hm:mg x=some (.ref f))
  (body:∀ (cdv:Value) (A:Around) (outer:List Env) (s:Shared) (H:Hp) (E:XK),Room k (A.deeper (envOfC qual (qf st) s.heap.objs.size f cdv)) ->
   jB3 (YD CX0 P w K mg base N qual (qf st) f cdv A outer s H E).nox (qz st) t3)
  (read:∀ ts G q,sp ts G q->ts.length=ps.length/\t3 { nx:=λ_ G'=>q .non G',rt:=q } (qm N ts) G):Fn3 P w K mg base (k+1) x sp:=
 qmL F S bd hm (λcdv A outer s H E hr=>(body cdv A outer s H E hr).h) read
def qds {P:Program} {w:World} {K:Frg} {mg:Str->Option Value} {base:Heap} {x qual:Str} {st:Stmt} {f:Addr} {fd:FuncData} {N ps:List Str} {k:Nat} {sp:Sp3} {t3:TS3} (F:Fun K x qual st f fd) (S:FnScope N ps (qf st))
  (body:∀ (cdv:Value) (A:Around) (outer:List Env) (s:Shared) (H:Hp) (E:XK),Room k (A.deeper (envOfC qual (qf st) s.heap.objs.size f cdv)) ->
   jB3 (YD CX0 P w K mg base N qual (qf st) f cdv A outer s H E).nox (qz st) t3)
  (read:∀ ts G q,sp ts G q->ts.length=ps.length/\t3 { nx:=λ_ G'=>q .non G',rt:=q } (qm N ts) G):FnOk P w K mg base CX0 (k+1) f fd ps (lSp K sp):=
 qh8 F S (λcdv A outer s H E hr=>(body cdv A outer s H E hr).h) read
open PySem.SeqAt
def Ex (G G':Gp):Prop:=∀ b o,G b=some o->G' b=some o
def Ex.refl {G:Gp}:Ex G G:=λ_ _ e=>e
def Ex.trans {G G1 G2:Gp} (a:Ex G G1) (b:Ex G1 G2):Ex G G2:=λx o e=>b x o (a x o e)
def QI {G:Gp} {p:Addr} {o:O} (hp:G p=none):Ex G (gu G p o):=λb ob e=>by
 rw [zu (by rintro rfl;rw [hp] at e;cases e)];exact e
mutual
inductive Dp (G:Gp):T->PyData->Prop
 |non:Dp G .non .none
 |bl (b:Bool):Dp G (.bl b) (.bool b)
 |int (i:Int):Dp G (.int i) (.int i)
 |str (x:Str):Dp G (.str x) (.str x)
 |tup {xs:List T} {ds:List PyData}:Dps G xs ds->Dp G (.tup xs) (.tuple ds)
 |lst {p:Addr} {xs:List T} {ds:List PyData}:getL G p=some xs->Dps G xs ds->Dp G (.ref p) (.list ds)
inductive Dps (G:Gp):List T->List PyData->Prop
 |nil:Dps G [] []
 |cons {x:T} {d:PyData} {xs:List T} {ds:List PyData}:Dp G x d->Dps G xs ds->Dps G (x::xs) (d::ds)
end
theorem Ex.getL {G G':Gp} (e:Ex G G') {p:Addr} {xs:List T} (h:getL G p=some xs):getL G' p=some xs:=by
 unfold L3.getL at h ⊢;split at h
 ·rename_i ys g;cases h;rw [e _ _ g]
 ·rename_i ys g;cases h;rw [e _ _ g]
 ·cases h
mutual
inductive DV (K:Frg) (H:Hp):V->PyData->Prop
 |non:DV K H .non .none
 |bl (b:Bool):DV K H (.bl b) (.bool b)
 |int (i:Int):DV K H (.int i) (.int i)
 |str (x:Str):DV K H (.str x) (.str x)
 |tup {a:Addr} {vs:List V} {ds:List PyData}:SqT K H a vs->DVs K H vs ds->DV K H (.ref a) (.tuple ds)
 |lst {a:Addr} {vs:List V} {ds:List PyData}:SqL K H a vs->DVs K H vs ds->DV K H (.ref a) (.list ds)
inductive DVs (K:Frg) (H:Hp):List V->List PyData->Prop
 |nil:DVs K H [] []
 |cons {x:V} {d:PyData} {xs:List V} {ds:List PyData}:DV K H x d->DVs K H xs ds->DVs K H (x::xs) (d::ds)
end
mutual
theorem Dp.dv {K:Frg} {G:Gp} {H:Hp} (hr:HR K G H):∀ {x:T} {d:PyData} {v:V},Dp G x d->Rp K H x v->DV K H v d
 |_,_,_,.non,.non=>.non
 |_,_,_,.bl b,.bl _=>.bl b
 |_,_,_,.int i,.int _=>.int i
 |_,_,_,.str x,.str _=>.str x
 |_,_,_,.tup h,.tup hs rs=>.tup hs (Dps.dv hr h rs)
 |_,_,_,.lst g h,r=>by
  cases r;obtain ⟨_,hs,rs⟩:=jD hr g;exact .lst hs (Dps.dv hr h rs)
theorem Dps.dv {K:Frg} {G:Gp} {H:Hp} (hr:HR K G H):∀ {x:List T} {d:List PyData} {v:List V},Dps G x d->Rps K H x v->DVs K H v d
 |_,_,_,.nil,.nil=>.nil
 |_,_,_,.cons a b,.cons c d=>.cons (Dp.dv hr a c) (Dps.dv hr b d)
end
mutual
def jq:PyData->PyData->Option Bool
 |.none,.none=>some true
 |.bool a,.bool b=>some (a==b)
 |.int a,.int b=>some (a==b)
 |.str a,.str b=>some (a==b)
 |.list xs,.list ys=>ZO xs ys
 |.tuple xs,.tuple ys=>ZO xs ys
 |.int _,.none=>some false
 |.none,.int _=>some false
 |_,_=>none
def ZO:List PyData->List PyData->Option Bool
 |[],[]=>some true
 |x::xs,y::ys=>match jq x y,ZO xs ys with|some a,some b=>some (a&&b)|_,_=>none
 |_,_=>some false
end
mutual
def dpt:PyData->Nat
 |.list xs=>NX xs+1
 |.tuple xs=>NX xs+1
 |_=>0
def NX:List PyData->Nat
 |[]=>0
 |x::xs=>max (dpt x) (NX xs)
end
section
variable {X:Cx} {pins:List (Addr×Obj)} {σ:L2.St} {H:Hp} {s:Shared}
mutual
theorem DV.inj (I:Inv X pins σ H s):∀ {v:V} {d e:PyData},DV X.K H v d->DV X.K H v e->d=e
 |_,_,_,.non,.non=>rfl
 |_,_,_,.bl _,.bl _=>rfl
 |_,_,_,.int _,.int _=>rfl
 |_,_,_,.str _,.str _=>rfl
 |_,_,_,.tup h hs,.tup k ks=>by
  have:=I.tuple_inj h k;subst this;rw [DVs.inj I hs ks]
 |_,_,_,.lst h hs,.lst k ks=>by
  have:=I.list_inj h k;subst this;rw [DVs.inj I hs ks]
 |_,_,_,.tup h hs,.lst k ks=>by
  obtain ⟨i1,_,p1,_⟩:=I.tuple h;obtain ⟨i2,_,p2,_⟩:=I.list k;exact absurd rfl (ne_of_list_tuple p2.isList (show s.heap.IsTuple _ i1.toArray from p1))
 |_,_,_,.lst k ks,.tup h hs=>by
  obtain ⟨i1,_,p1,_⟩:=I.tuple h;obtain ⟨i2,_,p2,_⟩:=I.list k;exact absurd rfl (ne_of_list_tuple p2.isList (show s.heap.IsTuple _ i1.toArray from p1))
theorem DVs.inj (I:Inv X pins σ H s):∀ {v:List V} {d e:List PyData},DVs X.K H v d->DVs X.K H v e->d=e
 |_,_,_,.nil,.nil=>rfl
 |_,_,_,.cons a b,.cons c d=>by rw [DV.inj I a c,DVs.inj I b d]
end
mutual
theorem T9:∀ {d:PyData} {b:Bool},jq d d=some b->b=true
 |.none,_,h=>by simp [jq] at h;exact h
 |.bool _,_,h=>by simp [jq] at h;exact h
 |.int _,_,h=>by simp [jq] at h;exact h
 |.str _,_,h=>by simp [jq] at h;exact h
 |.list xs,_,h=>by simp only [jq] at h;exact EV h
 |.tuple xs,_,h=>by simp only [jq] at h;exact EV h
 |.dict _,_,h=>by simp [jq] at h
theorem EV:∀ {d:List PyData} {b:Bool},ZO d d=some b->b=true
 |[],_,h=>by simp [ZO] at h;exact h
 |x::xs,b,h=>by
  simp only [ZO] at h;split at h
  ·rename_i a c e1 e2;rw [T9 e1,EV e2] at h;simpa using h.symm
  ·cases h
end
theorem YS:∀ {xs ys:List PyData} {b:Bool},ZO xs ys=some b->xs.length=ys.length->∃ e:Nat->Bool,(∀ (j:Nat) x y,xs[j]?=some x->ys[j]?=some y->jq x y=some (e j))/\b=(List.range xs.length).all e
 |[],[],b,h,_=>by simp [ZO] at h;exact ⟨λ_=>true,by simp,by simp [h]⟩
 |x::xs,y::ys,b,h,hl=>by
  simp only [ZO] at h;split at h
  ·rename_i a c e1 e2;obtain ⟨e,h1,h2⟩:=YS e2 (by simpa using hl);refine ⟨λj=>match j with|0=>a|j+1=>e j,λj u v hu hv=>?_,?_⟩
   ·cases j with
    |zero=>simp at hu hv;subst hu;subst hv;exact e1
    |succ j=>exact h1 j u v (by simpa using hu) (by simpa using hv)
   ·rw [length_cons,List.range_succ_eq_map,List.all_cons,List.all_map];cases h;rw [h2];rfl
  ·cases h
 |[],_::_,_,_,hl=>by simp at hl
 |_::_,[],_,_,hl=>by simp at hl
theorem YQ:∀ {xs ys:List PyData} {b:Bool},ZO xs ys=some b->xs.length≠ys.length->b=false/\∃ e:Nat->Bool,∀ (j:Nat) x y,xs[j]?=some x->ys[j]?=some y->jq x y=some (e j)
 |[],[],_,_,hl=>by simp at hl
 |[],_::_,b,h,_=>by simp [ZO] at h;exact ⟨h,λ_=>true,by simp⟩
 |_::_,[],b,h,_=>by simp [ZO] at h;exact ⟨h,λ_=>true,by simp⟩
 |x::xs,y::ys,b,h,hl=>by
  simp only [ZO] at h;split at h
  ·rename_i a c e1 e2;obtain ⟨h0,e,h1⟩:=YQ e2 (by simpa using hl);subst h0;refine ⟨by simpa using h.symm,λj=>match j with|0=>a|j+1=>e j,λj u v hu hv=>?_⟩;cases j with
   |zero=>simp at hu hv;subst hu;subst hv;exact e1
   |succ j=>exact h1 j u v (by simpa using hu) (by simpa using hv)
  ·cases h
theorem U7:∀ {xs:List PyData} {x:PyData},x∈xs->dpt x<=NX xs
 |[],_,h=>by simp at h
 |y::ys,x,h=>by
  simp only [NX];rcases mem_cons.mp h with e|e
  ·subst e;omega
  ·have:=U7 e;omega
theorem DVs.get {K:Frg} {H:Hp}:∀ {xs:List V} {ds:List PyData} {i:Nat} {x:V},DVs K H xs ds->xs[i]?=some x->∃ d,ds[i]?=some d/\DV K H x d
 |_,_,_,_,.nil,e=>by simp at e
 |_,_,0,_,.cons r _,e=>by simp at e;subst e;exact ⟨_,rfl,r⟩
 |_,_,i+1,x,.cons _ t,e=>by
  obtain ⟨u,h1,h2⟩:=DVs.get (i:=i) (x:=x) t (by simpa using e);exact ⟨u,by simpa using h1,h2⟩
theorem DVs.length {K:Frg} {H:Hp}:∀ {xs:List V} {ds:List PyData},DVs K H xs ds->xs.length=ds.length
 |_,_,.nil=>rfl
 |_,_,.cons _ b=>by simp [DVs.length b]
def VD {vs:List V} {us:List Value} (r:zt vs us) {j:Nat} (h:j<us.toArray.size):∃ v,vs[j]?=some v/\jx v us.toArray[j]:=by
 have hj:j<vs.length:=by rw [r.length];simpa using h
 obtain ⟨u,hu,ru⟩:=r.get (v0 hj);refine ⟨vs[j],v0 hj,?_⟩;have hj2:j<us.length:=by simpa using h
 rw [v0 hj2] at hu;have:us[j]=u:=Option.some.inj hu;simpa [this] using ru
def LS (I:Inv X pins σ H s):∀ (n:Nat) {v u:V} {d e:PyData} {b:Bool} {x y:Value} {A:Around},DV X.K H v d->DV X.K H u e->jq d e=some b->dpt d<=n->A.units+n<cLine->jx v x->jx u y ->
  RcAt A s x y b/\EqAt A s x y b:=by
 intro n;induction n with
 |zero=>
  intro v u d e b x y A hv hu h hd hn rx ry;cases hv with
  |non=>
   cases hu with
   |non=>simp [jq] at h;subst h;cases (show x=Value.none from rx);cases (show y=Value.none from ry);exact ⟨RcAt.none_none,EqAt.same _⟩
   |int c=>simp [jq] at h;subst h;cases (show x=Value.none from rx);obtain ⟨t',rfl⟩:=(show ∃ t,y=Value.int _ t from ry);exact ⟨RcAt.none_int _ _,EqAt.none_int _ _⟩
   |bl _=>simp [jq] at h
   |str _=>simp [jq] at h
   |tup _ _=>simp [jq] at h
   |lst _ _=>simp [jq] at h
  |bl a=>cases hu<;>simp [jq] at h;subst h;cases (show x=Value.bool _ from rx);cases (show y=Value.bool _ from ry);exact ⟨RcAt.bool_bool _ _,EqAt.bool_bool _ _⟩
  |int a=>
   cases hu with
   |int c=>simp [jq] at h;subst h;obtain ⟨t,rfl⟩:=(show ∃ t,x=Value.int _ t from rx);obtain ⟨t',rfl⟩:=(show ∃ t,y=Value.int _ t from ry);exact ⟨RcAt.int_int _ _ _ _,EqAt.int_int _ _ _ _⟩
   |non=>simp [jq] at h;subst h;obtain ⟨t,rfl⟩:=(show ∃ t,x=Value.int _ t from rx);cases (show y=Value.none from ry);exact ⟨RcAt.int_none _ _,EqAt.int_none _ _⟩
   |bl _=>simp [jq] at h
   |str _=>simp [jq] at h
   |tup _ _=>simp [jq] at h
   |lst _ _=>simp [jq] at h
  |str a=>cases hu<;>simp [jq] at h;subst h;obtain ⟨t,rfl⟩:=(show ∃ t,x=Value.str _ t from rx);obtain ⟨t',rfl⟩:=(show ∃ t,y=Value.str _ t from ry);exact ⟨RcAt.str_str _ _ _ _,EqAt.str_str _ _ _ _⟩
  |tup=>simp [dpt] at hd
  |lst=>simp [dpt] at hd
 |succ n ih=>
  intro v u d e b x y A hv hu h hd hn rx ry;have fin:∀ {l l':Addr} {k:Bool},x=.ref l->y=.ref l'->v=.ref l->u=.ref l'->b=k->RcAt A s x y k->RcAt A s x y b/\EqAt A s x y b:=by
   rintro l l' k rfl rfl rfl rfl rfl rc;refine ⟨rc,?_⟩;by_cases hll:l=l'
   ·subst hll;have:=DV.inj I hv hu;subst this;rw [T9 h];exact EqAt.same _
   ·exact EqAt.of_refs hll rc
  cases hv with
  |non=>
   cases hu with
   |non=>simp [jq] at h;subst h;cases (show x=Value.none from rx);cases (show y=Value.none from ry);exact ⟨RcAt.none_none,EqAt.same _⟩
   |int c=>simp [jq] at h;subst h;cases (show x=Value.none from rx);obtain ⟨t',rfl⟩:=(show ∃ t,y=Value.int _ t from ry);exact ⟨RcAt.none_int _ _,EqAt.none_int _ _⟩
   |bl _=>simp [jq] at h
   |str _=>simp [jq] at h
   |tup _ _=>simp [jq] at h
   |lst _ _=>simp [jq] at h
  |bl a=>cases hu<;>simp [jq] at h;subst h;cases (show x=Value.bool _ from rx);cases (show y=Value.bool _ from ry);exact ⟨RcAt.bool_bool _ _,EqAt.bool_bool _ _⟩
  |int a=>
   cases hu with
   |int c=>simp [jq] at h;subst h;obtain ⟨t,rfl⟩:=(show ∃ t,x=Value.int _ t from rx);obtain ⟨t',rfl⟩:=(show ∃ t,y=Value.int _ t from ry);exact ⟨RcAt.int_int _ _ _ _,EqAt.int_int _ _ _ _⟩
   |non=>simp [jq] at h;subst h;obtain ⟨t,rfl⟩:=(show ∃ t,x=Value.int _ t from rx);cases (show y=Value.none from ry);exact ⟨RcAt.int_none _ _,EqAt.int_none _ _⟩
   |bl _=>simp [jq] at h
   |str _=>simp [jq] at h
   |tup _ _=>simp [jq] at h
   |lst _ _=>simp [jq] at h
  |str a=>cases hu<;>simp [jq] at h;subst h;obtain ⟨t,rfl⟩:=(show ∃ t,x=Value.str _ t from rx);obtain ⟨t',rfl⟩:=(show ∃ t,y=Value.str _ t from ry);exact ⟨RcAt.str_str _ _ _ _,EqAt.str_str _ _ _ _⟩
  |tup hq hs=>
   cases hu with
   |tup kq ks=>
    rename_i a1 vs1 ds1 a2 vs2 ds2;simp only [jq] at h;obtain ⟨i1,r1,p1,z1⟩:=I.tuple hq;obtain ⟨i2,r2,p2,z2⟩:=I.tuple kq;have l1:=hs.length;have l2:=ks.length;have m1:=r1.length;have m2:=r2.length;have el:∀ (e:Nat->Bool),(∀ (j:Nat) x y,ds1[j]?=some x->ds2[j]?=some y->jq x y=some (e j))->∀ j (h1:j<i1.toArray.size) (h2:j<i2.toArray.size),EqAt A.in1 s i1.toArray[j] i2.toArray[j] (e j):=λe he j h1 h2=>by
     obtain ⟨w1,g1,q1⟩:=VD r1 h1;obtain ⟨w2,g2,q2⟩:=VD r2 h2;obtain ⟨d1,f1,dv1⟩:=hs.get g1;obtain ⟨d2,f2,dv2⟩:=ks.get g2;have:=U7 (v9 f1);exact (ih dv1 dv2 (he j d1 d2 f1 f2) (by simp only [dpt] at hd;omega) (show A.units+1+n<cLine by omega) q1 q2).2
    cases (show x=Value.ref a1 from rx);cases (show y=Value.ref a2 from ry);by_cases hl:ds1.length=ds2.length
    ·obtain ⟨e,he,hb⟩:=YS h hl;refine fin rfl rfl rfl rfl (k:=(List.range (min i1.toArray.size i2.toArray.size)).all e&&i1.toArray.size==i2.toArray.size) ?_ (RcAt.tuples (show s.heap.IsTuple a1 i1.toArray from p1) (show s.heap.IsTuple a2 i2.toArray from p2) (by omega) (el e he));have e1:i1.toArray.size=ds1.length:=by rw [size_toArray];omega
     have e2:i2.toArray.size=ds1.length:=by rw [size_toArray];omega
     rw [e1,e2,hb];simp
    ·obtain ⟨hb,e,he⟩:=YQ h hl;refine fin rfl rfl rfl rfl (k:=(List.range (min i1.toArray.size i2.toArray.size)).all e&&i1.toArray.size==i2.toArray.size) ?_ (RcAt.tuples (show s.heap.IsTuple a1 i1.toArray from p1) (show s.heap.IsTuple a2 i2.toArray from p2) (by omega) (el e he));have e1:i1.toArray.size≠i2.toArray.size:=by rw [size_toArray,size_toArray];omega
     rw [hb];simp [e1];intro;omega
   |_=>simp [jq] at h
  |lst hq hs=>
   cases hu with
   |lst kq ks=>
    rename_i a1 vs1 ds1 a2 vs2 ds2;simp only [jq] at h;obtain ⟨i1,r1,p1,z1⟩:=I.list hq;obtain ⟨i2,r2,p2,z2⟩:=I.list kq;have l1:=hs.length;have l2:=ks.length;have m1:=r1.length;have m2:=r2.length;have el:∀ (e:Nat->Bool),(∀ (j:Nat) x y,ds1[j]?=some x->ds2[j]?=some y->jq x y=some (e j))->∀ j (h1:j<i1.toArray.size) (h2:j<i2.toArray.size),EqAt A.in1 s i1.toArray[j] i2.toArray[j] (e j):=λe he j h1 h2=>by
     obtain ⟨w1,g1,q1⟩:=VD r1 h1;obtain ⟨w2,g2,q2⟩:=VD r2 h2;obtain ⟨d1,f1,dv1⟩:=hs.get g1;obtain ⟨d2,f2,dv2⟩:=ks.get g2;have:=U7 (v9 f1);exact (ih dv1 dv2 (he j d1 d2 f1 f2) (by simp only [dpt] at hd;omega) (show A.units+1+n<cLine by omega) q1 q2).2
    cases (show x=Value.ref a1 from rx);cases (show y=Value.ref a2 from ry);by_cases hl:ds1.length=ds2.length
    ·obtain ⟨e,he,hb⟩:=YS h hl;refine fin rfl rfl rfl rfl (k:=(List.range i1.toArray.size).all e) ?_ (RcAt.lists p1.isList p2.isList (by rw [size_toArray,size_toArray];omega) (by omega) (el e he));have e1:i1.toArray.size=ds1.length:=by rw [size_toArray];omega
     rw [e1,hb]
    ·obtain ⟨hb,e,he⟩:=YQ h hl;refine fin rfl rfl rfl rfl (k:=false) hb (RcAt.lists_lengths p1.isList p2.isList (by rw [size_toArray,size_toArray];simp;omega) (by omega))
   |_=>simp [jq] at h
def qhf (I:Inv X pins σ H s) {n:Nat} {v u:V} {d e:PyData} {b:Bool} {x y:Value} {A:Around} (hv:DV X.K H v d) (hu:DV X.K H u e) (h:jq d e=some b) (hd:dpt d<=n+1) (hn:A.units+(n+1)<cLine) (rx:jx v x) (ry:jx u y) (hs:dpt d≠0):RcNeAt A s x y (!b):=by
 cases hv with
 |tup hq hs'=>
  cases hu with
  |tup kq ks=>
   rename_i a1 vs1 ds1 a2 vs2 ds2;simp only [jq] at h;obtain ⟨i1,r1,p1,z1⟩:=I.tuple hq;obtain ⟨i2,r2,p2,z2⟩:=I.tuple kq;have l1:=hs'.length;have l2:=ks.length;have m1:=r1.length;have m2:=r2.length;have el:∀ (e:Nat->Bool),(∀ (j:Nat) x y,ds1[j]?=some x->ds2[j]?=some y->jq x y=some (e j))->∀ j (h1:j<i1.toArray.size) (h2:j<i2.toArray.size),EqAt A.in1 s i1.toArray[j] i2.toArray[j] (e j):=λe he j h1 h2=>by
    obtain ⟨w1,g1,q1⟩:=VD r1 h1;obtain ⟨w2,g2,q2⟩:=VD r2 h2;obtain ⟨d1,f1,dv1⟩:=hs'.get g1;obtain ⟨d2,f2,dv2⟩:=ks.get g2;have:=U7 (v9 f1);exact (LS I n dv1 dv2 (he j d1 d2 f1 f2) (by simp only [dpt] at hd;omega) (show A.units+1+n<cLine by omega) q1 q2).2
   cases (show x=Value.ref a1 from rx);cases (show y=Value.ref a2 from ry);by_cases hl:ds1.length=ds2.length
   ·obtain ⟨e,he,hb⟩:=YS h hl;have:=RcNeAt.tuples (show s.heap.IsTuple a1 i1.toArray from p1) (show s.heap.IsTuple a2 i2.toArray from p2) (A:=A) (by omega) (el e he);have e1:i1.toArray.size=ds1.length:=by rw [size_toArray];omega
    have e2:i2.toArray.size=ds1.length:=by rw [size_toArray];omega
    rw [e1,e2] at this;rw [hb];simpa using this
   ·obtain ⟨hb,e,he⟩:=YQ h hl;have:=RcNeAt.tuples (show s.heap.IsTuple a1 i1.toArray from p1) (show s.heap.IsTuple a2 i2.toArray from p2) (A:=A) (by omega) (el e he);have e1:(i1.toArray.size==i2.toArray.size)=false:=by rw [size_toArray,size_toArray];simp;omega
    rw [e1] at this;rw [hb];simpa using this
  |_=>simp [jq] at h
 |lst hq hs'=>
  cases hu with
  |lst kq ks=>
   rename_i a1 vs1 ds1 a2 vs2 ds2;simp only [jq] at h;obtain ⟨i1,r1,p1,z1⟩:=I.list hq;obtain ⟨i2,r2,p2,z2⟩:=I.list kq;have l1:=hs'.length;have l2:=ks.length;have m1:=r1.length;have m2:=r2.length;have el:∀ (e:Nat->Bool),(∀ (j:Nat) x y,ds1[j]?=some x->ds2[j]?=some y->jq x y=some (e j))->∀ j (h1:j<i1.toArray.size) (h2:j<i2.toArray.size),EqAt A.in1 s i1.toArray[j] i2.toArray[j] (e j):=λe he j h1 h2=>by
    obtain ⟨w1,g1,q1⟩:=VD r1 h1;obtain ⟨w2,g2,q2⟩:=VD r2 h2;obtain ⟨d1,f1,dv1⟩:=hs'.get g1;obtain ⟨d2,f2,dv2⟩:=ks.get g2;have:=U7 (v9 f1);exact (LS I n dv1 dv2 (he j d1 d2 f1 f2) (by simp only [dpt] at hd;omega) (show A.units+1+n<cLine by omega) q1 q2).2
   cases (show x=Value.ref a1 from rx);cases (show y=Value.ref a2 from ry);by_cases hl:ds1.length=ds2.length
   ·obtain ⟨e,he,hb⟩:=YS h hl;have:=RcNeAt.lists p1.isList p2.isList (A:=A) (by rw [size_toArray,size_toArray];omega) (by omega) (el e he);have e1:i1.toArray.size=ds1.length:=by rw [size_toArray];omega
    rw [e1] at this;rw [hb];exact this
   ·obtain ⟨hb,e,he⟩:=YQ h hl;rw [hb];exact RcNeAt.lists_lengths p1.isList p2.isList (by rw [size_toArray,size_toArray];simp;omega) (by omega)
  |_=>simp [jq] at h
 |_=>simp [dpt] at hs
def qjc (K:Frg) (neg:Bool):R2:=λx y H Q=>∃ d e b,DV K H x d/\DV K H y e/\jq d e=some b/\dpt d<=40/\dpt d≠0/\Q (.bl (if neg then !b else b)) H
def qmQ (hu:X.A.units+64<cLine):OpR X (compareOp .Eq) (qjc X.K false):=by
 intro pins s σ H x y v u Q I rx ry h;obtain ⟨d,e,b,hx,hy,hb,hd,_,q⟩:=h;exact (LS I 40 hx hy hb hd (by omega) rx ry).1 X.prog X.w X.xe _ ⟨.bl b,H,I,rfl,q⟩
def ql6 (hu:X.A.units+64<cLine):OpR X (compareOp .NotEq) (qjc X.K true):=by
 intro pins s σ H x y v u Q I rx ry h;obtain ⟨d,e,b,hx,hy,hb,hd,hs,q⟩:=h;exact qhf I (n:=40) hx hy hb (by omega) (by omega) rx ry hs X.prog X.w X.xe _ ⟨.bl (!b),H,I,rfl,q⟩
end
def QK (neg:Bool):R3:=λx y G q=>match QX x y with
 |some k=>q (.bl (if neg then !k else k)) G
 |none=>∃ d e b,Dp G x d/\Dp G y e/\jq d e=some b/\dpt d<=40/\dpt d≠0/\q (.bl (if neg then !b else b)) G
def zW {K:Frg}:LB K (QK false) (λx y H Q=>rEq x y H Q\/qjc K false x y H Q):=λx y v u G H q Q hr rx ry h af=>by
 unfold QK at h;split at h
 ·rename_i k e;obtain ⟨h1,h2⟩:=NV rx ry e;refine .inl ⟨h1,?_⟩;rw [h2];exact af _ G h _ H (.bl _) hr Kp.refl
 ·obtain ⟨d,e,b,h1,h2,h3,h4,h5,h6⟩:=h;exact .inr ⟨d,e,b,h1.dv hr rx,h2.dv hr ry,h3,h4,h5,af _ G h6 _ H (.bl _) hr Kp.refl⟩
def XG {K:Frg}:LB K (QK true) (λx y H Q=>rNe x y H Q\/qjc K true x y H Q):=λx y v u G H q Q hr rx ry h af=>by
 unfold QK at h;split at h
 ·rename_i k e;obtain ⟨h1,h2⟩:=NV rx ry e;refine .inl ⟨h1,?_⟩;rw [h2];exact af _ G h _ H (.bl _) hr Kp.refl
 ·obtain ⟨d,e,b,h1,h2,h3,h4,h5,h6⟩:=h;exact .inr ⟨d,e,b,h1.dv hr rx,h2.dv hr ry,h3,h4,h5,af _ G h6 _ H (.bl _) hr Kp.refl⟩
def jY {X:Cx} (hu:X.A.units+64<cLine):OpR X (compareOp .Eq) (λx y H Q=>rEq x y H Q\/qjc X.K false x y H Q):=qqs.or (qmQ hu)
def TJ {X:Cx} (hu:X.A.units+64<cLine):OpR X (compareOp .NotEq) (λx y H Q=>rNe x y H Q\/qjc X.K true x y H Q):=qqy.or (ql6 hu)
end L3
namespace L3
open PySem PySem.Spec PyProof.Rows L2
section
variable {X:Cx} {pins:List (Addr×Obj)} {σ:L2.St} {H:Hp} {s:Shared}
mutual
theorem DV.reads (I:Inv X pins σ H s):∀ {v:V} {d:PyData} {x:Value},DV X.K H v d->jx v x->∃ as,Reads s.heap x d as
 |_,_,x,.non,r=>by cases (show x=Value.none from r);exact ⟨_,.none⟩
 |_,_,x,.bl b,r=>by cases (show x=Value.bool b from r);exact ⟨_,.bool b⟩
 |_,_,x,.int i,r=>by obtain ⟨t,rfl⟩:=(show ∃ t,x=Value.int i t from r);exact ⟨_,.int i t⟩
 |_,_,x,.str y,r=>by obtain ⟨t,rfl⟩:=(show ∃ t,x=Value.str y t from r);exact ⟨_,.str y t⟩
 |_,_,x,.tup (a:=a) h hs,r=>by
  cases (show x=Value.ref a from r);obtain ⟨its,rv,⟨o,h1,h2,n,h3⟩,_⟩:=I.tuple h;obtain ⟨as,ra⟩:=DVs.reads I hs rv;exact ⟨as,.tuple h1 h2 h3 (by simpa using ra)⟩
 |_,_,x,.lst (a:=a) h hs,r=>by
  cases (show x=Value.ref a from r);obtain ⟨its,rv,p,_⟩:=I.list h;obtain ⟨o,h1,h2,n,h3⟩:=p.isList;obtain ⟨as,ra⟩:=DVs.reads I hs rv;exact ⟨a::as,.list h1 h2 h3 (by simpa using ra)⟩
theorem DVs.reads (I:Inv X pins σ H s):∀ {v:List V} {d:List PyData} {x:List Value},DVs X.K H v d->zt v x->∃ as,ReadsAll s.heap x d as
 |_,_,_,.nil,.nil=>⟨_,.nil⟩
 |_,_,_,.cons a b,.cons c d=>by
  obtain ⟨as,r1⟩:=DV.reads I a c;obtain ⟨bs,r2⟩:=DVs.reads I b d;exact ⟨_,.cons r1 r2⟩
end
structure ShOk (d:PyData):Prop where
 sh:d.showable=true
 nd:d.hasDict=false
 dp:d.depth<=40
 lv:d.leavesShort 13=true
 bk:d.bulk<=2 ^ 20
end
section
variable {X:Cx}
end
section
variable {prog:Program} {w:World} {A:Around} {R:Result->Shared->Prop} {s:Shared}
def U2 (elt t1 i1 t2 i2:Expr) (f1 f2:List Expr) (scope:Scope) (pos:Pos) (it acc:Value) (env:Env) :
  compTurn (.ListComp elt [⟨t1,i1,f1,0⟩,⟨t2,i2,f2,0⟩] scope pos) 0 it acc env=(do
   standAt i1.pos
   match←pyNext it with
   |none=>pure (.done .next)
   |some v=>
    letOwnedTupleGo t1 it v
    assign t1 env v
    let mut ok:=true
    for c in f1 do
     if ok then ok←isTrue c env (eval c env)
    if ok then
     let x←eval i2 env
     standAt i2.pos
     let x←foldedSetIterable i2 env x
     let _←runOwn (.compStart (.ListComp elt [⟨t1,i1,f1,0⟩,⟨t2,i2,f2,0⟩] scope pos) 1 (← holding [x] (pyIter x)) acc env) env
    again (.compLoop (.ListComp elt [⟨t1,i1,f1,0⟩,⟨t2,i2,f2,0⟩] scope pos) 0 it acc env)):=by rfl
def RX (elt t1 i1 t2 i2:Expr) (f1 f2:List Expr) (scope:Scope) (pos:Pos) (it acc:Value) (env:Env) :
  compTurn (.ListComp elt [⟨t1,i1,f1,0⟩,⟨t2,i2,f2,0⟩] scope pos) 1 it acc env=(do
   standAt i2.pos
   match←pyNext it with
   |none=>pure (.done .next)
   |some v=>
    letOwnedTupleGo t2 it v
    assign t2 env v
    let mut ok:=true
    for c in f2 do
     if ok then ok←isTrue c env (eval c env)
    if ok then
     (do let _←call (.builtin "list.append") [acc,← eval elt env])
    again (.compLoop (.ListComp elt [⟨t1,i1,f1,0⟩,⟨t2,i2,f2,0⟩] scope pos) 1 it acc env)):=by rfl
def YF {elt t1 i1 t2 i2:Expr} {f1 f2:List Expr} {scope:Scope} {pos:Pos} {it acc:Value} {env:Env}
  (h0:codeAny (model prog w) A (.compLoop (.ListComp elt [⟨t1,i1,f1,0⟩,⟨t2,i2,f2,0⟩] scope pos) 1 it acc env) R s)
  (h:wpAny (model prog w) A (pyIter it) (λit' s'=>codeAny (model prog w) A (.compLoop (.ListComp elt [⟨t1,i1,f1,0⟩,⟨t2,i2,f2,0⟩] scope pos) 1 it' acc env) R s')
   (notedBy (model prog w) A env λx s'=>R (.error x) s') s) :
  codeAny (model prog w) A (.compStart (.ListComp elt [⟨t1,i1,f1,0⟩,⟨t2,i2,f2,0⟩] scope pos) 1 it acc env) R s:=by
 refine codeAny_of_tree ?_;show wpAny _ _ ((compStart (.ListComp elt [⟨t1,i1,f1,0⟩,⟨t2,i2,f2,0⟩] scope pos) 1 it acc env).onRaise (λx=>do noteFrame x env;standAt theWindowsPlace)) _ _ s;refine wpAny_notedAt ?_;unfold compStart;show wpAny _ _ (ask >>= _) _ _ s;refine x8 (wpAny_askSetting (wpAny_ite ?_));split
 ·first
   |exact x8 (x9 (x9 (And.intro rfl h0)))
   |exact x9 (And.intro rfl h0)
 ·first
   |exact x8 (wpAny_rule (x8 (wpAny_standAt (x8 (y0 h (λit' s' h'=>x9 (And.intro rfl h')) λ_ _ x=>x)))))
   | (refine x8 (wpAny_rule ?_);show wpAny _ _ (standAt i2.pos >>= _) _ _ s;exact x8 (wpAny_standAt (x8 (y0 h (λit' s' h'=>x9 (And.intro rfl h')) λ_ _ x=>x))))
end
def tIn (wi:TI) (g:TG) (tif:TT) (te:TE) (D:Addr) (N:L2.St->Hp->Prop) (σ:L2.St) (H:Hp):Prop:=wi σ H λJ H1=>
 ∃ W:Nat->Nat->L2.St->Hp->Prop,(∃ n,W 0 n σ H1)/\∀ i n σ H,W i n σ H ->
  (J.stop i H/\N σ H)\/(J.go i H/\∀ x H',J.yld i H x H'->g x σ H' λσ2 H2=>tif σ2 H2 λk H3=>
   if k=true then te σ2 H3 λy H4=>∃ zs,H4 D=some (.lst zs)/\zs.length<sizeLine/\∃ n',n'<n/\W (i+1) n' σ2 (upd H4 D (.lst (zs++[y])))
   else ∃ n',n'<n/\W (i+1) n' σ2 H3)
section
variable {X:Cx}
def qfs {elt t1 i1 t2 i2:Expr} {f1 f2:List Expr} {scope:Scope} {pos:Pos} {wi:TI} {g:TG} {tif:TT} {te:TE} {D:Addr} {N:L2.St->Hp->Prop} (hc:X.calm=true) (hx:∀ v s,¬ X.xe v s) (hi:PI X t2 i2 wi) (hg:PG X t2 g) (hf:PF X f2 tif) (he:PE X elt te)
    (hs:∀ x,foldedSetIterable i2 X.env x=pure x) {pins:List (Addr×Obj)} {s:Shared} {σ:L2.St} {H:Hp} {E:Value->Shared->Prop} {α:Type} {kk:Sem α} {Q:α->Shared->Prop} (I:Inv X pins σ H s) (h:tIn wi g tif te D N σ H) (hk:∀ s' σ' H',Inv X pins σ' H' s'->N σ' H'->wpAny (model X.prog X.w) X.A kk Q E s') :
    wpAny (model X.prog X.w) X.A (do
            let x←eval i2 X.env
            standAt i2.pos
            let x←foldedSetIterable i2 X.env x
            let _←runOwn (.compStart (.ListComp elt [⟨t1,i1,f1,0⟩,⟨t2,i2,f2,0⟩] scope pos) 1 (← holding [x] (pyIter x)) (.ref D) X.env) X.env
            kk) Q E s:=by
  refine x8 (y0 (hi pins s σ H _ I h) (λv s1 h1=>?_) λ_ _ z=>(hx _ _ z).elim);refine x8 (wpAny_standAt (x8 (wpAny_of_eq (hs v) ?_)));refine x8 (wpAny_holding (y0 h1 (λitv s2 h2=>?_) λ_ _ z=>(hx _ _ z).elim));obtain ⟨it,fp,tn,J,H2,rfl,I2,T,st2,f2',W,⟨n0,w0⟩,turn⟩:=h2;have stat:∀ {H':Hp},(∀ b∈fp,H' b=none)->∀ b∈fp,CB X pins H' b:=λhn b hb=>⟨hn b hb,(f2' b hb).2⟩
  refine x8 (wpAny_runOwn ?_);show codeAny (model X.prog X.w) X.A (.compStart (.ListComp elt [⟨t1,i1,f1,0⟩,⟨t2,i2,f2,0⟩] scope pos) 1 (.ref it) (.ref D) X.env) _ s2;have loop:codeAny (model X.prog X.w) X.A (.compLoop (.ListComp elt [⟨t1,i1,f1,0⟩,⟨t2,i2,f2,0⟩] scope pos) 1 (.ref it) (.ref D) X.env) (λr s'=>match r with
      |.ok f=>wpAny (model X.prog X.w) X.A kk Q E s'
      |.error e=>cameBackBy (model X.prog X.w) X.A X.env E e s') s2:=by
    refine codeAny_loop rfl (λn s'=>∃ i σ' H',Inv X pins σ' H' s'/\tn i s'.heap/\(∀ b∈fp,H' b=none)/\W i n σ' H') (λn s' hI=>?_) n0 ⟨0,σ,H2,I2,st2,λb hb=>(f2' b hb).1,w0⟩;show wpAny _ X.A ((compTurn (.ListComp elt [⟨t1,i1,f1,0⟩,⟨t2,i2,f2,0⟩] scope pos) 1 (.ref it) (.ref D) X.env).onRaise (λx=>do noteFrame x X.env;theTreesLotGoes x)) _ _ s';refine wpAny_noted ?_;rw [RX];refine x8 (wpAny_standAt (x8 ?_));obtain ⟨i,σ5,H5,I5,st5,fr5,w5⟩:=hI;rcases turn i n σ5 H5 w5 with ⟨stop,q⟩|⟨go,step⟩
    · refine thn (T.done X rfl rfl rfl hc i pins s' σ5 H5 _ I5 (stat fr5) st5 stop) λr s6 ⟨hr,I6⟩=>?_;subst hr;exact x9 (hk _ σ5 H5 I6 q)
    · refine thn (T.item X rfl rfl rfl hc i pins s' σ5 H5 _ I5 (stat fr5) st5 go) λr s6 ⟨u,hr,h6⟩=>?_;subst hr;refine x8 (thn h6 λ_ s7 ⟨x,H7,I7,r7,y7,st7,fr7⟩=>?_);have I7':=I7.pinned (stat fr7) (T.obj _ _ st7);have again:∀ {σ8:L2.St} {H8:Hp} {s8:Shared},Inv X (pins++U1 fp s7.heap) σ8 H8 s8->(∃ n',n'<n/\W (i+1) n' σ8 H8) ->
          ∃ m',m'<n/\∃ i σ' H',Inv X pins σ' H' s8/\tn i s8.heap/\(∀ b∈fp,H' b=none)/\W i m' σ' H':=λ{σ8 H8 s8} I8 ⟨n',hn,w8⟩=>by
        refine ⟨n',hn,i+1,σ8,H8,I8.unpinned,T.keep _ _ _ st7 λb hb o e=>(I8.pin (b,o) (v7 _ (v7 _ (zd hb e)))).1,λb hb=>?_,w8⟩;obtain ⟨o,e,d⟩:=T.obj _ _ st7 b hb;exact (I8.pin (b,o) (v7 _ (v7 _ (zd hb e)))).2.1
      refine x8 (y0 (hg _ s7 σ5 H7 x u _ I7' r7 (step x H7 y7)) (λ_ s8 ⟨σ8,H8,I8,q8⟩=>?_) λ_ _ z=>(hx _ _ z).elim);refine x8 (y0 (hf _ s8 σ8 H8 _ I8 q8) (λk s9 ⟨H9,I9,q9⟩=>?_) λ_ _ z=>(hx _ _ z).elim);cases k with
      |false=>
        rw [if_neg y8] at q9;exact x9 ⟨rfl,again I9 q9⟩
      |true=>
        rw [if_pos rfl] at q9;refine x8 (x8 (y0 (he _ s9 σ8 H9 _ I9 q9) (λw s10 ⟨y,H10,I10,r10,q10⟩=>?_) λ_ _ z=>(hx _ _ z).elim));obtain ⟨zs,hz,hl,q10⟩:=q10;refine x8 (y0 (UW (X:=X) _ s10 σ8 H10 (.ref D) [y] (.ref D) [w] (λ_ H11=>H11=upd H10 D (.lst (zs++[y]))) I10 rfl (.cons r10 .nil) ⟨D,zs,y,rfl,rfl,hz,hl,rfl⟩) (λ_ s11 ⟨_,H11,I11,_,e11⟩=>?_) λ_ _ z=>(hx _ _ z).elim);subst e11;exact x9 (x9 ⟨rfl,again I11 q10⟩)
  exact YF loop (T.self X.A 0 _ _ _ st2 loop)
def qp3 (wi:TI) (g:TG) (tif:TT) (wi2:TI) (g2:TG) (tif2:TT) (te:TE) (m:List (Option Nat)):TE:=λσ H Q=>wi σ H λJ H1=>∀ D,H1 D=none ->
 ∃ W:Nat->Nat->L2.St->Hp->Prop,(∃ n,W 0 n (cap m σ) (upd H1 D (.lst [])))/\∀ i n σ H,W i n σ H ->
  (J.stop i H/\Q (.ref D) H)\/(J.go i H/\∀ x H',J.yld i H x H'->g x σ H' λσ2 H2=>tif σ2 H2 λk H3=>
   if k=true then tIn wi2 g2 tif2 te D (λσ4 H4=>∃ n',n'<n/\W (i+1) n' σ4 H4) σ2 H3
   else ∃ n',n'<n/\W (i+1) n' σ2 H3)
def qlw {elt tg iter t2 i2:Expr} {ifs f2:List Expr} {scope:Scope} {pos:Pos} {N':List Str} {m:List (Option Nat)} {wi:TI} {g:TG} {tif:TT} {wi2:TI} {g2:TG} {tif2:TT} {te:TE} (hc:X.calm=true) (hi:PI X tg iter wi)
  (hg:∀ s H fp,PG (qh X N' scope s H fp) tg g) (hf:∀ s H fp,PF (qh X N' scope s H fp) ifs tif) (hi2:∀ s H fp,PI (qh X N' scope s H fp) t2 i2 wi2) (hg2:∀ s H fp,PG (qh X N' scope s H fp) t2 g2) (hf2:∀ s H fp,PF (qh X N' scope s H fp) f2 tif2) (he:∀ s H fp,PE (qh X N' scope s H fp) elt te)
  (hsc:LF X.env.scope scope=true) (hcap:J1 X.N N' scope m=true) (hs:∀ x,foldedSetIterable iter X.env x=pure x:=by intro _;rfl) (hs2:∀ s H fp x,foldedSetIterable i2 (qh X N' scope s H fp).env x=pure x:=by intro _ _ _ _;rfl) :
  PE X (.ListComp elt [⟨tg,iter,ifs,0⟩,⟨t2,i2,f2,0⟩] scope pos) (qp3 wi g tif wi2 g2 tif2 te m):=by
 intro pins s σ H Q I h;have sc:=VQ hsc;have hcl:∀ y∈scope.names,y.2=.free->∃ c,X.env.cells.lookup y.1=some c:=λy hy e=>by
  rcases (sc.free y hy e).2 with z|z
  ·exact I.ok.has y.1 (.inl z)
  ·exact I.ok.has y.1 (.inr z)
 rw [eval_ListComp];refine wpAny_comprehension_free (use:=none) (g:=⟨tg,iter,ifs,0⟩) (gs:=[⟨t2,i2,f2,0⟩]) rfl hs (QV hcl) sc.kind sc.loc ?_;show wpAny _ _ (eval iter X.env) _ _ s;refine thn (hi pins s σ H _ I h) λv s1 h1=>thn h1 λitv s2 h2=>?_;obtain ⟨it,fp,tn,J,H2,rfl,I2,T,st2,fF2,hW⟩:=h2;refine wpAny_newObj_type ?_;have hD:H2 s2.heap.objs.size=none:=I2.fresh;obtain ⟨W,⟨n0,w0⟩,turn⟩:=hW _ hD;generalize hDe:s2.heap.objs.size=D at *;have I3:Inv X pins σ (upd H2 D (.lst [])) { s2 with heap:=s2.heap.push { cls:=.type "list",dict:=none,data:=.seq ([]:List Value).toArray } }:=by
  subst hDe;exact I2.laid (t':=s2.toks) (λb u e=>y3 _ e) (v5 _) ⟨Nat.zero_le _,[],0,.nil,y4 _ rfl⟩
 have ob2:=T.obj 0 _ st2;have ob3:∀ b∈fp,∃ o,(s2.heap.push { cls:=.type "list",dict:=none,data:=.seq ([]:List Value).toArray }).get? b=some o:=λb hb=>let ⟨o,e,_⟩:=ob2 b hb;⟨o,y3 _ e⟩
 have f3:∀ b∈fp,CB X pins (upd H2 D (.lst [])) b:=λb hb=>by
  obtain ⟨o,e,_⟩:=ob2 b hb;have:b≠D:=by rw [← hDe];exact u7 (y6 e)
  exact ⟨by rw [qt this];exact (fF2 b hb).1,(fF2 b hb).2⟩
 have k23:∀ b o,s2.heap.get? b=some o->(s2.heap.push { cls:=.type "list",dict:=none,data:=.seq ([]:List Value).toArray }).get? b=some o:=λb o e=>y3 _ e;generalize hH3:upd H2 D (.lst [])=H3 at *;generalize hs3:({ s2 with heap:=s2.heap.push { cls:=.type "list",dict:=none,data:=.seq ([]:List Value).toArray } }:Shared)=s3 at *;have ob3:∀ b∈fp,∃ o,s3.heap.get? b=some o:=by rw [← hs3];exact ob3
 have k23:∀ b o,s2.heap.get? b=some o->s3.heap.get? b=some o:=by rw [← hs3];exact k23
 refine jh λh₁ hns hk hown=>?_;have I4:Inv (qh X N' scope s3 H3 fp) [] (cap m σ) H3 { s3 with heap:=h₁ }:=WI hc I3 sc hcap f3 ob3 hns hk hown;have tn4:tn 0 h₁:=T.keep _ _ _ st2 λb hb o e=>hk b o (k23 b o e);have fr4:∀ b∈fp,H3 b=none:=λb hb=>(f3 b hb).1;have stat:∀ {H':Hp},(∀ b∈fp,H' b=none)->∀ b∈fp,CB (qh X N' scope s3 H3 fp) [] H' b:=λhn b hb=>by
  refine ⟨hn b hb,I4.ok.exf b hb |>.1,I4.ok.exfs b hb,.inl hb,λx c e=>(I4.ok.exf b hb).2 x c e,λp hp=>absurd (show p∈([]:List (Addr×Obj)) from hp) (by simp)⟩
 show codeAny (model X.prog X.w) X.A (.compStart (.ListComp elt [⟨tg,iter,ifs,0⟩,⟨t2,i2,f2,0⟩] scope pos) 0 (.ref it) (.ref D) (qh X N' scope s3 H3 fp).env) (compPost (model X.prog X.w) X.A X.xe none (EP X pins σ Q) (.ref D) s3.heap.objs.size) { s3 with heap:=h₁ };have loop:codeAny (model X.prog X.w) X.A (.compLoop (.ListComp elt [⟨tg,iter,ifs,0⟩,⟨t2,i2,f2,0⟩] scope pos) 0 (.ref it) (.ref D) (qh X N' scope s3 H3 fp).env) (compPost (model X.prog X.w) X.A X.xe none (EP X pins σ Q) (.ref D) s3.heap.objs.size) { s3 with heap:=h₁ }:=by
  refine codeAny_loop rfl (λn s'=>∃ i σ' H',Inv (qh X N' scope s3 H3 fp) [] σ' H' s'/\tn i s'.heap/\(∀ b∈fp,H' b=none)/\W i n σ' H') (λn s' hI=>?_) n0 ⟨0,cap m σ,H3,I4,tn4,fr4,w0⟩;show wpAny _ X.A ((compTurn (.ListComp elt [⟨tg,iter,ifs,0⟩,⟨t2,i2,f2,0⟩] scope pos) 0 (.ref it) (.ref D) (qh X N' scope s3 H3 fp).env).onRaise (λx=>do noteFrame x (qh X N' scope s3 H3 fp).env;theTreesLotGoes x)) _ _ s';refine wpAny_noted ?_;rw [U2];refine x8 (wpAny_standAt (x8 ?_));obtain ⟨i,σ5,H5,I5,st5,fr5,w5⟩:=hI;rcases turn i n σ5 H5 w5 with ⟨stop,q⟩|⟨go,step⟩
  ·refine thn (T.done (qh X N' scope s3 H3 fp) rfl rfl rfl rfl i [] s' σ5 H5 _ I5 (stat fr5) st5 stop) λr s6 ⟨hr,I6⟩=>?_;subst hr;refine x9 ?_;obtain ⟨mm,hn6,_⟩:=I6.loc;exact ⟨mm,hn6,λh' sb=>⟨.ref D,H5,VT I3 f3 I6 sb,rfl,q⟩⟩
  ·refine thn (T.item (qh X N' scope s3 H3 fp) rfl rfl rfl rfl i [] s' σ5 H5 _ I5 (stat fr5) st5 go) λr s6 ⟨u,hr,h6⟩=>?_;subst hr;refine x8 (thn h6 λ_ s7 ⟨x,H7,I7,r7,y7,st7,fr7⟩=>?_);have I7':=I7.pinned (stat fr7) (T.obj _ _ st7);have again:∀ {σ8:L2.St} {H8:Hp} {s8:Shared},Inv (qh X N' scope s3 H3 fp) ([]++U1 fp s7.heap) σ8 H8 s8->(∃ n',n'<n/\W (i+1) n' σ8 H8) ->
     ∃ m',m'<n/\∃ i σ' H',Inv (qh X N' scope s3 H3 fp) [] σ' H' s8/\tn i s8.heap/\(∀ b∈fp,H' b=none)/\W i m' σ' H':=λ{σ8 H8 s8} I8 ⟨n',hn,w8⟩=>by
    refine ⟨n',hn,i+1,σ8,H8,I8.unpinned,T.keep _ _ _ st7 λb hb o e=>(I8.pin (b,o) (v7 _ (v7 _ (zd hb e)))).1,λb hb=>?_,w8⟩;obtain ⟨o,e,d⟩:=T.obj _ _ st7 b hb;exact (I8.pin (b,o) (v7 _ (v7 _ (zd hb e)))).2.1
   refine x8 (y0 (hg s3 H3 fp _ s7 σ5 H7 x u _ I7' r7 (step x H7 y7)) (λ_ s8 ⟨σ8,H8,I8,q8⟩=>?_) λ_ _ z=>z.elim);refine x8 (y0 (hf s3 H3 fp _ s8 σ8 H8 _ I8 q8) (λk s9 ⟨H9,I9,q9⟩=>?_) λ_ _ z=>z.elim);cases k with
   |false=>
    rw [if_neg y8] at q9;exact x9 ⟨rfl,again I9 q9⟩
   |true=>
    rw [if_pos rfl] at q9;refine qfs (X:=qh X N' scope s3 H3 fp) rfl (λ_ _ z=>z) (hi2 s3 H3 fp) (hg2 s3 H3 fp) (hf2 s3 H3 fp) (he s3 H3 fp) (hs2 s3 H3 fp) I9 q9 λs10 σ10 H10 I10 q10=>?_;exact x9 ⟨rfl,again I10 q10⟩
 exact codeAny_compStart_list loop (T.self X.A 0 _ _ _ tn4 loop)
end
def qjd (D:Addr) (stay:Gp->Prop) (g:TG3) (tif:TT3) (te:TE3) (N:St3->Gp->Prop):List T->St3->Gp->Prop
 |[],τ,G=>stay G/\N τ G
 |x::r,τ,G=>stay G/\g x τ G λτ2 G2=>tif τ2 G2 λk G3=>
  if k=true then te τ2 G3 λy G4=>(match G4 D with|some (.lst ys)=>ys.length<sizeLine/\qjd D stay g tif te N r τ2 (gu G4 D (.lst (ys++[y])))|_=>False) else qjd D stay g tif te N r τ2 G3
def N7 (D:Addr) (stay:Gp->Prop) (g:TG3) (tif:TT3) (wi2:TI3) (g2:TG3) (tif2:TT3) (te:TE3) (q:Q3):List T->St3->Gp->Prop
 |[],_,G=>stay G/\q (.ref D) G
 |x::r,τ,G=>stay G/\g x τ G λτ2 G2=>tif τ2 G2 λk G3=>
  if k=true then wi2 τ2 G3 λitems2 stay2 G4=>qjd D stay2 g2 tif2 te (λτ' G'=>N7 D stay g tif wi2 g2 tif2 te q r τ' G') items2 τ2 G4 else N7 D stay g tif wi2 g2 tif2 te q r τ2 G3
def qdl (wi:TI3) (g:TG3) (tif:TT3) (wi2:TI3) (g2:TG3) (tif2:TT3) (te:TE3) (m:List (Option Nat)):TE3:=λτ G q=>wi τ G λitems stay G1=>∀ D,G1 D=none->N7 D stay g tif wi2 g2 tif2 te q items (cap m τ) (gu G1 D (.lst []))
section
variable {K:Frg}
def qcG {wi2:TI3} {g2:TG3} {tif2:TT3} {te:TE3} {D:Addr} {N3:St3->Gp->Prop} {N:L2.St->Hp->Prop} {τ:St3} {G:Gp} {σ:L2.St} {H:Hp} {Gb:Gp} {Hb:Hp} (rl:Rel K τ G σ H) (kb:Kp Gb Hb G H) (h:wi2 τ G λitems stay G1=>qjd D stay g2 tif2 te N3 items τ G1)
  (hN:∀ τ' G' σ' H',Rel K τ' G' σ' H'->Kp Gb Hb G' H'->N3 τ' G'->N σ' H'):tIn (lI K wi2) (lG K g2) (lT K tif2) (lE K te) D N σ H:=by
 refine ⟨τ,G,_,rl,h,λitems stay G1 h1 J H1 hr1 k1 ok=>?_⟩;refine ⟨λi n σ' H'=>n=items.length-i/\i<=items.length/\∃ τ' G',Rel K τ' G' σ' H'/\Kp G1 H1 G' H'/\qjd D stay g2 tif2 te N3 (items.drop i) τ' G',⟨_,rfl,Nat.zero_le _,τ,G1,rl.next hr1 k1,Kp.refl,by simpa using h1⟩,?_⟩;rintro i n σ' H' ⟨rfl,hi,τ',G',rl',k',h'⟩;by_cases hlt:i<items.length
 ·rw [List.drop_eq_getElem_cons hlt] at h';obtain ⟨hst,h'⟩:=h';obtain ⟨go,yld,_⟩:=ok G' H' rl'.hp k' hst;have hx:items[i]?=some items[i]:=v0 hlt;refine .inr ⟨go i _ hx,λv H2 y=>?_⟩;obtain ⟨rv,hr2,k2⟩:=yld i _ v H2 hx y;refine ⟨_,τ',G',_,rv,rl'.next hr2 k2,h',λτ3 G3 h3 σ3 H3 rl3 k3=>⟨τ3,G3,_,rl3,h3,λk G4 h4 H4 hr4 k4=>?_⟩⟩;have kk:=(k2.trans k3).trans k4;cases k with
  |false=>
   rw [if_neg y8] at h4;refine qkz ?_;exact ⟨_,by omega,rfl,hlt,τ3,G4,rl3.next hr4 k4,k'.trans kk,h4⟩
  |true=>
   rw [if_pos rfl] at h4;refine qne ?_;refine ⟨τ3,G4,_,rl3.next hr4 k4,h4,λz G5 h5 w H5 rw5 hr5 k5=>?_⟩;split at h5
   ·rename_i ys e1;obtain ⟨vs,g1,r1⟩:=hr5.lst e1;exact ⟨vs,g1,by rw [← r1.length];exact h5.1,_,by omega,rfl,hlt,τ3,_,((rl3.next hr4 k4).next hr5 k5).next (hr5.wr e1 (r1.append (.cons rw5 .nil))) (Kp.wr e1),((k'.trans kk).trans k5).trans (Kp.wr e1),h5.2⟩
   ·exact h5.elim
 ·have e:i=items.length:=by omega
  subst e;rw [List.drop_length] at h';obtain ⟨_,_,stop⟩:=ok G' H' rl'.hp k' h'.1;exact .inl ⟨stop,hN _ _ _ _ rl' ((kb.trans k1).trans k') h'.2⟩
end
section
variable {X:Cx}
def qo6 {elt tg iter t2 i2:Expr} {ifs f2:List Expr} {scope:Scope} {pos:Pos} (N':List Str) (m:List (Option Nat)) {wi:TI3} {g:TG3} {tif:TT3} {wi2:TI3} {g2:TG3} {tif2:TT3} {te:TE3} (hc:X.calm=true) (hi:I3 X tg iter wi)
  (hg:∀ s H fp,G3 (qh X N' scope s H fp) tg g) (hf:∀ s H fp,F3 (qh X N' scope s H fp) ifs tif) (hi2:∀ s H fp,I3 (qh X N' scope s H fp) t2 i2 wi2) (hg2:∀ s H fp,G3 (qh X N' scope s H fp) t2 g2) (hf2:∀ s H fp,F3 (qh X N' scope s H fp) f2 tif2) (he:∀ s H fp,E3 (qh X N' scope s H fp) elt te)
  (hsc:LF X.env.scope scope=true) (hcap:J1 X.N N' scope m=true) (hs:∀ x,foldedSetIterable iter X.env x=pure x:=by intro _;rfl) (hs2:∀ s H fp x,foldedSetIterable i2 (qh X N' scope s H fp).env x=pure x:=by intro _ _ _ _;rfl) :
  E3 X (.ListComp elt [⟨tg,iter,ifs,0⟩,⟨t2,i2,f2,0⟩] scope pos) (qdl wi g tif wi2 g2 tif2 te m):=
 DP (qlw (g:=lG X.K g) (tif:=lT X.K tif) (wi2:=lI X.K wi2) (g2:=lG X.K g2) (tif2:=lT X.K tif2) (te:=lE X.K te) hc hi hg hf hi2 hg2 hf2 he hsc hcap hs hs2) λσ H Q ⟨τ,G,q,rl,h,af⟩=>by
  refine ⟨τ,G,_,rl,h,λitems stay G1 h1 J H1 hr1 k1 ok D hD=>?_⟩;have gD:G1 D=none:=hr1.free hD;have h1:=h1 D gD;have hr1':HR X.K (gu G1 D (.lst [])) (upd H1 D (.lst [])):=HR.newL hr1 hD .nil;have k1':Kp G1 H1 (gu G1 D (.lst [])) (upd H1 D (.lst [])):=Kp.newL hD;refine ⟨λi n σ' H'=>n=items.length-i/\i<=items.length/\∃ τ' G',Rel X.K τ' G' σ' H'/\Kp G1 H1 G' H'/\N7 D stay g tif wi2 g2 tif2 te q (items.drop i) τ' G',
   ⟨_,rfl,Nat.zero_le _,cap m τ,_,((rl.next hr1 k1).cap m).next hr1' k1',k1',by simpa using h1⟩,?_⟩
  rintro i n σ' H' ⟨rfl,hi,τ',G',rl',k',h'⟩;by_cases hlt:i<items.length
  ·rw [List.drop_eq_getElem_cons hlt] at h';obtain ⟨hst,h'⟩:=h';obtain ⟨go,yld,_⟩:=ok G' H' rl'.hp k' hst;have hx:items[i]?=some items[i]:=v0 hlt;refine .inr ⟨go i _ hx,λv H2 y=>?_⟩;obtain ⟨rv,hr2,k2⟩:=yld i _ v H2 hx y;refine ⟨_,τ',G',_,rv,rl'.next hr2 k2,h',λτ3 G3 h3 σ3 H3 rl3 k3=>⟨τ3,G3,_,rl3,h3,λk G4 h4 H4 hr4 k4=>?_⟩⟩;have kk:=(k2.trans k3).trans k4;cases k with
   |false=>
    rw [if_neg y8] at h4;refine qkz ?_;exact ⟨_,by omega,rfl,hlt,τ3,G4,rl3.next hr4 k4,k'.trans kk,h4⟩
   |true=>
    rw [if_pos rfl] at h4;refine qne ?_;exact qcG (rl3.next hr4 k4) (k'.trans kk) h4 λτ5 G5 σ5 H5 rl5 k5 h5=>⟨_,by omega,rfl,hlt,τ5,G5,rl5,k5,h5⟩
  ·have e:i=items.length:=by omega
   subst e;rw [List.drop_length] at h';obtain ⟨_,_,stop⟩:=ok G' H' rl'.hp k' h'.1;exact .inl ⟨stop,af _ _ h'.2 _ H' (.ref D) rl'.hp (k1.trans k')⟩
def qcD {elt tg iter t2 i2:Expr} {ifs f2:List Expr} {scope:Scope} {pos:Pos} (N':List Str) (m:List (Option Nat)) {wi:TI3} {g:TG3} {tif:TT3} {wi2:TI3} {g2:TG3} {tif2:TT3} {te:TE3} (hc:X.calm=true) (hi:jI3 X tg iter wi)
  (hg:∀ s H fp,jG3 (qh X N' scope s H fp) tg g) (hf:∀ s H fp,jF3 (qh X N' scope s H fp) ifs tif) (hi2:∀ s H fp,jI3 (qh X N' scope s H fp) t2 i2 wi2) (hg2:∀ s H fp,jG3 (qh X N' scope s H fp) t2 g2) (hf2:∀ s H fp,jF3 (qh X N' scope s H fp) f2 tif2) (he:∀ s H fp,jE3 (qh X N' scope s H fp) elt te)
  (hsc:LF X.env.scope scope=true) (hcap:J1 X.N N' scope m=true) (hs:∀ x,foldedSetIterable iter X.env x=pure x:=by intro _;rfl) (hs2:∀ s H fp x,foldedSetIterable i2 (qh X N' scope s H fp).env x=pure x:=by intro _ _ _ _;rfl) :
  jE3 X (.ListComp elt [⟨tg,iter,ifs,0⟩,⟨t2,i2,f2,0⟩] scope pos) (qdl wi g tif wi2 g2 tif2 te m):=
 ⟨qo6 N' m hc hi.h (λs H fp=>(hg s H fp).h) (λs H fp=>(hf s H fp).h) (λs H fp=>(hi2 s H fp).h) (λs H fp=>(hg2 s H fp).h) (λs H fp=>(hf2 s H fp).h) (λs H fp=>(he s H fp).h) hsc hcap hs hs2⟩
end
section
variable {X:Cx}
theorem CH:∀ {its:List Value} {ns:List Int},zt (ns.map V.int) its->IntsAre its ns
 |_,[],h=>by cases h;exact .nil
 |_,n::ns,h=>by
  cases h with
  |cons r t=>
   obtain ⟨k,rfl⟩:=r;exact .cons n k (CH t)
end
section
variable {X:Cx} {tg a b c:Expr} {pos:Pos}
end
def DO (ns:List Int):Nat:=(firstMet (λi=>ns.getD i 0) ns.length).length
section
variable {X:Cx}
def RW (hc:X.calm=true):J5 X (.type "set") (λxs H Q=>∃ (p:Addr) (ns:List Int),xs=[.ref p]/\SqL X.K H p (ns.map V.int)/\ns.length<4000/\∀ l S,H l=none->Q (.ref l) (upd H l (.set S (DO ns)))):=by
 intro pins s σ H xs us Q I r h;obtain ⟨p,ns,rfl,hq,hl,q⟩:=h;obtain ⟨u,rfl,rp⟩:=ED r;cases (show u=Value.ref p from rp);obtain ⟨its,rv,pl,hz⟩:=I.list hq;have hlen:its.length=ns.length:=by have:=rv.length;simp at this;omega
 refine call_set_list (items:=its.toArray) (ns:=ns) (I.ok.hd hc) pl.isList (by simpa using CH rv) (by rw [size_toArray];unfold scanBound;omega) λh' tk hs kp=>?_;have e:(its.toArray).size=ns.length:=by rw [size_toArray];exact hlen
 rw [e] at hs;exact ⟨.ref s.heap.objs.size,_,I.laid (t':=tk) (o:=.set (λk'=>(firstMet (λi=>ns.getD i 0) ns.length).any (·==k')) (DO ns)) (λb o hb=>kp b o (y6 hb) hb) (v5 _) hs,rfl,q _ _ (I.hok.fresh (v5 _))⟩
def RQ:J5 X (.builtin "len") (λxs H Q=>∃ a S n,xs=[.ref a]/\H a=some (.set S n)/\Q (.int n) H):=by
 intro pins s σ H xs us Q I r h;obtain ⟨a,S,n,rfl,ha,q⟩:=h;obtain ⟨u,rfl,rp⟩:=ED r;cases (show u=Value.ref a from rp);obtain ⟨o,es,ep,t,h1,h2,h3,_,_,h6,h7,h8⟩:=(show s.heap.SetOf (intKind X.prog X.w) a S n from I.hok a _ ha)
 refine call_len_set h1 h2 h3 h7 (by unfold scanBound at h6;omega) ⟨.int n,H,I.tok _,⟨_,by rw [h8]⟩,q⟩
def qhL (te:TE3):TE3:=λτ G q=>te τ G λx G1=>match x with
 |.ref p=>(match getL G1 p with|some ys=>(match TN ys with|some ns=>ns.length<4000/\q (.int (DO ns)) G1|none=>False)|none=>False)
 |_=>False
def qaT {e:Expr} {te:TE3} {p p2 pos pos2:Pos} (hc:X.calm=true) (hg:Gl X "len") (hm:X.mg "len" = none) (hg2:Gl X "set") (hm2:X.mg "set" = none) (he:jE3 X e te)
  (h1:starEach [e] X.env=(false,eval e X.env)::starEach [] X.env:=by rfl) (h2:starEach [.Call (.Name "set" p2) [e] [] pos2] X.env=(false,eval (.Call (.Name "set" p2) [e] [] pos2) X.env)::starEach [] X.env:=by rfl)
  (h3:(backTo pos (starEach [] X.env)).any (·.1)=false:=by rfl) (h4:(backTo pos2 (starEach [] X.env)).any (·.1)=false:=by rfl):jE3 X (.Call (.Name "len" p) [.Call (.Name "set" p2) [e] [] pos2] [] pos) (qhL te):=
 ⟨DP (WC RQ hg hm PySem.boot_len (UT (KN (RW hc) hg2 hm2 (show bootBuiltins "set" = some (.type "set") by decide +kernel) (UT he.h KY h1) (he:=h1) (hpl:=h4)) KY h2) (he:=h2) (hpl:=h3)) λ_ _ _ ⟨τ,G,q,rl,h,af⟩=>zN rl h λx G1 h1 v H1 rx hr1 k1 rl1=>by
  split at h1
  ·rename_i l;cases rx;split at h1
   ·rename_i ys e0;split at h1
    ·rename_i ns e1;obtain ⟨us,hs,r2⟩:=jD hr1 e0;have:=RO e1;subst this;have:=RR r2;subst this;exact ⟨l,ns,rfl,hs,h1.1,λa S ha=>⟨a,S,_,rfl,qM,af _ _ h1.2 _ _ (.int _) (HR.laid hr1 ha) (k1.trans (Kp.laid ha))⟩⟩
    ·exact h1.elim
   ·exact h1.elim
  ·exact h1.elim⟩
end
section
variable {X:Cx} {a b:Expr} {ta tb:TE3} {pos:Pos}
def qf5:OpR X (compareOp .Is) (λx y H Q=>∃ i j,x=.bl i/\y=.bl j/\Q (.bl (i==j)) H):=by
 intro pins s σ H x y v u Q I rx ry h;obtain ⟨i,j,rfl,rfl,q⟩:=h;cases rx;cases ry;exact is_bool (qY I q rfl)
def qgY:OpR X (compareOp .IsNot) (λx y H Q=>∃ i j,x=.bl i/\y=.bl j/\Q (.bl (i != j)) H):=by
 intro pins s σ H x y v u Q I rx ry h;obtain ⟨i,j,rfl,rfl,q⟩:=h;cases rx;cases ry;exact isnot_bool (qY I q rfl)
def qiq (neg:Bool):R3:=λx y G q=>match x,y with|.bl i,.bl j=>q (.bl (if neg then i != j else i==j)) G|_,_=>False
def qaO {K:Frg}:LB K (qiq false) (λx y H Q=>∃ i j,x=.bl i/\y=.bl j/\Q (.bl (i==j)) H):=λx y v u G H q Q hr rx ry h af=>by
 cases x<;>try exact h.elim
 cases y<;>try exact h.elim
 cases rx;cases ry;exact ⟨_,_,rfl,rfl,af _ G h _ H (.bl _) hr Kp.refl⟩
def qdB {K:Frg}:LB K (qiq true) (λx y H Q=>∃ i j,x=.bl i/\y=.bl j/\Q (.bl (i != j)) H):=λx y v u G H q Q hr rx ry h af=>by
 cases x<;>try exact h.elim
 cases y<;>try exact h.elim
 cases rx;cases ry;exact ⟨_,_,rfl,rfl,af _ G h _ H (.bl _) hr Kp.refl⟩
def qht:R3:=λx y G q=>match x,y with
 |.ref a,.int k=>(match G a with|some (.lst xs)=>(-(2 ^ 63)<=k/\k<2 ^ 63)/\xs.length*k.toNat<=sizeLine/\∀ p,G p=none->q (.ref p) (gu G p (.lst (List.replicate k.toNat xs).flatten))|_=>False)
 |_,_=>False
theorem qcv {K:Frg} {H:Hp} {xs:List T} {vs:List V} (r:Rps K H xs vs):∀ k,Rps K H (List.replicate k xs).flatten (List.replicate k vs).flatten
 |0=>.nil
 |k+1=>by
  rw [List.replicate_succ,List.flatten_cons,List.replicate_succ,List.flatten_cons];exact r.append (qcv r k)
def qiW {K:Frg}:LB K qht qrc:=λx y v u G H q Q hr rx ry h af=>by
 cases x<;>try exact h.elim
 case ref a=>
  cases y<;>try exact h.elim
  case int k=>
   unfold qht at h;simp only at h;split at h
   ·rename_i xs e1;cases rx;cases ry;obtain ⟨vs,g1,r1⟩:=hr.lst e1;exact ⟨a,k,vs,rfl,rfl,g1,h.1.1,h.1.2,by rw [← r1.length];exact h.2.1,λp hp=>af _ _ (h.2.2 p (hr.free hp)) _ _ (.ref p) (hr.newL hp (qcv r1 _)) (Kp.newL hp)⟩
   ·exact h.elim
def qnw (ha:jE3 X a ta) (hb:jE3 X b tb):jE3 X (.BinOp a .Mult b pos) (o3 qht ta tb):=⟨qdQ qjz qiW ha.h hb.h⟩
structure ShW (d:PyData):Prop where
 sh:d.showable=true
 nd:d.hasDict=false
 dp:d.depth<=40
 fit:d.shown.length<=sizeLine
def ShOk.w {d:PyData} (h:ShOk d):ShW d:=⟨h.sh,h.nd,h.dp,PyData.shown_fits_bulk (by decide) (by decide) h.lv h.bk⟩
def qcm (hg:X.A.guards=some []) (hu:X.A.units+64<cLine):J5 X (.type "str") (λxs H Q=>∃ a d,xs=[.ref a]/\DV X.K H (.ref a) d/\ShW d/\Q (.str d.shown) H):=by
 intro pins s σ H xs us Q I r h;obtain ⟨a,d,rfl,dv,ok,q⟩:=h;obtain ⟨u,rfl,rp⟩:=ED r;cases (show u=Value.ref a from rp);obtain ⟨as,rd⟩:=dv.reads I (show jx (.ref a) (.ref a) from rfl);refine str_of_reads rd ok.sh (PyData.noDict_hsm ok.nd) hg (by have:=ok.dp;omega) (λ_ _ e=>e) (λh' u tk hk=>?_) ok.fit;exact ⟨.str _,H,I.kept (h':=h') (t':=tk) hk,⟨_,rfl⟩,q⟩
def shV (st:Bool):V->Hp->(Str->Prop)->Prop:=λv H q=>match v with
 |.non=>q (Str.ofString "None")
 |.bl b=>q (if b=true then Str.ofString "True" else Str.ofString "False")
 |.int i=>i.natAbs.log2<1920/\q (Str.ofString (toString i))
 |.str x=>if st then q x else (reprText x).length<=sizeLine/\q (reprText x)
 |.ref a=>∃ d,DV X.K H (.ref a) d/\ShW d/\q d.shown
 |_=>False
def W7 (hg:X.A.guards=some []) (hu:X.A.units+64<cLine):J5 X (.type "str") (λxs H Q=>∃ v,xs=[v]/\shV (X:=X) true v H λx=>Q (.str x) H):=by
 intro pins s σ H xs us Q I r h;obtain ⟨v,rfl,h⟩:=h;obtain ⟨u,rfl,rp⟩:=ED r;cases v with
 |non=>cases (show u=Value.none from rp);exact P.str_of_none ⟨.str _,H,I.tok _,⟨_,rfl⟩,h⟩
 |bl b=>cases (show u=Value.bool b from rp);exact P.str_of_bool ⟨.str _,H,I.tok _,⟨_,rfl⟩,h⟩
 |int i=>obtain ⟨t,rfl⟩:=(show ∃ t,u=Value.int i t from rp);exact P.str_of_int h.1 ⟨.str _,H,I.tok _,⟨_,rfl⟩,h.2⟩
 |str x=>obtain ⟨t,rfl⟩:=(show ∃ t,u=Value.str x t from rp);exact P.str_of_str ⟨.str _,H,I,⟨_,rfl⟩,h⟩
 |ref a=>
  obtain ⟨d,dv,ok,q⟩:=h;exact qcm hg hu _ _ _ _ _ _ _ I r ⟨a,d,rfl,dv,ok,q⟩
 |_=>exact h.elim
def shT (st:Bool):T->Gp->(Str->Prop)->Prop:=λx G q=>match x with
 |.non=>q (Str.ofString "None")
 |.bl b=>q (if b=true then Str.ofString "True" else Str.ofString "False")
 |.int i=>i.natAbs.log2<1920/\q (Str.ofString (toString i))
 |.str x=>if st then q x else (reprText x).length<=sizeLine/\q (reprText x)
 |.tup _=>∃ d,Dp G x d/\ShW d/\q d.shown
 |.ref _=>∃ d,Dp G x d/\ShW d/\q d.shown
def qbq (st:Bool):List T->Gp->Q3->Prop:=λxs G q=>match xs with
 |[x]=>shT st x G λy=>q (.str y) G
 |_=>False
def NQ {st:Bool}:MM X.K (qbq st) (λxs H Q=>∃ v,xs=[v]/\shV (X:=X) st v H λx=>Q (.str x) H):=λxs vs G H q Q hr rs h af=>by
 unfold qbq at h;split at h
 ·rename_i x;obtain ⟨v,rfl,r⟩:=TH rs;refine ⟨v,rfl,?_⟩;cases r with
  |non=>exact af _ G h _ H (.str _) hr Kp.refl
  |bl b=>exact af _ G h _ H (.str _) hr Kp.refl
  |int i=>exact ⟨h.1,af _ G h.2 _ H (.str _) hr Kp.refl⟩
  |str x=>
   cases st with
   |true=>exact af _ G h _ H (.str _) hr Kp.refl
   |false=>exact ⟨h.1,af _ G h.2 _ H (.str _) hr Kp.refl⟩
  |tup hs r2=>
   obtain ⟨d,h1,h2,h3⟩:=h;exact ⟨d,h1.dv hr (.tup hs r2),h2,af _ G h3 _ H (.str _) hr Kp.refl⟩
  |ref a=>
   obtain ⟨d,h1,h2,h3⟩:=h;exact ⟨d,h1.dv hr (.ref a),h2,af _ G h3 _ H (.str _) hr Kp.refl⟩
 ·exact h.elim
end
end L3
namespace HT
open PySem PySem.Spec PyProof.Rows
section
variable {prog:Program} {w:World} {A:Around} {E:Value->Shared->Prop} {s:Shared}
end
end HT
namespace L3
open PySem PySem.Spec PyProof.Rows L2
section
variable {X:Cx} {e ek:Expr} {p2 pos:Pos}
end
section
variable {X:Cx} {a b:Expr} {ta tb:TE3} {pos:Pos}
end
abbrev Rd (sp:Sp3) (n:Nat) (t:TS3) (N:List Str):Prop:=∀ ts G q,sp ts G q->ts.length=n/\t { nx:=λ_ G'=>q .non G',rt:=q } (qm N ts) G
def jgn {pos:Pos} {X:Cx} {x:Str} (i:Nat) (hN:decide X.N.Nodup=true:=by kernel_rfl) (hi:X.N[i]?=some x:=by rfl) (hx:Loc X.env.scope x:=by first|exact Or.inl rfl|exact Or.inr rfl) (hf:X.fn x=true\/X.env.scope.names.lookup x=some .local:=by first|exact .inl rfl|exact .inr rfl):jG3 X (.Name x pos) (gn3 i):=
 qr (of_decide_eq_true hN) hi hx hf
end L3
namespace L2
open PySem PySem.Spec PyProof.Rows
section
variable {X:Cx} {pos:Pos}
end
end L2
namespace L3
open PySem PySem.Spec PyProof.Rows L2
section
variable {X:Cx} {pos:Pos}
end
end L3
namespace HT
open PySem PyProof.Rows
section
variable {prog:Program} {w:World} {A:Around} {E:Value->Shared->Prop} {s:Shared}
end
end HT
namespace L3
open PySem PySem.Spec PyProof.Rows L2
section
variable {X:Cx}
end
section
variable {P:Program} {w:World} {A:Around} {s:Shared} {z ti to i1 i2 c1 c2:Addr} {S1 S2:Nat->Heap->Prop} {H1 H2:Array Value->Heap->Prop} {k1 k2:Nat} {xs ys:Array Value} {x y a b f0 f1:Value} {E:Value->Shared->Prop}
end
section
variable {P:Program} {w:World} {A:Around} {s:Shared} {E:Value->Shared->Prop}
end
section
variable {X:Cx} {a b e l:Expr} {es:List Expr} {pos:Pos} {t:TA3}
end
end L3
namespace Tb8
open PySem PySem.SetTable
end Tb8
namespace Tb8
open PySem PyProof.Rows
section
variable {prog:Program} {w:World} {A:Around} {E:Value->Shared->Prop} {s:Shared}
end
end Tb8
namespace Tb8
open PySem PyProof.Rows PySem.SetTable
section
variable {prog:Program} {w:World} {A:Around} {E:Value->Shared->Prop} {s:Shared}
end
end Tb8
namespace Tb8
open PySem PySem.SetTable
end Tb8
namespace Tb8
open PySem PyProof.Rows PySem.SetTable
section
variable {prog:Program} {w:World} {A:Around} {E:Value->Shared->Prop} {s:Shared}
end
section
variable {prog:Program} {w:World} {A:Around} {R:Result->Shared->Prop} {I:Addr} {fp wr:List Addr} {n:Nat} {P:Nat->Value->Prop} {St:Nat->Heap->Prop}
end
section
variable {prog:Program} {w:World} {A:Around} {E:Value->Shared->Prop} {s:Shared}
end
end Tb8
namespace L3
open PySem PySem.Spec PyProof.Rows L2
section
variable {X:Cx}
end
end L3
namespace Tb8
open PySem PyProof.Rows PySem.SetTable
section
variable {prog:Program} {w:World} {A:Around} {E:Value->Shared->Prop} {s:Shared}
end
end Tb8
namespace L3
open PySem PySem.Spec PyProof.Rows L2
section
variable {X:Cx}
end
section
variable {X:Cx} {K:Frg} {w:World} {mg:Str->Option Value}
end
section
variable {X:Cx}
end
open PySem.SeqAt
section
variable {X:Cx} {pins:List (Addr×Obj)} {σ:L2.St} {H:Hp} {s:Shared}
end
end L3
namespace HT
open PySem PySem.Spec PyProof.Rows L2
section
open PySem.SeqAt
open PySem.MeetsSeq PySem.MeetsSeq2 PySem.MeetsSeq3
end
section
variable {prog:Program} {w:World} {A:Around} {E:Value->Shared->Prop} {s:Shared}
end
end HT
namespace L3
open PySem PySem.Spec PyProof.Rows L2
section
variable {X:Cx}
end
end L3
namespace HT
open PySem PyProof.Rows
section
variable {prog:Program} {w:World} {A:Around} {R:Result->Shared->Prop} {I:Addr} {fp wr:List Addr} {n:Nat} {P:Nat->Value->Prop} {St:Nat->Heap->Prop}
end
section
variable {prog:Program} {w:World} {A:Around} {E:Value->Shared->Prop} {s:Shared}
end
end HT
namespace L3
open PySem PySem.Spec PyProof.Rows L2
section
variable {X:Cx}
end
section
variable {X:Cx}
end
section
variable {X:Cx}
def qd4 {elt tg iter t2 i2:Expr} {ifs f2:List Expr} {scope:Scope} {pos cpos:Pos} {N':List Str} {m:List (Option Nat)} {wi:TI} {g:TG} {tif:TT} {wi2:TI} {g2:TG} {tif2:TT} {te:TE} {use:Option (Value->Sem Unit)} {Qc:Value->Shared->Prop} {QD:Addr->Hp->Prop} (hc:X.calm=true) (hi:PI X tg iter wi)
  (hg:∀ s H fp,PG (qh X N' scope s H fp) tg g) (hf:∀ s H fp,PF (qh X N' scope s H fp) ifs tif) (hi2:∀ s H fp,PI (qh X N' scope s H fp) t2 i2 wi2) (hg2:∀ s H fp,PG (qh X N' scope s H fp) t2 g2) (hf2:∀ s H fp,PF (qh X N' scope s H fp) f2 tif2) (he:∀ s H fp,PE (qh X N' scope s H fp) elt te)
  (hsc:LF X.env.scope scope=true) (hcap:J1 X.N N' scope m=true) (hs:∀ x,foldedSetIterable iter X.env x=pure x) (hs2:∀ s H fp x,foldedSetIterable i2 (qh X N' scope s H fp).env x=pure x) {pins:List (Addr×Obj)} {s:Shared} {σ:L2.St} {H:Hp} (I:Inv X pins σ H s)
  (h:wi σ H λJ H1=>∀ D,H1 D=none ->
   ∃ W:Nat->Nat->L2.St->Hp->Prop,(∃ n,W 0 n (cap m σ) (upd H1 D (.lst [])))/\∀ i n σ H,W i n σ H ->
    (J.stop i H/\QD D H)\/(J.go i H/\∀ x H',J.yld i H x H'->g x σ H' λσ2 H2=>tif σ2 H2 λk H3=>
     if k=true then tIn wi2 g2 tif2 te D (λσ4 H4=>∃ n',n'<n/\W (i+1) n' σ4 H4) σ2 H3
     else ∃ n',n'<n/\W (i+1) n' σ2 H3))
  (fin:∀ (D:Addr) (s3:Shared) (H3:Hp) (fp:List Addr) (s6:Shared) (H6:Hp) (σ6:L2.St) (r:Flow),Inv X pins σ H3 s3->(∀ b∈fp,CB X pins H3 b)->Inv (qh X N' scope s3 H3 fp) [] σ6 H6 s6->QD D H6->compPost (model X.prog X.w) X.A X.xe use Qc (.ref D) s3.heap.objs.size (.ok r) s6) :
  wpAny (model X.prog X.w) X.A (comprehension (.ListComp elt [⟨tg,iter,ifs,0⟩,⟨t2,i2,f2,0⟩] scope pos) scope X.env cpos (newList []) false (eval iter X.env) use) Qc X.xe s:=by
 have sc:=VQ hsc;have hcl:∀ y∈scope.names,y.2=.free->∃ c,X.env.cells.lookup y.1=some c:=λy hy e=>by
  rcases (sc.free y hy e).2 with z|z
  ·exact I.ok.has y.1 (.inl z)
  ·exact I.ok.has y.1 (.inr z)
 refine wpAny_comprehension_free (g:=⟨tg,iter,ifs,0⟩) (gs:=[⟨t2,i2,f2,0⟩]) rfl hs (QV hcl) sc.kind sc.loc ?_;show wpAny _ _ (eval iter X.env) _ _ s;refine thn (hi pins s σ H _ I h) λv s1 h1=>thn h1 λitv s2 h2=>?_;obtain ⟨it,fp,tn,J,H2,rfl,I2,T,st2,fF2,hW⟩:=h2;refine wpAny_newObj_type ?_;have hD:H2 s2.heap.objs.size=none:=I2.fresh;obtain ⟨W,⟨n0,w0⟩,turn⟩:=hW _ hD;generalize hDe:s2.heap.objs.size=D at *;have I3:Inv X pins σ (upd H2 D (.lst [])) { s2 with heap:=s2.heap.push { cls:=.type "list",dict:=none,data:=.seq ([]:List Value).toArray } }:=by
  subst hDe;exact I2.laid (t':=s2.toks) (λb u e=>y3 _ e) (v5 _) ⟨Nat.zero_le _,[],0,.nil,y4 _ rfl⟩
 have ob2:=T.obj 0 _ st2;have ob3:∀ b∈fp,∃ o,(s2.heap.push { cls:=.type "list",dict:=none,data:=.seq ([]:List Value).toArray }).get? b=some o:=λb hb=>let ⟨o,e,_⟩:=ob2 b hb;⟨o,y3 _ e⟩
 have f3:∀ b∈fp,CB X pins (upd H2 D (.lst [])) b:=λb hb=>by
  obtain ⟨o,e,_⟩:=ob2 b hb;have:b≠D:=by rw [← hDe];exact u7 (y6 e)
  exact ⟨by rw [qt this];exact (fF2 b hb).1,(fF2 b hb).2⟩
 have k23:∀ b o,s2.heap.get? b=some o->(s2.heap.push { cls:=.type "list",dict:=none,data:=.seq ([]:List Value).toArray }).get? b=some o:=λb o e=>y3 _ e;generalize hH3:upd H2 D (.lst [])=H3 at *;generalize hs3:({ s2 with heap:=s2.heap.push { cls:=.type "list",dict:=none,data:=.seq ([]:List Value).toArray } }:Shared)=s3 at *;have ob3:∀ b∈fp,∃ o,s3.heap.get? b=some o:=by rw [← hs3];exact ob3
 have k23:∀ b o,s2.heap.get? b=some o->s3.heap.get? b=some o:=by rw [← hs3];exact k23
 refine jh λh₁ hns hk hown=>?_;have I4:Inv (qh X N' scope s3 H3 fp) [] (cap m σ) H3 { s3 with heap:=h₁ }:=WI hc I3 sc hcap f3 ob3 hns hk hown;have tn4:tn 0 h₁:=T.keep _ _ _ st2 λb hb o e=>hk b o (k23 b o e);have fr4:∀ b∈fp,H3 b=none:=λb hb=>(f3 b hb).1;have stat:∀ {H':Hp},(∀ b∈fp,H' b=none)->∀ b∈fp,CB (qh X N' scope s3 H3 fp) [] H' b:=λhn b hb=>by
  refine ⟨hn b hb,I4.ok.exf b hb |>.1,I4.ok.exfs b hb,.inl hb,λx c e=>(I4.ok.exf b hb).2 x c e,λp hp=>absurd (show p∈([]:List (Addr×Obj)) from hp) (by simp)⟩
 show codeAny (model X.prog X.w) X.A (.compStart (.ListComp elt [⟨tg,iter,ifs,0⟩,⟨t2,i2,f2,0⟩] scope pos) 0 (.ref it) (.ref D) (qh X N' scope s3 H3 fp).env) (compPost (model X.prog X.w) X.A X.xe use Qc (.ref D) s3.heap.objs.size) { s3 with heap:=h₁ };have loop:codeAny (model X.prog X.w) X.A (.compLoop (.ListComp elt [⟨tg,iter,ifs,0⟩,⟨t2,i2,f2,0⟩] scope pos) 0 (.ref it) (.ref D) (qh X N' scope s3 H3 fp).env) (compPost (model X.prog X.w) X.A X.xe use Qc (.ref D) s3.heap.objs.size) { s3 with heap:=h₁ }:=by
  refine codeAny_loop rfl (λn s'=>∃ i σ' H',Inv (qh X N' scope s3 H3 fp) [] σ' H' s'/\tn i s'.heap/\(∀ b∈fp,H' b=none)/\W i n σ' H') (λn s' hI=>?_) n0 ⟨0,cap m σ,H3,I4,tn4,fr4,w0⟩;show wpAny _ X.A ((compTurn (.ListComp elt [⟨tg,iter,ifs,0⟩,⟨t2,i2,f2,0⟩] scope pos) 0 (.ref it) (.ref D) (qh X N' scope s3 H3 fp).env).onRaise (λx=>do noteFrame x (qh X N' scope s3 H3 fp).env;theTreesLotGoes x)) _ _ s';refine wpAny_noted ?_;rw [U2];refine x8 (wpAny_standAt (x8 ?_));obtain ⟨i,σ5,H5,I5,st5,fr5,w5⟩:=hI;rcases turn i n σ5 H5 w5 with ⟨stop,q⟩|⟨go,step⟩
  ·refine thn (T.done (qh X N' scope s3 H3 fp) rfl rfl rfl rfl i [] s' σ5 H5 _ I5 (stat fr5) st5 stop) λr s6 ⟨hr,I6⟩=>?_;subst hr;refine x9 ?_;exact fin D s3 H3 fp s6 H5 σ5 _ I3 f3 I6 q
  ·refine thn (T.item (qh X N' scope s3 H3 fp) rfl rfl rfl rfl i [] s' σ5 H5 _ I5 (stat fr5) st5 go) λr s6 ⟨u,hr,h6⟩=>?_;subst hr;refine x8 (thn h6 λ_ s7 ⟨x,H7,I7,r7,y7,st7,fr7⟩=>?_);have I7':=I7.pinned (stat fr7) (T.obj _ _ st7);have again:∀ {σ8:L2.St} {H8:Hp} {s8:Shared},Inv (qh X N' scope s3 H3 fp) ([]++U1 fp s7.heap) σ8 H8 s8->(∃ n',n'<n/\W (i+1) n' σ8 H8) ->
     ∃ m',m'<n/\∃ i σ' H',Inv (qh X N' scope s3 H3 fp) [] σ' H' s8/\tn i s8.heap/\(∀ b∈fp,H' b=none)/\W i m' σ' H':=λ{σ8 H8 s8} I8 ⟨n',hn,w8⟩=>by
    refine ⟨n',hn,i+1,σ8,H8,I8.unpinned,T.keep _ _ _ st7 λb hb o e=>(I8.pin (b,o) (v7 _ (v7 _ (zd hb e)))).1,λb hb=>?_,w8⟩;obtain ⟨o,e,d⟩:=T.obj _ _ st7 b hb;exact (I8.pin (b,o) (v7 _ (v7 _ (zd hb e)))).2.1
   refine x8 (y0 (hg s3 H3 fp _ s7 σ5 H7 x u _ I7' r7 (step x H7 y7)) (λ_ s8 ⟨σ8,H8,I8,q8⟩=>?_) λ_ _ z=>z.elim);refine x8 (y0 (hf s3 H3 fp _ s8 σ8 H8 _ I8 q8) (λk s9 ⟨H9,I9,q9⟩=>?_) λ_ _ z=>z.elim);cases k with
   |false=>
    rw [if_neg y8] at q9;exact x9 ⟨rfl,again I9 q9⟩
   |true=>
    rw [if_pos rfl] at q9;refine qfs (X:=qh X N' scope s3 H3 fp) rfl (λ_ _ z=>z) (hi2 s3 H3 fp) (hg2 s3 H3 fp) (hf2 s3 H3 fp) (he s3 H3 fp) (hs2 s3 H3 fp) I9 q9 λs10 σ10 H10 I10 q10=>?_;exact x9 ⟨rfl,again I10 q10⟩
 exact codeAny_compStart_list loop (T.self X.A 0 _ _ _ tn4 loop)
def qby {i:Nat} {y:Str} {py spos:Pos} {elt tg iter t2 i2:Expr} {ifs f2:List Expr} {scope:Scope} {pos:Pos} {N':List Str} {m:List (Option Nat)} {wi:TI} {g:TG} {tif:TT} {wi2:TI} {g2:TG} {tif2:TT} {te:TE} (hc:X.calm=true) (hN:X.N.Nodup) (hi:PI X tg iter wi)
  (hg:∀ s H fp,PG (qh X N' scope s H fp) tg g) (hf:∀ s H fp,PF (qh X N' scope s H fp) ifs tif) (hi2:∀ s H fp,PI (qh X N' scope s H fp) t2 i2 wi2) (hg2:∀ s H fp,PG (qh X N' scope s H fp) t2 g2) (hf2:∀ s H fp,PF (qh X N' scope s H fp) f2 tif2) (he:∀ s H fp,PE (qh X N' scope s H fp) elt te)
  (hsc:LF X.env.scope scope=true) (hcap:J1 X.N N' scope m=true) (hs:∀ x,foldedSetIterable iter X.env x=pure x) (hs2:∀ s H fp x,foldedSetIterable i2 (qh X N' scope s H fp).env x=pure x) (hiy:X.N[i]?=some y) (hl:X.env.scope.names.lookup y=some .local)
  (hsw:swapsWith (.ListComp elt [⟨tg,iter,ifs,0⟩,⟨t2,i2,f2,0⟩] scope pos) (some (.Name y py)) spos.line X.env=pure true) :
  PS X (.Assign [.Name y py] (.ListComp elt [⟨tg,iter,ifs,0⟩,⟨t2,i2,f2,0⟩] scope pos) spos) (qoF (qp3 wi g tif wi2 g2 tif2 te m) (qex i)):=by
 intro pins s σ H D I h;rw [exec_Assign_Name_used _ _ _ _ hsw];refine x8 (wpAny_standAt (x8 ?_));show wpAny _ X.A (do let _←comprehension (.ListComp elt [⟨tg,iter,ifs,0⟩,⟨t2,i2,f2,0⟩] scope pos) scope X.env _ (newList []) false (eval iter X.env) (some (assign (.Name y py) X.env))) _ _ s;refine x8 (y0 (qd4 (use:=some (assign (.Name y py) X.env)) (QD:=λD' H'=>D.nx (σ.set i (some (.ref D'))) H') (Qc:=λ_ s'=>∃ σ' H',Inv X pins σ' H' s'/\D.nx σ' H') hc hi hg hf hi2 hg2 hf2 he hsc hcap hs hs2 I h λD' s3 H3 fp s6 H6 σ6 r I3 f3 I6 q=>?_) (λ_ s' hq=>x9 (x9 hq)) λ_ _ e=>e);have I7:Inv X pins σ H6 s6:=VT (h2:=s6.heap) I3 f3 I6 ⟨rfl,λ_ _=>rfl⟩;obtain ⟨mm,hn6,_⟩:=I6.loc;have hfC:CB X pins H6 s3.heap.objs.size:=I3.fpOk (v5 _) I6.free;obtain ⟨f0,f1,f2,f3',f4,f5⟩:=hfC;show wpAny _ X.A (assign (.Name y py) X.env (.ref D')) _ _ _;refine wpAny_assign_Name (XS I7 hN hiy (.inl hl) (v:=.ref D') rfl (λs8 I8 hch=>?_) (.inr hl));obtain ⟨a,sb,ha⟩:=hch;have hne:s3.heap.objs.size≠a:=by
  rcases ha with rfl|ha
  ·exact f1
  ·exact Ne.symm (f4 _ _ ha)
 refine ⟨mm,hn6.sameBut sb hne,λh' sb'=>⟨_,_,I8.turned (t':=s8.toks) (λb o hb e=>(sb'.2 b hb).trans e) f0 f1 f3' f4 f5,q⟩⟩
end
def qkE {K:Frg} {m:List (Option Nat)} {wi:TI3} {g:TG3} {tif:TT3} {wi2:TI3} {g2:TG3} {tif2:TT3} {te:TE3} {σ:L2.St} {H:Hp} {Q:VK} (hh:lE K (qdl wi g tif wi2 g2 tif2 te m) σ H Q):qp3 (lI K wi) (lG K g) (lT K tif) (lI K wi2) (lG K g2) (lT K tif2) (lE K te) m σ H Q:=by
  obtain ⟨τ,G,q,rl,h,af⟩:=hh;refine ⟨τ,G,_,rl,h,λitems stay G1 h1 J H1 hr1 k1 ok D hD=>?_⟩;have gD:G1 D=none:=hr1.free hD;have h1:=h1 D gD;have hr1':HR K (gu G1 D (.lst [])) (upd H1 D (.lst [])):=HR.newL hr1 hD .nil;have k1':Kp G1 H1 (gu G1 D (.lst [])) (upd H1 D (.lst [])):=Kp.newL hD;refine ⟨λi n σ' H'=>n=items.length-i/\i<=items.length/\∃ τ' G',Rel K τ' G' σ' H'/\Kp G1 H1 G' H'/\N7 D stay g tif wi2 g2 tif2 te q (items.drop i) τ' G',
   ⟨_,rfl,Nat.zero_le _,cap m τ,_,((rl.next hr1 k1).cap m).next hr1' k1',k1',by simpa using h1⟩,?_⟩
  rintro i n σ' H' ⟨rfl,hi,τ',G',rl',k',h'⟩;by_cases hlt:i<items.length
  ·rw [List.drop_eq_getElem_cons hlt] at h';obtain ⟨hst,h'⟩:=h';obtain ⟨go,yld,_⟩:=ok G' H' rl'.hp k' hst;have hx:items[i]?=some items[i]:=v0 hlt;refine .inr ⟨go i _ hx,λv H2 y=>?_⟩;obtain ⟨rv,hr2,k2⟩:=yld i _ v H2 hx y;refine ⟨_,τ',G',_,rv,rl'.next hr2 k2,h',λτ3 G3 h3 σ3 H3 rl3 k3=>⟨τ3,G3,_,rl3,h3,λk G4 h4 H4 hr4 k4=>?_⟩⟩;have kk:=(k2.trans k3).trans k4;cases k with
   |false=>
    rw [if_neg y8] at h4;refine qkz ?_;exact ⟨_,by omega,rfl,hlt,τ3,G4,rl3.next hr4 k4,k'.trans kk,h4⟩
   |true=>
    rw [if_pos rfl] at h4;refine qne ?_;exact qcG (rl3.next hr4 k4) (k'.trans kk) h4 λτ5 G5 σ5 H5 rl5 k5 h5=>⟨_,by omega,rfl,hlt,τ5,G5,rl5,k5,h5⟩
  ·have e:i=items.length:=by omega
   subst e;rw [List.drop_length] at h';obtain ⟨_,_,stop⟩:=ok G' H' rl'.hp k' h'.1;exact .inl ⟨stop,af _ _ h'.2 _ H' (.ref D) rl'.hp (k1.trans k')⟩
def qes {X:Cx} {py spos:Pos} {elt tg iter t2 i2:Expr} {ifs f2:List Expr} {scope:Scope} {pos:Pos} {y:Str} (i:Nat) (N':List Str) (m:List (Option Nat)) {wi:TI3} {g:TG3} {tif:TT3} {wi2:TI3} {g2:TG3} {tif2:TT3} {te:TE3} (hc:X.calm=true) (hN:X.N.Nodup) (hi:I3 X tg iter wi)
  (hg:∀ s H fp,G3 (qh X N' scope s H fp) tg g) (hf:∀ s H fp,F3 (qh X N' scope s H fp) ifs tif) (hi2:∀ s H fp,I3 (qh X N' scope s H fp) t2 i2 wi2) (hg2:∀ s H fp,G3 (qh X N' scope s H fp) t2 g2) (hf2:∀ s H fp,F3 (qh X N' scope s H fp) f2 tif2) (he:∀ s H fp,E3 (qh X N' scope s H fp) elt te)
  (hsc:LF X.env.scope scope=true) (hcap:J1 X.N N' scope m=true) (hl:X.env.scope.names.lookup y=some .local) (hsw:swapsWith (.ListComp elt [⟨tg,iter,ifs,0⟩,⟨t2,i2,f2,0⟩] scope pos) (some (.Name y py)) spos.line X.env=pure true) (hiy:X.N[i]?=some y) (hs:∀ x,foldedSetIterable iter X.env x=pure x) (hs2:∀ s H fp x,foldedSetIterable i2 (qh X N' scope s H fp).env x=pure x) :
  S3 X (.Assign [.Name y py] (.ListComp elt [⟨tg,iter,ifs,0⟩,⟨t2,i2,f2,0⟩] scope pos) spos) (qN (qdl wi g tif wi2 g2 tif2 te m) (gn3 i)):=
 MH (qby (g:=lG X.K g) (tif:=lT X.K tif) (wi2:=lI X.K wi2) (g2:=lG X.K g2) (tif2:=lT X.K tif2) (te:=lE X.K te) hc hN hi hg hf hi2 hg2 hf2 he hsc hcap hs hs2 hiy hl hsw) λ_ σ H ⟨τ,G,d,rl,h,af⟩=>
  qkE ⟨τ,G,_,rl,h,λx G1 h1 v H1 rx hr1 k1=>af.nx _ G1 h1 _ H1 ((rl.next hr1 k1).set i rx) k1⟩
def qdb {X:Cx} {py spos:Pos} {elt tg iter t2 i2:Expr} {ifs f2:List Expr} {scope:Scope} {pos:Pos} {y:Str} (i:Nat) (N':List Str) (m:List (Option Nat)) {wi:TI3} {g:TG3} {tif:TT3} {wi2:TI3} {g2:TG3} {tif2:TT3} {te:TE3} (hc:X.calm=true) (hN:X.N.Nodup) (hi:jI3 X tg iter wi)
  (hg:∀ s H fp,jG3 (qh X N' scope s H fp) tg g) (hf:∀ s H fp,jF3 (qh X N' scope s H fp) ifs tif) (hi2:∀ s H fp,jI3 (qh X N' scope s H fp) t2 i2 wi2) (hg2:∀ s H fp,jG3 (qh X N' scope s H fp) t2 g2) (hf2:∀ s H fp,jF3 (qh X N' scope s H fp) f2 tif2) (he:∀ s H fp,jE3 (qh X N' scope s H fp) elt te)
  (hsc:LF X.env.scope scope=true) (hcap:J1 X.N N' scope m=true) (hl:X.env.scope.names.lookup y=some .local) (hsw:swapsWith (.ListComp elt [⟨tg,iter,ifs,0⟩,⟨t2,i2,f2,0⟩] scope pos) (some (.Name y py)) spos.line X.env=pure true) (hiy:X.N[i]?=some y:=by rfl) (hs:∀ x,foldedSetIterable iter X.env x=pure x:=by intro _;rfl) (hs2:∀ s H fp x,foldedSetIterable i2 (qh X N' scope s H fp).env x=pure x:=by intro _ _ _ _;rfl) :
  jS3 X (.Assign [.Name y py] (.ListComp elt [⟨tg,iter,ifs,0⟩,⟨t2,i2,f2,0⟩] scope pos) spos) (qN (qdl wi g tif wi2 g2 tif2 te m) (gn3 i)):=
 ⟨qes i N' m hc hN hi.h (λs H fp=>(hg s H fp).h) (λs H fp=>(hf s H fp).h) (λs H fp=>(hi2 s H fp).h) (λs H fp=>(hg2 s H fp).h) (λs H fp=>(hf2 s H fp).h) (λs H fp=>(he s H fp).h) hsc hcap hl hsw hiy hs hs2⟩
section
variable {X:Cx} {a b:Expr} {ta tb:TE3} {pos:Pos}
end
end L3
namespace L3
open PySem PySem.Spec PyProof.Rows L2 PySem.SeqAt
section
variable {X:Cx} {a b:Expr} {ta tb:TE3} {pos:Pos}
end
end L3
namespace L3
open PySem PySem.Spec PyProof.Rows L2
section
variable {X:Cx} {a b e:Expr} {ta tb te:TE3} {pos:Pos}
end
section
variable {X:Cx} {a b:Expr} {ta tb:TE3} {pos:Pos}
end
section
variable {X:Cx}
end
def ev {α:Type}:List α->List α
 |[]=>[]
 |[x]=>[x]
 |x::_::r=>x::ev r
section
variable {X:Cx} {e el ek:Expr} {p2 pos:Pos}
end
section
variable {X:Cx} {pos:Pos} {e:Expr} {te:TE3}
end
section
variable {X:Cx} {pos:Pos} {o i e:Expr} {to ti te:TE3}
def qeA {pins:List (Addr×Obj)} {s:Shared} {σ:L2.St} {H:Hp} (I:Inv X pins σ H s):3<s.heap.objs.size:=by
 obtain ⟨o,es,ep,e,_⟩:=I.mod.glob.keeps I.bk;exact y6 e
def qdu:PE X (.Dict [] [] pos) (λσ H Q=>∀ p,H p=none->Q (.ref p) (upd H p (.dK []))):=by
 intro pins s σ H Q I h;refine wpAny_Dict_empty ?_;have sz:=qeA I;refine ⟨.ref s.heap.objs.size,_,I.laid (t':=s.toks) (o:=.dK []) (λb ob q=>y3 _ q) (v5 _) ?_,rfl,h _ (I.hok.fresh (v5 _))⟩;refine ⟨Nat.zero_le _,?_,[],.nil,Heap.DictOf.new _⟩;show decide (s.heap.objs.size=1)=false;exact za1 (λz=>by rw [z] at sz;exact absurd sz (by decide))
def qaa (kvs:List (Key×V)) (k:Int):Option V:=(kvs.find? λp=>decide (p.1=.inl k)).map (·.2)
def W9 (kvs:List (Key×V)) (k:Int) (v:V):List (Key×V):=
 if kvs.any (λp=>decide (p.1=.inl k)) then kvs.map (λp=>if p.1=.inl k then (p.1,v) else p) else kvs++[(.inl k,v)]
def qhG {kvs:List (Key×V)} {vs:List (Key×Value)} (k:Int) (h:KV kvs vs) {y:V} {u:Value} (r:jx y u):jx ((qaa kvs k).getD y) ((valueAt vs (.inl k)).getD u):=by
 induction h with
 |nil=>exact r
 |@cons a b as bs ab t ih=>
  obtain ⟨e,q⟩:=ab;unfold qaa valueAt at *;rw [List.find?_cons,List.find?_cons,e];cases decide (b.1=Sum.inl k) with
  |true=>exact q
  |false=>exact ih
def qjA {kvs:List (Key×V)} {vs:List (Key×Value)} (k:Int) (h:KV kvs vs):(kvs.any λp=>decide (p.1=.inl k))=vs.any λp=>decide (p.1=.inl k):=by
 induction h with
 |nil=>rfl
 |@cons a b as bs ab t ih=>rw [List.any_cons,List.any_cons,ih,ab.1]
def qmj {kvs:List (Key×V)} {vs:List (Key×Value)} (k:Int) {v:V} {u:Value} (r:jx v u) (h:KV kvs vs):KV (kvs.map (λp=>if p.1=.inl k then (p.1,v) else p)) (vs.map (λp=>if p.1=.inl k then (p.1,u) else p)):=by
 induction h with
 |nil=>exact .nil
 |@cons a b as bs ab t ih=>
  refine .cons ?_ ih;show (if a.1=Sum.inl k then (a.1,v) else a).1=(if b.1=Sum.inl k then (b.1,u) else b).1/\jx (if a.1=Sum.inl k then (a.1,v) else a).2 (if b.1=Sum.inl k then (b.1,u) else b).2;rw [ab.1];by_cases c:b.1=Sum.inl k
  ·rw [if_pos c,if_pos c];exact ⟨rfl,r⟩
  ·rw [if_neg c,if_neg c];exact ab
def qmV {kvs:List (Key×V)} {vs:List (Key×Value)} {k:Key} {v:V} {u:Value} (r:jx v u) (h:KV kvs vs):KV (kvs++[(k,v)]) (vs++[(k,u)]):=by
 induction h with
 |nil=>exact .cons ⟨rfl,r⟩ .nil
 |cons ab t ih=>exact .cons ab ih
def qd0 {kvs:List (Key×V)} {vs:List (Key×Value)} (k:Int) {v:V} {u:Value} (r:jx v u) (h:KV kvs vs):KV (W9 kvs k v) (stored vs (.inl k) u):=by
 unfold W9 stored;rw [qjA k h];cases vs.any λp=>decide (p.1=.inl k) with
 |true=>exact qmj k r h
 |false=>
  exact qmV r h
def qaB (kvs:List (Key×V)) (k:Int) (v:V):(W9 kvs k v).length<=kvs.length+1:=by
 unfold W9;cases kvs.any λp=>decide (p.1=.inl k) with
 |true=>rw [if_pos rfl,length_map];exact Nat.le_succ _
 |false=>rw [if_neg (by decide),length_append];exact v5 _
def qa4 {k:Int} {t:Tok}:(RJ X.prog X.w).is (.inl k) (.int k t)=true:=by
 exact qcp k t
def qkY:V->List V->Hp->VK->Prop:=λx xs H Q=>∃ p kvs k y,x=.ref p/\xs=[.int k,y]/\H p=some (.dK kvs)/\Q ((qaa kvs k).getD y) H
def qg9:MtM X "dict.get" qkY:=by
 intro pins s σ H x vs v us Q I rx rv h;obtain ⟨p,kvs,k,y,rfl,rfl,hH,q⟩:=h;cases rx;obtain ⟨a,b,rfl,ra,rb⟩:=rv.two;obtain ⟨t,rfl⟩:=ra;obtain ⟨hz,hS,ws,r,m⟩:=I.hok p _ hH;refine call_meetsIn PySem.F.slot_dict_get m.typeIs PySem.F.entry_dict_get (PySem.F.args_dict_get_3 _ _ _) (meets_dict_get_default (RJ X.prog X.w) p qa4 hS b) ⟨_,m.mapOf,?_⟩;exact ⟨_,H,I.tok _,qhG k r rb,q⟩
def qqj:qoI:=λo i v H Q=>∃ p kvs k,o=.ref p/\i=.int k/\H p=some (.dK kvs)/\kvs.length<sizeLine/\Q (upd H p (.dK (W9 kvs k v)))
def qdX:qpm X qqj:=by
 intro pins s σ H o i v ov iv u Q I ro ri rv h;obtain ⟨p,kvs,k,rfl,rfl,hH,hl,q⟩:=h;cases ro;obtain ⟨t,rfl⟩:=ri;obtain ⟨hz,hS,ws,r,m⟩:=I.hok p _ hH;have hlen:kvs.length=ws.length:=Paired.length r;refine wpAny_setItem_pairs (hsz:=by omega) qa4 m λh' m' sb=>?_;refine ⟨_,I.write (x:=p) (e:=p) (by rw [hH];trivial) (.inl rfl) (λb' u hb hu=>(sb.2 b' hb).trans hu) ?_ ?_,q⟩
 ·obtain ⟨o',_,_,e,_⟩:=m';exact ⟨_,e⟩
 ·exact ⟨u0 (qaB kvs k v) hl,hS,_,qd0 k rv r,m'⟩
end
section
variable {K:Frg} {G G':Gp} {H H':Hp}
def ZN (kvs:List (Int×T)):List Key:=kvs.map λp=>(Sum.inl p.1:Key)
def D0 (kvs:List (Int×T)):List T:=kvs.map λp=>p.2
def SY:List (Int×T)->Int->Option T
 |[],_=>none
 |p::r,k=>if p.1=k then some p.2 else SY r k
def qin (kvs:List (Int×T)) (k:Int):Bool:=kvs.any λp=>decide (p.1=k)
def M8 (kvs:List (Int×T)) (k:Int) (x:T):List (Int×T):=kvs.map λp=>if p.1=k then (p.1,x) else p
def DN (kvs:List (Int×T)) (k:Int) (x:T):List (Int×T):=if qin kvs k then M8 kvs k x else kvs++[(k,x)]
def EN {a b:Int}:((Sum.inl a:Key)=Sum.inl b)↔a=b:=⟨λe=>by cases e;rfl,λe=>by rw [e]⟩
theorem MO (k:Int) {y:T} {w:V} (ry:Rp K H y w):∀ {kvs:List (Int×T)} {vs:List V},Rps K H (D0 kvs) vs->Rp K H ((SY kvs k).getD y) ((qaa ((ZN kvs).zip vs) k).getD w)
 |[],_,.nil=>ry
 |p::r,v::vs,.cons h t=>by
  have e:qaa ((ZN (p::r)).zip (v::vs)) k=if p.1=k then some v else qaa ((ZN r).zip vs) k:=by
   show ((((Sum.inl p.1:Key),v)::(ZN r).zip vs).find? λq=>decide (q.1=.inl k)).map (·.2)=_;rw [List.find?_cons];by_cases c:p.1=k
   ·rw [if_pos c,za2 (EN.mpr c)];rfl
   ·rw [if_neg c,za1 (λz=>c (EN.mp z))];rfl
  have e2:SY (p::r) k=if p.1=k then some p.2 else SY r k:=rfl
  rw [e,e2];by_cases c:p.1=k
  ·rw [if_pos c,if_pos c];exact h
  ·rw [if_neg c,if_neg c];exact MO k ry t
theorem qa7 (k:Int):∀ {kvs:List (Int×T)} {vs:List V},Rps K H (D0 kvs) vs->(((ZN kvs).zip vs).any λp=>decide (p.1=.inl k))=qin kvs k
 |[],_,.nil=>rfl
 |p::r,v::vs,.cons h t=>by
  show (decide ((Sum.inl p.1:Key)=.inl k)||((ZN r).zip vs).any λp=>decide (p.1=.inl k))=(decide (p.1=k)||qin r k);rw [qa7 k t];by_cases c:p.1=k
  ·rw [za2 (EN.mpr c),za2 c]
  ·rw [za1 (λz=>c (EN.mp z)),za1 c]
theorem qcW (k:Int) {x:T} {w:V} (rx:Rp K H x w):∀ {kvs:List (Int×T)} {vs:List V},Rps K H (D0 kvs) vs ->
  ∃ us,((ZN kvs).zip vs).map (λp=>if p.1=.inl k then (p.1,w) else p)=(ZN (M8 kvs k x)).zip us/\Rps K H (D0 (M8 kvs k x)) us
 |[],_,.nil=>⟨[],rfl,.nil⟩
 |p::r,v::vs,.cons h t=>by
  obtain ⟨us,e,q⟩:=qcW k rx t;by_cases c:p.1=k
  ·have e1:M8 (p::r) k x=(p.1,x)::M8 r k x:=by show (if p.1=k then (p.1,x) else p)::M8 r k x=_;rw [if_pos c]
   refine ⟨w::us,?_,?_⟩
   ·rw [e1];show (if (Sum.inl p.1:Key)=.inl k then ((Sum.inl p.1:Key),w) else (Sum.inl p.1,v))::((ZN r).zip vs).map _=((Sum.inl p.1:Key),w)::(ZN (M8 r k x)).zip us;rw [if_pos (EN.mpr c),e]
   ·rw [e1];exact .cons rx q
  ·have e1:M8 (p::r) k x=p::M8 r k x:=by show (if p.1=k then (p.1,x) else p)::M8 r k x=_;rw [if_neg c]
   refine ⟨v::us,?_,?_⟩
   ·rw [e1];show (if (Sum.inl p.1:Key)=.inl k then ((Sum.inl p.1:Key),w) else (Sum.inl p.1,v))::((ZN r).zip vs).map _=((Sum.inl p.1:Key),v)::(ZN (M8 r k x)).zip us;rw [if_neg (λz=>c (EN.mp z)),e]
   ·rw [e1];exact .cons h q
theorem qcT (k:Int) {x:T} {w:V} (rx:Rp K H x w):∀ {kvs:List (Int×T)} {vs:List V},Rps K H (D0 kvs) vs ->
  ((ZN kvs).zip vs)++[(.inl k,w)]=(ZN (kvs++[(k,x)])).zip (vs++[w])/\Rps K H (D0 (kvs++[(k,x)])) (vs++[w])
 |[],_,.nil=>⟨rfl,.cons rx .nil⟩
 |p::r,v::vs,.cons h t=>by
  obtain ⟨e,q⟩:=qcT k rx t;exact ⟨congrArg (((Sum.inl p.1:Key),v)::·) e,.cons h q⟩
def qcY (k:Int) {x:T} {w:V} (rx:Rp K H x w) {kvs:List (Int×T)} {vs:List V} (h:Rps K H (D0 kvs) vs) :
  ∃ us,W9 ((ZN kvs).zip vs) k w=(ZN (DN kvs k x)).zip us/\Rps K H (D0 (DN kvs k x)) us:=by
 unfold W9 DN;rw [qa7 k h];cases qin kvs k with
 |true=>exact qcW k rx h
 |false=>exact ⟨_,qcT k rx h⟩
theorem HR.dct (hr:HR K G H) {p:Addr} {kvs:List (Int×T)} (g:G p=some (.dct kvs)):∃ vs,H p=some (.dK ((ZN kvs).zip vs))/\Rps K H (D0 kvs) vs:=hr p _ g
def HR.newD (hr:HR K G H) {p:Addr} (hp:H p=none):HR K (gu G p (.dct [])) (upd H p (.dK [])):=λa o e=>by
 by_cases ha:a=p
 ·subst ha;rw [qu] at e;cases e;exact ⟨[],qM,.nil⟩
 ·rw [zu ha] at e;exact (hr a o e).keep hr (Kp.laid hp) λu h=>by rw [qt ha];exact h
def HR.wrDc (hr:HR K G H) {p:Addr} {kvs kws:List (Int×T)} {vs:List V} (g:G p=some (.dct kvs)) (r:Rps K H (D0 kws) vs):HR K (gu G p (.dct kws)) (upd H p (.dK ((ZN kws).zip vs))):=λa o e=>by
 have k:Kp G H (gu G p (.dct kws)) (upd H p (.dK ((ZN kws).zip vs))):=Kp.wr g;by_cases ha:a=p
 ·subst ha;rw [qu] at e;cases e;exact ⟨vs,qM,r.keep hr k⟩
 ·rw [zu ha] at e;exact (hr a o e).keep hr k λu h=>by rw [qt ha];exact h
def qiU {kvs:List (Int×T)} {vs:List V} (h:Rps K H (D0 kvs) vs):((ZN kvs).zip vs).length=kvs.length:=by
 have e:=h.length;unfold D0 at e;rw [length_map] at e;rw [List.length_zip];unfold ZN;rw [length_map,← e,Nat.min_self]
end
section
variable {X:Cx} {pos:Pos} {o i e:Expr} {to ti te:TE3}
def qdt:TE3:=λ_ G q=>∀ p,G p=none->q (.ref p) (gu G p (.dct []))
def qg0:E3 X (.Dict [] [] pos) qdt:=
 DP qdu λσ H Q ⟨τ,G,q,rl,h,af⟩=>λp hp=>af _ _ (h p (rl.hp.free hp)) _ _ (.ref p) (rl.hp.newD hp) (Kp.newL hp)
def MB:T->List T->Gp->Q3->Prop:=λx xs G q=>match x,xs with
 |.ref p,[.int k,y]=>(match G p with|some (.dct kvs)=>q ((SY kvs k).getD y) G|_=>False)
 |_,_=>False
def qdS {K:Frg}:qkh K MB qkY:=λx xs v vs G H q Q hr rx rs h af=>by
 unfold MB at h;split at h
 ·rename_i p k y;split at h
  ·rename_i kvs e1;cases rx;cases rs with
   |cons r1 rs=>
    cases rs with
    |cons r2 rs=>
     cases rs;cases r1;obtain ⟨us,g1,r⟩:=hr.dct e1;exact ⟨p,_,k,_,rfl,rfl,g1,af _ _ h _ _ (MO k r2 r) hr Kp.refl⟩
  ·exact h.elim
 ·exact h.elim
def qlb (r:T->List T->Gp->Q3->Prop) (to:TE3) (t:TA3):TE3:=λτ G q=>to τ G λx G1=>(match x with|.ref p=>(match G1 p with|some (.dct _)=>True|_=>False)|_=>False)/\t τ G1 λxs G2=>r x xs G2 q
variable {es:List Expr} {t:TA3}
def qjE {apos cpos:Pos} (ho:E3 X o to) (ha:A3 X (e::es) t)
  (hbase:attributeBase o "get" X.env (eval o X.env)=eval o X.env:=by rfl)
  (hfew:((backTo cpos (starEach (e::es) X.env)).all (λx=>!x.1)&&(backToKw cpos (keywordEach [] X.env)).all (λx=>x.1.isSome)
   && decide ((e::es).length+([]:List Keyword).length+(if ([]:List Keyword).isEmpty then 0 else 1)<30))=true:=by rfl)
  (hline:(apos.endLine==cpos.line)=true:=by rfl) (hs:starEach (e::es) X.env=(false,eval e X.env)::starEach es X.env:=by rfl) (hplain:(backTo cpos (starEach es X.env)).any (·.1)=false:=by rfl) :
  E3 X (.Call (.Attribute o "get" apos) (e::es) [] cpos) (qlb MB to t):=
 DP (ql5 PySem.F.plainAttrs_dict PySem.F.slot_dict_get PySem.F.type_dict_get qg9 ho ha hbase hfew hline hs hplain) λ_ _ _ ⟨τ,G,q,rl,h,af⟩=>zN rl h λx G1 h1 v H1 rx hr1 k1 rl1=>by
  obtain ⟨hp,h1⟩:=h1;cases x<;>try exact hp.elim
  case ref p=>
   cases rx;have hp':(match G1 p with|some (.dct _)=>True|_=>False):=hp;split at hp'
   ·rename_i kvs e;obtain ⟨us,g1,r⟩:=hr1.dct e;exact ⟨.inr (.inr (.inl ⟨rfl,.inl ⟨_,g1⟩⟩)),Q8 rl1 h1 λxs G2 h2 vs H2 rs hr2 k2 rl2=>qdS _ xs _ vs G2 H2 q _ hr2 (.ref p) rs h2 (af.back (k1.trans k2))⟩
   ·exact hp'.elim
def qhB:T->T->T->Gp->(Gp->Prop)->Prop:=λo i v G q=>match o,i with
 |.ref p,.int k=>(match G p with|some (.dct kvs)=>kvs.length<sizeLine/\q (gu G p (.dct (DN kvs k v)))|_=>False)
 |_,_=>False
def K4 (to ti:TE3):TG3:=λx τ G q=>to τ G λo G1=>ti τ G1 λi G2=>qhB o i x G2 λG3=>q τ G3
def qnm (ho : E3 X o to) (hi : E3 X i ti) (ha : ∀ v,assign (.Subscript o i pos) X.env v = (do
      let ov←holding [v] (eval o X.env)
      let iv←holding [v,ov] (eval i X.env)
      standAt pos
      holding [v,ov,iv] (setItem ov iv v)
      release [v,ov,iv] []):=by intro _;rfl):G3 X (.Subscript o i pos) (K4 to ti):=
  qou (qfN ho hi qdX ha) λv σ H Q ⟨x,τ,G,q,rx,rl,h,af⟩=>zN rl h λy G1 h1 u H1 ry hr1 k1 rl1=>zN rl1 h1 λz G2 h2 w H2 rz hr2 k2 rl2=>by
    have rx2:=(rx.keep rl.hp k1).keep hr1 k2;have ry2:=ry.keep hr1 k2;unfold qhB at h2;split at h2
    · rename_i p k;split at h2
      · rename_i kvs e;cases ry2;cases rz;obtain ⟨vs,g1,r1⟩:=hr2.dct e;obtain ⟨us,e2,r2⟩:=qcY k rx2 r1;have kk:Kp G2 H2 (gu G2 p (.dct (DN kvs k x))) (upd H2 p (.dK ((ZN (DN kvs k x)).zip us))):=Kp.wr e;refine ⟨p,_,k,rfl,rfl,g1,by rw [qiU r1];exact h2.1,?_⟩;rw [e2];exact af τ _ h2.2 σ _ (rl2.next (hr2.wrDc e r2) kk) ((k1.trans k2).trans kk)
      · exact h2.elim
    · exact h2.elim
def qed:jE3 X (.Dict [] [] pos) qdt:=⟨qg0⟩
def qg1 {apos cpos:Pos} (ho:jE3 X o to) (ha:jA3 X (e::es) t)
  (hbase:attributeBase o "get" X.env (eval o X.env)=eval o X.env:=by rfl)
  (hfew:((backTo cpos (starEach (e::es) X.env)).all (λx=>!x.1)&&(backToKw cpos (keywordEach [] X.env)).all (λx=>x.1.isSome)
   && decide ((e::es).length+([]:List Keyword).length+(if ([]:List Keyword).isEmpty then 0 else 1)<30))=true:=by rfl)
  (hline:(apos.endLine==cpos.line)=true:=by rfl) (hs:starEach (e::es) X.env=(false,eval e X.env)::starEach es X.env:=by rfl) (hplain:(backTo cpos (starEach es X.env)).any (·.1)=false:=by rfl) :
  jE3 X (.Call (.Attribute o "get" apos) (e::es) [] cpos) (qlb MB to t):=
 ⟨qjE (ho:=ho.h) (ha:=ha.h) (hbase:=hbase) (hfew:=hfew) (hline:=hline) (hs:=hs) (hplain:=hplain)⟩
def qia (ho : jE3 X o to) (hi : jE3 X i ti) (ha : ∀ v,assign (.Subscript o i pos) X.env v = (do
      let ov←holding [v] (eval o X.env)
      let iv←holding [v,ov] (eval i X.env)
      standAt pos
      holding [v,ov,iv] (setItem ov iv v)
      release [v,ov,iv] []):=by intro _;rfl):jG3 X (.Subscript o i pos) (K4 to ti):=
  ⟨qnm (ho:=ho.h) (hi:=hi.h) (ha:=ha)⟩
end
end L3
namespace L3
open PySem PySem.Spec PyProof.Rows L2 PySem.SeqAt
section
variable {prog:Program} {w:World} {A:Around} {E:Value->Shared->Prop} {s:Shared}
end
section
variable {X:Cx}
end
end L3
namespace L2
open PySem PySem.Spec PyProof.Rows
def W6 (p:Addr->Bool) (h:Heap):Heap:=⟨h.objs.mapIdx λi o=>if p i then { o with data:=.freed } else o,h.life⟩
def ZJ (p:Addr->Bool) (h:Heap) (a:Addr):(W6 p h).get? a=if p a then none else h.get? a:=by
 unfold W6 Heap.get?;simp only [Array.getElem?_mapIdx];cases h.objs[a]? with
 |none=>simp
 |some o=>
  simp only [Option.map_some];by_cases c:p a=true
  ·rw [if_pos c,if_pos c]
  ·rw [if_neg c,if_neg c]
def jW {p:Addr->Bool} {h:Heap} {a:Addr} (c:p a=true):(W6 p h).get? a=none:=by rw [ZJ,if_pos c]
def J9 (p:Addr->Bool) (h:Heap):(W6 p h).StaysIn h:=λb o e=>by
 rw [ZJ] at e;split at e
 ·cases e
 ·exact e
def WB {p:Addr->Bool} {h:Heap} {a:Addr} {o:Obj} (e:h.get? a=some o) (c:p a=false):(W6 p h).get? a=some o:=by
 rw [ZJ,if_neg (by rw [c];decide)];exact e
theorem ja {h base base':Heap}:∀ {l:List Env},h.FunFrames base l->(∀ b∈frs l,base'.get? b=none)->h.FunFrames base' l
 |[],_,_=>trivial
 |env::Z1,⟨hk,⟨L,o,hf,hn,ho,hd⟩,hr⟩,z=>
  ⟨hk,⟨L,o,hf,z L (by unfold frs;rw [List.filterMap_cons,hf];exact u9),ho,hd⟩,ja hr λb hb=>z b (by unfold frs;rw [List.filterMap_cons,hf];exact v6 _ hb)⟩
def Fly (h:Heap) (e T:Addr) (cls a0:Value):Prop:=
 ∃ oe vs oT ts,h.get? e=some oe/\(oe.cls=cls/\vs[0]?=some a0)/\oe.data=.fields vs/\vs[1]?=some (.ref T)/\T≠e/\h.get? T=some oT/\oT.data=.fields ts/\ts[3]?=some .none
def Fly.w {h base:Heap} {e T:Addr} {cls a0:Value} (f:Fly h e T cls a0) (n:base.get? T=none):h.TracedW base e cls a0:=
 let ⟨oe,vs,oT,ts,h1,h2,h3,h4,h5,h6,h7,h8⟩:=f
 ⟨oe,vs,T,oT,ts,h1,h2,h3,h4,n,h5,h6,h7,h8⟩
def NK {h base:Heap} {e:Addr} {cls a0:Value} (t:h.TracedW base e cls a0):∃ T,Fly h e T cls a0/\base.get? T=none:=
 let ⟨oe,vs,T,oT,ts,h1,h2,h3,h4,n,h5,h6,h7,h8⟩:=t
 ⟨T,⟨oe,vs,oT,ts,h1,h2,h3,h4,h5,h6,h7,h8⟩,n⟩
def Fly.rec1 {h:Heap} {e T:Addr} {cls a0:Value} (f:Fly h e T cls a0):∃ o vs,h.get? e=some o/\o.data=.fields vs:=
 let ⟨oe,vs,_,_,h1,_,h3,_⟩:=f;⟨oe,vs,h1,h3⟩
def Fly.rec2 {h:Heap} {e T:Addr} {cls a0:Value} (f:Fly h e T cls a0):∃ o vs,h.get? T=some o/\o.data=.fields vs:=
 let ⟨_,_,oT,ts,_,_,_,_,_,h6,h7,_⟩:=f;⟨oT,ts,h6,h7⟩
def CXe (P:Program) (w:World):CXT:=λouter H s E e s'=>∃ (ea T C:Addr) (a0:Value) (H':Hp),e=.ref ea/\Fly s'.heap ea T (.ref C) a0/\s.heap.get? ea=none/\s.heap.get? T=none/\H' ea=none/\H' T=none /\
 s'.os=s.os/\AllBare s'.gens/\Un (frs outer) [] H H' s.heap s'.heap/\HOk P w H' s'.heap/\E (.ref C) none H'
section
variable {X:Cx} {pins:List (Addr×Obj)} {σ:St} {H:Hp} {s:Shared}
structure Lv (l:List Env) (e T:Addr) (h h':Heap):Prop where
 keep:∀ b o,h.get? b=some o->b≠e->b≠T->b∉frs l->h'.get? b=some o
 slot:∀ b o,h.get? b=some o->b∈frs l->∃ sl,h'.get? b=some { o with slots:=sl }
def LK {h base:Heap} {l:List Env} (hl:h.FunFrames base l) {b:Addr} {o:Obj} {vs:Array Value} (e:h.get? b=some o) (d:o.data=.fields vs):b∉frs l:=λz=>by
 obtain ⟨_,o',e',n⟩:=hl.mem z;rw [e] at e';cases e';exact n _ d
def qag {M:Model} {A:Around} {E:Value->Shared->Prop} {base:Heap} {env:Env} {outer:List Env} {L e T:Addr} {cls a0:Value} {Q:Unit->Shared->Prop}
  (hfr:A.frames=some (env::outer)) (hf:env.frame=some L) (hl:s.heap.FunFrames base (env::outer)) (fl:Fly s.heap e T cls a0)
  (hQ:∀ h' T',Fly h' e T' cls a0->(T'=T\/s.heap.get? T'=none)->Lv (env::outer) e T s.heap h'->Q () { s with heap:=h' }):wpAny M A (leaving env (.ref e)) Q E s:=by
 classical
 obtain ⟨oe,ves,he,hed⟩:=fl.rec1;obtain ⟨oT,vts,hT,hTd⟩:=fl.rec2
 let p:Addr->Bool:=λb=>decide (b=e\/b=T\/b∈frs (env::outer))
 have pe:p e=true:=za2 (.inl rfl);have pT:p T=true:=za2 (.inr (.inl rfl));have hl':s.heap.FunFrames (W6 p s.heap) (env::outer):=ja hl λb hb=>jW (za2 (.inr (.inr hb)));refine wpAny_leaving_nextW hfr hl' hf (fl.w (jW pT)) (J9 p _) (jW pe) λh' hL=>?_;obtain ⟨k1,k2,k3,k4⟩:=hL;obtain ⟨T',fl',nT⟩:=NK k3;refine hQ h' T' fl' ?_ ⟨λb o hb h1 h2 h3=>k1 b o (WB hb (za1 λz=>z.elim h1 λz=>z.elim h2 h3)),λb o hb h3=>?_⟩
 ·rw [ZJ] at nT;split at nT
  ·rename_i c;rcases of_decide_eq_true c with c|c|c
   ·obtain ⟨_,_,_,_,_,_,_,_,ne,_⟩:=fl';exact absurd c ne
   ·exact .inl c
   ·obtain ⟨oT',ts',g1,g2⟩:=fl'.rec2;exact absurd c (LK k2 g1 g2)
  ·exact .inr nT
 ·obtain ⟨_,o',e',n⟩:=hl.mem h3;rw [hb] at e';cases e';exact k4 b o hb n
def MJ {M:Model} {A:Around} {E:Value->Shared->Prop} {base h:Heap} {env:Env} {outer:List Env} {L e:Addr} {cls:Value} {args:List Value} {Q:Unit->Shared->Prop}
  (hfr:A.frames=some (env::outer)) (hf:env.frame=some L) (hl:h.FunFrames base (env::outer)) (hx:Heap.MadeExcOf h s.heap e cls args)
  (hQ:∀ h' T' t,Fly h' e T' cls (.ref t)->h.get? T'=none->(∀ b o,h.get? b=some o->b∉frs (env::outer)->h'.get? b=some o)->(∀ b o,h.get? b=some o->b∈frs (env::outer)->∃ sl,h'.get? b=some { o with slots:=sl })->Q () { s with heap:=h' }) :
  wpAny M A (leaving env (.ref e)) Q E s:=by
 classical
 let p:Addr->Bool:=λb=>decide (b∈frs (env::outer))
 have hl':h.FunFrames (W6 p h) (env::outer):=ja hl λb hb=>jW (za2 hb);refine wpAny_leaves_madeW hfr hf (J9 p h) hl' hx λh' t fl tu nt ups=>?_;obtain ⟨k1,k2,k3,k4⟩:=fl;obtain ⟨T',fl',nT⟩:=NK k4;refine hQ h' T' t fl' ?_ (λb o hb h3=>k1 b o (WB hb (za1 h3))) λb o hb h3=>?_
 ·rw [ZJ] at nT;split at nT
  ·rename_i c;obtain ⟨oT',ts',g1,g2⟩:=fl'.rec2;obtain ⟨_,o',e',n⟩:=hl.mem (of_decide_eq_true c);obtain ⟨sl,q⟩:=ups T' o' (hx.keeps _ _ e') n;rw [q] at g1;cases g1;exact absurd g2 (n _)
  ·exact nT
 ·obtain ⟨_,o',e',n⟩:=hl.mem h3;rw [hb] at e';cases e';exact ups b o (hx.keeps _ _ hb) n
end
def JX.there {P:Program} {w:World} {H:Hp} {h:Heap} {a:Addr} {o:HO} (x:JX P w H h a o):∃ u,h.get? a=some u:=by
 cases o with
 |lst xs=>obtain ⟨_,_,_,_,e⟩:=x;exact ⟨_,e⟩
 |tup xs=>obtain ⟨_,_,_,ob,e,_⟩:=x;exact ⟨_,e⟩
 |dK kvs=>obtain ⟨_,_,_,_,o,_,_,e,_⟩:=x;exact ⟨_,e⟩
 |dT kvs=>obtain ⟨_,_,_,_,o,_,_,e,_⟩:=x;exact ⟨_,e⟩
 |set S n=>obtain ⟨o,_,_,_,e,_⟩:=x;exact ⟨_,e⟩
 |ins C dx fs=>obtain ⟨_,_,_,e,_⟩:=x;exact ⟨_,e⟩
 |own y=>obtain ⟨_,e⟩:=x;exact ⟨_,e⟩
 |xd fs=>obtain ⟨_,⟨_,_,_,e,_⟩,_⟩:=x;exact ⟨_,e⟩
 |rng lo hi=>obtain ⟨_,_,_,e⟩:=x;exact ⟨_,e⟩
 |frz ob u=>obtain ⟨e,_⟩:=x;exact ⟨_,e⟩
 |tbl ps=>exact ⟨_,(show h.get? a=some _ from x)⟩
 |met f y=>exact ⟨_,(show h.get? a=some _ from x)⟩
 |ext φ=>obtain ⟨_,⟨_,e⟩,_⟩:=x;exact ⟨_,e⟩
def HOk.nil {P:Program} {w:World} {H:Hp} {h:Heap} {a:Addr} (x:HOk P w H h) (e:h.get? a=none):H a=none:=by
 cases q:H a with
 |none=>rfl
 |some u=>
  obtain ⟨z,y⟩:=(x a u q).there;rw [e] at y;cases y
def HOk.tracked {P:Program} {w:World} {H:Hp} {h h':Heap} (x:HOk P w H h) (k:∀ b u,H b≠none->h.get? b=some u->h'.get? b=some u):HOk P w H h':=λa o e=>
 (x a o e).stay (λb u z q=>k b u (λn=>by
  rcases z with rfl|z
  ·rw [e] at n;cases n
  ·rw [z] at n;cases n) q) (λ_ q=>q) λ_ _ q=>q
section
variable {P:Program} {w:World} {K:Frg} {mg:Str->Option Value} {base:Heap} {N:List Str} {qual:Str} {scope:Scope} {f:Addr} {cd:Value} {A:Around} {outer:List Env} {s0:Shared} {H0:Hp} {E:XK} {CX:CXT}
 {pins:List (Addr×Obj)} {σ:St} {H:Hp} {s:Shared}
def LO {h':Heap} {e T T' C:Addr} {a0:Value} (I:Inv (YD CX P w K mg base N qual scope f cd A outer s0 H0 E) pins σ H s)
  (ne:s0.heap.get? e=none) (nT:s0.heap.get? T=none) (nT':s0.heap.get? T'=none) (He:H e=none) (HT:H T=none) (HT':H T'=none) (fl:Fly h' e T' (.ref C) a0) (lv:Lv (envOfC qual scope s0.heap.objs.size f cd::outer) e T s.heap h') (hE:E (.ref C) none H) :
  CXe P w outer H0 s0 E (.ref e) { s with heap:=h' }:=by
 have nl:∀ {b o},s0.heap.get? b=some o->b∉frs outer->b∉frs (envOfC qual scope s0.heap.objs.size f cd::outer):=λ{b o} q hb z=>by
  have z':b∈s0.heap.objs.size::frs outer:=z;rcases mem_cons.mp z' with z|z
  ·subst z;exact absurd (y6 q) (Nat.lt_irrefl _)
  ·exact hb z
 have sub:∀ {b},b∈frs outer->b∈frs (envOfC qual scope s0.heap.objs.size f cd::outer):=λ{b} z=>(v6 _ z:b∈s0.heap.objs.size::frs outer)
 have noex:∀ b:Addr,b∉(YD CX P w K mg base N qual scope f cd A outer s0 H0 E).ex:=λb z=>absurd (show b∈([]:List Addr) from z) (by simp);have n1:∀ {b o},s0.heap.get? b=some o->b≠e:=λq z=>by subst z;rw [ne] at q;cases q
 have n2:∀ {b o},s0.heap.get? b=some o->b≠T:=λq z=>by subst z;rw [nT] at q;cases q
 refine ⟨e,T',C,a0,H,rfl,fl,ne,nT',He,HT',I.os,I.bare,?_,?_,hE⟩
 ·refine ⟨λb o q n hb _=>?_,λb o q n hb _=>?_,λb o q n _=>I.base.free b o q n (noex b),λb o q _=>?_,I.base.tups,I.base.frzs,I.base.tbls⟩
  ·exact lv.keep b o (I.base.keep b o q n hb (noex b)) (n1 q) (n2 q) (nl q hb)
  ·obtain ⟨sl,q1⟩:=I.base.slot b o q n hb (noex b);obtain ⟨sl',q2⟩:=lv.slot b _ q1 (sub hb);exact ⟨sl',q2⟩
  ·obtain ⟨o',q1⟩:=I.base.there b o q (noex b);by_cases hb:b∈frs (envOfC qual scope s0.heap.objs.size f cd::outer)
   ·obtain ⟨sl',q2⟩:=lv.slot b _ q1 hb;exact ⟨_,q2⟩
   ·exact ⟨_,lv.keep b _ q1 (n1 q) (n2 q) hb⟩
 ·exact I.hok.tracked λb u z q=>lv.keep b u q (λy=>by subst y;exact z He) (λy=>by subst y;exact z HT) λy=>z (I.stkFree b y)
def qku:MZ (CXe P w) (YD (CXe P w) P w K mg base N qual scope f cd A outer s0 H0 E) E:=by
 intro pins σ H s e s' I h;obtain ⟨ea,T,C,a0,H',rfl,fl,ne,nT,He,HT,os,bare,un,hok,hE⟩:=h;have I':Inv (YD (CXe P w) P w K mg base N qual scope f cd A outer s0 H0 E) pins σ H' s':=I.call' (ch:=[]) os un hok bare (λb z=>absurd z (by simp));have noex:∀ b:Addr,b∉(YD (CXe P w) P w K mg base N qual scope f cd A outer s0 H0 E).ex:=λb z=>absurd (show b∈([]:List Addr) from z) (by simp);have up:∀ {b},s.heap.get? b=none->s0.heap.get? b=none:=λ{b} q=>by
  cases z:s0.heap.get? b with
  |none=>rfl
  |some o=>obtain ⟨o',y⟩:=I.base.there b o z (noex b);rw [q] at y;cases y
 have up':∀ {b},s'.heap.get? b=none->s0.heap.get? b=none:=λ{b} q=>by
  cases z:s0.heap.get? b with
  |none=>rfl
  |some o=>obtain ⟨o',y⟩:=I'.base.there b o z (noex b);rw [q] at y;cases y
 refine qag (T:=T) I.ok.frames rfl I'.stack fl λh' T' fl' hT' lv=>?_;rcases hT' with rfl|hT'
 ·exact LO I' (up ne) (up nT) (up nT) He HT HT fl' lv hE
 ·exact LO I' (up ne) (up nT) (up' hT') He HT (I'.hok.nil hT') fl' lv hE
def qhN {h':Heap} {e C:Addr} {args:List Value} (I:Inv (YD (CXe P w) P w K mg base N qual scope f cd A outer s0 H0 E) pins σ H s) (hx:Heap.MadeExcOf s.heap h' e (.ref C) args) (hE:E (.ref C) none H) :
  (YD (CXe P w) P w K mg base N qual scope f cd A outer s0 H0 E).xe (.ref e) { s with heap:=h' }:=by
 have noex:∀ b:Addr,b∉(YD (CXe P w) P w K mg base N qual scope f cd A outer s0 H0 E).ex:=λb z=>absurd (show b∈([]:List Addr) from z) (by simp);have up:∀ {b},s.heap.get? b=none->s0.heap.get? b=none:=λ{b} q=>by
  cases z:s0.heap.get? b with
  |none=>rfl
  |some o=>obtain ⟨o',y⟩:=I.base.there b o z (noex b);rw [q] at y;cases y
 refine MJ (s:={ s with heap:=h' }) (h:=s.heap) I.ok.frames rfl I.stack hx λh2 T' t fl nT k1 k2=>?_;show CXe P w outer H0 s0 E (.ref e) { s with heap:=h2 };exact LO (T:=e) I (up hx.new) (up hx.new) (up nT) (I.hok.nil hx.new) (I.hok.nil hx.new) (I.hok.nil nT) fl ⟨λb o q _ _ hb=>k1 b o q hb,k2⟩ hE
end
section
variable {X:Cx} {x:Str} {C:Addr} {B Bn newId nid initId inN:String} {bm bmN:List Value} {np cpos pos:Pos} {e:Expr} {es:List Expr} {t:TA} {EE:Hp->Prop}
def qd2 (O:OwnCls x C bm newId X.mg X.base) (Fn:ExcBaseFacts Bn newId inN bmN) (hBn:bm.contains (.type Bn)=true) (FB:ExcBaseFacts B nid initId bm) (hc:X.calm=true) (hg:Gl X x) (ha:PA X (e::es) t)
  (hx:∀ (pins:List (Addr×Obj)) (σ:St) (H:Hp) (s:Shared) (ea:Addr) (h':Heap) (vs:List Value),Inv X pins σ H s->Heap.MadeExcOf s.heap h' ea (.ref C) vs->EE H->X.xe (.ref ea) { s with heap:=h' })
  (hdb:(x==("__debug__" : Str))=false:=by decide) (he:starEach (e::es) X.env=(false,eval e X.env)::starEach es X.env:=by rfl) (hpl:(backTo cpos (starEach es X.env)).any (·.1)=false:=by rfl) :
  PS X (.Raise (some (.Call (.Name x np) (e::es) [] cpos)) none pos) (λ_ σ H=>t σ H λvs H1=>vs.length<=sizeLine/\EE H1):=by
 intro pins s σ H D I h;obtain ⟨tl,N,nm,q,bs,hdct,sn,sub,ab,col,dd,k0,k1,k2,k3,k5,mN,hC,hN,hni,T⟩:=O.obj;refine wpAny_Raise_call_subU (C:=C) (nm:=nm) (q:=q) (N:=N) (bs:=bs) (bm:=tl) (hdct:=hdct) (sn:=sn) (sub:=sub) (ab:=ab) (col:=col) (dd:=dd) (k0:=k0) (k1:=k1) (k2:=k2) (k3:=k3) (k5:=k5)
  Fn hBn FB (mN:=mN) (T.hasType FB.hasBase) (I.ok.hd hc) (by rw [he];show (false||(backTo cpos (starEach es X.env)).any (·.1))=false;rw [hpl];rfl) hni (XQ I hg O.bound ⟨rfl,?_⟩ hdb)
 have hA:=ha cpos pins s σ H _ I h;rw [he] at hA ⊢;exact Calls.evalArgs_plain (thn hA λus s2 ⟨vs,H2,I2,r,q⟩=>⟨rfl,by rw [← r.length];exact q.1,I2.bk _ _ hC,hN.keeps I2.bk,T.keeps I2.bk,λh' ea hm=>hx _ _ _ _ _ _ _ I2 hm q.2⟩)
end
end L2
namespace L3
open PySem PySem.Spec PyProof.Rows L2
abbrev X3:=Addr->Gp->Prop
abbrev Spx:=List T->Gp->X3->Prop
def EX (K:Frg) (dx:X3):XK:=λcls _ H=>∃ C G,cls=.ref C/\HR K G H/\dx C G
def qrd (K:Frg) (sp:Spx):Sp:=λvs H _ E=>∃ ts G dx,HR K G H/\Rps K H ts vs/\sp ts G dx/\∀ cls H',EX K dx cls none H'->E cls none H'
def NG (C:Addr) (dx:X3) (t:TA3):TS3:=λ_ τ G=>t τ G λxs G1=>xs.length<=sizeLine/\dx C G1
section
variable {X:Cx} {x:Str} {C:Addr} {B Bn newId nid initId inN:String} {bm bmN:List Value} {np cpos pos:Pos} {e:Expr} {es:List Expr} {t:TA3} {dx:X3}
def qhA (O:OwnCls x C bm newId X.mg X.base) (Fn:ExcBaseFacts Bn newId inN bmN) (hBn:bm.contains (.type Bn)=true) (FB:ExcBaseFacts B nid initId bm) (hc:X.calm=true) (hg:Gl X x) (ha:A3 X (e::es) t)
  (hx:∀ (pins:List (Addr×Obj)) (σ:L2.St) (H:Hp) (s:Shared) (ea:Addr) (h':Heap) (vs:List Value),Inv X pins σ H s->Heap.MadeExcOf s.heap h' ea (.ref C) vs->EX X.K dx (.ref C) none H->X.xe (.ref ea) { s with heap:=h' })
  (hdb:(x==("__debug__" : Str))=false:=by decide) (he:starEach (e::es) X.env=(false,eval e X.env)::starEach es X.env:=by rfl) (hpl:(backTo cpos (starEach es X.env)).any (·.1)=false:=by rfl) :
  S3 X (.Raise (some (.Call (.Name x np) (e::es) [] cpos)) none pos) (NG C dx t):=
 MH (qd2 (EE:=EX X.K dx (.ref C) none) O Fn hBn FB hc hg ha hx hdb he hpl) λD σ H ⟨τ,G,d,rl,h,af⟩=>Q8 rl h λxs G1 h1 vs H1 rs hr1 k1 rl1=>⟨by rw [← rs.length];exact h1.1,C,G1,rfl,hr1,h1.2⟩
end
def qk3 {P:Program} {w:World} {K:Frg} {mg:Str->Option Value} {base:Heap} {x qual:Str} {st:Stmt} {f:Addr} {fd:FuncData} {N ps:List Str} {k:Nat} {sp:Spx} {t3:X3->TS3} (F:Fun K x qual st f fd) (S:FnScope N ps (qf st))
  (body:∀ (dx:X3) (cdv:Value) (A:Around) (outer:List Env) (s:Shared) (H:Hp) (E:XK),(∀ cls H',EX K dx cls none H'->E cls none H')->Room k (A.deeper (envOfC qual (qf st) s.heap.objs.size f cdv)) ->
   B3 (YD (CXe P w) P w K mg base N qual (qf st) f cdv A outer s H E) (qz st) (t3 dx))
  (read:∀ ts G dx,sp ts G dx->ts.length=ps.length/\t3 dx { nx:=λ_ _=>False,rt:=λ_ _=>False } (qm N ts) G):FnOk P w K mg base (CXe P w) (k+1) f fd ps (qrd K sp):=by
 obtain ⟨oc,od,kV,doc,pm,an,cdv,ct,osl,rfl,lk,hcd⟩:=F.ex;refine qmP lk hcd S (λvs H Q E ⟨ts,G,dx,h1,h2,h3,h4⟩=>by rw [← h2.length];exact (read ts G dx h3).1) λA outer s H vs Q E hr ⟨ts,G,dx,h1,h2,h3,h4⟩=>?_;exact ⟨_,body dx cdv A outer s H E h4 hr,qm N ts,G,_,W1 h1 h2,(read ts G dx h3).2,⟨λ_ _ z=>z.elim,λ_ _ z=>z.elim,λ_ _ z=>z.elim,λ_ _ z=>z.elim⟩⟩
section
variable {K:Frg} {G G':Gp} {H H':Hp}
mutual
theorem Rp.sub (z:∀ a vs,SqT K H a vs->SqT K H' a vs):∀ {x:T} {v:V},Rp K H x v->Rp K H' x v
 |_,_,.non=>.non
 |_,_,.bl b=>.bl b
 |_,_,.int i=>.int i
 |_,_,.str x=>.str x
 |_,_,.ref a=>.ref a
 |_,_,.tup h hs=>.tup (z _ _ h) (Rps.sub z hs)
theorem Rps.sub (z:∀ a vs,SqT K H a vs->SqT K H' a vs):∀ {x:List T} {v:List V},Rps K H x v->Rps K H' x v
 |_,_,.nil=>.nil
 |_,_,.cons a b=>.cons (Rp.sub z a) (Rps.sub z b)
end
theorem HR.sub (hr:HR K G H) (z:∀ a vs,SqT K H a vs->SqT K H' a vs) (k:∀ a u,G a≠none->H a=some u->H' a=some u):HR K G H':=λa o e=>by
 have q:=hr a o e;have n:G a≠none:=by rw [e];simp
 cases o with
 |lst xs=>obtain ⟨vs,h1,h2⟩:=q;exact ⟨vs,k _ _ n h1,h2.sub z⟩
 |frz xs=>obtain ⟨vs,⟨o,h1⟩,h2⟩:=q;exact ⟨vs,⟨o,k _ _ n h1⟩,h2.sub z⟩
 |dct kvs=>obtain ⟨vs,h1,h2⟩:=q;exact ⟨vs,k _ _ n h1,h2.sub z⟩
 |tab ks xs=>obtain ⟨vs,h1,h2⟩:=q;exact ⟨vs,k _ _ n h1,h2.sub z⟩
 |exn C=>exact k _ _ n q
def HR.kind (hr:HR K G H) {a:Addr} (n:G a≠none):(∃ vs,H a=some (.lst vs))\/(∃ o vs,H a=some (.frz o (.lst vs)))\/(∃ kvs,H a=some (.dK kvs))\/∃ φ,H a=some (.ext φ):=by
 cases e:G a with
 |none=>exact absurd e n
 |some o=>
  have q:=hr a o e;cases o with
  |lst xs=>obtain ⟨vs,h1,_⟩:=q;exact .inl ⟨vs,h1⟩
  |frz xs=>obtain ⟨vs,⟨o,h1⟩,_⟩:=q;exact .inr (.inl ⟨o,vs,h1⟩)
  |dct kvs=>obtain ⟨vs,h1,_⟩:=q;exact .inr (.inr (.inl ⟨_,h1⟩))
  |tab ks xs=>obtain ⟨vs,h1,_⟩:=q;exact .inr (.inr (.inl ⟨_,h1⟩))
  |exn C=>exact .inr (.inr (.inr ⟨_,q⟩))
end
def lSx (K:Frg) (sp:Spx):Sp:=λvs H _ E=>∃ ts G dx,HR K G H/\Rps K H ts vs/\sp ts G dx/\∀ C G' H',HR K G' H'->Kp G H G' H'->dx C G'->E (.ref C) none H'
def Hid (G:Gp) (H:Hp) (a:Addr):Prop:=H a≠none/\G a=none/\∀ vs,¬ L2.Rd H a (.tup vs)
def qog {P:Program} {w:World} {K:Frg} {mg:Str->Option Value} {base:Heap} {f:Addr} {fd:FuncData} {ps:List Str} {k:Nat} {sp:Spx} (F:FnOk P w K mg base (CXe P w) k f fd ps (qrd K sp)):FnOk P w K mg base (CXe P w) k f fd ps (lSx K sp):=by
 classical
 refine ⟨λvs H Q E ⟨ts,G,dx,h1,h2,h3,h4⟩=>F.len vs H Q (EX K dx) ⟨ts,G,dx,h1,h2,h3,λ_ _ z=>z⟩,λA outer s H args us vs Q E hr e0 hb hv ⟨ts,G,dx,h1,h2,h3,h4⟩=>?_⟩
 let H1:Hp:=λa=>if Hid G H a then none else H a
 have n1:∀ {a},Hid G H a->H1 a=none:=λ{a} h=>if_pos h;have n2:∀ {a},¬ Hid G H a->H1 a=H a:=λ{a} h=>if_neg h;have n3:∀ {a},H a=none->¬ Hid G H a:=λ{a} h z=>z.1 h;have n4:∀ {a},H a=none->H1 a=none:=λ{a} h=>by rw [n2 (n3 h)];exact h
 have n5:∀ {a vs},L2.Rd H a (.tup vs)->¬ Hid G H a:=λ{a vs} h z=>z.2.2 _ h;have n6:∀ {a},G a≠none->¬ Hid G H a:=λ{a} h z=>h z.2.1;have sq:∀ a vs,SqT K H a vs->SqT K H1 a vs:=λa vs h=>by
  rcases h with h|h
  ·have e:=n2 (n5 h);rcases h with h|⟨o,h⟩
   ·exact .inl (.inl (e.trans h))
   ·exact .inl (.inr ⟨o,e.trans h⟩)
  ·exact .inr h
 have ownH:∀ {a b},H b=some (.own a)->Hid G H b:=λ{a b} h=>⟨by rw [h];simp,by
  cases e:G b with
  |none=>rfl
  |some o=>
   rcases h1.kind (a:=b) (by rw [e];simp) with ⟨_,y⟩|⟨_,_,y⟩|⟨_,y⟩|⟨_,y⟩<;>(rw [h] at y;cases y),λvs z=>by
  rcases z with z|⟨o,z⟩<;>(rw [h] at z;cases z)⟩
 have ok1:HOk P w H1 s.heap:=λa o e=>by
  by_cases c:Hid G H a
  ·rw [n1 c] at e;cases e
  ·rw [n2 c] at e;have x:=e0.hok a o e;by_cases g:G a=none
   ·have y:∃ vs,L2.Rd H a (.tup vs):=by
     by_cases z:∃ vs,L2.Rd H a (.tup vs)
     ·exact z
     ·exact absurd ⟨by rw [e];simp,g,λvs y=>z ⟨vs,y⟩⟩ c
    obtain ⟨vs,y⟩:=y;rcases y with y|⟨ob,y⟩
    ·rw [e] at y;cases y;exact x
    ·rw [e] at y;cases y;exact x
   ·rcases h1.kind g with ⟨_,y⟩|⟨_,_,y⟩|⟨_,y⟩|⟨_,y⟩
    ·rw [e] at y;cases y;exact x
    ·rw [e] at y;cases y;exact x
    ·rw [e] at y;cases y;exact x
    ·rw [e] at y;cases y;exact x
 have E0':Env0 P w K mg base A outer s H1:=⟨e0.frames,e0.mod,λb o q=>⟨(e0.bs b o q).1,n4 (e0.bs b o q).2⟩,e0.bsz,e0.funs,λb q=>n4 (e0.frf b q),ok1,e0.bare⟩
 refine codeAny_mono (F.run A outer s H1 args us vs (λ_ _=>False) (EX K dx) hr E0' hb hv ⟨ts,G,dx,h1.sub sq λa u n q=>(n2 (n6 n)).trans q,h2.sub sq,h3,λ_ _ z=>z⟩) λr s' h=>?_;cases r with
 |ok fl=>
  cases fl with
  |ret u=>obtain ⟨_,_,_,_,_,_,_,z⟩:=h;exact z.elim
  |_=>exact h
 |error e=>
  obtain ⟨ea,T,C,a0,H2,rfl,fl,ne,nT,He,HT,os,bare,un,hok,C',G',eC,hr',hd⟩:=h;cases eC
  let H3:Hp:=λa=>if Hid G H a then H a else H2 a
  have m1:∀ {a},Hid G H a->H3 a=H a:=λ{a} h=>if_pos h;have m2:∀ {a},¬ Hid G H a->H3 a=H2 a:=λ{a} h=>if_neg h;have fs:∀ {b},Hid G H b->b∉frs outer:=λ{b} h z=>h.1 (e0.frf b z);have th:∀ {b},Hid G H b->∃ o,s.heap.get? b=some o:=λ{b} h=>by
   cases e:H b with
   |none=>exact absurd e h.1
   |some o=>exact (e0.hok b o e).there
  have kp:∀ {b o},Hid G H b->s.heap.get? b=some o->s'.heap.get? b=some o:=λ{b o} h q=>un.keep b o q (n1 h) (fs h) (by simp);have fr2:∀ {b},Hid G H b->H2 b=none:=λ{b} h=>let ⟨o,q⟩:=th h;un.free b o q (n1 h) (by simp)
  have m3:∀ {a o},H2 a=some o->H3 a=some o:=λ{a o} q=>by
   rw [m2 (λz=>by rw [fr2 z] at q;cases q)];exact q
  have nh:∀ {b},s.heap.get? b=none->¬ Hid G H b:=λ{b} q z=>by obtain ⟨o,y⟩:=th z;rw [q] at y;cases y
  have tp:∀ b xs,H b=some (.tup xs)->H3 b=some (.tup xs):=λb xs q=>m3 (un.tups b xs ((n2 (n5 (.inl q))).trans q));have fz:∀ b o u,H b=some (.frz o u)->H3 b=some (.frz o u):=λb o u q=>by
   by_cases c:Hid G H b
   ·rw [m1 c];exact q
   ·exact m3 (un.frzs b o u ((n2 c).trans q))
  refine ⟨ea,T,C,a0,H3,rfl,fl,ne,nT,(m2 (nh ne)).trans He,(m2 (nh nT)).trans HT,os,bare,?_,?_,h4 C G' H3 ?_ ?_ hd⟩
  ·refine ⟨λb o q n=>un.keep b o q (n4 n),λb o q n=>un.slot b o q (n4 n),λb o q n hx=>(m2 (n3 n)).trans (un.free b o q (n4 n) hx),un.there,tp,fz,λb ps q=>?_⟩;by_cases c:Hid G H b
   ·exact ⟨#[],by rw [m1 c,q];simp⟩
   ·obtain ⟨more,y⟩:=un.tbls b ps ((n2 c).trans q);exact ⟨more,m3 y⟩
  ·intro a o e;by_cases c:Hid G H a
   ·rw [m1 c] at e;refine (e0.hok a o e).stay (λb u y q=>?_) (λb q=>(m1 (ownH q)).trans q) tp;rcases y with rfl|y
    ·exact kp c q
    ·exact kp (ownH y) q
   ·rw [m2 c] at e;exact (hok a o e).stay (λ_ _ _ q=>q) (λb q=>m3 q) λb xs q=>m3 q
  ·refine hr'.sub (λa vs h=>?_) λa u _ q=>m3 q;rcases h with h|h
   ·rcases h with h|⟨o,h⟩
    ·exact .inl (.inl (m3 h))
    ·exact .inl (.inr ⟨o,m3 h⟩)
   ·exact .inr h
  ·intro a o q g;by_cases c:Hid G H a
   ·exact ⟨(m1 c).trans q,hr'.free (fr2 c)⟩
   ·have y:∃ vs,L2.Rd H a (.tup vs):=by
     by_cases z:∃ vs,L2.Rd H a (.tup vs)
     ·exact z
     ·exact absurd ⟨by rw [q];simp,g,λvs y=>z ⟨vs,y⟩⟩ c
    obtain ⟨vs,y⟩:=y;rcases y with y|⟨ob,y⟩
    ·rw [q] at y;cases y;exact ⟨tp a vs q,hr'.noneT (.inl (un.tups a vs ((n2 c).trans q)))⟩
    ·rw [q] at y;cases y;exact ⟨fz a _ _ q,hr'.noneT (.inr ⟨_,un.frzs a _ _ ((n2 c).trans q)⟩)⟩
end L3
namespace L2
open PySem PySem.Spec PyProof.Rows
def qoo {l:List Env} {e T:Addr} {H H':Hp} {h h1 h2:Heap} (u:Un (frs l) [] H H' h h1) (v:Lv l e T h1 h2) (ne:h.get? e=none) (nT:h.get? T=none):Un (frs l) [] H H' h h2:=by
 have n1:∀ {b o},h.get? b=some o->b≠e:=λq z=>by subst z;rw [ne] at q;cases q
 have n2:∀ {b o},h.get? b=some o->b≠T:=λq z=>by subst z;rw [nT] at q;cases q
 refine ⟨λb o q n hb hx=>v.keep b o (u.keep b o q n hb hx) (n1 q) (n2 q) hb,λb o q n hb hx=>?_,u.free,λb o q hx=>?_,u.tups,u.frzs,u.tbls⟩
 ·obtain ⟨sl,q1⟩:=u.slot b o q n hb hx;obtain ⟨sl',q2⟩:=v.slot b _ q1 hb;exact ⟨sl',q2⟩
 ·obtain ⟨o',q1⟩:=u.there b o q hx;by_cases hb:b∈frs l
  ·obtain ⟨sl',q2⟩:=v.slot b _ q1 hb;exact ⟨_,q2⟩
  ·exact ⟨_,v.keep b _ q1 (n1 q) (n2 q) hb⟩
section
variable {X:Cx} {pins:List (Addr×Obj)} {σ:St} {H H':Hp} {s s':Shared}
def qq0 {M:Model} {A:Around} {E:Value->Shared->Prop} {base:Heap} {env:Env} {outer:List Env} {L e T:Addr} {cls a0:Value} {Q:Unit->Shared->Prop}
  (hfr:A.frames=some (env::outer)) (hf:env.frame=some L) (hl:s.heap.FunFrames base (env::outer)) (fl:Fly s.heap e T cls a0)
  (hQ:∀ h' T',Fly h' e T' cls a0->(T'=T\/s.heap.get? T'=none)->Lv (env::outer) e T s.heap h'->Q () { s with heap:=h' }):wpAny M A (noteFrame (.ref e) env) (λ_ s2=>wpAny M A (setFlight (.ref e) none) Q E s2) E s:=by
 classical
 obtain ⟨oe,ves,he,hed⟩:=fl.rec1;obtain ⟨oT,vts,hT,hTd⟩:=fl.rec2
 let p:Addr->Bool:=λb=>decide (b=e\/b=T\/b∈frs (env::outer))
 have pe:p e=true:=za2 (.inl rfl);have pT:p T=true:=za2 (.inr (.inl rfl));have hl':s.heap.FunFrames (W6 p s.heap) (env::outer):=ja hl λb hb=>jW (za2 (.inr (.inr hb)));refine wpAny_looks_onW (base:=W6 p s.heap) hfr hf ⟨J9 p _,jW pe,hl',fl.w (jW pT)⟩ λh4 held up4=>?_;refine wpAny_landsW (s:={ s with heap:=h4 }) held λh5 fly up5=>?_;obtain ⟨k1,_,k2,k3⟩:=fly;obtain ⟨T',fl',nT⟩:=NK k3;refine hQ h5 T' fl' ?_ ⟨λb o hb h1 h2 h3=>k1 b o (WB hb (za1 λz=>z.elim h1 λz=>z.elim h2 h3)),λb o hb h3=>?_⟩
 ·rw [ZJ] at nT;split at nT
  ·rename_i c;rcases of_decide_eq_true c with c|c|c
   ·obtain ⟨_,_,_,_,_,_,_,_,ne,_⟩:=fl';exact absurd c ne
   ·exact .inl c
   ·obtain ⟨oT',ts',g1,g2⟩:=fl'.rec2;exact absurd c (LK k2 g1 g2)
  ·exact .inr nT
 ·obtain ⟨_,o',e',n⟩:=hl.mem h3;rw [hb] at e';cases e';obtain ⟨sl,q⟩:=up4 b o hb n;obtain ⟨sl',q'⟩:=up5 b _ q n;exact ⟨sl',q'⟩
end
section
variable {M:Model} {A:Around} {E:Value->Shared->Prop}
variable {nm q nm' q':Str} {C N B N':Addr} {bs bm bs' bm':List Value} {hdct hdct':Bool} {sn sn':List Str} {sub sub':List Value} {ab ab':Bool} {col col':Option Bool} {dd dd':Option Addr} {k0 k1 k2 k3 k5 l0 l1 l2 l3 l5:Option Value} {newId newId':String}
def qi2 {h:Heap} {g:Array GenState} {d:Drawn} {t:Nat} {os:OsState} {e:Addr} {oe:Obj} {b:Bool} {Q:Bool->Shared->Prop}
  (hC:h.get? C=some (excClassObj nm q C N bs bm hdct sn sub ab col dd k0 k1 k2 k3 k5 newId)) (hB:h.get? B=some (excClassObj nm' q' B N' bs' bm' hdct' sn' sub' ab' col' dd' l0 l1 l2 l3 l5 newId'))
  (he:h.get? e=some oe) (hcls:oe.cls=.ref C) (hbase:bm'.contains (.type "BaseException")=true) (hin:(Value.ref C::bm).contains (.ref B)=true)
  (hq:Q true ⟨h,g,d,t,os⟩):wpAny M A (excMatches (.ref e) (.ref B)) Q E ⟨h,g,d,t,os⟩:=by
 have hcB:(Value.ref B::bm').contains (.type "BaseException")=true:=by rw [List.contains_cons,hbase,Bool.or_true]
 have f:=tc_notTuple;unfold excMatches
 repeat (first|(with_reducible refine wpAny_loadPart_at he ?_;rw [hcls])|with_reducible refine wpAny_loadPart_at hB ?_|with_reducible refine wpAny_loadPart_at hC ?_|(with_reducible refine wpAny_isSubtype_exc hB ?_;rw [hcB])|(with_reducible refine wpAny_isSubtype_exc hC ?_;rw [hin])|wp_step)
 exact hq
end
open L3 (IsX)
def qjy {h:Heap} {e T C:Addr} {a0:Value} (f:Fly h e T (.ref C) a0):IsX e C h:=
 let ⟨oe,vs,_,_,h1,h2,h3,_⟩:=f;⟨oe,vs,h1,h2.1,h3⟩
def qn1 {P:Program} {w:World} {H:Hp} {h:Heap} {a C:Addr} (x:IsX a C h):JX P w H h a (.ext (IsX a C)):=
 ⟨x,let ⟨o,_,e,_⟩:=x;⟨o,e⟩,λh1 h2 ⟨o,vs,e,c,d⟩ k=>⟨o,vs,k _ e,c,d⟩⟩
section
variable {X:Cx} {pins:List (Addr×Obj)} {σ:St} {H:Hp} {s:Shared} {ea:Addr} {o:HO}
def Inv.track (I:Inv X pins σ H s) (h0:H ea=none) (n0:X.s₀.heap.get? ea=none) (nl:ea≠X.env.locals) (nc:∀ x c,X.env.cells.lookup x=some c->c≠ea) (np:∀ p∈X.pn++pins,p.1≠ea)
  (ok:JX X.prog X.w (upd H ea o) s.heap ea o):Inv X pins σ (upd H ea o) s:=by
 have nb:∀ {b u},X.s₀.heap.get? b=some u->b≠ea:=λq z=>by subst z;rw [n0] at q;cases q
 have nu:∀ {b u},H b=some u->b≠ea:=λq z=>by subst z;rw [h0] at q;cases q
 refine ⟨I.ok,I.os,I.bare,⟨I.base.keep,I.base.slot,λb u q n hx=>?_,I.base.there,λb xs q=>?_,λb u v q=>?_,λb ps q=>?_⟩,I.loc,I.cell,?_,λx c e=>?_,λp hp=>?_,λa u e=>?_,I.len⟩
 ·rw [qt (nb q)];exact I.base.free b u q n hx
 ·have y:=I.base.tups b xs q;rw [qt (nu y)];exact y
 ·have y:=I.base.frzs b u v q;rw [qt (nu y)];exact y
 ·obtain ⟨more,y⟩:=I.base.tbls b ps q;exact ⟨more,by rw [qt (nu y)];exact y⟩
 ·rw [qt (Ne.symm nl)];exact I.free
 ·rw [qt (nc x c e)];exact I.freeC x c e
 ·obtain ⟨e,n,ne,nf,d⟩:=I.pin p hp;exact ⟨e,by rw [qt (np p hp)];exact n,ne,nf,d⟩
 ·by_cases z:a=ea
  ·subst z;rw [qM] at e;cases e;exact ok
  ·rw [qt z] at e;exact (I.hok a u e).stay (λ_ _ _ q=>q) (λb q=>by rw [qt (nu q)];exact q) λb xs q=>by rw [qt (nu q)];exact q
def Inv.gone {i:Nat} {n:Str} {m:Str->Option Value} {v:Option Value} {h':Heap} {t:Nat} (I:Inv X pins σ H s) (hN:X.N.Nodup) (hi:X.N[i]?=some n) (hm:s.heap.Ns X.env.locals m)
  (hn:h'.Ns X.env.locals (λx=>if x=n then v else m x)) (sb:Heap.SameBut X.env.locals s.heap h'):Inv X pins (σ.set i none) H { s with heap:=h',toks:=t }:=by
 have k:∀ b u,b≠X.env.locals->s.heap.get? b=some u->h'.get? b=some u:=λb u ne q=>(sb.2 b ne).trans q;have neL:∀ {b u},X.s₀.heap.get? b=some u->b≠X.env.locals:=λe=>u7 (v8 (y6 e) I.ok.above);have trk:∀ {b u},H b=some u->b≠X.env.locals:=λq z=>by subst z;rw [I.free] at q;cases q
 have sz:=sb.1;refine ⟨I.ok,I.os,I.bare,⟨λb u q n hb hx=>k b u (neL q) (I.base.keep b u q n hb hx),λb u q n hb hx=>?_,I.base.free,λb u q hx=>?_,I.base.tups,I.base.frzs,I.base.tbls⟩,⟨_,hn,λj x u e1 e2 e3=>?_⟩,λx c e=>?_,I.free,I.freeC,λp hp=>?_,?_,by rw [List.length_set];exact I.len⟩
 ·obtain ⟨sl,y⟩:=I.base.slot b u q n hb hx;exact ⟨sl,k b _ (neL q) y⟩
 ·obtain ⟨u',y⟩:=I.base.there b u q hx;exact ⟨u',k b _ (neL q) y⟩
 ·rw [getElem?_set] at e2;split at e2
  ·split at e2<;>cases e2
  ·rename_i ne;obtain ⟨m2,hm2,hl⟩:=I.loc;obtain ⟨w,r,l⟩:=hl j x u e1 e2 e3;refine ⟨w,r,?_⟩;rcases l with ⟨l1,l2⟩|⟨l1,c,l2,l3⟩
   ·refine .inl ⟨l1,?_⟩;have nx:x≠n:=λz=>by
     subst z;exact ne ((List.getElem?_inj (za4 hi).1 hN).mp (hi.trans e1.symm))
    have em:m=m2:=hm.eq_nsMap.trans hm2.eq_nsMap.symm;show (if x=n then v else m x)=some w;rw [if_neg nx,em];exact l2
   ·obtain ⟨oc,hc,hd⟩:=l3;exact .inr ⟨l1,c,l2,oc,k c oc (I.cne x c l2) hc,hd⟩
 ·obtain ⟨v',oc,hc,hd⟩:=I.cell x c e;exact ⟨v',oc,k c oc (I.cne x c e) hc,hd⟩
 ·obtain ⟨e,n',ne,nf,d⟩:=I.pin p hp;exact ⟨k _ _ ne e,n',ne,nf,d⟩
 ·exact I.hok.tracked λb u z q=>k b u (λy=>by subst y;exact z I.free) q
end
def qnr {M:Model} {A:Around} {E:Value->Shared->Prop} {s:Shared} {base:Heap} {l:List Env} {e T:Addr} {cls a0:Value} {Q:Unit->Shared->Prop}
  (hl:s.heap.FunFrames base l) (fl:Fly s.heap e T cls a0)
  (hQ:∀ h' T',Fly h' e T' cls a0->(T'=T\/s.heap.get? T'=none)->Lv l e T s.heap h'->Q () { s with heap:=h' }):wpAny M A (setFlight (.ref e) none) Q E s:=by
 classical
 obtain ⟨oe,ves,he,hed⟩:=fl.rec1;obtain ⟨oT,vts,hT,hTd⟩:=fl.rec2
 let p:Addr->Bool:=λb=>decide (b=e\/b=T\/b∈frs l)
 have pe:p e=true:=za2 (.inl rfl);have pT:p T=true:=za2 (.inr (.inl rfl));have hl':s.heap.FunFrames (W6 p s.heap) l:=ja hl λb hb=>jW (za2 (.inr (.inr hb)));refine lands_againW (base:=W6 p s.heap) (l:=l) ⟨J9 p _,jW pe,hl',fl.w (jW pT)⟩ λh5 fly up5=>?_;obtain ⟨k1,_,k2,k3⟩:=fly;obtain ⟨T',fl',nT⟩:=NK k3;refine hQ h5 T' fl' ?_ ⟨λb o hb h1 h2 h3=>k1 b o (WB hb (za1 λz=>z.elim h1 λz=>z.elim h2 h3)),λb o hb h3=>?_⟩
 ·rw [ZJ] at nT;split at nT
  ·rename_i c;rcases of_decide_eq_true c with c|c|c
   ·obtain ⟨_,_,_,_,_,_,_,_,ne,_⟩:=fl';exact absurd c ne
   ·exact .inl c
   ·obtain ⟨oT',ts',g1,g2⟩:=fl'.rec2;exact absurd c (LK k2 g1 g2)
  ·exact .inr nT
 ·obtain ⟨_,o',e',n⟩:=hl.mem h3;rw [hb] at e';cases e';exact up5 b o hb n
def Cx.cat (X:Cx) (pins:List (Addr×Obj)) (σ0:St) (E:XK):Cx:={ X with pn:=X.pn++pins,xe:=λe s'=>∃ H1 s1,Inv X pins σ0 H1 s1/\CXe X.prog X.w X.stack H1 s1 E e s' }
def Cx.hdl (X:Cx) (e:Value):Cx:={ X with A:=X.A.mark (some e),calm:=false,xe:=λ_ _=>False }
section
variable {X:Cx} {pins:List (Addr×Obj)} {σ σ0:St} {H:Hp} {s:Shared} {E:XK} {e:Value}
theorem Inv.cat (I:Inv X pins σ H s):Inv (X.cat pins σ0 E) [] σ H s:=
 ⟨⟨I.ok.mod,I.ok.kind,I.ok.glob,I.ok.blt,I.ok.above,I.ok.inj,I.ok.has,I.ok.cab,I.ok.hd,I.ok.frames,I.ok.stk,I.ok.exf,I.ok.bs,I.ok.bsz,I.ok.noex,I.ok.exfs,I.ok.funs,I.ok.frf⟩,I.os,I.bare,I.base,I.loc,I.cell,I.free,I.freeC,λp hp=>I.pin p (by rw [List.append_nil] at hp;exact hp),I.hok,I.len⟩
def Inv.ofCat {pins':List (Addr×Obj)} (I:Inv (X.cat pins σ0 E) pins' σ H s):Inv X pins σ H s:=
 ⟨⟨I.ok.mod,I.ok.kind,I.ok.glob,I.ok.blt,I.ok.above,I.ok.inj,I.ok.has,I.ok.cab,I.ok.hd,I.ok.frames,I.ok.stk,I.ok.exf,I.ok.bs,I.ok.bsz,I.ok.noex,I.ok.exfs,I.ok.funs,I.ok.frf⟩,I.os,I.bare,I.base,I.loc,I.cell,I.free,I.freeC,λp hp=>I.pin p (List.mem_append_left _ hp),I.hok,I.len⟩
theorem Inv.hdl (I:Inv X pins σ H s):Inv (X.hdl e) pins σ H s:=
 ⟨⟨I.ok.mod,I.ok.kind,I.ok.glob,I.ok.blt,I.ok.above,I.ok.inj,I.ok.has,I.ok.cab,(λz=>nomatch z),I.ok.frames,I.ok.stk,I.ok.exf,I.ok.bs,I.ok.bsz,I.ok.noex,I.ok.exfs,I.ok.funs,I.ok.frf⟩,I.os,I.bare,I.base,I.loc,I.cell,I.free,I.freeC,I.pin,I.hok,I.len⟩
def Inv.ofHdl (ok:X.Ok) (I:Inv (X.hdl e) pins σ H s):Inv X pins σ H s:=
 ⟨ok,I.os,I.bare,I.base,I.loc,I.cell,I.free,I.freeC,I.pin,I.hok,I.len⟩
end
section
variable {X:Cx} {pins:List (Addr×Obj)} {σ:St} {H:Hp} {s s':Shared} {E:XK} {ev:Value}
def XR (I:Inv X pins σ H s) {ea T C:Addr} {a0:Value} {H':Hp} (os:s'.os=s.os) (bare:AllBare s'.gens) (un:Un (frs X.stack) [] H H' s.heap s'.heap) (hok:HOk X.prog X.w H' s'.heap):Inv X pins σ H' s':=
 I.call' (ch:=[]) os un hok bare (λb z=>absurd z (by simp))
def qeR (I:Inv X pins σ H s) {ea T T' C:Addr} {a0:Value} {H':Hp} {h':Heap} (ne:s.heap.get? ea=none) (nT:s.heap.get? T=none) (He:H' ea=none) (HT:H' T=none) (os:s'.os=s.os) (bare:AllBare s'.gens) (un:Un (frs X.stack) [] H H' s.heap s'.heap)
  (hok:HOk X.prog X.w H' s'.heap) (hE:E (.ref C) none H') (fl':Fly h' ea T' (.ref C) a0) (hT':T'=T\/s'.heap.get? T'=none) (lv:Lv X.stack ea T s'.heap h'):CXe X.prog X.w X.stack H s E (.ref ea) { s' with heap:=h' }:=by
 have I':Inv X pins σ H' s':=XR (ea:=ea) (T:=T) (C:=C) (a0:=a0) I os bare un hok;have hok':HOk X.prog X.w H' h':=hok.tracked λb u z q=>lv.keep b u q (λy=>by subst y;exact z He) (λy=>by subst y;exact z HT) λy=>z (I'.stkFree b y);have gone:s'.heap.get? T'=none->s.heap.get? T'=none:=λq=>by
  cases z:s.heap.get? T' with
  |none=>rfl
  |some o=>obtain ⟨o',y⟩:=un.there T' o z (by simp);rw [q] at y;cases y
 rcases hT' with rfl|hT'
 ·exact ⟨ea,_,C,a0,H',rfl,fl',ne,nT,He,HT,os,bare,qoo un lv ne nT,hok',hE⟩
 ·exact ⟨ea,T',C,a0,H',rfl,fl',ne,gone hT',He,hok.nil hT',os,bare,qoo un lv ne nT,hok',hE⟩
def qeE {E':Value->Shared->Prop} {Q:Unit->Shared->Prop} {L:Addr} (hst:X.stack=X.env::X.outer) (hf:X.env.frame=some L) (I:Inv X pins σ H s) (h:CXe X.prog X.w X.stack H s E ev s')
  (hQ:∀ h',CXe X.prog X.w X.stack H s E ev { s' with heap:=h' }->Q () { s' with heap:=h' }) :
  wpAny (model X.prog X.w) X.A (noteFrame ev X.env) (λ_ s2=>wpAny (model X.prog X.w) X.A (setFlight ev none) Q E' s2) E' s':=by
 obtain ⟨ea,T,C,a0,H',rfl,fl,ne,nT,He,HT,os,bare,un,hok,hE⟩:=h;have I':Inv X pins σ H' s':=XR (ea:=ea) (T:=T) (C:=C) (a0:=a0) I os bare un hok;have hfr:X.A.frames=some (X.env::X.outer):=I.ok.frames.trans (by rw [hst]);have hl:s'.heap.FunFrames X.base (X.env::X.outer):=by rw [← hst];exact I'.stack
 refine qq0 hfr hf hl fl λh' T' fl' hT' lv=>?_;rw [← hst] at lv;exact hQ h' (qeR I ne nT He HT os bare un hok hE fl' hT' lv)
def qbh {M:Model} {A:Around} {E':Value->Shared->Prop} {Q:Unit->Shared->Prop} (I:Inv X pins σ H s) (h:CXe X.prog X.w X.stack H s E ev s')
  (hQ:∀ h',CXe X.prog X.w X.stack H s E ev { s' with heap:=h' }->Q () { s' with heap:=h' }):wpAny M A (setFlight ev none) Q E' s':=by
 obtain ⟨ea,T,C,a0,H',rfl,fl,ne,nT,He,HT,os,bare,un,hok,hE⟩:=h;have I':Inv X pins σ H' s':=XR (ea:=ea) (T:=T) (C:=C) (a0:=a0) I os bare un hok;refine qnr I'.stack fl λh' T' fl' hT' lv=>?_;exact hQ h' (qeR I ne nT He HT os bare un hok hE fl' hT' lv)
def ExC (base:Heap) (C:Addr) (mro:List Value):Prop:=∃ nm q N bs bm hdct sn sub ab col dd k0 k1 k2 k3 k5 newId,base.get? C=some (excClassObj nm q C N bs bm hdct sn sub ab col dd k0 k1 k2 k3 k5 newId)/\mro=.ref C::bm
def Ct (base:Heap) (B C:Addr):Prop:=∃ mro,ExC base C mro/\mro.contains (.ref B)=true
def qny (base:Heap) (B:Addr) (i:Nat) (ts:TS) (D:Ends) (σ:St):XK:=λcls _ H'=>∃ C,cls=.ref C/\Ct base B C /\
 ∀ e,H' e=none->ts { nx:=λσ' H''=>D.nx (σ'.set i none) H'',rt:=λ_ _=>False } (σ.set i (some (.ref e))) (upd H' e (.ext (IsX e C)))
def qr6 (base:Heap) (B:Addr) (i:Nat) (tn:TS) (tr:St->XK->TS) (ts:TS):TS:=λD σ H=>tn D σ H\/tr σ (qny base B i ts D σ) { nx:=λ_ _=>False,rt:=λ_ _=>False } σ H
def qjW {st:Stmt} {x n:Str} {B:Addr} {i:Nat} {mB:List Value} {np hp pos:Pos} {b0:Stmt} {suite:List Stmt} {tn ts:TS} {tr:St->XK->TS} {L:Addr}
  (hst:X.stack=X.env::X.outer) (hf:X.env.frame=some L) (hex:X.ex=[]) (hgl:Gl X x) (hmg:X.mg x=some (.ref B)) (hB:ExC X.base B mB) (hbb:mB.tail.contains (.type "BaseException")=true)
  (hN:X.N.Nodup) (hi:X.N[i]?=some n) (hloc:X.env.kindOf n=some .local) (hlo:X.env.scope.names.lookup n=some .local)
  (hn:PSs X.nox [st] tn) (hx:∀ pins σ0 E,PSs (X.cat pins σ0 E) [st] (tr σ0 E)) (hs:∀ ev,PSs (X.hdl ev) (b0::suite) ts) (hdb:(x==("__debug__" : Str))=false:=by decide) :
  PS X (.Try [st] [.ExceptHandler (some (.Name x np)) (some n) (b0::suite) hp] [] [] pos) (qr6 X.base B i tn tr ts):=by
 intro pins s σ H D I h;refine wpAny_Try_except ?_;rcases h with h|h
 ·refine y0 (hn pins s σ H D (I.wish _) h) (λf s1 q=>?_) λ_ _ z=>z.elim;have q:=q.unwish;cases f with
  |next=>obtain ⟨σ',H',I',q⟩:=q;exact wpAny_execs_nil ⟨σ',H',I',q⟩
  |brk=>exact q
  |cont=>exact q
  |ret u=>exact q
 ·refine y0 (hx pins σ _ [] s σ H _ I.cat h) (λf s1 q=>?_) λe s1 q=>?_
  ·cases f with
   |next=>obtain ⟨_,_,_,z⟩:=q;exact z.elim
   |brk=>obtain ⟨_,_,_,z⟩:=q;exact z.elim
   |cont=>obtain ⟨_,_,_,z⟩:=q;exact z.elim
   |ret u=>obtain ⟨_,_,_,_,_,z⟩:=q;exact z.elim
  ·obtain ⟨H1,s2,I2,q⟩:=q;refine qeE hst hf I2 q λh1 q1=>?_;have nb:e≠byPass:=by obtain ⟨ea,_,_,_,_,rfl,_⟩:=q1;intro z;cases z
   obtain ⟨nmB,qB,NB,bsB,bmB,hdB,snB,subB,abB,colB,ddB,kB0,kB1,kB2,kB3,kB5,nwB,gB,rfl⟩:=hB;refine wpAny_handleBy_cons (codeAny_handlers_test ?_) nb;have hq1:=q1;obtain ⟨ea,T,C,a0,H',rfl,fl,ne,nT,He,HT,os,bare,un,hok,hE⟩:=hq1;have I3:Inv X pins σ H' { s1 with heap:=h1 }:=XR (ea:=ea) (T:=T) (C:=C) (a0:=a0) I2 os bare un hok;have I3h:Inv (X.hdl (.ref ea)) pins σ H' { s1 with heap:=h1 }:=I3.hdl;refine XQ (X:=X.hdl (.ref ea)) I3h hgl hmg ?_ hdb;obtain ⟨C',eC,⟨mro,⟨nm,q',N,bs,bm,hd,sn,sub,ab,col,dd,k0,k1,k2,k3,k5,nw,gC,rfl⟩,hin⟩,hgo⟩:=hE;cases eC;obtain ⟨oe,vs,_,_,g1,g2,_⟩:=fl;refine qi2 (b:=true) (I3.bk _ _ gC) (I3.bk _ _ gB) g1 g2.1 hbb hin ?_;refine codeAny_handlers_suite_as ?_;refine qbh I2 q1 λh2 q2=>?_;obtain ⟨ea',T2,C2,a2,H2,e2,fl2,ne2,nT2,He2,HT2,os2,bare2,un2,hok2,hE2⟩:=q2;cases e2;obtain ⟨C3,eC,⟨mro3,ex3,hin3⟩,hgo2⟩:=hE2;cases eC;have I4:Inv X pins σ H2 { s1 with heap:=h2 }:=XR (s':={ s1 with heap:=h2 }) (ea:=ea) (T:=T2) (C:=C2) (a0:=a2) I2 os2 bare2 un2 hok2;have noex:∀ b:Addr,s2.heap.get? b=none->X.s₀.heap.get? b=none:=λb q=>by
    cases z:X.s₀.heap.get? b with
    |none=>rfl
    |some o=>obtain ⟨o',y⟩:=I2.base.there b o z (by rw [hex];simp);rw [q] at y;cases y
   have nl:ea≠X.env.locals:=λz=>by
    obtain ⟨m,⟨o,es,ep,ho,_⟩,_⟩:=I2.loc;rw [← z,ne2] at ho;cases ho
   have nc:∀ y c,X.env.cells.lookup y=some c->c≠ea:=λy c e z=>by
    obtain ⟨v,o,ho,_⟩:=I2.cell y c e;rw [z,ne2] at ho;cases ho
   have np:∀ p∈X.pn++pins,p.1≠ea:=λp hp z=>by
    have y:=(I2.pin p hp).1;rw [z,ne2] at y;cases y
   have I5:Inv X pins σ (upd H2 ea (.ext (IsX ea C2))) { s1 with heap:=h2 }:=I4.track He2 (noex ea ne2) nl nc np (qn1 (qjy fl2));refine VN (X:=X.hdl (.ref ea)) (v:=.ref ea) I5.hdl hN hi (.inl hlo) rfl (λs3 I6=>?_) (.inr hlo);refine y0 (hs (.ref ea) pins s3 _ _ _ I6 (hgo2 ea He2)) (λf s4 q=>?_) λ_ _ z=>z.elim;cases f with
   |next=>
    obtain ⟨σ',H'',I7,q⟩:=q;have I7:=I7.ofHdl I.ok;obtain ⟨m,hm,hl⟩:=I7.loc;refine wpAny_nameGoes_keeps hloc hm (by rw [I.ok.kind];rfl) λh8 v hn8 sb=>?_;exact ⟨_,_,I7.gone hN hi hm hn8 sb,q⟩
   |brk=>obtain ⟨_,_,_,z⟩:=q;exact z.elim
   |cont=>obtain ⟨_,_,_,z⟩:=q;exact z.elim
   |ret u=>obtain ⟨_,_,_,_,_,z⟩:=q;exact z.elim
end
end L2
namespace L2
open PySem PySem.Spec PyProof.Rows PySem.W PySem.Calls Builtin Builtin.ObjectAttr Builtin.Getset_descriptor
open L3 (IsX)
structure ExK (K:Frag) (C:Addr):Prop where
 cls:(clsIn K C).isSome=true
 ga:findIn K (.ref C) "__getattribute__" = some (some (.builtin "BaseException.__getattribute__"))
 no:findIn K (.ref C) "__getattr__" = some none
 cl:findIn K (.ref C) "__class__" = some (some (.builtin "object.__class__"))
 ob:mroIn K C (.type "object")=some true
 be:mroIn K C (.type "BaseException")=some true
section
variable {prog:Program} {w:World} {A:Around} {E:Value->Shared->Prop} {K:Frag} {e C:Addr}
def qaR {M:Model} {h:Heap} (x:IsX e C h):Looks M h (typeOf (.ref e)) (.ref C):=by
 obtain ⟨o,vs,h1,h2,_⟩:=x;exact h2▸(Looks.ld h1).andThen .now
def N8 {R:Result->Shared->Prop} {tp:Value} {s:Shared} (k:ExK K C) (X:K.In s.heap) (x:IsX e C s.heap) (h:R (.ok (.ret (.ref C))) s) :
  codeAny (model prog w) A (.call (.builtin "getset_descriptor.__get__") ⟨[.builtin "object.__class__",.ref e,tp],[]⟩) R s:=by
 obtain ⟨hh,g,dr,t,os⟩:=s;have L0:=qaR (M:=model prog w) x;have L1:=looks_mroIn (M:=model prog w) X k.ob;refine codeAny_call_builtin KF.slot_gs.plain KF.entry_gs (KF.slot_gs.check _ _ _ _ _ _ _ _ KF.type_class (KF.args_gs _ _ _) ?_);unfold Builtin.«getset_descriptor.__get__» descrGet;rw [dga_obj];refine x8 (x9 ?_);unfold descrGetter descrCheckInstance descrNameAndClass isInstance;simp only [KF.owner_class]
 repeat lk
 refine ⟨Code.quiet_builtin _ (by decide +kernel),codeAny_builtin KF.entry_class ?_⟩;unfold Builtin.«object.__class__» shownTypeOf
 repeat lk
 exact h
def SS {tk:Tok} {Q:Fin->Shared->Prop} {h:Heap} {g:Array GenState} {d:Drawn} {t:Nat} {os:OsState} (k:ExK K C) (X:K.In h) (x:IsX e C h) (hq:Q (.done (.ret (.ref C))) ⟨h,g,d,t,os⟩) :
  wpAny (model prog w) A (Builtin.«object.__getattribute__» ⟨[.ref e,.str "__class__" tk],[]⟩) Q E ⟨h,g,d,t,os⟩:=by
 have L0:=qaR (M:=model prog w) x;have L1:=looks_findIn (M:=model prog w) X k.cl;have hT5:(⟨h,g,d,t,os⟩:Shared).TypeIs (.builtin "object.__class__") "getset_descriptor" := F.typeOf_object_class;have f5:=F.typeOf_object_class;have f6:=F.slot_gs_get.lookup;have f7:=F.slot_gs_set.lookup;obtain ⟨o,vs,hx,hc,hd⟩:=id x
 repeat (any_goals (first|assumption|(with_reducible refine wpAny_loadPart_at hx ?_;rw [hc])|with_reducible refine L1.at ?_|wp_step))
 refine N8 k X x ?_
 repeat (any_goals (first|assumption|wp_step))
def qcy {M:Model} {nameV:Value} {Q:Unit->Shared->Prop} {h:Heap} {g:Array GenState} {d:Drawn} {t:Nat} {os:OsState} (k:ExK K C) (X:K.In h) (x:IsX e C h) (hq:Q () ⟨h,g,d,t,os⟩) :
  wpAny M A (checkBuiltinCall "BaseException.__getattribute__" ⟨[.ref e,nameV],[]⟩) Q E ⟨h,g,d,t,os⟩:=by
 have hk:builtinKind "BaseException.__getattribute__" = some .slot:=by decide +kernel
 have hsplit:splitId "BaseException.__getattribute__" = some ("BaseException","__getattribute__"):=by decide +kernel
 have L1:=looks_mroIn (M:=M) X k.be;have ha:=F.args_bexc_ga (.ref e) nameV;simp only [checkBuiltinCall,hk,hsplit];obtain ⟨o,vs,hx,hc,hd⟩:=id x;refine x8 ?_
 ·unfold isInstance
  repeat (first|(with_reducible refine wpAny_loadPart_at hx ?_;rw [hc])|with_reducible refine L1.at ?_|wp_step)
  exact hq
def qbn {tk:Tok} {Q:Value->Shared->Prop} {h:Heap} {g:Array GenState} {d:Drawn} {t:Nat} {os:OsState} (k:ExK K C) (X:K.In h) (x:IsX e C h) (hq:Q (.ref C) ⟨h,g,d,t,os⟩) :
  wpAny (model prog w) A (getAttrBy (.ref e) (.str "__class__" tk) false) Q E ⟨h,g,d,t,os⟩:=by
 have f3:bindSpecial (.builtin "BaseException.__getattribute__") (.ref e)=pure (.builtin "BaseException.__getattribute__",[.ref e]):=by kernel_rfl
 have hx2:(Value.builtin "BaseException.__getattribute__" == Value.builtin "object.__getattribute__")=false:=by decide +kernel
 have hx1:(onTheHeap (Value.ref C)&&Value.builtin "BaseException.__getattribute__" == Value.builtin "object.__getattribute__")=false:=by rw [hx2];rfl
 have L1:=looks_findIn (M:=model prog w) X k.ga;have L2:=looks_findIn (M:=model prog w) X k.no;obtain ⟨o,vs,hx,hc,hd⟩:=id x
 repeat (any_goals (first|assumption|(with_reducible refine wpAny_loadPart_at hx ?_;rw [hc])|with_reducible refine L1.at ?_|with_reducible refine L2.at ?_|wp_step))
 refine codeAny_call_builtin (by decide +kernel) F.entry_bexc_ga (qcy k X x (SS k X x ?_))
 repeat (any_goals (first|assumption|wp_step))
def LN {Q:Option Value->Shared->Prop} {s:Shared} (k:ExK K C) (X:K.In s.heap) (x:IsX e C s.heap) (hq:Q (some (.ref C)) { s with toks:=s.toks+1 }):wpAny (model prog w) A (getAttr? (.ref e) "__class__") Q E s:=by
 obtain ⟨h,g,d,t,os⟩:=s;unfold getAttr? getAttrBy?
 repeat (any_goals (first|assumption|with_reducible apply qbn k X x|wp_step))
def qd9 (k:ExK K C):KitX K (.ref e) (.ref C) (IsX e C) where
 ty:=λ_ _ _ x=>qaR x
 it:=λ_ _ X _=>by
  obtain ⟨cd,hc⟩:=Option.isSome_iff_exists.mp k.cls;unfold clsIn at hc;split at hc
  ·rename_i c' d' cd' sl' ho;intro A' Q' E' s' k q;unfold isType loadHead;exact x8 (wpAny_loadPart (k _ _ (X _ _ ho)) (x9 q))
  ·cases hc
 ne:=λh tp dd its n sl X htp=>by
  obtain ⟨cd,hc⟩:=Option.isSome_iff_exists.mp k.cls;refine Bool.eq_false_iff.mpr λq=>?_;have e:C=tp:=Value.ref.inj (beq_iff_eq.mp q);subst e;unfold clsIn at hc;split at hc
  ·rename_i c' d' cd' sl' ho;have z:=(X _ _ ho).symm.trans htp;cases z
  ·cases hc
 ca:=λX x q=>LN k X x q
end
end L2
namespace L3
open PySem PySem.Spec PyProof.Rows L2
abbrev TX3:=X3->St3->Gp->Prop
def lX (K:Frg) (tx:TX3) (σ0:L2.St) (E:XK):TS:=λ_ σ H=>σ=σ0/\∃ τ G dx,Rel K τ G σ H/\tx dx τ G/\∀ C G' H',HR K G' H'->Kp G H G' H'->dx C G'->E (.ref C) none H'
def lXE (K:Frg) (tx:TX3) (σ0:L2.St) (E:XK):TE:=λσ H _=>σ=σ0/\∃ τ G dx,Rel K τ G σ H/\tx dx τ G/\∀ C G' H',HR K G' H'->Kp G H G' H'->dx C G'->E (.ref C) none H'
structure jXE3 (X:Cx) (e:Expr) (tx:TX3):Prop where h:∀ pins σ0 E,PE (X.cat pins σ0 E) e (lXE X.K tx σ0 E)
structure jX3 (X:Cx) (sts:List Stmt) (tx:TX3):Prop where h:∀ pins σ0 E,PSs (X.cat pins σ0 E) sts (lX X.K tx σ0 E)
def Fnx (P:Program) (w:World) (K:Frg) (mg:Str->Option Value) (base:Heap) (k:Nat) (x:Str) (sx:Spx):Prop:=
 ∃ f fd ps,FnOk P w K mg base (CXe P w) k f fd ps (lSx K sx)/\DR K fd ps []/\PySem.W.keepIn K (.ref f)=true/\mg x=some (.ref f)
theorem Fnx.mono {P:Program} {w:World} {K:Frg} {mg:Str->Option Value} {base:Heap} {j k:Nat} {x:Str} {sx:Spx} (F:Fnx P w K mg base j x sx) (h:j<=k):Fnx P w K mg base k x sx:=
 let ⟨f,fd,ps,a,b,c,d⟩:=F;⟨f,fd,ps,a.mono h,b,c,d⟩
def qbG (sx:Spx) (t:TA3):TX3:=λdx τ G=>t τ G λxs G1=>sx xs G1 dx
def xif (c:TT3) (t u:TX3):TX3:=λdx τ G=>c τ G λk G1=>if k=true then t dx τ G1 else u dx τ G1
section
variable {X:Cx} {k:Nat} {x:Str} {sx:Spx} {p pos:Pos} {e:Expr} {es:List Expr} {ta:TA3} {tx ty:TX3}
def qa8 (F:Fnx X.prog X.w X.K X.mg X.base k x sx) (hr:Room k X.A) (hg:Gl X x) (ha:∀ pins σ0 E,jA3 (X.cat pins σ0 E) (e::es) ta) (hdb:(x==("__debug__" : Str))=false:=by decide)
  (he:starEach (e::es) X.env=(false,eval e X.env)::starEach es X.env:=by rfl) (hpl:(backTo pos (starEach es X.env)).any (·.1)=false:=by rfl):jXE3 X (.Call (.Name x p) (e::es) [] pos) (qbG sx ta):=by
 refine ⟨λpins0 σ0 E=>?_⟩;intro pins s σ H Q I h;obtain ⟨hσ,τ,G,dx,rl,h,af⟩:=h;obtain ⟨f,fd,ps,F,hb,hk,hm⟩:=F;refine wpAny_Call_Name_kw (XQ I hg hm ?_ hdb);have hA:=(ha pins0 σ0 E).h pos pins s σ H (λvs H1=>∃ xs G1,sx xs G1 dx/\Rps X.K H1 xs vs/\HR X.K G1 H1/\Kp G H G1 H1) I (Q8 rl h λxs G1 h1 vs H1 rs hr1 k1 rl1=>⟨xs,G1,h1,rs,hr1,k1⟩);refine PySem.W.callWith_K (h₀:=X.base) I.ok.mod.kin hk (thn hA λus s1 ⟨vs,H1,I1,r,xs,G1,h1,rs,hr1,k1⟩=>⟨I1.kIn,?_⟩) he hpl;have sp:lSx X.K sx vs H1 (λ_ _=>False) E:=⟨xs,G1,dx,hr1,rs,h1,λC G' H' a b c=>af C G' H' a (k1.trans b) c⟩
 have hl:us.length=ps.length:=by rw [← r.length];exact F.len _ _ _ _ sp
 have hb':BindsTo s1 fd ⟨us,[]⟩ (ps.zip us):=by
  have z:=hb s1 us I1.kIn (by rw [List.append_nil];exact hl);rw [List.append_nil] at z;exact z
 refine wpAny_call (codeAny_mono (F.run X.A X.stack s1 H1 ⟨us,[]⟩ us vs (λ_ _=>False) E hr I1.env0 hb' r sp) λr s' hq=>?_);subst hσ;cases r with
 |error e=>exact ⟨H1,s1,I1.ofCat,hq⟩
 |ok fl=>
  cases fl with
  |ret u=>obtain ⟨_,_,_,_,_,_,_,z⟩:=hq;exact z.elim
  |next=>exact False.elim hq
  |brk=>exact False.elim hq
  |cont=>exact False.elim hq
def qbM (h:jXE3 X e tx) (hs:swapsWith e none pos.line X.env=pure false:=by rfl):jX3 X [.Expr e pos] tx:=
 ⟨λpins σ0 E=>L9 (MH (qcc (h.h pins σ0 E) hs) λD σ H z=>z)⟩
def qqK {c:Expr} {ba bb:List Stmt} {tc:TT3} (hc:∀ pins σ0 E,jC3 (X.cat pins σ0 E) c tc) (ha:jX3 X ba tx) (hb:jX3 X bb ty):jX3 X [.If c ba bb pos] (xif tc tx ty):=
 ⟨λpins σ0 E=>L9 (MH (qmu (hc pins σ0 E).h (ha.h pins σ0 E) (hb.h pins σ0 E)) λD σ H ⟨hσ,τ,G,dx,rl,h,af⟩=>
  CK rl h λb G1 h1 H1 hr1 k1 rl1=>by
   cases b with
   |true=>rw [if_pos rfl] at h1 ⊢;exact ⟨hσ,τ,G1,dx,rl1,h1,λC G' H' a b c=>af C G' H' a (k1.trans b) c⟩
   |false=>rw [if_neg y8] at h1 ⊢;exact ⟨hσ,τ,G1,dx,rl1,h1,λC G' H' a b c=>af C G' H' a (k1.trans b) c⟩)⟩
end
def Rel.del {K:Frg} {τ:St3} {G:Gp} {σ:L2.St} {H:Hp} (r:Rel K τ G σ H) (i:Nat):Rel K (τ.set i none) G (σ.set i none) H:=by
 refine ⟨r.hp,by simp [r.len],λj u e=>?_⟩;by_cases hij:i=j
 ·subst hij;rw [List.getElem?_set_self'] at e;cases q:τ[i]? with
  |none=>rw [q] at e;cases e
  |some z=>rw [q] at e;cases e
 ·rw [List.getElem?_set_ne hij] at e;obtain ⟨w,h1,h2⟩:=r.st j u e;exact ⟨w,by rw [List.getElem?_set_ne hij];exact h1,h2⟩
def HR.newX {K:Frg} {G:Gp} {H:Hp} (hr:HR K G H) {p C:Addr} (hp:H p=none):HR K (gu G p (.exn C)) (upd H p (.ext (IsX p C))):=λa o e=>by
 by_cases ha:a=p
 ·subst ha;rw [qu] at e;cases e;exact qM
 ·rw [zu ha] at e;exact (hr a o e).keep hr (Kp.laid hp) λu h=>by rw [qt ha];exact h
def qq3 (i:Nat) (cs:List Addr) (tn:TS3) (tx:TX3) (ts:TS3):TS3:=λd τ G=>tn d τ G ∨
 tx (λC G'=>C∈cs/\∀ e,G' e=none->ts { nx:=λτ' G''=>d.nx (τ'.set i none) G'',rt:=λ_ _=>False } (τ.set i (some (.ref e))) (gu G' e (.exn C))) τ G
def qoe {X:Cx} {st:Stmt} {x n:Str} {B:Addr} {i:Nat} {mB:List Value} {np hp pos:Pos} {b0:Stmt} {suite:List Stmt} {tn ts:TS3} {tx:TX3} {L:Addr} (cs:List Addr)
  (hst:X.stack=X.env::X.outer) (hf:X.env.frame=some L) (hex:X.ex=[]) (hgl:Gl X x) (hmg:X.mg x=some (.ref B)) (hB:ExC X.base B mB) (hbb:mB.tail.contains (.type "BaseException")=true) (hcs:∀ C∈cs,Ct X.base B C)
  (hN:X.N.Nodup) (hi:X.N[i]?=some n) (hloc:X.env.kindOf n=some .local) (hlo:X.env.scope.names.lookup n=some .local)
  (hn:jB3 X.nox [st] tn) (hx:jX3 X [st] tx) (hs:∀ ev,jB3 (X.hdl ev) (b0::suite) ts) (hdb:(x==("__debug__" : Str))=false:=by decide) :
  jS3 X (.Try [st] [.ExceptHandler (some (.Name x np)) (some n) (b0::suite) hp] [] [] pos) (qq3 i cs tn tx ts):=by
 refine ⟨MH (qjW hst hf hex hgl hmg hB hbb hN hi hloc hlo hn.h hx.h (ts:=lS X.K ts) (λev=>(hs ev).h) hdb) λD σ H ⟨τ,G,d,rl,h,af⟩=>?_⟩;rcases h with h|h
 ·exact .inl ⟨τ,G,d,rl,h,af⟩
 ·refine .inr ⟨rfl,τ,G,_,rl,h,λC G' H' hr' k' ⟨hc,hd⟩=>⟨C,rfl,hcs C hc,λe he=>?_⟩⟩;have rl':Rel X.K τ G' σ H':=rl.next hr' k';have hrn:=hr'.newX (C:=C) he;have kn:Kp G' H' (gu G' e (.exn C)) (upd H' e (.ext (IsX e C))):=Kp.newL he;refine ⟨τ.set i (some (.ref e)),gu G' e (.exn C),_,(rl'.next hrn kn).set i (.ref e),hd e (hr'.free he),⟨λτ2 G2 q σ2 H2 r2 k2=>?_,λ_ _ z=>z.elim,λ_ _ z=>z.elim,λ_ _ z=>z.elim⟩⟩;exact af.nx _ _ q _ _ (r2.del i) ((k'.trans kn).trans k2)
structure RaX (mg:Str->Option Value) (base:Heap) (x:Str) (C:Addr):Prop where
 h:OwnCls x C [.type "ValueError",.type "Exception",.type "BaseException",.type "object"] "ValueError.__new__" mg base
def qeM {P:Program} {w:World} {K:Frg} {mg:Str->Option Value} {base:Heap} {N:List Str} {qual:Str} {scope:Scope} {f:Addr} {cd:Value} {A:Around} {outer:List Env} {s0:Shared} {H0:Hp} {E:XK} {x:Str} {C:Addr} {np cpos pos:Pos} {e:Expr} {es:List Expr} {t:TA3} {dx:X3}
  (hE:∀ cls H',EX K dx cls none H'->E cls none H') (O:RaX mg base x C)
  (hc:(YD (CXe P w) P w K mg base N qual scope f cd A outer s0 H0 E).calm=true) (hg:Gl (YD (CXe P w) P w K mg base N qual scope f cd A outer s0 H0 E) x) (ha:jA3 (YD (CXe P w) P w K mg base N qual scope f cd A outer s0 H0 E) (e::es) t)
  (hdb:(x==("__debug__" : Str))=false:=by decide) (he:starEach (e::es) (YD (CXe P w) P w K mg base N qual scope f cd A outer s0 H0 E).env=(false,eval e (YD (CXe P w) P w K mg base N qual scope f cd A outer s0 H0 E).env)::starEach es (YD (CXe P w) P w K mg base N qual scope f cd A outer s0 H0 E).env:=by rfl)
  (hpl:(backTo cpos (starEach es (YD (CXe P w) P w K mg base N qual scope f cd A outer s0 H0 E).env)).any (·.1)=false:=by rfl) :
  jS3 (YD (CXe P w) P w K mg base N qual scope f cd A outer s0 H0 E) (.Raise (some (.Call (.Name x np) (e::es) [] cpos)) none pos) (NG C dx t):=
 ⟨qhA O.h PySem.F.excBase_ValueError (by first|decide|decide +kernel) PySem.F.excBase_ValueError hc hg ha.h (λpins σ H s ea h' vs I hx z=>qhN I hx (hE _ _ z)) hdb he hpl⟩
def qoN (sx:Spx) (dx:X3) (t:TA3):TE3:=λτ G _=>t τ G λxs G1=>sx xs G1 dx
def MW {P:Program} {w:World} {K:Frg} {mg:Str->Option Value} {base:Heap} {N:List Str} {qual:Str} {scope:Scope} {f:Addr} {cd:Value} {A:Around} {outer:List Env} {s0:Shared} {H0:Hp} {E:XK} {k:Nat} {x:Str} {p pos:Pos} {e:Expr} {es:List Expr} {t:TA3} {dx:X3} {sx:Spx}
  (hE:∀ cls H',EX K dx cls none H'->E cls none H') (F:Fnx P w K mg base k x sx) (hr:Room k (YD (CXe P w) P w K mg base N qual scope f cd A outer s0 H0 E).A) (hg:Gl (YD (CXe P w) P w K mg base N qual scope f cd A outer s0 H0 E) x)
  (ha:jA3 (YD (CXe P w) P w K mg base N qual scope f cd A outer s0 H0 E) (e::es) t) (hdb:(x==("__debug__" : Str))=false:=by decide)
  (he:starEach (e::es) (YD (CXe P w) P w K mg base N qual scope f cd A outer s0 H0 E).env=(false,eval e (YD (CXe P w) P w K mg base N qual scope f cd A outer s0 H0 E).env)::starEach es (YD (CXe P w) P w K mg base N qual scope f cd A outer s0 H0 E).env:=by rfl)
  (hpl:(backTo pos (starEach es (YD (CXe P w) P w K mg base N qual scope f cd A outer s0 H0 E).env)).any (·.1)=false:=by rfl):jE3 (YD (CXe P w) P w K mg base N qual scope f cd A outer s0 H0 E) (.Call (.Name x p) (e::es) [] pos) (qoN sx dx t):=by
 obtain ⟨f',fd,ps,F,hb,hk,hm⟩:=F;refine ⟨DP (qc7 (CX:=CXe P w) (E:=E) (dvs:=[]) F hr hg hm hk hb .nil qku ha.h hdb he hpl) λσ H Q ⟨τ,G,q,rl,h,af⟩=>Q8 rl h λxs G1 h1 vs H1 rs hr1 k1 rl1=>?_⟩;rw [List.append_nil];exact ⟨xs,G1,dx,hr1,rs,h1,λC G' H' a b c=>hE _ _ ⟨C,G',rfl,a,c⟩⟩
def qgW {P:Program} {w:World} {K:Frg} {mg:Str->Option Value} {base:Heap} {x qual:Str} {st:Stmt} {f:Addr} {fd:FuncData} {N ps:List Str} {k:Nat} {sx:Spx} {t3:X3->TS3} (F:Fun K x qual st f fd) (S:FnScope N ps (qf st)) (bd:DR K fd ps []) (hm:mg x=some (.ref f))
  (body:∀ (dx:X3) (cdv:Value) (A:Around) (outer:List Env) (s:Shared) (H:Hp) (E:XK),(∀ cls H',EX K dx cls none H'->E cls none H')->Room k (A.deeper (envOfC qual (qf st) s.heap.objs.size f cdv)) ->
   jB3 (YD (CXe P w) P w K mg base N qual (qf st) f cdv A outer s H E) (qz st) (t3 dx))
  (read:∀ ts G dx,sx ts G dx->ts.length=ps.length/\t3 dx { nx:=λ_ _=>False,rt:=λ_ _=>False } (qm N ts) G):Fnx P w K mg base (k+1) x sx:=
 ⟨f,fd,ps,qog (qk3 F S (λdx cdv A outer s H E hE hr=>(body dx cdv A outer s H E hE hr).h) read),bd,F.kp,hm⟩
def exT (G:Gp):T->Option (Option Addr)
 |.non=>some none
 |.ref e=>match G e with|some (.exn C)=>some (some C)|_=>none
 |_=>none
def qow (D:List (Option Addr×Bool)) (te:TE3):TE3:=λτ G q=>te τ G λx G1=>match exT G1 x with|some o=>(match D.lookup o with|some b=>q (.bl b) G1|none=>False)|none=>False
def tyv:Option Addr->Value
 |none=>.type "NoneType"
 |some C=>.ref C
def XD (K:Frg) (cs:List Value) (D:List (Option Addr×Bool)):Prop:=∀ p∈D,(∀ C,p.1=some C->ExK K C)/\PySem.W.kitAny K (tyv p.1) cs=some p.2
def N5 {D:List (Option Addr×Bool)} {o:Option Addr} {b:Bool} (h:D.lookup o=some b):(o,b)∈D:=by
 induction D with
 |nil=>cases h
 |cons p r ih=>
  obtain ⟨a,c⟩:=p;rw [List.lookup_cons] at h;split at h
  ·rename_i z;cases h;rw [beq_iff_eq.mp z];exact u9
  ·exact v6 _ (ih h)
def qer {X:Cx} {pins:List (Addr×Obj)} {σ:L2.St} {G:Gp} {H:Hp} {s:Shared} (I:Inv X pins σ H s) (hr:HR X.K G H) {x:T} {v:V} {u:Value} {o:Option Addr} (r:Rp X.K H x v) (rv:jx v u) (h:exT G x=some o) (k:∀ C,o=some C->ExK X.K C) :
  ∃ HH,PySem.W.KitX X.K u (tyv o) HH/\HH s.heap/\u≠.builtin "__main__.__loader__#opaque" := by
 cases r with
 |non=>cases h;cases (show u=Value.none from rv);exact ⟨_,PySem.W.kitx_none,trivial,λz=>nomatch z⟩
 |ref a=>
  cases (show u=Value.ref a from rv);unfold exT at h;dsimp only at h;split at h
  ·rename_i C g;cases h;have q:H a=some (.ext (IsX a C)):=hr a _ g;obtain ⟨y,_,_⟩:=(show JX X.prog X.w H s.heap a (.ext (IsX a C)) from I.hok a _ q)
   exact ⟨_,qd9 (k C rfl),y,λz=>nomatch z⟩
  ·cases h
 |bl b=>cases h
 |int b=>cases h
 |str b=>cases h
 |tup _ _=>cases h
def qaD {K:Frg} {t c:Value} {b:Bool} (h:PySem.W.kitAny K t [c]=some b):PySem.W.kitOne K t c=some b:=by
 unfold PySem.W.kitAny at h;split at h
 ·rename_i q;rw [q,← h]
 ·rename_i q;rw [q,← h];rfl
 ·cases h
def clV:V->Value
 |.ref a=>.ref a
 |.ty n=>.type n
 |_=>.none
structure jCl (X:Cx) (e:Expr) (v:V):Prop where
 h:PE X e (tC v)
 ok:(∃ a,v=.ref a)\/∃ n,v=.ty n
def qhn {X:Cx} {x:Str} {a:Addr} {pos:Pos} (hg:Gl X x) (hm:X.mg x=some (.ref a)) (hd:(x==("__debug__" : Str))=false:=by decide):jCl X (.Name x pos) (.ref a):=⟨qib hg hm rfl hd,.inl ⟨_,rfl⟩⟩
section
variable {X:Cx} {e ce:Expr} {te:TE3} {p pos:Pos} {D:List (Option Addr×Bool)}
def qjV {v:V} (he:jE3 X e te) (hg:Gl X "isinstance") (hm:X.mg "isinstance" = none) (hc:jCl X ce v) (hD:XD X.K [clV v] D)
  (hs:starEach [e,ce] X.env=(false,eval e X.env)::starEach [ce] X.env:=by rfl) (hs2:starEach [ce] X.env=(false,eval ce X.env)::starEach [] X.env:=by rfl) (hpl:(backTo pos (starEach [ce] X.env)).any (·.1)=false:=by rfl) :
  jE3 X (.Call (.Name "isinstance" p) [e,ce] [] pos) (qow D te):=by
 refine ⟨DP (WC (r:=λxs H Q=>∃ G x y o b,xs=[y,v]/\HR X.K G H/\Rp X.K H x y/\exT G x=some o/\D.lookup o=some b/\Q (.bl b) H) ?_ hg hm PyProof.Rows.boot_isinstance (UT he.h (UT hc.h KY hs2) hs) (by decide) (by decide) hs hpl)
  λ_ _ _ ⟨τ,G,q,rl,h,af⟩=>zN rl h λx G1 h1 y H1 rx hr1 k1 rl1=>?_⟩
 ·intro pins s σ H xs us Q I r ⟨G,x,y,o,b,hx,hr,rx,h1,h2,q⟩;subst hx;obtain ⟨u,w,rfl,ru,rc⟩:=qdW r;have ew:w=clV v:=by
   rcases hc.ok with ⟨a,rfl⟩|⟨n,rfl⟩
   ·exact rc
   ·exact rc
  subst ew;obtain ⟨d1,d2⟩:=hD _ (N5 h2);obtain ⟨HH,kx,hh,ne⟩:=qer I hr rx ru h1 d1;exact PySem.W.kia_one kx I.kIn hh (qaD d2) ne λtk=>⟨.bl _,H,I.tok tk,rfl,q⟩
 ·split at h1
  ·split at h1
   ·rename_i _ o e1 _ b e2;exact ⟨G1,x,y,_,_,rfl,hr1,rx,e1,e2,af _ G1 h1 _ H1 (.bl _) hr1 k1⟩
   ·exact h1.elim
  ·exact h1.elim
end
section
variable {X:Cx}
def qsq (ks:List Str):List Key:=ks.map λk=>(Sum.inr k:Key)
theorem HR.tab {K:Frg} {G:Gp} {H:Hp} (hr:HR K G H) {p:Addr} {ks:List Str} {xs:List T} (g:G p=some (.tab ks xs)):∃ vs,H p=some (.dK ((qsq ks).zip vs))/\Rps K H xs vs:=hr p _ g
end
end L3
namespace L3
open PySem PySem.Spec PyProof.Rows L2 PySem.SeqAt
section
end
section
variable {X:Cx}
end
end L3
namespace L3
open PySem PySem.Spec PyProof.Rows L2
section
variable {X:Cx} {tg a b c:Expr} {pos:Pos}
end
section
variable {X:Cx}
theorem CV {a:Int}:∀ {n:Nat} {its:List Value} {f:Nat->Int},its.length=n->(∀ (i:Nat) v,its[i]?=some v->∃ t,v=.int (f i) t)->zt ((List.range n).map λi=>V.int (f i)) its
 |0,its,f,hl,_=>by
  have:its=[]:=List.eq_nil_of_length_eq_zero hl;subst this;exact .nil
 |n+1,[],f,hl,_=>by simp at hl
 |n+1,v::its,f,hl,h=>by
  rw [List.range_succ_eq_map,map_cons,map_map];refine .cons (h 0 v rfl) ?_;exact CV (a:=a) (f:=λi=>f (i+1)) (by simpa using hl) λi u hu=>h (i+1) u (by simpa using hu)
def qcd {e:Expr} {te:TE} {p p2 pos pos2:Pos} (hc:X.calm=true) (hg:Gl X "list") (hm:X.mg "list" = none) (hg2:Gl X "range") (hm2:X.mg "range" = none) (he:PE X e te)
  (h1:starEach [e] X.env=(false,eval e X.env)::starEach [] X.env:=by rfl) (h2:starEach [.Call (.Name "range" p2) [e] [] pos2] X.env=(false,eval (.Call (.Name "range" p2) [e] [] pos2) X.env)::starEach [] X.env:=by rfl)
  (h3:(backTo pos (starEach [] X.env)).any (·.1)=false:=by rfl) (h4:(backTo pos2 (starEach [] X.env)).any (·.1)=false:=by rfl) :
  PE X (.Call (.Name "list" p) [.Call (.Name "range" p2) [e] [] pos2] [] pos) (λσ H Q=>te σ H λx H1=>∃ n:Nat,x=.int (n:Int)/\n<=sizeLine/\∀ l,H1 l=none->Q (.ref l) (upd H1 l (.lst ((List.range n).map λ(i:Nat)=>V.int (i:Int))))):=by
 intro pins s σ H Q I h;refine wpAny_Call_Name_kw (UV I hg hm PyProof.Rows.boot_list ?_);refine PyProof.Rows.callWith_type1 ?_ h2 h3;rw [h2];show wpAny _ _ (spliced ((false,eval (.Call (.Name "range" p2) [e] [] pos2) X.env)::backTo pos (starEach [] X.env))) _ _ s;refine Calls.spliced_cons ?_;refine wpAny_Call_Name_kw (UV I hg2 hm2 boot_range ?_);refine PyProof.Rows.callWith_type1 ?_ h1 h4;rw [h1];show wpAny _ _ (spliced ((false,eval e X.env)::backTo pos2 (starEach [] X.env))) _ _ s;refine Calls.spliced_cons (thn (he pins s σ H _ I h) λu s1 ⟨x,H1,I1,r1,n,ex,hz,q⟩=>?_);subst ex;obtain ⟨t,rfl⟩:=r1;refine Calls.spliced_nil ?_;refine call_range_1 ?_;refine Calls.spliced_nil ?_;have sl:=y9;have I2:Inv X pins σ H1 { s1 with heap:=s1.heap.push { cls:=.type "range",data:=.fields #[.int 0 s1.toks,.int (n:Int) t,.int 1 (s1.toks+1)] },toks:=s1.toks+1+1 }:=I1.kept λb o e=>y3 _ e;refine call_list_range (I1.ok.hd hc) (IsRange.new ..) (small_one (by omega) (by omega) (by omega) (by omega)) (n:=n) (by rw [rangeSize_one];split<;>omega) (by omega) λh' tk acc c hk hS hI=>?_;have rv:zt ((List.range n).map λ(i:Nat)=>V.int (i:Int)) acc.toList:=CV (a:=0) (f:=λi=>(i:Int)) (by rw [Array.length_toList];exact hI.1) λi v hv=>by
  obtain ⟨t,e⟩:=hI.2 i v (by simpa using hv);exact ⟨t,by rw [e];simp⟩
 refine ⟨.ref _,_,I2.laid (t':=tk) hk (v5 _) (show JX X.prog X.w _ h' _ (.lst _) from ⟨by simpa using hz,acc.toList,c,rv,by simpa using hS⟩),rfl,q _ (I2.hok.fresh (v5 _))⟩
def SO (te:TE3):TE3:=λτ G q=>te τ G λx G1=>match x with
 |.int k=>(0<=k/\k<=1000000)/\∀ p,G1 p=none->q (.ref p) (gu G1 p (.lst ((List.range k.toNat).map λ(i:Nat)=>T.int (i:Int))))
 |_=>False
theorem qcC {K:Frg} {H:Hp}:∀ (xs:List Nat),Rps K H (xs.map λ(i:Nat)=>T.int (i:Int)) (xs.map λ(i:Nat)=>V.int (i:Int))
 |[]=>.nil
 |x::xs=>.cons (.int _) (qcC xs)
def K7 {e:Expr} {te:TE3} {p p2 pos pos2:Pos} (hc:X.calm=true) (hg:Gl X "list") (hm:X.mg "list" = none) (hg2:Gl X "range") (hm2:X.mg "range" = none) (he:jE3 X e te)
  (h1:starEach [e] X.env=(false,eval e X.env)::starEach [] X.env:=by rfl) (h2:starEach [.Call (.Name "range" p2) [e] [] pos2] X.env=(false,eval (.Call (.Name "range" p2) [e] [] pos2) X.env)::starEach [] X.env:=by rfl)
  (h3:(backTo pos (starEach [] X.env)).any (·.1)=false:=by rfl) (h4:(backTo pos2 (starEach [] X.env)).any (·.1)=false:=by rfl) :
  jE3 X (.Call (.Name "list" p) [.Call (.Name "range" p2) [e] [] pos2] [] pos) (SO te):=
 ⟨DP (qcd hc hg hm hg2 hm2 he.h h1 h2 h3 h4) λ_ _ _ ⟨τ,G,q,rl,h,af⟩=>zN rl h λx G1 h1 v H1 rx hr1 k1 rl1=>by
  cases x<;>try exact h1.elim
  case int k=>
   cases rx;obtain ⟨⟨a,b⟩,h1⟩:=h1;refine ⟨k.toNat,by rw [Int.toNat_of_nonneg a],by rw [y9];omega,λl hl=>af _ _ (h1 l (hr1.free hl)) _ _ (.ref l) (hr1.newL hl (qcC _)) (k1.trans (Kp.newL hl))⟩⟩
def qrD:V->List V->Hp->VK->Prop:=λx vs H Q=>∃ l xs,∃ k:Nat,∃ y,x=.ref l/\vs=[.int (k:Int)]/\H l=some (.lst xs)/\xs[k]?=some y/\Q y (upd H l (.lst (xs.eraseIdx k)))
theorem CQ:∀ {xs:List V} {its:List Value} (k:Nat),zt xs its->zt (xs.eraseIdx k) (its.eraseIdx k)
 |_,_,_,.nil=>by simp;exact .nil
 |_,_,0,.cons a b=>b
 |_,_,k+1,.cons a b=>.cons a (CQ k b)
theorem MT:∀ {xs:List V} {its:List Value} {k:Nat} {y:V},zt xs its->xs[k]?=some y->∃ u,its[k]?=some u/\jx y u
 |_,_,_,_,.nil,h=>by simp at h
 |_,_,0,_,.cons a b,h=>by simp at h;subst h;exact ⟨_,rfl,a⟩
 |_,_,k+1,_,.cons a b,h=>by simpa using MT (k:=k) b (by simpa using h)
def qj1:MtM X "list.pop" qrD:=by
 intro pins s σ H x vs v us Q I rx rv h;obtain ⟨l,xs,k,y,rfl,rfl,hH,hy,q⟩:=h;cases rx;obtain ⟨u,rfl,ru⟩:=rv.one;obtain ⟨t,rfl⟩:=ru;obtain ⟨z,its,n,r,hl,e⟩:=I.lstM hH;obtain ⟨w,hw,rw'⟩:=MT r hy;have kl:k<its.length:=(za4 hw).1;have sl:=y9;have hf:Builtin.List.listFitsIndex (k:Int)=true:=by
  show (decide _&&decide _)=true;rw [Bool.and_eq_true,decide_eq_true_eq,decide_eq_true_eq];exact ⟨by omega,by omega⟩
 have hk:seqIndex? (k:Int) its.toArray.size=some k:=by
  rw [size_toArray];unfold seqIndex?;have c1:¬ ((k:Int)<0):=by omega
  simp only [c1,if_false];rw [if_pos (by rw [Bool.and_eq_true,decide_eq_true_eq,decide_eq_true_eq];omega),Int.toNat_natCast]
 have hw':its.toArray[k]?=some w:=by simpa using hw
 have hz':its.toArray.size<=sizeLine:=by rw [size_toArray];omega
 refine call_meets F.slot_list_pop ⟨_,e,rfl⟩ F.entry_list_pop (F.args_list_pop_2 _ _) (@PySem.MeetsSeq.list_pop_at l its.toArray n (k:Int) t k w hf hk hw' hz') ⟨e,?_⟩;refine ⟨y,_,I.lset (its':=its.eraseIdx k) (t':=s.toks) hH e ?_ (CQ k r) ?_,rw',q⟩
 ·simp
 ·have:=List.length_eraseIdx_le xs k;omega
def qje:T->List T->Gp->Q3->Prop:=λx xs G q=>match x,xs with
 |.ref l,[.int k]=>(match G l with|some (.lst ys)=>0<=k/\(match ys[k.toNat]? with|some y=>q y (gu G l (.lst (ys.eraseIdx k.toNat)))|none=>False)|_=>False)
 |_,_=>False
theorem TW {K:Frg} {H:Hp}:∀ {xs:List T} {vs:List V} (k:Nat),Rps K H xs vs->Rps K H (xs.eraseIdx k) (vs.eraseIdx k)
 |_,_,_,.nil=>by simp;exact .nil
 |_,_,0,.cons a b=>b
 |_,_,k+1,.cons a b=>.cons a (TW k b)
theorem qcS {K:Frg} {H:Hp}:∀ {xs:List T} {vs:List V} {k:Nat} {y:T},Rps K H xs vs->xs[k]?=some y->∃ v,vs[k]?=some v/\Rp K H y v
 |_,_,_,_,.nil,h=>by simp at h
 |_,_,0,_,.cons a b,h=>by simp at h;subst h;exact ⟨_,rfl,a⟩
 |_,_,k+1,_,.cons a b,h=>by simpa using qcS (k:=k) b (by simpa using h)
def qis {K:Frg}:qkh K qje qrD:=λx xs v vs G H q Q hr rx rs h af=>by
 unfold qje at h;split at h
 ·rename_i l k;split at h
  ·rename_i ys e0;obtain ⟨k0,h⟩:=h;split at h
   ·rename_i y e1;cases rx;obtain ⟨u,rfl,r⟩:=TH rs;cases r;obtain ⟨us,g1,r2⟩:=hr l _ e0;obtain ⟨w,e2,ry⟩:=qcS r2 e1;obtain ⟨m,rfl⟩:=Int.eq_ofNat_of_zero_le k0;rw [Int.toNat_natCast] at e2 h;have k:=Kp.wr (G:=G) (H:=H) (p:=l) (ho:=.lst (us.eraseIdx m)) (o':=.lst (ys.eraseIdx m)) e0;refine ⟨l,us,m,w,rfl,rfl,g1,e2,af _ _ h _ _ (ry.keep hr k) (hr.wr e0 (TW m r2)) k⟩
   ·exact h.elim
  ·exact h.elim
 ·exact h.elim
def qld {t:TA3} {e:Expr} {o:Expr} {to:TE3} {apos cpos:Pos} (ho:jE3 X o to) (ha:jA3 X [e] t)
  (hbase:attributeBase o "pop" X.env (eval o X.env)=eval o X.env:=by rfl)
  (hfew:((backTo cpos (starEach [e] X.env)).all (λx=>!x.1)&&(backToKw cpos (keywordEach [] X.env)).all (λx=>x.1.isSome)
   && decide (([e]:List Expr).length+([]:List Keyword).length+(if ([]:List Keyword).isEmpty then 0 else 1)<30))=true:=by rfl)
  (hline:(apos.endLine==cpos.line)=true:=by rfl) (hs:starEach [e] X.env=(false,eval e X.env)::starEach [] X.env:=by rfl) (hplain:(backTo cpos (starEach [] X.env)).any (·.1)=false:=by rfl) :
  jE3 X (.Call (.Attribute o "pop" apos) [e] [] cpos) (bm3 qje to t):=⟨qpi PySem.F.slot_list_pop PySem.F.type_list_pop qj1 qis ho.h ha.h hbase hfew hline hs hplain⟩
end
section
variable {prog:Program} {w:World} {A:Around} {E:Value->Shared->Prop} {s:Shared}
end
section
variable {X:Cx}
end
section
variable {prog:Program} {w:World} {A:Around} {E:Value->Shared->Prop} {s:Shared}
end
section
variable {prog:Program} {w:World} {A:Around} {E:Value->Shared->Prop} {s:Shared}
end
section
variable {X:Cx}
end
section
variable {X:Cx}
end
section
variable {prog:Program} {w:World} {A:Around} {E:Value->Shared->Prop} {s:Shared}
end
section
variable {X:Cx} {pos:Pos}
end
open PySem.SeqAt
section
variable {X:Cx} {pins:List (Addr×Obj)} {σ:L2.St} {H:Hp} {s:Shared}
end
end L3
namespace L3
open PySem PySem.Spec PyProof.Rows L2
open Builtin Builtin.Str
section
variable {prog:Program} {w:World} {A:Around} {E:Value->Shared->Prop} {s:Shared}
end
section
variable {X:Cx}
end
end L3
namespace L3
open PySem PySem.Spec PyProof.Rows L2
section
variable {prog:Program} {w:World} {A:Around} {E:Value->Shared->Prop} {s:Shared}
end
section
variable {X:Cx} {pos:Pos}
end
section
variable {X:Cx} {tg l:Expr}
end
end L3
namespace Srt
open PySem PySem.W PySem.Calls PyProof.Rows
section
variable {prog:Program} {w:World} {A:Around} {E:Value->Shared->Prop} {s:Shared}
def plt (a b:Int×Int):Bool:=decide (a.1<b.1)||(decide (a.1=b.1)&&decide (a.2<b.2))
def Prs (h:Heap):List Value->List (Int×Int)->Prop
 |[],[]=>True
 |v::vs,p::ps=>(∃ (a:Addr) (t u:Tok),v=.ref a/\L2.YJ h a #[.int p.1 t,.int p.2 u])/\Prs h vs ps
 |_,_=>False
theorem Prs.length {h:Heap}:∀ {vs:List Value} {ps:List (Int×Int)},Prs h vs ps->vs.length=ps.length
 |[],[],_=>rfl
 |v::vs,p::ps,⟨_,r⟩=>by rw [length_cons,length_cons,Prs.length r]
 |[],_::_,r=>r.elim
 |_::_,[],r=>r.elim
theorem Prs.at {h:Heap}:∀ {vs:List Value} {ps:List (Int×Int)} {i:Nat} {p:Int×Int},Prs h vs ps->ps[i]?=some p->∃ (a:Addr) (t u:Tok),vs.getD i .none=.ref a/\L2.YJ h a #[.int p.1 t,.int p.2 u]
 |v::vs,q::ps,0,p,⟨x,r⟩,e=>by
  cases e;obtain ⟨a,t,u,rfl,y⟩:=x;exact ⟨a,t,u,rfl,y⟩
 |v::vs,q::ps,i+1,p,⟨x,r⟩,e=>by
  have:=Prs.at r (show ps[i]?=some p from e);simpa using this
 |[],[],_,_,_,e=>by simp at e
 |[],_::_,_,_,r,_=>r.elim
 |_::_,[],_,_,r,_=>r.elim
theorem Prs.tups {h:Heap}:∀ {vs:List Value} {ps:List (Int×Int)},Prs h vs ps->∃ fs:List Value,KatTups h vs fs/\fs.length=ps.length/\∀ f∈fs,∃ (i:Int) (t:Tok),f=.int i t
 |[],[],_=>⟨[],.nil,rfl,λf hf=>by cases hf⟩
 |v::vs,p::ps,⟨x,r⟩=>by
  obtain ⟨a,t,u,rfl,o,g,c,n,d,_⟩:=x;obtain ⟨fs,k,l,q⟩:=Prs.tups r;refine ⟨.int p.1 t::fs,.cons g c d rfl k,by simp [l],λf hf=>?_⟩;rcases mem_cons.mp hf with rfl|hf
  ·exact ⟨_,_,rfl⟩
  ·exact q f hf
 |[],_::_,r=>r.elim
 |_::_,[],r=>r.elim
def qlP {vs:List Value} {ps:List (Int×Int)} {i j:Nat} {p q:Int×Int} {C:Bool->Shared->Prop} (r:Prs s.heap vs ps) (hi:ps[i]?=some p) (hj:ps[j]?=some q) (h:C (plt p q) s):kas_ask prog w A (tuples' true) vs i j C s:=by
 obtain ⟨a,t,u,e1,o,g,c,n,d,_⟩:=r.at hi;obtain ⟨a',t',u',e2,o',g',c',n',d',_⟩:=r.at hj;unfold kas_ask;rw [e1,e2];refine kat_lt g d g' d' ?_;show KatLex prog w A true false C [(.int p.1 t,.int q.1 t'),(.int p.2 u,.int q.2 u')] 0 s;refine kat_cons (wpAny_eqBool_int ?_);by_cases z:p.1=q.1
 ·rw [show (p.1==q.1)=true by simpa using z];refine kat_yes (kat_cons (wpAny_eqBool_int ?_));by_cases z2:p.2=q.2
  ·rw [show (p.2==q.2)=true by simpa using z2];refine kat_yes (kat_nil ?_);have:plt p q=false:=by simp [plt,z,z2]
   rw [← this];exact h
  ·rw [show (p.2==q.2)=false by simpa using z2];refine kat_no (kat_one _ _ (lt_int ?_));have:plt p q=decide (p.2<q.2):=by simp [plt,z]
   rw [this] at h;exact h
 ·rw [show (p.1==q.1)=false by simpa using z];refine kat_no (oneLt_int ?_);have:plt p q=decide (p.1<q.1):=by simp [plt,z]
  rw [← this];exact h
def qfp {n k:Nat} (h:k<n):(List.toArray (List.range n)).getD k 0=k:=by
 simp [Array.getD,h]
theorem qfl {cmp:Nat->Nat->(Bool->Shared->Prop)->Shared->Prop} {n:Nat} {Q:Nat->Shared->Prop} (hc:∀ (k:Nat) (C:Bool->Shared->Prop),k+1<n->C false s->cmp (k+1) k C s) (hq:Q n s):∀ (f k:Nat),k+f=n->1<=k->(kas_asc (List.toArray (List.range n)) f k).kasWp cmp Q s
 |0,k,e,_=>by
  have:k=n:=by omega
  subst this;exact hq
 |f+1,k,e,k1=>by
  obtain ⟨j,rfl⟩:∃ j,k=j+1:=⟨k-1,by omega⟩
  show cmp ((List.toArray (List.range n)).getD (j+1) 0) ((List.toArray (List.range n)).getD (j+1-1) 0) (λb s'=>(if b=true then KasT.ret (j+1) else kas_asc (List.toArray (List.range n)) f (j+1+1)).kasWp cmp Q s') s;rw [qfp (by omega),qfp (show j+1-1<n by omega),Nat.add_sub_cancel];refine hc j _ (by omega) ?_;rw [if_neg (by simp)];exact qfl hc hq f (j+2) (by omega) (by omega)
def qhP {cmp:Nat->Nat->(Bool->Shared->Prop)->Shared->Prop} {n:Nat} {Q:Array Nat->Shared->Prop} (hc:∀ (k:Nat) (C:Bool->Shared->Prop),k+1<n->C false s->cmp (k+1) k C s) (h1:1<=n) (hq:Q (List.toArray (List.range n)) s):(kas_sort n).kasWp cmp Q s:=by
 unfold kas_sort kas_count;rw [KasT.kasWp_bind,KasT.kasWp_bind];refine qfl hc ?_ (n-1) 1 (by omega) (v5 _);rw [if_pos (by simp)];show (if n<n then _ else _:KasT (Array Nat)).kasWp cmp Q s;rw [if_neg (Nat.lt_irrefl n)];exact hq
def Asc:List (Int×Int)->Prop:=λps=>∀ i p q,ps[i]?=some p->ps[i+1]?=some q->plt q p=false
theorem Prs.keep {h h':Heap}:∀ {vs:List Value} {ps:List (Int×Int)},Prs h vs ps->(∀ b o,h.get? b=some o->o.cls=.type "tuple" -> h'.get? b=some o)->Prs h' vs ps
 |[],[],_,_=>trivial
 |_::_,_::_,⟨⟨a,t,u,e,o,g,c,n,d⟩,r⟩,k=>⟨⟨a,t,u,e,o,k _ _ g c,c,n,d⟩,r.keep k⟩
 |[],_::_,r,_=>r.elim
 |_::_,[],r,_=>r.elim
def qdE (vs:List Value):(List.toArray (List.range vs.length)).toList.map (λi=>vs.getD i Value.none)=vs:=by
 apply List.ext_getElem?;intro i;rw [getElem?_map];by_cases h:i<vs.length
 ·simp [h]
 ·simp [h]
def qqk {a:Addr} {n:Nat} {vs:List Value} {ps:List (Int×Int)} {P:PySem.Fin->Shared->Prop} (ho:s.heap.get? a=some (seqObj "list" vs.toArray n)) (r:Prs s.heap vs ps) (up:Asc ps) (h64:ps.length<64)
  (h:P (.done (.ret .none)) { s with heap:=sortedHeap s.heap a vs vs.toArray }):wpAny (model prog w) A (Builtin.«list.sort» ⟨[.ref a],[]⟩) P E s:=by
 have ln:=r.length;have la:a<s.heap.objs.size:=y6 ho;obtain ⟨e1,ho1⟩:∃ e1,(s.heap.update a (Obj.mapSeq λ_=>(#[]:Array Value))).get? a=some (seqObj "list" #[] e1):=⟨_,get?_update_seq ho λ_=>#[]⟩
 have up1:∀ {h1:Heap} {o1:Obj} {b:Addr} {o:Obj},h1.get? b=some o->(h1.push o1).get? b=some o:=λ{_ o1 _ _} z=>y3 o1 z;have kp:∀ b o,s.heap.get? b=some o->o.cls=.type "tuple" -> (((s.heap.update a (Obj.mapSeq λ_=>(#[]:Array Value))).push (seqObj "tuple" vs.toArray 0)).push (seqObj "list" #[] 0)).get? b=some o:=λb o g c=>by
  have nb:b≠a:=by rintro rfl;rw [ho] at g;cases g;exact absurd c (by simp [seqObj])
  exact up1 (up1 (by rw [Heap.get?_update_ne _ _ _ _ nb];exact g))
 have r2:=r.keep kp;have ho6:=up1 (o1:=seqObj "list" #[] 0) (up1 (o1:=seqObj "tuple" vs.toArray 0) ho1);have sl:vs.length<=sizeLine:=by rw [y9];omega
 rw [list_sort_plain];refine x8 (listItems_at ho rfl (x8 (listUpdate_at ho rfl (x8 (seqEpoch_at ho1 rfl (x8 (wpAny_newTuple (x8 (wpAny_newList (wpAny_holding ?_) (Nat.zero_le _))) sl)))) (by rw [size_toArray];omega) (Nat.zero_le _))));show wpAny (model prog w) A _ P E { s with heap:=((s.heap.update a (Obj.mapSeq λ_=>(#[]:Array Value))).push (seqObj "tuple" vs.toArray 0)).push (seqObj "list" #[] 0) };have last:∀ st:SortSt,(arrOf st).map (·.2)=vs.toArray->failedOf st=none->wpAny (model prog w) A (do
   let touched:=(← seqEpoch a) != e1
   Builtin.List.listUpdate (.ref a) λ_=>(arrOf st).map (·.2)
   if let some e:=failedOf st then rule "list.sort.comparison-raised";throw e
   if touched then rule "list.sort.modified";raiseError "ValueError" "list modified during sort"
   ret .none) P E { s with heap:=((s.heap.update a (Obj.mapSeq λ_=>(#[]:Array Value))).push (seqObj "tuple" vs.toArray 0)).push (seqObj "list" #[] 0) }:=λst e2 e3=>by
  rw [e2,e3];refine x8 (seqEpoch_at ho6 rfl (x8 (listUpdate_at ho6 rfl ?_ (Nat.zero_le _) (by rw [size_toArray];omega))));simp only [bne_self_eq_false,Bool.false_eq_true,if_false];exact x9 h
 have sz:vs.toArray.size=vs.length:=size_toArray ..;dsimp only;by_cases h2:vs.toArray.size<2
 ·rw [if_pos h2,if_pos h2];refine x8 (x9 ?_);rw [StateT.run_pure];refine x8 (x9 ?_);exact last (SortSt.mk' general' (vs.toArray.zip vs.toArray) #[] 7 none) (by
   show (vs.toArray.zip vs.toArray).map (·.2)=vs.toArray;simp;exact List.map_snd_zip (v5 _)) rfl
 ·rw [if_neg h2,if_neg h2];obtain ⟨fs,kt,fl,fi⟩:=r2.tups;refine x8 (kat_kind kt (by omega) (T:=.type "int") (λv hv=>?_) rfl ?_)
  ·obtain ⟨i,t,rfl⟩:=fi v hv;exact .now
  ·rw [show (Value.type "int" != Value.type "tuple")=true by decide];refine x8 (y0 (kat_run (ks:=vs) (vs:=vs) (κ:=tuples' true) (G:=λp s'=>p=List.toArray (List.range vs.length)/\s'={ s with heap:=((s.heap.update a (Obj.mapSeq λ_=>(#[]:Array Value))).push (seqObj "tuple" vs.toArray 0)).push (seqObj "list" #[] 0) })
    (Q:=λst' s'=>((arrOf st').map (·.2)=vs.toArray/\failedOf st'=none)/\s'={ s with heap:=((s.heap.update a (Obj.mapSeq λ_=>(#[]:Array Value))).push (seqObj "tuple" vs.toArray 0)).push (seqObj "list" #[] 0) }) rfl (by omega) (by omega) (λp st' s' _ e2 e3 g=>⟨⟨?_,e3⟩,g.2⟩) ?_) ?_ λ_ _ e=>e)
   ·rw [kat_snds rfl e2,g.1,qdE]
   ·refine qhP (λk C hk hC=>?_) (by omega) ⟨rfl,rfl⟩;have p1:=v0 (show k<ps.length by omega);have p2:=v0 (show k+1<ps.length by omega);refine qlP r2 p2 p1 ?_;rw [up k _ _ p1 p2];exact hC
   ·rintro ⟨⟨⟩,st'⟩ s' ⟨⟨e2,e3⟩,rfl⟩;exact last st' e2 e3
def qar {l:Addr} {vs:List Value} {ps:List (Int×Int)} {Q:Value->Shared->Prop} (hl:s.heap.IsList l vs.toArray) (r:Prs s.heap vs ps) (up:Asc ps) (h64:ps.length<64)
  (h:∀ h' e,(∀ b o,s.heap.get? b=some o->h'.get? b=some o)->h'.get? (s.heap.objs.size+1)=some (seqObj "list" vs.toArray e)->Q (.ref (s.heap.objs.size+1)) { s with heap:=h' }) :
  wpAny (model prog w) A (call (.builtin "sorted") [.ref l]) Q E s:=by
 have ln:=r.length;have sl:vs.length<=sizeLine:=by rw [y9];omega
 have hsz:((s.heap.push (seqObj "list" #[] 0)).update s.heap.objs.size (Obj.mapSeq (·++vs.toArray))).objs.size=s.heap.objs.size+1:=(Heap.size_update ..).trans (size_push' ..);have hoL:(((s.heap.push (seqObj "list" #[] 0)).update s.heap.objs.size (Obj.mapSeq (·++vs.toArray))).push (seqObj "list" vs.toArray 0)).get? (s.heap.objs.size+1)=some (seqObj "list" vs.toArray 0):=hsz▸y4 _ rfl;have keep:∀ b o,s.heap.get? b=some o->(((s.heap.push (seqObj "list" #[] 0)).update s.heap.objs.size (Obj.mapSeq (·++vs.toArray))).push (seqObj "list" vs.toArray 0)).get? b=some o:=λb o q=>
  y3 _ (by rw [Heap.get?_update_ne _ _ _ _ (u7 (y6 q))];exact y3 _ q)
 refine Calls.call_function_entry kind_sorted plain_sorted entry_sorted (args_sorted1 _) (by
  unfold Builtin.«sorted»;refine x8 (m:=checkCount "sorted" 1 1 _) (x9 (x8 (collect_list hl (x8 (wpAny_newList ?_ sl)) sl)));show wpAny _ _ _ _ _ { s with heap:=((s.heap.push (seqObj "list" #[] 0)).update s.heap.objs.size (Obj.mapSeq (·++vs.toArray))).push (seqObj "list" vs.toArray 0) };rw [hsz];obtain ⟨e,he⟩:=sortedHeap_at (out:=vs.toArray) hoL;have lt1:∀ {b:Addr} {o:Obj},s.heap.get? b=some o->b<s.heap.objs.size:=λz=>y6 z;exact x8 (wpAny_holding (wpAny_call_entry slot_list_sort ⟨_,hoL,rfl⟩ entry_list_sort (qqk hoL (r.keep λb o g _=>keep b o g) up h64 ⟨_,rfl,x9 ⟨_,rfl,h _ e (λb o g=>(sortedHeap_old (u7 (Nat.lt_succ_of_lt (lt1 g))) (y6 (keep b o g))).trans (keep b o g)) he⟩⟩) (args_list_sort _))))
end
end Srt
namespace L3
open PySem PySem.Spec PyProof.Rows L2
section
variable {X:Cx} {K:Frg} {H:Hp}
def PsV (K:Frg) (H:Hp):List V->List (Int×Int)->Prop
 |[],[]=>True
 |v::vs,p::ps=>(∃ a,v=.ref a/\SqT K H a [.int p.1,.int p.2])/\PsV K H vs ps
 |_,_=>False
theorem qgu {pins:List (Addr×Obj)} {σ:L2.St} {s:Shared} (I:Inv X pins σ H s):∀ {us:List V} {its:List Value} {ps:List (Int×Int)},PsV X.K H us ps->zt us its->Srt.Prs s.heap its ps
 |[],its,[],_,h=>by cases h;trivial
 |v::vs,its,p::ps,⟨⟨a,e,q⟩,r⟩,h=>by
  subst e;cases h with
  |cons x y=>
   obtain ⟨js,rj,tj,_⟩:=I.tupleN q;cases rj with
   |cons j1 rj=>
    cases rj with
    |cons j2 rj=>
     cases rj;obtain ⟨t,rfl⟩:=j1;obtain ⟨u,rfl⟩:=j2;exact ⟨⟨a,t,u,x,tj⟩,qgu I r y⟩
 |[],_,_::_,r,_=>r.elim
 |_::_,_,[],r,_=>r.elim
def N6:J5 X (.builtin "sorted") (λxs H Q=>∃ (p:Addr) (us:List V) (ps:List (Int×Int)),xs=[.ref p]/\SqL X.K H p us/\PsV X.K H us ps/\(ps.length<64/\Srt.Asc ps)/\∀ l,H l=none->Q (.ref l) (upd H l (.lst us))):=by
 intro pins s σ H xs us Q I r h;obtain ⟨p,vs,ps,rfl,hq,pv,⟨hl,up⟩,q⟩:=h;obtain ⟨u,rfl,rp⟩:=ED r;cases (show u=Value.ref p from rp);obtain ⟨its,rv,pl,hz⟩:=I.list hq;refine Srt.qar (vs:=its) pl.isList (qgu I pv rv) up hl λh' e kp he=>?_;exact ⟨.ref (s.heap.objs.size+1),_,I.laid (t':=s.toks) (o:=.lst vs) (λb o hb=>kp b o hb) (Nat.le_succ _) ⟨hz,its,e,rv,he⟩,rfl,q _ (I.hok.fresh (Nat.le_succ _))⟩
def CU:List T->Option (List (Int×Int))
 |[]=>some []
 |.tup [.int x,.int y]::r=>(CU r).map λps=>(x,y)::ps
 |_=>none
def TU:List T->Gp->Q3->Prop:=λxs G q=>match xs with
 |[.ref p]=>(match getL G p with|some ys=>(match CU ys with|some ps=>(ps.length<64/\Srt.Asc ps)/\∀ l,G l=none->q (.ref l) (gu G l (.lst ys))|none=>False)|none=>False)
 |_=>False
theorem T0:∀ {ys:List T} {us:List V} {ps:List (Int×Int)},Rps K H ys us->CU ys=some ps->PsV K H us ps
 |[],_,ps,.nil,e=>by cases e;trivial
 |y::ys,_,ps,.cons r t,e=>by
  unfold CU at e;split at e
  ·rename_i heq;cases heq
  ·rename_i x z r' heq;injection heq with h1 h2;subst h1;subst h2;obtain ⟨qs,e1,rfl⟩:=za3 e;cases r with
   |tup hs r2=>
    cases r2 with
    |cons a1 r2=>
     cases r2 with
     |cons a2 r2=>
      cases r2;cases a1;cases a2;exact ⟨⟨_,rfl,hs⟩,T0 t e1⟩
  ·cases e
def qcH:MM K TU (λxs H Q=>∃ (p:Addr) (us:List V) (ps:List (Int×Int)),xs=[.ref p]/\SqL K H p us/\PsV K H us ps/\(ps.length<64/\Srt.Asc ps)/\∀ l,H l=none->Q (.ref l) (upd H l (.lst us))):=λxs vs G H q Q hr rs h af=>by
 unfold TU at h;split at h
 ·rename_i p;obtain ⟨v,rfl,r⟩:=TH rs;cases r;split at h
  ·rename_i ys e0;split at h
   ·rename_i ps e1;obtain ⟨us,hs,r2⟩:=jD hr e0;exact ⟨p,us,ps,rfl,hs,T0 r2 e1,h.1,λl hl=>af _ _ (h.2 l (hr.free hl)) _ _ (.ref l) (HR.newL hr hl r2) (Kp.newL hl)⟩
   ·exact h.elim
  ·exact h.elim
 ·exact h.elim
end
def L7:Sp3:=λ_ _ _=>False
def RM {P:Program} {w:World} {K:Frg} {mg:Str->Option Value} {base:Heap} {x qual:Str} {st:Stmt} {f:Addr} {fd:FuncData} {ps:List Str} (F:Fun K x qual st f fd) (bd:DR K fd ps []) (hm:mg x=some (.ref f)):Fn3 P w K mg base 0 x L7:=
 ⟨f,fd,ps,⟨λvs H Q E ⟨_,_,_,_,_,h,_⟩=>h.elim,λA outer s H args us vs Q E _ _ _ _ ⟨_,_,_,_,_,h,_⟩=>h.elim⟩,bd,F.kp,hm⟩
def ixT (xs:List T) (i:Int) (G:Gp) (q:Q3):ix3 (.tup xs) (.int i) G q=(match L2.atI xs i with|some z=>q z G|none=>False):=rfl
def ixR (p:Addr) (i:Int) (G:Gp) (q:Q3):ix3 (.ref p) (.int i) G q=(match getL G p with|some xs=>(match L2.atI xs i with|some z=>q z G|none=>False)|none=>False):=rfl
def VO {α:Type} {xs:List α} {i:Int} (h0:0<=i) (h1:i<(xs.length:Int)):L2.atI xs i=xs[i.toNat]?:=by
 unfold L2.atI ixN;have e1:i.toNat<xs.length:=by omega
 simp [h0,e1,h1]
def cm {i j:Int} (h1:-1000000<j) (h2:j<1000000):US i j:=.inr ⟨by omega,by omega⟩
def cm' {i j:Int} (h1:-1000000<i) (h2:i<1000000):US i j:=.inl ⟨by omega,by omega⟩
def qd5 {stay:Gp->Prop} {g:TG3} {tif:TT3} {te:TE3} {q:Q3} (items:List T) (Pv:Nat->List T->St3->Gp->Prop) {τ:St3} {G:Gp} (h0:Pv 0 [] τ G) (hst:∀ i ys τ G,i<=items.length->Pv i ys τ G->stay G)
  (hs:∀ i x ys τ G (R:List T->St3->Gp->Prop),items[i]?=some x->Pv i ys τ G->(∀ ys' τ' G',Pv (i+1) ys' τ' G'->R ys' τ' G') ->
   g x τ G λτ2 G2=>tif τ2 G2 λk G3=>if k=true then te τ2 G3 λy G4=>ys.length<sizeLine/\R (ys++[y]) τ2 G4 else R ys τ2 G3)
  (hd:∀ ys τ G,Pv items.length ys τ G->∀ p,G p=none->q (.ref p) (gu G p (.lst ys))):qax stay g tif te q items [] τ G:=by
 have key:∀ (r:List T) (i:Nat) ys τ G,items.drop i=r->i<=items.length->Pv i ys τ G->qax stay g tif te q r ys τ G:=by
  intro r;induction r with
  |nil=>
   intro i ys τ G e hi p;have:i=items.length:=by have:=congrArg List.length e;simp at this;omega
   subst this;exact ⟨hst _ ys τ G hi p,hd ys τ G p⟩
  |cons x r ih=>
   intro i ys τ G e hi p;have hl:i<items.length:=by
    apply Classical.byContradiction;intro z;rw [List.drop_eq_nil_of_le (by omega)] at e;cases e
   have e':=List.drop_eq_getElem_cons hl;rw [e] at e';injection e' with e1 e2;exact ⟨hst i ys τ G hi p,hs i x ys τ G _ (by rw [v0 hl,e1]) p λys2 τ2 G2 p2=>ih (i+1) ys2 τ2 G2 e2.symm hl p2⟩
 exact key items 0 [] τ G (by simp) (Nat.zero_le _) h0
def XN {lo:Int} {n i:Nat} {x:T} (h:(qaK lo n)[i]?=some x):i<n/\x=T.int (lo+(i:Int)):=by
 unfold qaK at h;rw [getElem?_map] at h;cases e:(List.range n)[i]? with
 |none=>rw [e] at h;cases h
 |some k=>
  rw [e] at h;obtain ⟨hi,hk⟩:=za4 e;simp at hi hk;subst hk;exact ⟨hi,by simpa using h.symm⟩
end L3
namespace Bk
open PySem L2 L3
def UE:TS3:=(zm (j0 (DX (λt=>VB t "int") (v3 0)) (Z5 (DX (λt=>VB t "bool") (v3 0)))))
def W8 (zb4:Sp3):TS3:=(zm (j0 (DX (λt=>VB t "tuple") (v3 0)) (j0 (o3 (QK false) (cb3 JZ (qc (v3 0) qk)) (c3 (.int 2))) (j0 (cb3 zb4 (qc (o3 ix3 (v3 0) (c3 (.int 0))) qk)) (cb3 zb4 (qc (o3 ix3 (v3 0) (c3 (.int 1))) qk))))))
def XA (zc4:Sp3):TS3:=(qF (qN (o3 ix3 (v3 0) (c3 (.int 0))) (gn3 1)) (qF (ZC (tb3 (o3 (QK false) (v3 1) (c3 (.str "bits")))) (zm (j8 (qc (o3 (iC qau (λi j=>i*2 ^ j.toNat)) (c3 (.int 1)) (o3 ix3 (v3 0) (c3 (.int 1)))) (qc (o3 (iC qau (λi j=>i*2 ^ j.toNat)) (c3 (.int 1)) (o3 ix3 (v3 0) (c3 (.int 2)))) (qc (o3 (iC qau (λi j=>i*2 ^ j.toNat)) (c3 (.int 1)) (cb3 JZ (qc (o3 ix3 (v3 0) (c3 (.int 3))) qk))) qk))))) qZ) (qF (ZC (tb3 (o3 (QK false) (v3 1) (c3 (.str "table")))) (zm (j8 (qc (cb3 JZ (qc (o3 ix3 (v3 0) (c3 (.int 2))) qk)) (qc (cb3 JZ (qc (o3 ix3 (o3 ix3 (v3 0) (c3 (.int 2))) (c3 (.int 0))) qk)) (qc (o3 ix3 (v3 0) (c3 (.int 1))) qk))))) qZ) (qF (ZC (tb3 (o3 (QK false) (v3 1) (c3 (.str "joined")))) (qF (qN (cb3 zc4 (qc (o3 ix3 (v3 0) (c3 (.int 1))) qk)) (zH 3 (qo (gn3 2) (qo (gn3 3) (qo (gn3 4) zG))))) (qF (qN (cb3 zc4 (qc (o3 ix3 (v3 0) (c3 (.int 2))) qk)) (zH 3 (qo (gn3 5) (qo (gn3 6) (qo (gn3 7) zG))))) (zm (j8 (qc (o3 (iC US (·*·)) (v3 2) (v3 5)) (qc (o3 (iC US (·*·)) (v3 3) (v3 6)) (qc (o3 (iC US (·*·)) (v3 4) (v3 7)) qk))))))) qZ) (zm (j8 (qc (o3 ix3 (v3 0) (c3 (.int 1))) (qc (o3 ix3 (v3 0) (c3 (.int 2))) (qc (o3 ix3 (v3 0) (c3 (.int 3))) qk)))))))))
def V5 (zc4:Sp3):TS3:=(qF (qN (cb3 zc4 (qc (v3 0) qk)) (zH 3 (qo (gn3 2) (qo (gn3 3) (qo (gn3 4) zG))))) (zm (o3 jS (o3 (iC US (·*·)) (o3 ix3 (v3 1) (c3 (.int 0))) (v3 3)) (o3 ix3 (v3 1) (c3 (.int 1))))))
def ZE:TS3:=(qF (qN (o3 (iI Builtin.bitAnd) (v3 0) (v3 1)) (gn3 2)) (qF (qN (c3 (.int 0)) (gn3 3)) (qF (C7 (tb3 (o3 (iB λi j=>decide (j<i)) (v3 2) (c3 (.int 0)))) (qF (X7 3 (iI (·+·)) (o3 (iI Builtin.bitAnd) (v3 2) (c3 (.int 1)))) (qN (o3 (iC (λ_ j=>0<=j) (λi j=>i/2 ^ j.toNat)) (v3 2) (c3 (.int 1))) (gn3 2)))) (zm (o3 (QK false) (o3 (iI Builtin.bitAnd) (v3 3) (c3 (.int 1))) (c3 (.int 1)))))))
def UL (zc1:Sp3):TS3:=(zm (cb3 qoS (qc (lc3 (CJ (qc (v3 0) qk)) (zH 2 (qo (gn3 0) (qo (gn3 1) zG))) (tb3 (cb3 zc1 (qc (v3 2) (qc (v3 1) qk)))) (o3 (iC qau (λi j=>i*2 ^ j.toNat)) (c3 (.int 1)) (v3 0)) [none,none,some 1]) qk)))
def SG:TS3:=(qF (qN (v3 0) (zH 2 (qo (gn3 3) (qo (gn3 4) zG)))) (zm (j8 (qc (j8 (qc (o3 (iC LG (·/·)) (v3 3) (v3 1)) (qc (o3 (iC LG (·/·)) (v3 4) (v3 2)) qk))) (qc (j8 (qc (o3 (iC (λ_ j=>0<j) (·%·)) (v3 3) (v3 1)) (qc (o3 (iC (λ_ j=>0<j) (·%·)) (v3 4) (v3 2)) qk))) qk)))))
def JY (zc4:Sp3) (zc2:Sp3) (zb2:Sp3):TS3:=(qF (qN (cb3 zc4 (qc (v3 1) qk)) (zH 3 (qo (gn3 3) (qo (gn3 4) (qo (gn3 5) zG))))) (qF (qN (cb3 zc2 (qc (v3 2) (qc (v3 3) (qc (v3 4) qk)))) (zH 2 (qo (gn3 6) (qo (gn3 7) zG)))) (zm (o3 jS (o3 (iC US (·*·)) (cb3 zb2 (qc (v3 0) (qc (v3 6) qk))) (v3 5)) (cb3 zb2 (qc (v3 1) (qc (v3 7) qk)))))))
def XF (zc0:Sp3) (zb3:Sp3) (zb5:Sp3):TS3:=(qF (qN (o3 ix3 (v3 0) (c3 (.int 0))) (gn3 2)) (qF (ZC (tb3 (o3 (QK false) (v3 2) (c3 (.str "skew")))) (zm (o3 (iC (λ_ j=>0<j) (·%·)) (o3 jS (o3 (iC US (·*·)) (o3 ix3 (v3 0) (c3 (.int 4))) (o3 ix3 (v3 1) (c3 (.int 0)))) (o3 (iC US (·*·)) (o3 ix3 (v3 0) (c3 (.int 5))) (o3 ix3 (v3 1) (c3 (.int 1))))) (o3 ix3 (v3 0) (c3 (.int 3))))) qZ) (qF (ZC (tb3 (o3 (QK false) (v3 2) (c3 (.str "rests")))) (zm (o3 (iC (λ_ j=>0<j) (·%·)) (cb3 zc0 (qc (v3 0) (qc (v3 1) qk))) (o3 ix3 (v3 0) (c3 (.int 3))))) qZ) (qF (ZC (tb3 (o3 (QK false) (v3 2) (c3 (.str "bits")))) (zm (cb3 zb3 (qc (o3 ix3 (v3 0) (c3 (.int 3))) (qc (cb3 zc0 (qc (v3 0) (qc (v3 1) qk))) qk)))) qZ) (qF (ZC (tb3 (o3 (QK false) (v3 2) (c3 (.str "table")))) (zm (o3 ix3 (o3 ix3 (o3 ix3 (v3 0) (c3 (.int 2))) (o3 ix3 (v3 1) (c3 (.int 0)))) (o3 ix3 (v3 1) (c3 (.int 1))))) qZ) (zm (cb3 zb5 (qc (o3 ix3 (v3 0) (c3 (.int 1))) (qc (o3 ix3 (v3 0) (c3 (.int 2))) (qc (v3 1) qk))))))))))
def W4:TS3:=(qF (qN (o3 (iC (λ_ j=>0<j) (·%·)) (o3 (iC US (·*·)) (o3 jS (o3 jS (o3 (iC (λ_ j=>0<j) (·%·)) (v3 0) (c3 (.int 2147483629))) (o3 (iC US (·*·)) (o3 (iC US (·*·)) (v3 1) (v3 1)) (c3 (.int 7919)))) (c3 (.int 11))) (c3 (.int 48271))) (c3 (.int 2147483647))) (gn3 2)) (zm (o3 (iC (λ_ j=>0<j) (·%·)) (o3 (iC US (·*·)) (v3 2) (v3 2)) (c3 (.int 1999999973)))))
def EB:TS3:=(qF (qN (if3 (tb3 (o3 (iB λi j=>decide (i<j)) (v3 1) (cb3 JZ (qc (v3 0) qk)))) (o3 ix3 (v3 0) (v3 1)) (c3 (.int 0))) (gn3 2)) (qF (qN (if3 (tb3 (o3 (iB λi j=>decide (j<=i)) (cb3 XZ (qc (v3 2) qk)) (o3 (iC qau (λi j=>i ^ j.toNat)) (c3 (.int 10)) (c3 (.int 18))))) (cb3 XZ (qc (v3 2) qk)) (c3 (.int 0))) (gn3 3)) (zm (jX (qc (v3 3) (qc (o3 jS (v3 2) (o3 (iC US (·*·)) (c3 (.int 1000003)) (v3 1))) (qc (c3 (.int 0)) qk)))))))
def EH (zb7:Sp3):TS3:=(qF (qN (o3 jS (o3 ix3 (v3 0) (c3 (.int 2))) (c3 (.int 1))) (jE (v3 0) (c3 (.int 2)))) (qF (ZC (tb3 (o3 (iB λi j=>decide (j<i)) (o3 ix3 (v3 0) (c3 (.int 0))) (c3 (.int 0)))) (qF (qN (o3 (iC (λ_ j=>0<j) (·%·)) (o3 ix3 (v3 0) (c3 (.int 0))) (v3 1)) (gn3 2)) (qF (qN (o3 (iC LG (·/·)) (o3 ix3 (v3 0) (c3 (.int 0))) (v3 1)) (jE (v3 0) (c3 (.int 0)))) (zm (v3 2)))) qZ) (zm (o3 (iC (λ_ j=>0<j) (·%·)) (o3 (iC LG (·/·)) (cb3 zb7 (qc (cb3 zb7 (qc (o3 ix3 (v3 0) (c3 (.int 1))) (qc (o3 ix3 (v3 0) (c3 (.int 2))) qk))) (qc (o3 jS (o3 ix3 (v3 0) (c3 (.int 2))) (c3 (.int 64))) qk))) (c3 (.int 64))) (v3 1)))))
inductive Dl where
 |skew (r c b x y:Int)
 |rests (r c b p:Int)
 |bits (h l:Nat) (ms:List Int)
 |table (b:Int) (cells:List (List Int))
 |joined (d e:Dl)
def qjk (r:List Int):T:=.tup (r.map T.int)
def Dl.t:Dl->T
 |.skew r c b x y=>.tup [.str "skew",.int r,.int c,.int b,.int x,.int y]
 |.rests r c b p=>.tup [.str "rests",.int r,.int c,.int b,.int p]
 |.bits h l ms=>.tup [.str "bits",.int h,.int l,.tup (ms.map T.int)]
 |.table b cells=>.tup [.str "table",.int b,.tup (cells.map qjk)]
 |.joined d e=>.tup [.str "joined",d.t,e.t]
def Dl.R:Dl->Int
 |.skew r _ _ _ _=>r
 |.rests r _ _ _=>r
 |.bits h _ _=>2 ^ h
 |.table _ cells=>cells.length
 |.joined d e=>d.R*e.R
def Dl.C:Dl->Int
 |.skew _ c _ _ _=>c
 |.rests _ c _ _=>c
 |.bits _ l _=>2 ^ l
 |.table _ cells=>((cells[0]?).getD []).length
 |.joined d e=>d.C*e.C
def Dl.B:Dl->Int
 |.skew _ _ b _ _=>b
 |.rests _ _ b _=>b
 |.bits _ _ ms=>2 ^ ms.length
 |.table b _=>b
 |.joined d e=>d.B*e.B
def pop:Nat->Nat->Nat
 |0,_=>0
 |k+1,n=>n%2+pop k (n/2)
def qbX (n m:Int):Bool:=pop 64 (Builtin.bitAnd n m).toNat%2==1
def ji (n:Int):Nat->List Int->Int
 |_,[]=>0
 |t,m::ms=>(if qbX n m then 2 ^ t else 0)+ji n (t+1) ms
def jA (ms:List Int) (n:Int):Int:=ji n 0 ms
def Dl.bank:Dl->Int->Int->Int
 |.skew _ _ b x y,i,j=>(x*i+y*j)%b
 |.rests _ c b _,i,j=>(i*c+j)%b
 |.bits _ l ms,i,j=>jA ms (i*2 ^ l+j)
 |.table _ cells,i,j=>(((cells[i.toNat]?).getD [])[j.toNat]?).getD 0
 |.joined d e,i,j=>d.bank (i/e.R) (j/e.C)*e.B+e.bank (i%e.R) (j%e.C)
def Dl.Ok:Dl->Prop
 |.skew r c b x y=>1<=r/\r<=60/\1<=c/\c<=60/\1<=b/\b<=1000/\0<=x/\x<=1000/\0<=y/\y<=1000
 |.rests r c b p=>1<=r/\r<=60/\1<=c/\c<=60/\1<=b/\b<=1000/\1<=p/\p<=9999/\Int.gcd b p=1/\r*c<=b*p
 |.bits h l ms=>h<=4/\l<=4/\ms.length<=5/\∀ m∈ms,0<=m/\m<2 ^ (h+l)
 |.table b cells=>1<=b/\b<=1000/\1<=cells.length/\cells.length<=60/\∃ c,1<=c/\c<=60/\∀ row∈cells,row.length=c/\∀ x∈row,0<=x/\x<b
 |.joined d e=>d.Ok/\e.Ok/\d.R*e.R<=4096/\d.C*e.C<=4096/\d.B*e.B<=4096
def Dl.dep:Dl->Nat
 |.joined d e=>max d.dep e.dep+1
 |_=>0
def p2 (n:Nat):((2:Int) ^ n)=((2 ^ n:Nat):Int):=by simp
def KB (n:Nat):(1:Int)<=2 ^ n:=by
 rw [p2];have:=Nat.one_le_two_pow (n:=n);omega
def qct {n k:Nat} (h:n<=k):(2:Int) ^ n<=2 ^ k:=by
 rw [p2,p2];have:=Nat.pow_le_pow_right (n:=2) (by omega) h;omega
structure Lims (d:Dl):Prop where
 r1:1<=d.R
 r2:d.R<=4096
 c1:1<=d.C
 c2:d.C<=4096
 b1:1<=d.B
 b2:d.B<=4096
def EA {a b:Int} (h1:1<=a) (h2:1<=b):1<=a*b:=by
 have:=Int.mul_le_mul (a:=1) (b:=1) (c:=a) (d:=b) h1 h2 (by omega) (by omega);omega
theorem Dl.lims:∀ {d:Dl},d.Ok->Lims d
 |.skew r c b x y,⟨h1,h2,h3,h4,h5,h6,_⟩=>⟨h1,by simp [Dl.R];omega,h3,by simp [Dl.C];omega,h5,by simp [Dl.B];omega⟩
 |.rests r c b x,⟨h1,h2,h3,h4,h5,h6,_⟩=>⟨h1,by simp [Dl.R];omega,h3,by simp [Dl.C];omega,h5,by simp [Dl.B];omega⟩
 |.bits h l ms,⟨h1,h2,h3,_⟩=>by
  have e1:=qct h1;have e2:=qct h2;have e3:=qct h3;refine ⟨KB _,?_,KB _,?_,KB _,?_⟩<;>simp [Dl.R,Dl.C,Dl.B]<;>omega
 |.table b cells,⟨h1,h2,h3,h4,c,h5,h6,h7⟩=>by
  have e0:cells[0]?=some cells[0]:=v0 (by omega);have e1:=(h7 cells[0] (za0 _)).1;have e2:(Dl.table b cells).C=c:=by simp [Dl.C,e0,e1]
  exact ⟨by simp [Dl.R];omega,by simp [Dl.R];omega,by rw [e2];omega,by rw [e2];omega,h1,by simp [Dl.B];omega⟩
 |.joined d e,⟨h1,h2,h3,h4,h5⟩=>by
  have a:=Dl.lims h1;have b:=Dl.lims h2;exact ⟨EA a.r1 b.r1,h3,EA a.c1 b.c1,h4,EA a.b1 b.b1,h5⟩
structure Inn (d:Dl) (i j:Int):Prop where
 i1:0<=i
 i2:i<d.R
 j1:0<=j
 j2:j<d.C
def LV (d:Dl):T:=.tup [.int d.R,.int d.C,.int d.B]
def wdT (i j:Int):T:=.tup [.int i,.int j]
def za:Nat->Sp3
 |0=>L7
 |n+1=>λts G q=>∃ d:Dl,ts=[d.t]/\d.dep<=n/\d.Ok/\q (LV d) G
def DM (n:Nat):Sp3:=λts G q=>∃ (d:Dl) (i j:Int),ts=[d.t,wdT i j]/\d.dep<=n/\d.Ok/\q (.int (i*d.C+j)) G
def YC:Sp3:=λts G q=>∃ (n m:Int),ts=[.int n,.int m]/\0<=n/\0<=m/\m<2 ^ 64/\q (.bl (qbX n m)) G
def DF:Sp3:=λts G q=>∃ (ms:List Int) (n:Int),ts=[.tup (ms.map T.int),.int n]/\ms.length<=30/\(∀ m∈ms,0<=m/\m<2 ^ 64)/\0<=n/\∀ G',Ex G G'->q (.int (jA ms n)) G'
def jT:Nat->Sp3
 |0=>L7
 |n+1=>λts G q=>∃ (d:Dl) (i j:Int),ts=[d.t,wdT i j]/\d.dep<=n/\d.Ok/\Inn d i j/\∀ G',Ex G G'->q (.int (d.bank i j)) G'
def K6:Sp3:=λts G q=>∃ (i j r c:Int),ts=[wdT i j,.int r,.int c]/\(0<r/\r<1000000)/\(0<c/\c<1000000)/\q (.tup [wdT (i/r) (j/c),wdT (i%r) (j%c)]) G
def V1 (n:Nat):Sp3:=λts G q=>∃ (d e:Dl) (i j:Int),ts=[d.t,e.t,wdT i j]/\(Dl.joined d e).dep<=n/\(Dl.joined d e).Ok/\Inn (.joined d e) i j/\∀ G',Ex G G'->q (.int ((Dl.joined d e).bank i j)) G'
def N0 (n:Nat):Sp3:=λts G q=>∃ (d:Dl) (i j:Int),ts=[d.t,wdT i j]/\d.dep<=n/\d.Ok/\Inn d i j/\∀ G',Ex G G'->q (.int (d.bank i j)) G'
abbrev qdi (q:Q3):Ends3:={ nx:=λ_ G'=>q .non G',rt:=q }
def qoQ {j:Nat} (h:j<=1000):qau 1 (j:Int):=⟨by omega,by omega,by decide⟩
def qeF {A B:TS3} {d:Ends3} {τ:St3} {G:Gp} (h:∀ nx,nx=B d->A { d with nx:=nx } τ G):qF A B d τ G:=h _ rfl
def zw {s l:Str} {i:Nat} {R S:TS3} {d:Ends3} {τ:St3} {G:Gp} (hτ:τ[i]?=some (some (T.str s))):qF (ZC (tb3 (o3 (QK false) (v3 i) (c3 (.str l)))) R qZ) S d τ G=(if s=l then R { d with nx:=S d } τ G else S d τ G):=by
 simp only [qF,ZC,tb3,o3,v3,hτ,c3,QK,QX,qZ];by_cases e:s=l<;>simp [e]
def EJ (n:Nat):∀ ts G q,za (n+1) ts G q->ts.length=1/\XA (za n) (qdi q) (qm ["dealing","kind","rows","columns","banks","other_rows","other_columns","other_banks"] ts) G:=by
 rintro ts G q ⟨d,rfl,hd,ok,h⟩;refine ⟨rfl,?_⟩;unfold XA;refine qeF λnx q1=>?_;cases d with
 |skew r c b x y=>
  show nx [some (Dl.skew r c b x y).t,some (.str "skew"),none,none,none,none,none,none] G;rw [q1,zw rfl,if_neg (by decide),zw rfl,if_neg (by decide),zw rfl,if_neg (by decide)];simp [Dl.t,qF,qN,gn3,zm,YZ,ZC,q5,WA,qZ,v3,c3,o3,u3,KW,L3.ixT,L3.ixR,jS,iI,iC,iB,QK,QX,T3,tb3,TX,or3,UX,j0,CA,Z5,if3,ch3,cb3,qc,qk,DX,tyT,VB,j8,jX,X6,np3,sp3,zH,qo,zG,jE,DU,DZ,qm,bm3,JO,D6,JZ,XZ,X2,TR,WF,zh,Y0,WM,TD,X7,L2.atI,ixN,DK,HT.sIx,getL,in3,JA,eqF,gu,y9,x4,x3];exact h
 |rests r c b x=>
  show nx [some (Dl.rests r c b x).t,some (.str "rests"),none,none,none,none,none,none] G;rw [q1,zw rfl,if_neg (by decide),zw rfl,if_neg (by decide),zw rfl,if_neg (by decide)];simp [Dl.t,qF,qN,gn3,zm,YZ,ZC,q5,WA,qZ,v3,c3,o3,u3,KW,L3.ixT,L3.ixR,jS,iI,iC,iB,QK,QX,T3,tb3,TX,or3,UX,j0,CA,Z5,if3,ch3,cb3,qc,qk,DX,tyT,VB,j8,jX,X6,np3,sp3,zH,qo,zG,jE,DU,DZ,qm,bm3,JO,D6,JZ,XZ,X2,TR,WF,zh,Y0,WM,TD,X7,L2.atI,ixN,DK,HT.sIx,getL,in3,JA,eqF,gu,y9,x4,x3];exact h
 |bits hh l ms=>
  obtain ⟨k1,k2,k3,_⟩:=ok;show nx [some (Dl.bits hh l ms).t,some (.str "bits"),none,none,none,none,none,none] G;rw [q1,zw rfl,if_pos rfl];simp [Dl.t,qF,qN,gn3,zm,YZ,ZC,q5,WA,qZ,v3,c3,o3,u3,KW,L3.ixT,L3.ixR,jS,iI,iC,iB,QK,QX,T3,tb3,TX,or3,UX,j0,CA,Z5,if3,ch3,cb3,qc,qk,DX,tyT,VB,j8,jX,X6,np3,sp3,zH,qo,zG,jE,DU,DZ,qm,bm3,JO,D6,JZ,XZ,X2,TR,WF,zh,Y0,WM,TD,X7,L2.atI,ixN,DK,HT.sIx,getL,in3,JA,eqF,gu,y9,x4,x3];exact ⟨qoQ (by omega),qoQ (by omega),qoQ (by omega),h⟩
 |table b cells=>
  have L:=Dl.lims ok;obtain ⟨k1,k2,k3,k4,c,k5,k6,k7⟩:=ok;cases cells with
  |nil=>simp at k3
  |cons row cells=>
   show nx [some (Dl.table b (row::cells)).t,some (.str "table"),none,none,none,none,none,none] G;rw [q1,zw rfl,if_neg (by decide),zw rfl,if_pos rfl];simp [Dl.t,qjk,qF,qN,gn3,zm,YZ,ZC,q5,WA,qZ,v3,c3,o3,u3,KW,L3.ixT,L3.ixR,jS,iI,iC,iB,QK,QX,T3,tb3,TX,or3,UX,j0,CA,Z5,if3,ch3,cb3,qc,qk,DX,tyT,VB,j8,jX,X6,np3,sp3,zH,qo,zG,jE,DU,DZ,qm,bm3,JO,D6,JZ,XZ,X2,TR,WF,zh,Y0,WM,TD,X7,L2.atI,ixN,DK,HT.sIx,getL,in3,JA,eqF,gu,y9,x4,x3];simpa [LV,Dl.R,Dl.C,Dl.B] using h
 |joined d e=>
  have Ld:=Dl.lims ok.1;have Le:=Dl.lims ok.2.1;have:1<=n:=by simp [Dl.dep] at hd;omega
  obtain ⟨m,rfl⟩:∃ m,n=m+1:=⟨n-1,by omega⟩
  show nx [some (Dl.joined d e).t,some (.str "joined"),none,none,none,none,none,none] G;rw [q1,zw rfl,if_neg (by decide),zw rfl,if_neg (by decide),zw rfl,if_pos rfl];simp [Dl.t,qF,qN,gn3,zm,YZ,ZC,q5,WA,qZ,v3,c3,o3,u3,KW,L3.ixT,L3.ixR,jS,iI,iC,iB,QK,QX,T3,tb3,TX,or3,UX,j0,CA,Z5,if3,ch3,cb3,qc,qk,DX,tyT,VB,j8,jX,X6,np3,sp3,zH,qo,zG,jE,DU,DZ,qm,bm3,JO,D6,JZ,XZ,X2,TR,WF,zh,Y0,WM,TD,X7,L2.atI,ixN,DK,HT.sIx,getL,in3,JA,eqF,gu,y9,x4,x3];refine ⟨d,rfl,by simp [Dl.dep] at hd;omega,ok.1,?_⟩;simp [LV];refine ⟨e,rfl,by simp [Dl.dep] at hd;omega,ok.2.1,?_⟩;have e1:=Le.r1;have e2:=Le.r2;have e3:=Le.c1;have e4:=Le.c2;have e5:=Le.b1;have e6:=Le.b2;simp [LV];exact ⟨cm (by omega) (by omega),cm (by omega) (by omega),cm (by omega) (by omega),h⟩
theorem WK:∀ k,pop k 0=0
 |0=>rfl
 |k+1=>by simp [pop,WK k]
def YX (n:Nat):∀ ts G q,DM n ts G q->ts.length=2/\V5 (za (n+1)) (qdi q) (qm ["dealing","word","rows","columns","banks"] ts) G:=by
 rintro ts G q ⟨d,i,j,rfl,hd,ok,h⟩;refine ⟨rfl,?_⟩;have L:=Dl.lims ok;simp [V5,qF,qN,gn3,zm,YZ,ZC,q5,WA,qZ,v3,c3,o3,u3,KW,L3.ixT,L3.ixR,jS,iI,iC,iB,QK,QX,T3,tb3,TX,or3,UX,j0,CA,Z5,if3,ch3,cb3,qc,qk,DX,tyT,VB,j8,jX,X6,np3,sp3,zH,qo,zG,jE,DU,DZ,qm,bm3,JO,D6,JZ,XZ,X2,TR,WF,zh,Y0,WM,TD,X7,L2.atI,ixN,DK,HT.sIx,getL,in3,JA,eqF,gu,y9,x4,x3];refine ⟨d,rfl,hd,ok,?_⟩;simp [LV,wdT,qF,qN,gn3,zm,YZ,ZC,q5,WA,qZ,v3,c3,o3,u3,KW,L3.ixT,L3.ixR,jS,iI,iC,iB,QK,QX,T3,tb3,TX,or3,UX,j0,CA,Z5,if3,ch3,cb3,qc,qk,DX,tyT,VB,j8,jX,X6,np3,sp3,zH,qo,zG,jE,DU,DZ,qm,bm3,JO,D6,JZ,XZ,X2,TR,WF,zh,Y0,WM,TD,X7,L2.atI,ixN,DK,HT.sIx,getL,in3,JA,eqF,gu,y9,x4,x3];exact ⟨cm (by have:=L.c1;omega) (by have:=L.c2;omega),h⟩
def DW:∀ ts G q,YC ts G q->ts.length=2/\ZE (qdi q) (qm ["number","mask","common","many"] ts) G:=by
 rintro ts G q ⟨n,m,rfl,hn,hm,hm2,h⟩;refine ⟨rfl,?_⟩;have hr:=PyProof.Rows.bitAnd_range n hm;simp [ZE,qF,qN,gn3,zm,YZ,ZC,q5,WA,qZ,v3,c3,o3,u3,KW,L3.ixT,L3.ixR,jS,iI,iC,iB,QK,QX,T3,tb3,TX,or3,UX,j0,CA,Z5,if3,ch3,cb3,qc,qk,DX,tyT,VB,j8,jX,X6,np3,sp3,zH,qo,zG,jE,DU,DZ,qm,bm3,JO,D6,JZ,XZ,X2,TR,WF,zh,Y0,WM,TD,X7,L2.atI,ixN,DK,HT.sIx,getL,in3,JA,eqF,gu,y9,x4,x3,C7];refine ⟨λk τ G'=>G'=G/\∃ c y:Nat,τ=[some (.int n),some (.int m),some (.int (c:Int)),some (.int (y:Int))]/\c<2 ^ k/\y+pop k c=pop 64 (Builtin.bitAnd n m).toNat,
  ⟨64,rfl,(Builtin.bitAnd n m).toNat,0,by simp;omega,by omega,by simp⟩,?_⟩
 rintro k τ G' ⟨rfl,c,y,rfl,hc,e⟩;simp [PyProof.Rows.bitAnd_m1];by_cases h0:0<c
 ·have hk:1<=k:=by
   rcases Nat.eq_zero_or_pos k with z|z
   ·subst z;simp at hc;omega
   ·exact z
  obtain ⟨k',rfl⟩:∃ k',k=k'+1:=⟨k-1,by omega⟩
  simp [h0];refine ⟨λτ' G''=>G''=G'/\∃ c y:Nat,τ'=[some (.int n),some (.int m),some (.int (c:Int)),some (.int (y:Int))]/\c<2 ^ k'/\y+pop k' c=pop 64 (Builtin.bitAnd n m).toNat,?_,rfl,c/2,y+c%2,?_,?_,?_⟩
  ·rintro τ' G'' ⟨e1,c',y',e2,e3,e4⟩;exact ⟨k',by omega,e1,c',y',e2,e3,e4⟩
  ·simp
  ·rw [Nat.pow_succ] at hc;omega
  ·rw [pop] at e;omega
 ·have hc0:c=0:=by omega
  subst hc0;simp;rw [WK] at e;have e':(qbX n m)=decide ((y:Int)%2=1):=by
   unfold qbX;rw [← e,Nat.add_zero];by_cases hy:y%2=1
   ·have:(y:Int)%2=1:=by omega
    simp [hy,this]
   ·have:¬ (y:Int)%2=1:=by omega
    simp [hy,this]
  rw [← e'];exact h
def jr (n:Int):Nat->List Int->List Int
 |_,[]=>[]
 |t,m::ms=>(if qbX n m then [2 ^ t] else [])++jr n (t+1) ms
theorem U8 (n:Int):∀ (t:Nat) (xs ys:List Int),jr n t (xs++ys)=jr n t xs++jr n (t+xs.length) ys
 |_,[],_=>by simp [jr]
 |t,x::xs,ys=>by simp [jr,U8 n (t+1) xs ys,Nat.add_assoc,Nat.add_comm 1]
theorem EM (n:Int):∀ (t:Nat) (ms:List Int),(jr n t ms).sum=ji n t ms
 |_,[]=>rfl
 |t,m::ms=>by
  simp only [jr,ji,List.sum_append,EM n (t+1) ms];split<;>simp
theorem VS (n:Int):∀ (t:Nat) (ms:List Int),(jr n t ms).length<=ms.length
 |_,[]=>by simp [jr]
 |t,m::ms=>by
  have:=VS n (t+1) ms;simp only [jr,length_append,length_cons];split<;>simp<;>omega
theorem EY (n:Int):∀ (t:Nat) (ms:List Int) (x:Int),x∈jr n t ms->∃ k,k<t+ms.length/\x=2 ^ k
 |_,[],_,h=>by simp [jr] at h
 |t,m::ms,x,h=>by
  simp only [jr,List.mem_append] at h;rcases h with h|h
  ·split at h
   ·simp at h;exact ⟨t,by simp,h⟩
   ·simp at h
  ·obtain ⟨k,h1,h2⟩:=EY n (t+1) ms x h;exact ⟨k,by simp;omega,h2⟩
def S5:∀ ts G q,DF ts G q->ts.length=2/\UL YC (qdi q) (qm ["masks","number"] ts) G:=by
 rintro ts G q ⟨ms,n,rfl,hl,hm,hn,h⟩;refine ⟨rfl,?_⟩;simp [UL,lc3,CJ,JQ,cap,qF,qN,gn3,zm,YZ,ZC,q5,WA,qZ,v3,c3,o3,u3,KW,L3.ixT,L3.ixR,jS,iI,iC,iB,QK,QX,T3,tb3,TX,or3,UX,j0,CA,Z5,if3,ch3,cb3,qc,qk,DX,tyT,VB,j8,jX,X6,np3,sp3,zH,qo,zG,jE,DU,DZ,qm,bm3,JO,D6,JZ,XZ,X2,TR,WF,zh,Y0,WM,TD,X7,L2.atI,ixN,DK,HT.sIx,getL,in3,JA,eqF,gu,y9,x4,x3];refine qd5 _ (λi ys τ G'=>G'=G/\ys=(jr n 0 (ms.take i)).map T.int/\∃ x0 x1,τ=[x0,x1,some (.int n)]) ⟨rfl,by simp [jr],none,none,rfl⟩ (λi ys τ G' _ hp=>by simp [JQ]) ?_ ?_
 ·rintro i z ys τ G' R hz ⟨rfl,rfl,x0,x1,rfl⟩ hR;obtain ⟨a,ha,rfl⟩:=WU hz;rw [getElem?_map] at ha;cases e:ms[i]? with
  |none=>rw [e] at ha;cases ha
  |some m=>
   rw [e] at ha;have:a=T.int m:=by simpa using ha.symm
   subst this;obtain ⟨hi,hm'⟩:=za4 e;have mm:m∈ms:=by rw [← hm'];exact za0 hi
   simp [qF,qN,gn3,zm,YZ,ZC,q5,WA,qZ,v3,c3,o3,u3,KW,L3.ixT,L3.ixR,jS,iI,iC,iB,QK,QX,T3,tb3,TX,or3,UX,j0,CA,Z5,if3,ch3,cb3,qc,qk,DX,tyT,VB,j8,jX,X6,np3,sp3,zH,qo,zG,jE,DU,DZ,qm,bm3,JO,D6,JZ,XZ,X2,TR,WF,zh,Y0,WM,TD,X7,L2.atI,ixN,DK,HT.sIx,getL,in3,JA,eqF,gu,y9,x4,x3];refine ⟨n,m,rfl,hn,(hm m mm).1,(hm m mm).2,?_⟩;have tk:ms.take (i+1)=ms.take i++[m]:=by rw [List.take_succ_eq_append_getElem hi,hm']
   have lt:(ms.take i).length=i:=by rw [List.length_take];omega
   have st:jr n 0 (ms.take (i+1))=jr n 0 (ms.take i)++(if qbX n m then [2 ^ i] else []):=by
    rw [tk,U8,lt];simp [jr]
   have cl:=VS n 0 (ms.take i);cases ho:qbX n m with
   |true=>
    simp;refine ⟨qoQ (by omega),by omega,hR _ _ _ ⟨rfl,?_,_,_,rfl⟩⟩;rw [st,ho];simp
   |false=>
    simp;refine hR _ _ _ ⟨rfl,?_,_,_,rfl⟩;rw [st,ho];simp
 ·rintro ys τ G' ⟨rfl,rfl,x0,x1,rfl⟩ p hp;rw [T7,length_map,List.take_length];simp [qoS,getL,qu,TB];refine ⟨⟨by have:=VS n 0 ms;omega,λx hx=>?_⟩,?_⟩
  ·obtain ⟨k,h1,rfl⟩:=EY n 0 ms x hx;have:=KB k;have:=qct (n:=k) (k:=30) (by omega);omega
  ·rw [EM];exact h _ (QI hp)
def qeu {h l:Nat} {i j:Int} (i1:0<=i) (j1:0<=j):0<=i*2 ^ l+j:=by
 have:=Int.mul_nonneg i1 (show (0:Int)<=2 ^ l by have:=KB l;omega);omega
def EK (n:Nat):∀ ts G q,jT (n+1) ts G q->ts.length=2/\XF (DM n) DF (V1 n) (qdi q) (qm ["dealing","word","kind"] ts) G:=by
 rintro ts G q ⟨d,i,j,rfl,hd,ok,I,h⟩;refine ⟨rfl,?_⟩;unfold XF;refine qeF λnx q1=>?_;have h:=h;have i1:=I.i1;have i2:=I.i2;have j1:=I.j1;have j2:=I.j2;have L:=Dl.lims ok;have r2:=L.r2;have c2:=L.c2;cases d with
 |skew r c b x y=>
  have k:=ok;obtain ⟨k1,k2,k3,k4,k5,k6,k7,k8,k9,k10⟩:=ok;show nx [some (Dl.skew r c b x y).t,some (wdT i j),some (.str "skew")] G;rw [q1,zw rfl,if_pos rfl];simp [Dl.t,wdT,qF,qN,gn3,zm,YZ,ZC,q5,WA,qZ,v3,c3,o3,u3,KW,L3.ixT,L3.ixR,jS,iI,iC,iB,QK,QX,T3,tb3,TX,or3,UX,j0,CA,Z5,if3,ch3,cb3,qc,qk,DX,tyT,VB,j8,jX,X6,np3,sp3,zH,qo,zG,jE,DU,DZ,qm,bm3,JO,D6,JZ,XZ,X2,TR,WF,zh,Y0,WM,TD,X7,L2.atI,ixN,DK,HT.sIx,getL,in3,JA,eqF,gu,y9,x4,x3];exact ⟨cm' (by omega) (by omega),cm' (by omega) (by omega),by omega,h _ Ex.refl⟩
 |rests r c b x=>
  have k:=ok;obtain ⟨k1,k2,k3,k4,k5,k6,k7,k8,k9⟩:=ok;show nx [some (Dl.rests r c b x).t,some (wdT i j),some (.str "rests")] G;rw [q1,zw rfl,if_neg (by decide),zw rfl,if_pos rfl];simp [Dl.t,wdT,qF,qN,gn3,zm,YZ,ZC,q5,WA,qZ,v3,c3,o3,u3,KW,L3.ixT,L3.ixR,jS,iI,iC,iB,QK,QX,T3,tb3,TX,or3,UX,j0,CA,Z5,if3,ch3,cb3,qc,qk,DX,tyT,VB,j8,jX,X6,np3,sp3,zH,qo,zG,jE,DU,DZ,qm,bm3,JO,D6,JZ,XZ,X2,TR,WF,zh,Y0,WM,TD,X7,L2.atI,ixN,DK,HT.sIx,getL,in3,JA,eqF,gu,y9,x4,x3];refine ⟨.rests r c b x,i,j,rfl,hd,k,?_⟩;simp;exact ⟨by omega,h _ Ex.refl⟩
 |bits hh l ms=>
  have k:=ok;obtain ⟨k1,k2,k3,k4⟩:=ok;show nx [some (Dl.bits hh l ms).t,some (wdT i j),some (.str "bits")] G;rw [q1,zw rfl,if_neg (by decide),zw rfl,if_neg (by decide),zw rfl,if_pos rfl];simp [Dl.t,wdT,qF,qN,gn3,zm,YZ,ZC,q5,WA,qZ,v3,c3,o3,u3,KW,L3.ixT,L3.ixR,jS,iI,iC,iB,QK,QX,T3,tb3,TX,or3,UX,j0,CA,Z5,if3,ch3,cb3,qc,qk,DX,tyT,VB,j8,jX,X6,np3,sp3,zH,qo,zG,jE,DU,DZ,qm,bm3,JO,D6,JZ,XZ,X2,TR,WF,zh,Y0,WM,TD,X7,L2.atI,ixN,DK,HT.sIx,getL,in3,JA,eqF,gu,y9,x4,x3];refine ⟨.bits hh l ms,i,j,rfl,hd,k,?_⟩;refine ⟨ms,_,rfl,by omega,λm hm=>⟨(k4 m hm).1,?_⟩,qeu (h:=hh) i1 j1,λG' E=>h G' E⟩;have:=(k4 m hm).2;have:=qct (n:=hh+l) (k:=10) (by omega);omega
 |table b cells=>
  obtain ⟨k1,k2,k3,k4,c,k5,k6,k7⟩:=ok;have e0:cells[0]?=some cells[0]:=v0 (by omega);have eC:(Dl.table b cells).C=c:=by simp [Dl.C,e0,(k7 cells[0] (za0 _)).1]
  have eR:(Dl.table b cells).R=cells.length:=rfl;rw [eR] at i2;rw [eC] at j2;have hi:i.toNat<cells.length:=by omega
  have hrow:=k7 cells[i.toNat] (za0 hi);have hj:j.toNat<cells[i.toNat].length:=by rw [hrow.1];omega
  show nx [some (Dl.table b cells).t,some (wdT i j),some (.str "table")] G;rw [q1,zw rfl,if_neg (by decide),zw rfl,if_neg (by decide),zw rfl,if_neg (by decide),zw rfl,if_pos rfl];simp [Dl.t,wdT,qF,qN,gn3,zm,YZ,ZC,q5,WA,qZ,v3,c3,o3,u3,KW,L3.ixT,L3.ixR,jS,iI,iC,iB,QK,QX,T3,tb3,TX,or3,UX,j0,CA,Z5,if3,ch3,cb3,qc,qk,DX,tyT,VB,j8,jX,X6,np3,sp3,zH,qo,zG,jE,DU,DZ,qm,bm3,JO,D6,JZ,XZ,X2,TR,WF,zh,Y0,WM,TD,X7,DK,HT.sIx,getL,in3,JA,eqF,gu,y9,x4,x3,VO (xs:=[T.str (Str.ofString "table"),.int b,.tup (cells.map qjk)]) (i:=2) (by omega) (by simp),VO (xs:=[T.str (Str.ofString "table"),.int b,.tup (cells.map qjk)]) (i:=0) (by omega) (by simp),VO (xs:=[T.int i,.int j]) (i:=0) (by omega) (by simp),VO (xs:=[T.int i,.int j]) (i:=1) (by omega) (by simp)];rw [VO i1 (by simpa using i2)];simp [hi,qjk,L3.ixT];rw [VO j1 (by simp;omega)];simp [hj];have:=h G Ex.refl;simpa [Dl.bank,hi,hj] using this
 |joined d e=>
  show nx [some (Dl.joined d e).t,some (wdT i j),some (.str "joined")] G;rw [q1,zw rfl,if_neg (by decide),zw rfl,if_neg (by decide),zw rfl,if_neg (by decide),zw rfl,if_neg (by decide)];simp [Dl.t,wdT,qF,qN,gn3,zm,YZ,ZC,q5,WA,qZ,v3,c3,o3,u3,KW,L3.ixT,L3.ixR,jS,iI,iC,iB,QK,QX,T3,tb3,TX,or3,UX,j0,CA,Z5,if3,ch3,cb3,qc,qk,DX,tyT,VB,j8,jX,X6,np3,sp3,zH,qo,zG,jE,DU,DZ,qm,bm3,JO,D6,JZ,XZ,X2,TR,WF,zh,Y0,WM,TD,X7,L2.atI,ixN,DK,HT.sIx,getL,in3,JA,eqF,gu,y9,x4,x3];exact ⟨d,e,i,j,rfl,hd,ok,I,h⟩
def qfD {i a b:Int} (h0:0<=i) (h1:i<a*b) (hb:1<=b):0<=i/b/\i/b<a/\0<=i%b/\i%b<b:=
 ⟨Int.ediv_nonneg h0 (by omega),Int.ediv_lt_of_lt_mul (by omega) h1,Int.emod_nonneg _ (by omega),Int.emod_lt_of_pos _ (by omega)⟩
def Inn.up {d e:Dl} {i j:Int} (I:Inn (.joined d e) i j) (Le:Lims e):Inn d (i/e.R) (j/e.C)/\Inn e (i%e.R) (j%e.C):=by
 obtain ⟨i1,i2,j1,j2⟩:=I;obtain ⟨a1,a2,a3,a4⟩:=qfD i1 i2 Le.r1;obtain ⟨b1,b2,b3,b4⟩:=qfD j1 j2 Le.c1;exact ⟨⟨a1,a2,b1,b2⟩,⟨a3,a4,b3,b4⟩⟩
def qc2:∀ ts G q,K6 ts G q->ts.length=3/\SG (qdi q) (qm ["word","rows","columns","i","j"] ts) G:=by
 rintro ts G q ⟨i,j,r,c,rfl,hr,hc,h⟩;refine ⟨rfl,?_⟩;simp [SG,wdT,qF,qN,gn3,zm,YZ,ZC,q5,WA,qZ,v3,c3,o3,u3,KW,L3.ixT,L3.ixR,jS,iI,iC,iB,QK,QX,T3,tb3,TX,or3,UX,j0,CA,Z5,if3,ch3,cb3,qc,qk,DX,tyT,VB,j8,jX,X6,np3,sp3,zH,qo,zG,jE,DU,DZ,qm,bm3,JO,D6,JZ,XZ,X2,TR,WF,zh,Y0,WM,TD,X7,L2.atI,ixN,DK,HT.sIx,getL,in3,JA,eqF,gu,y9,x4,x3];exact ⟨⟨by omega,by omega⟩,⟨by omega,by omega⟩,by omega,by omega,h⟩
def Z7 (n:Nat):∀ ts G q,V1 n ts G q->ts.length=3/\JY (za (n+1)) K6 (jT n) (qdi q) (qm ["one","other","word","rows","columns","banks","upper","lower"] ts) G:=by
 rintro ts G q ⟨d,e,i,j,rfl,hd,ok,I,h⟩;refine ⟨rfl,?_⟩;obtain ⟨kd,ke,kr,kc,kb⟩:=ok;have Le:=Dl.lims ke;obtain ⟨I1,I2⟩:=I.up Le;have:1<=n:=by simp [Dl.dep] at hd;omega
 obtain ⟨m,rfl⟩:∃ m,n=m+1:=⟨n-1,by omega⟩
 have r1:=Le.r1;have r2:=Le.r2;have c1:=Le.c1;have c2:=Le.c2;have b1:=Le.b1;have b2:=Le.b2;simp [JY,qF,qN,gn3,zm,YZ,ZC,q5,WA,qZ,v3,c3,o3,u3,KW,L3.ixT,L3.ixR,jS,iI,iC,iB,QK,QX,T3,tb3,TX,or3,UX,j0,CA,Z5,if3,ch3,cb3,qc,qk,DX,tyT,VB,j8,jX,X6,np3,sp3,zH,qo,zG,jE,DU,DZ,qm,bm3,JO,D6,JZ,XZ,X2,TR,WF,zh,Y0,WM,TD,X7,L2.atI,ixN,DK,HT.sIx,getL,in3,JA,eqF,gu,y9,x4,x3];refine ⟨e,rfl,by simp [Dl.dep] at hd;omega,ke,?_⟩;simp [LV];refine ⟨i,j,_,_,rfl,⟨by omega,by omega⟩,⟨by omega,by omega⟩,?_⟩;simp;refine ⟨d,_,_,rfl,by simp [Dl.dep] at hd;omega,kd,I1,λG1 E1=>?_⟩;simp;refine ⟨cm (by omega) (by omega),e,_,_,rfl,by simp [Dl.dep] at hd;omega,ke,I2,λG2 E2=>?_⟩;simp;exact h _ (E1.trans E2)
def Lf (G:Gp) (a:Addr) (n:Int):Prop:=∃ o c m,G a=some (.lst [.int o,.int c,.int m])/\0<=o/\0<=m/\m<=n
def Ext (a:Addr) (G G':Gp):Prop:=∀ b o,b≠a->G b=some o->G' b=some o
def Lf.new {G:Gp} {a p:Addr} {n:Int} {ob:O} (h:Lf G a n) (hp:p≠a):Lf (gu G p ob) a n:=by
 obtain ⟨o,c,m,e,r⟩:=h;exact ⟨o,c,m,by rw [zu (Ne.symm hp)];exact e,r⟩
def Lf.mono {G:Gp} {a:Addr} {n k:Int} (h:Lf G a n) (hk:n<=k):Lf G a k:=by
 obtain ⟨o,c,m,e,h1,h2,h3⟩:=h;exact ⟨o,c,m,e,h1,h2,by omega⟩
def Lf.ex {G G':Gp} {a:Addr} {n:Int} (h:Lf G a n) (e:Ex G G'):Lf G' a n:=by
 obtain ⟨o,c,m,e1,h1⟩:=h;exact ⟨o,c,m,e _ _ e1,h1⟩
def Ext.trans {a:Addr} {G G1 G2:Gp} (x:Ext a G G1) (y:Ext a G1 G2):Ext a G G2:=λb o hb e=>y b o hb (x b o hb e)
def XM {a:Addr} {G G':Gp} (h:Ex G G'):Ext a G G':=λb o _ e=>h b o e
def C4:Sp3:=λts G q=>∃ c k,ts=[.int c,.int k]/\0<=k/\k<4294967296/\∀ m,0<=m->m<1999999973->q (.int m) G
def YA:Sp3:=λts G q=>∃ (a:Addr) (k:Int) (ns:List Int),ts=[.ref a,.int k]/\G a=some (.frz (ns.map T.int))/\ns.length<=63/\0<=k/\k<=63/\∀ p o c,G p=none->0<=o->q (.ref p) (gu G p (.lst [.int o,.int c,.int 0]))
def zX:Sp3:=λts G q=>∃ a n many,ts=[.ref a,.int many]/\1<=many/\many<1073741824/\Lf G a n/\n<1073741824/\∀ d G',0<=d->d<many->Lf G' a (n+1)->Ext a G G'->q (.int d) G'
def qac:∀ ts G q,C4 ts G q->ts.length=2/\W4 (qdi q) (qm ["_law_cell","_law_k","_law_m"] ts) G:=by
 rintro ts G q ⟨c,k,rfl,h1,h2,h⟩;refine ⟨rfl,?_⟩;simp only [W4,qF,qN,o3,v3,qm,map_cons,List.map_nil,length_cons,length_nil,Nat.zero_add,Nat.reduceAdd,Nat.reduceSub,List.replicate_one,cons_append,List.nil_append,v4,getElem?_pos,x5,c3,iC,Int.reduceLT,Nat.reduceLT,x6,jS,gn3,zm,set_cons_succ,set_cons_zero,u8,true_and];exact ⟨.inl ⟨by omega,by omega⟩,cm (by omega) (by omega),cm (by omega) (by omega),.inl ⟨by omega,by omega⟩,h _ (Int.emod_nonneg _ (by omega)) (Int.emod_lt_of_pos _ (by omega))⟩
def cp:qau 10 18:=⟨by decide,by decide,by decide⟩
def MC:∀ ts G q,YA ts G q->ts.length=2/\EB (qdi q) (qm ["_law_script","_law_k","_law_cell","_law_own"] ts) G:=by
 rintro ts G q ⟨a,k,ns,rfl,hG,hl,h1,h2,h⟩;refine ⟨rfl,?_⟩;simp only [EB,qF,qN,if3,tb3,o3,v3,qm,map_cons,List.map_nil,length_cons,length_nil,Nat.zero_add,Nat.reduceAdd,Nat.reduceSub,List.reduceReplicate,cons_append,List.nil_append,Nat.reduceLT,getElem?_pos,x6,x5,cb3,qc,v4,qk,JZ,getL,hG,iB,length_map,decide_eq_true_eq,gn3,set_cons_succ,set_cons_zero,XZ,c3,iC,Int.reduceToNat,Int.reducePow,zm,jX,u8,jS,ne_eq,y9,Nat.reduceLeDiff,true_and,gu,ixR,atI,ixN,getElem?_map,Int.lt_irrefl,↓reduceIte,Int.reduceLE,decide_false,Bool.false_eq_true,Int.zero_add];have ck:US 1000003 k:=cm (by omega) (by omega);by_cases hk:k<ns.length
 ·have hk':k.toNat<ns.length:=by omega
  simp [hk,h1,hk',cp,ck];split
  ·split
   ·exact λp hp=>h p (-ns[k.toNat]) _ hp (by omega)
   ·exact λp hp=>h p 0 _ hp (by omega)
  ·split
   ·exact λp hp=>h p ns[k.toNat] _ hp (by omega)
   ·exact λp hp=>h p 0 _ hp (by omega)
 ·simp [hk,cp,ck];exact λp hp=>h p 0 _ hp (by omega)
def LQ:∀ ts G q,zX ts G q->ts.length=2/\EH C4 (qdi q) (qm ["_law_left_here","_law_many","_law_digit"] ts) G:=by
 rintro ts G q ⟨a,n,many,rfl,m1,m2,⟨o,c,m,hG,ho,hm,hn⟩,h3,h⟩;refine ⟨rfl,?_⟩;unfold EH;refine qeF λnx1 q1=>?_;simp only [qN,o3,v3,qm,map_cons,List.map_nil,length_cons,length_nil,Nat.zero_add,Nat.reduceAdd,Nat.reduceSub,List.replicate_one,cons_append,List.nil_append,v4,getElem?_pos,x5,c3,jS,ne_eq,y9,jE,DU,ixN,Int.zero_le_ofNat,↓reduceIte,Int.reduceToNat,tb3,iB,decide_eq_true_eq,Nat.reduceLT,x6,iC,gn3,set_cons_succ,set_cons_zero,Std.le_refl,Int.natCast_pos,Int.toNat_zero,zm,u8,ixR,getL,atI,qZ,cb3,qc,qk,Int.toNat_one,List.length_set,hG,Int.cast_ofNat_Int,Int.reduceLT,Option.bind_some,qu];rw [q1];clear q1;refine qeF λnx2 q2=>?_;simp only [ZC,qN,o3,v3,qm,map_cons,List.map_nil,length_cons,length_nil,Nat.zero_add,Nat.reduceAdd,Nat.reduceSub,List.replicate_one,cons_append,List.nil_append,v4,getElem?_pos,x5,c3,jS,ne_eq,y9,jE,DU,ixN,Int.zero_le_ofNat,↓reduceIte,Int.reduceToNat,tb3,iB,decide_eq_true_eq,Nat.reduceLT,x6,iC,gn3,set_cons_succ,set_cons_zero,Std.le_refl,Int.natCast_pos,Int.toNat_zero,zm,u8,ixR,getL,atI,qZ,cb3,qc,qk,Int.toNat_one,List.length_set,hG,Int.cast_ofNat_Int,Int.reduceLT,Option.bind_some,qu];split
 ·simp only [qF,qN,o3,v3,length_cons,length_nil,Nat.zero_add,Nat.reduceAdd,v4,getElem?_pos,x5,c3,Nat.reduceLT,x6,iC,gn3,set_cons_succ,set_cons_zero,jE,DU,ixN,Std.le_refl,↓reduceIte,Int.natCast_pos,Int.toNat_zero,zm,u8,ixR,getL,atI,qu,Int.cast_ofNat_Int,Int.reduceLT,Option.bind_some];refine ⟨by omega,⟨by omega,m2⟩,h _ _ (Int.emod_nonneg _ (by omega)) (Int.emod_lt_of_pos _ (by omega)) ⟨o/many,c,m+1,qu,Int.ediv_nonneg ho (by omega),by omega,by omega⟩ λb ob hb e=>?_⟩;rw [zu hb,zu hb];exact e
 ·rw [q2];clear q2;simp only [qN,o3,v3,qm,map_cons,List.map_nil,length_cons,length_nil,Nat.zero_add,Nat.reduceAdd,Nat.reduceSub,List.replicate_one,cons_append,List.nil_append,v4,getElem?_pos,x5,c3,jS,ne_eq,y9,jE,DU,ixN,Int.zero_le_ofNat,↓reduceIte,Int.reduceToNat,tb3,iB,decide_eq_true_eq,Nat.reduceLT,x6,iC,gn3,set_cons_succ,set_cons_zero,Std.le_refl,Int.natCast_pos,Int.toNat_zero,zm,u8,ixR,getL,atI,qZ,cb3,qc,qk,Int.toNat_one,List.length_set,hG,Int.cast_ofNat_Int,Int.reduceLT,Option.bind_some,qu];refine ⟨c,m+1,rfl,by omega,by omega,λu u1 u2=>?_⟩;simp only [qN,o3,v3,qm,map_cons,List.map_nil,length_cons,length_nil,Nat.zero_add,Nat.reduceAdd,Nat.reduceSub,List.replicate_one,cons_append,List.nil_append,v4,getElem?_pos,x5,c3,jS,ne_eq,y9,jE,DU,ixN,Int.zero_le_ofNat,↓reduceIte,Int.reduceToNat,tb3,iB,decide_eq_true_eq,Nat.reduceLT,x6,iC,gn3,set_cons_succ,set_cons_zero,Std.le_refl,Int.natCast_pos,Int.toNat_zero,zm,u8,ixR,getL,atI,qZ,cb3,qc,qk,Int.toNat_one,List.length_set,hG,Int.cast_ofNat_Int,Int.reduceLT,Option.bind_some,qu];refine ⟨u,m+1+64,rfl,by omega,by omega,λv v1 v2=>?_⟩;refine ⟨⟨by omega,by omega⟩,by omega,h _ _ (Int.emod_nonneg _ (by omega)) (Int.emod_lt_of_pos _ (by omega)) ⟨o,c,m+1,qu,ho,by omega,by omega⟩ λb ob hb e=>?_⟩;rw [zu hb];exact e
structure SD (k n:Nat) (d:PyData):Prop where
 sh:d.showable=true
 nd:d.hasDict=false
 dp:d.depth<=k
 lv:d.leavesShort 13=true
 bk:d.bulk<=n
def SD.ok {k n:Nat} {d:PyData} (h:SD k n d) (hk:k<=40) (hn:n<=2 ^ 20):ShOk d:=⟨h.sh,h.nd,u0 h.dp hk,h.lv,u0 h.bk hn⟩
theorem SD.w {k n:Nat} {d:PyData} (h:SD k n d) (hk:k<=40) (hn:n<=2 ^ 20):ShW d:=(h.ok hk hn).w
def SD.mono {k n k' n':Nat} {d:PyData} (h:SD k n d) (hk:k<=k') (hn:n<=n'):SD k' n' d:=⟨h.sh,h.nd,u0 h.dp hk,h.lv,u0 h.bk hn⟩
def qbA (k n:Nat):SD k n .none:=⟨rfl,rfl,Nat.zero_le _,rfl,Nat.zero_le _⟩
def qcJ (k n:Nat) {i:Int} (h:-1000000<=i/\i<=1000000):SD k n (.int i):=by
 refine ⟨?_,rfl,Nat.zero_le _,?_,Nat.zero_le _⟩
 ·simp only [PyData.showable];have:i.natAbs<2 ^ 20:=by omega
  have h2:i.natAbs.log2<20\/i.natAbs=0:=by
   rcases Nat.eq_zero_or_pos i.natAbs with z|z
   ·exact .inr z
   ·exact .inl ((Nat.log2_lt (by omega)).mpr this)
  rcases h2 with h2|h2
  ·simp;omega
  ·simp [h2]
 ·have:=PyProof.Rows.intsShortAll_ints2 [i] (by intro n hn;simp at hn;subst hn;omega);simpa [PyData.intsShortAll,PyData.intsShort,PyData.leavesShort] using this
structure SDs (k n:Nat) (ds:List PyData):Prop where
 sh:PyData.showableAll ds=true
 nd:PyData.hasDictAll ds=false
 dp:PyData.depthAll ds<=k
 lv:PyData.leavesShortAll 13 ds=true
 bk:PyData.bulkAll ds<=n
def qbB (k n:Nat):SDs k n []:=⟨rfl,rfl,Nat.zero_le _,rfl,Nat.zero_le _⟩
def MR {k n m s:Nat} {d:PyData} {ds:List PyData} (h:SD k n d) (t:SDs k m ds) (hs:n+1+m<=s):SDs k s (d::ds):=by
 refine ⟨?_,?_,?_,?_,?_⟩
 ·simp [PyData.showableAll,h.sh,t.sh]
 ·simp [PyData.hasDictAll,h.nd,t.nd]
 ·simp only [PyData.depthAll];exact Nat.max_le.mpr ⟨h.dp,t.dp⟩
 ·simp [PyData.leavesShortAll,h.lv,t.lv]
 ·simp only [PyData.bulkAll];have:=h.bk;have:=t.bk;omega
def RD {k n:Nat} {ds:List PyData} (t:SDs k n ds):SD (k+1) n (.list ds):=by
 refine ⟨?_,?_,?_,?_,?_⟩
 ·simpa [PyData.showable] using t.sh
 ·simpa [PyData.hasDict] using t.nd
 ·simp only [PyData.depth];have:=t.dp;omega
 ·simpa [PyData.leavesShort] using t.lv
 ·simp only [PyData.bulk];exact t.bk
theorem XE {k n:Nat}:∀ {ds:List PyData},(∀ d∈ds,SD k n d)->SDs k (ds.length*(n+1)) ds
 |[],_=>qbB _ _
 |d::ds,h=>MR (h d (by simp)) (XE λx hx=>h x (by simp [hx])) (by rw [length_cons,Nat.succ_mul];omega)
theorem _root_.L3.Dps.append {G:Gp}:∀ {xs ys:List T} {ds es:List PyData},Dps G xs ds->Dps G ys es->Dps G (xs++ys) (ds++es)
 |_,_,_,_,.nil,b=>b
 |_,_,_,_,.cons a t,b=>.cons a (L3.Dps.append t b)
theorem _root_.L3.Dps.take {G:Gp}:∀ {xs:List T} {ds:List PyData} (i:Nat),Dps G xs ds->Dps G (xs.take i) (ds.take i)
 |_,_,0,_=>.nil
 |_,_,_+1,.nil=>.nil
 |_,_,i+1,.cons a t=>.cons a (L3.Dps.take i t)
theorem _root_.L3.Dps.drop {G:Gp}:∀ {xs:List T} {ds:List PyData} (i:Nat),Dps G xs ds->Dps G (xs.drop i) (ds.drop i)
 |_,_,0,h=>h
 |_,_,_+1,.nil=>.nil
 |_,_,i+1,.cons a t=>L3.Dps.drop i t
def pT (p:Int×Int):T:=.tup [.int p.1,.int p.2]
def al (cs:List (Int×Int)):List Int:=cs.map (·.2)
def Un2 (ns:List Int) (i:Nat):Prop:=∀ a b,a<i->a<b->b<ns.length->ns[a]?≠ns[b]?
theorem qcI (val:Nat->Int):∀ i,(PyProof.Rows.firstMet val i).length=i↔∀ a b,a<b->b<i->val a≠val b
 |0=>by simp [PyProof.Rows.firstMet_zero]
 |i+1=>by
  have ih:=qcI val i;have le:=PyProof.Rows.firstMet_length_le val i;have an:=PyProof.Rows.firstMet_any val i (val i);rw [PyProof.Rows.firstMet_succ];unfold PyProof.Rows.step_dedup;by_cases hq:((PyProof.Rows.firstMet val i).any (·==val i))=true
  ·rw [if_pos hq];constructor
   ·intro e;omega
   ·intro hh;rw [an] at hq;simp at hq;obtain ⟨a,ha,e⟩:=hq;exact absurd e (hh a i ha (by omega))
  ·rw [if_neg hq,length_append,List.length_singleton];have hq':∀ a,a<i->val a≠val i:=by
    intro a ha e;apply hq;rw [an];simp;exact ⟨a,ha,e⟩
   constructor
   ·intro e a b hab hb;by_cases eb:b=i
    ·subst eb;exact hq' a hab
    ·exact (ih.mp (by omega)) a b hab (by omega)
   ·intro hh;rw [ih.mpr λa b hab hb=>hh a b hab (by omega)]
def CY {ns:List Int}:DO ns=ns.length↔Un2 ns ns.length:=by
 unfold DO;rw [qcI];constructor
 ·intro h a b ha hab hb e;refine h a b hab hb ?_;rw [getD_eq_getElem?_getD,getD_eq_getElem?_getD,e]
 ·intro h a b hab hb e;have ha:a<ns.length:=by omega
  apply h a b ha hab hb;rw [getD_eq_getElem?_getD,getD_eq_getElem?_getD] at e;simp [ha,hb] at e;simp [ha,hb,e]
end Bk
namespace Pu
open PySem L2 L3
def cif {α:Type} (P:Prop) (a b:α):α:=@ite α P (Classical.propDecidable P) a b
def zB {α:Type} {P:Prop} {a b:α} (h:P):cif P a b=a:=@if_pos P (Classical.propDecidable P) h α a b
def qbT {α:Type} {P:Prop} {a b:α} (h:¬ P):cif P a b=b:=@if_neg P (Classical.propDecidable P) h α a b
structure Tru (b:Bool):Prop where
 h:b=true
mutual
inductive Dq (G:Gp):T->PyData->Prop
 |non:Dq G .non .none
 |bl (b:Bool):Dq G (.bl b) (.bool b)
 |int (i:Int):Dq G (.int i) (.int i)
 |str (x:Str):Dq G (.str x) (.str x)
 |tup {xs:List T} {ds:List PyData}:Dqs G xs ds->Dq G (.tup xs) (.tuple ds)
 |lst {p:Addr} {xs:List T} {ds:List PyData}:G p=some (.lst xs)->Dqs G xs ds->Dq G (.ref p) (.list ds)
inductive Dqs (G:Gp):List T->List PyData->Prop
 |nil:Dqs G [] []
 |cons {x:T} {d:PyData} {xs:List T} {ds:List PyData}:Dq G x d->Dqs G xs ds->Dqs G (x::xs) (d::ds)
end
mutual
theorem Dq.up {G G':Gp} (e:Ex G G'):∀ {x:T} {d:PyData},Dq G x d->Dq G' x d
 |_,_,.non=>.non
 |_,_,.bl b=>.bl b
 |_,_,.int i=>.int i
 |_,_,.str x=>.str x
 |_,_,.tup h=>.tup (Dqs.up e h)
 |_,_,.lst h1 h2=>.lst (e _ _ h1) (Dqs.up e h2)
theorem Dqs.up {G G':Gp} (e:Ex G G'):∀ {x:List T} {d:List PyData},Dqs G x d->Dqs G' x d
 |_,_,.nil=>.nil
 |_,_,.cons a b=>.cons (Dq.up e a) (Dqs.up e b)
end
def qO {G:Gp} {p:Addr} {xs:List T} (h:G p=some (.lst xs)):getL G p=some xs:=by unfold getL;rw [h]
mutual
theorem Dq.dp {G:Gp}:∀ {x:T} {d:PyData},Dq G x d->Dp G x d
 |_,_,.non=>.non
 |_,_,.bl b=>.bl b
 |_,_,.int i=>.int i
 |_,_,.str x=>.str x
 |_,_,.tup h=>.tup (Dqs.dp h)
 |_,_,.lst h1 h2=>.lst (qO h1) (Dqs.dp h2)
theorem Dqs.dp {G:Gp}:∀ {x:List T} {d:List PyData},Dqs G x d->Dps G x d
 |_,_,.nil=>.nil
 |_,_,.cons a b=>.cons (Dq.dp a) (Dqs.dp b)
end
theorem Dqs.length {G:Gp}:∀ {xs:List T} {ds:List PyData},Dqs G xs ds->xs.length=ds.length
 |_,_,.nil=>rfl
 |_,_,.cons _ b=>by simp [Dqs.length b]
theorem Dqs.get {G:Gp}:∀ {xs:List T} {ds:List PyData} {i:Nat} {d:PyData},Dqs G xs ds->ds[i]?=some d->∃ x,xs[i]?=some x/\Dq G x d
 |_,_,_,_,.nil,e=>by simp at e
 |_,_,0,_,.cons r _,e=>by simp at e;subst e;exact ⟨_,rfl,r⟩
 |_,_,i+1,d,.cons _ t,e=>by
  obtain ⟨u,h1,h2⟩:=Dqs.get (i:=i) (d:=d) t (by simpa using e);exact ⟨u,by simpa using h1,h2⟩
theorem Dqs.append {G:Gp}:∀ {xs:List T} {ds:List PyData} {ys:List T} {es:List PyData},Dqs G xs ds->Dqs G ys es->Dqs G (xs++ys) (ds++es)
 |_,_,_,_,.nil,h=>h
 |_,_,_,_,.cons a b,h=>.cons a (Dqs.append b h)
theorem Dqs.drop {G:Gp}:∀ {xs:List T} {ds:List PyData} (n:Nat),Dqs G xs ds->Dqs G (xs.drop n) (ds.drop n)
 |_,_,0,h=>h
 |_,_,_+1,.nil=>.nil
 |_,_,n+1,.cons _ b=>Dqs.drop n b
theorem Dqs.take {G:Gp}:∀ {xs:List T} {ds:List PyData} (n:Nat),Dqs G xs ds->Dqs G (xs.take n) (ds.take n)
 |_,_,0,h=>by simp;exact .nil
 |_,_,_+1,.nil=>.nil
 |_,_,n+1,.cons a b=>.cons a (Dqs.take n b)
theorem Dqs.set {G:Gp}:∀ {xs:List T} {ds:List PyData} (n:Nat) {x:T} {d:PyData},Dqs G xs ds->Dq G x d->Dqs G (xs.set n x) (ds.set n d)
 |_,_,_,_,_,.nil,_=>.nil
 |_,_,0,_,_,.cons _ b,h=>.cons h b
 |_,_,n+1,_,_,.cons a b,h=>.cons a (Dqs.set n b h)
theorem Dqs.ints {G:Gp}:∀ {ns:List Int} {xs:List T},Dqs G xs (ns.map PyData.int)->xs=ns.map T.int
 |[],_,.nil=>rfl
 |n::ns,_,.cons a b=>by cases a;rw [Dqs.ints b];rfl
theorem Dqs.ofInts {G:Gp}:∀ (ns:List Int),Dqs G (ns.map T.int) (ns.map PyData.int)
 |[]=>.nil
 |n::r=>.cons (.int n) (Dqs.ofInts r)
def rs (D:Addr->Prop) (G:Gp):Gp:=λb=>cif (D b) none (G b)
def qE {D:Addr->Prop} {G:Gp} {b:Addr} {o:O} (h:rs D G b=some o):¬ D b/\G b=some o:=by
 unfold rs cif at h;split at h
 ·cases h
 ·rename_i n;exact ⟨n,h⟩
def jO {D:Addr->Prop} {G:Gp} {b:Addr} (n:¬ D b):rs D G b=G b:=by unfold rs;exact qbT n
def VI {D:Addr->Prop} {G:Gp}:Ex (rs D G) G:=λb o h=>(qE h).2
def jR {D:Addr->Prop} {G G':Gp} (e:Ex G G'):Ex (rs D G) (rs D G'):=λb o h=>by
 obtain ⟨n,h⟩:=qE h;rw [jO n];exact e _ _ h
def zL {D D':Addr->Prop} {G:Gp} (h:∀ b,D' b->D b):Ex (rs D G) (rs D' G):=λb o e=>by
 obtain ⟨n,e⟩:=qE e;rw [jO λz=>n (h b z)];exact e
def Dom (D:Addr->Prop) (G:Gp):Prop:=∀ b,D b->G b≠none
def Dom.up {D:Addr->Prop} {G G':Gp} (h:Dom D G) (e:Ex G G'):Dom D G':=λb d z=>by
 cases g:G b with
 |none=>exact h b d g
 |some o=>rw [e _ _ g] at z;cases z
def qlk {D:Addr->Prop} {G:Gp} {p:Addr} {o:O} (hd:Dom D G) (hp:G p=none):rs D (gu G p o) p=some o:=by
 rw [jO λz=>hd p z hp,qu]
inductive Sl where
 |un|sh (d:PyData)|ow (ds:List PyData)|dc (kvs:List (Int×PyData))|on (dss:List (List PyData))|rg (d:PyData)
abbrev Rho:=List Sl
def Sl.d:Sl->Option PyData
 |.un=>none|.sh d=>some d|.ow ds=>some (.list ds)|.dc _=>none|.on dss=>some (.list (dss.map PyData.list))|.rg d=>some d
def vw (ρ:Rho) (i:Nat):Option PyData:=(ρ[i]?).bind Sl.d
def C5 (fv:List Nat) (D:Addr->Prop) (G:Gp) (τ:St3) (ρ:Rho):Prop:=∀ i∈fv,∀ d,vw ρ i=some d->∃ t,τ[i]?=some (some t)/\Dq (rs D G) t d
theorem C5.up {fv:List Nat} {D:Addr->Prop} {G G':Gp} {τ:St3} {ρ:Rho} (h:C5 fv D G τ ρ) (e:Ex G G'):C5 fv D G' τ ρ:=λi hi d hd=>
 let ⟨t,a,b⟩:=h i hi d hd;⟨t,a,b.up (jR e)⟩
def C5.l {fv gv:List Nat} {D:Addr->Prop} {G:Gp} {τ:St3} {ρ:Rho} (h:C5 (fv++gv) D G τ ρ):C5 fv D G τ ρ:=λi hi=>h i (by simp [hi])
def C5.r {fv gv:List Nat} {D:Addr->Prop} {G:Gp} {τ:St3} {ρ:Rho} (h:C5 (fv++gv) D G τ ρ):C5 gv D G τ ρ:=λi hi=>h i (by simp [hi])
def K1:PyData->Bool
 |.none=>true|.bool _=>true|.int _=>true|.str _=>true|_=>false
def Nw (D:Addr->Prop) (G G':Gp) (x:T) (d:PyData):Prop:=K1 d=true\/∃ p xs ds,x=.ref p/\d=.list ds/\G p=none/\G' p=some (.lst xs)/\Dqs (rs (λb=>D b\/b=p) G') xs ds
def Nw.back {D:Addr->Prop} {G0 G G':Gp} {x:T} {d:PyData} (h:Nw D G G' x d) (e:Ex G0 G):Nw D G0 G' x d:=by
 rcases h with h|⟨p,xs,ds,a,b,c,r⟩
 ·exact .inl h
 refine .inr ⟨p,xs,ds,a,b,?_,r⟩;cases z:G0 p with
 |none=>rfl
 |some o=>rw [e _ _ z] at c;cases c
structure PuE (t:TE3) where
 f:Rho->Option PyData
 fv:List Nat
 nw:Bool
 ok:∀ {D τ ρ G} {q:Q3} {d},C5 fv D G τ ρ->Dom D G->f ρ=some d->(∀ x G',Ex G G'->Dq (rs D G') x d->(nw=true->Nw D G G' x d)->q x G')->t τ G q
structure PuC (t:TT3) where
 f:Rho->Option Bool
 fv:List Nat
 ok:∀ {D τ ρ G} {q:Bool->Gp->Prop} {k},C5 fv D G τ ρ->Dom D G->f ρ=some k->(∀ G',Ex G G'->q k G')->t τ G q
structure PuA (t:TA3) where
 f:Rho->Option (List PyData)
 fv:List Nat
 n:Nat
 ln:∀ {ρ d},f ρ=some d->d.length=n
 ok:∀ {D τ ρ G} {q:List T->Gp->Prop} {d},C5 fv D G τ ρ->Dom D G->f ρ=some d->(∀ x G',Ex G G'->Dqs (rs D G') x d->q x G')->t τ G q
structure PuO (t:TO3) where
 f:Rho->Option (Option Int)
 fv:List Nat
 ok:∀ {D τ ρ G} {q:Option Int->Gp->Prop} {k},C5 fv D G τ ρ->Dom D G->f ρ=some k->(∀ G',Ex G G'->q k G')->t τ G q
structure PuI (t:TI3) where
 f:Rho->Option (List PyData)
 fv:List Nat
 /-- numbers alone -/
 nm:Bool
 ok:∀ {D τ ρ G} {r:List T->(Gp->Prop)->Gp->Prop} {ds},C5 fv D G τ ρ->Dom D G->f ρ=some ds ->
  (∀ items stay G',Ex G G'->Dqs (rs D G') items ds->(∀ G'',(nm=true\/Ex (rs D G') G'')->stay G'')->(nm=true->∃ ns:List Int,ds=ns.map PyData.int)->r items stay G')->t τ G r
structure OpD (r:R3) where
 f:PyData->PyData->Option PyData
 nw:Bool
 ok:∀ {D G x y d e v} {q:Q3},Dq (rs D G) x d->Dq (rs D G) y e->Dom D G->f d e=some v->(∀ z G',Ex G G'->Dq (rs D G') z v->(nw=true->Nw D G G' z v)->q z G')->r x y G q
structure FnD (r:List T->Gp->Q3->Prop) where
 f:List PyData->Option PyData
 nw:Bool
 ok:∀ {D G xs ds v} {q:Q3},Dqs (rs D G) xs ds->Dom D G->f ds=some v->(∀ z G',Ex G G'->Dq (rs D G') z v->(nw=true->Nw D G G' z v)->q z G')->r xs G q
def bV (i:Nat):PuE (v3 i):=⟨λρ=>vw ρ i,[i],false,λhv hd hf k=>by
 obtain ⟨t,e,h⟩:=hv i (by simp) _ hf;unfold v3;rw [e];exact k t _ Ex.refl h (λz=>by cases z)⟩
def QR (i:Int):PuE (c3 (.int i)):=⟨λ_=>some (.int i),[],false,λhv hd hf k=>by cases hf;exact k _ _ Ex.refl (.int i) (λz=>by cases z)⟩
def bBl (i:Bool):PuE (c3 (.bl i)):=⟨λ_=>some (.bool i),[],false,λhv hd hf k=>by cases hf;exact k _ _ Ex.refl (.bl i) (λz=>by cases z)⟩
def qaA (i:Str):PuE (c3 (.str i)):=⟨λ_=>some (.str i),[],false,λhv hd hf k=>by cases hf;exact k _ _ Ex.refl (.str i) (λz=>by cases z)⟩
def bO {r:R3} {ta tb:TE3} (R:OpD r) (a:PuE ta) (b:PuE tb):PuE (o3 r ta tb):=
 ⟨λρ=>(a.f ρ).bind λx=>(b.f ρ).bind λy=>R.f x y,a.fv++b.fv,R.nw,λhv hd hf k=>by
  obtain ⟨x,e1,hf⟩:=obb hf;obtain ⟨y,e2,hf⟩:=obb hf;exact a.ok hv.l hd e1 λx' G1 E1 D1 _=>b.ok (hv.r.up E1) (hd.up E1) e2 λy' G2 E2 D2 _=>R.ok (D1.up (jR E2)) D2 ((hd.up E1).up E2) hf λz G3 E3 D3 N3=>k z G3 ((E1.trans E2).trans E3) D3 λh=>(N3 h).back (E1.trans E2)⟩
def qC:PuA qk:=⟨λ_=>some [],[],0,(λh=>by cases h;rfl),λhv hd hf k=>by cases hf;exact k _ _ Ex.refl .nil⟩
def qg {ta:TE3} {tr:TA3} (a:PuE ta) (r:PuA tr):PuA (qc ta tr):=
 ⟨λρ=>(a.f ρ).bind λx=>(r.f ρ).bind λxs=>some (x::xs),a.fv++r.fv,r.n+1,(λhf=>by
  obtain ⟨x,e1,hf⟩:=obb hf;obtain ⟨xs,e2,hf⟩:=obb hf;cases hf;simp [r.ln e2]),λhv hd hf k=>by
  obtain ⟨x,e1,hf⟩:=obb hf;obtain ⟨xs,e2,hf⟩:=obb hf;cases hf;exact a.ok hv.l hd e1 λx' G1 E1 D1 _=>r.ok (hv.r.up E1) (hd.up E1) e2 λy' G2 E2 D2=>k _ G2 (E1.trans E2) (.cons (D1.up (jR E2)) D2)⟩
def few {n:Nat} (h:Tru (Nat.ble n 1000)):n<=sizeLine:=u0 (Nat.le_of_ble_eq_true h.h) (by rw [y9];omega)
def DE {t:TA3} (a:PuA t) (hn:Tru (Nat.ble a.n 1000)):PuE (j8 t):=⟨λρ=>(a.f ρ).map .tuple,a.fv,false,λhv hd hf k=>by
 obtain ⟨xs,e1,rfl⟩:=za3 hf;exact a.ok hv hd e1 λx G1 E1 D1=>⟨by rw [D1.length,a.ln e1];exact few hn,k _ _ E1 (.tup D1) (λz=>by cases z)⟩⟩
def TC {D:Addr->Prop} {G:Gp} {p:Addr} {xs:List T} {ds:List PyData} (hp:G p=none) (h:Dqs (rs D G) xs ds):Nw D G (gu G p (.lst xs)) (.ref p) (.list ds):=
 .inr ⟨p,xs,ds,rfl,rfl,hp,qu,h.up λb o e=>by
  obtain ⟨n,e⟩:=qE e;have:b≠p:=by rintro rfl;rw [hp] at e;cases e
  rw [jO (by rintro (z|z);exact n z;exact this z),zu this];exact e⟩
def XB {D:Addr->Prop} {G:Gp} {p:Addr} {xs:List T} {ds:List PyData} (hd:Dom D G) (hp:G p=none) (h:Dqs (rs D G) xs ds):Dq (rs D (gu G p (.lst xs))) (.ref p) (.list ds):=
 .lst (qlk hd hp) (h.up (jR (QI hp)))
def X0 {t:TA3} (a:PuA t) (hn:Tru (Nat.ble a.n 1000)):PuE (jX t):=⟨λρ=>(a.f ρ).map .list,a.fv,true,λhv hd hf k=>by
 obtain ⟨xs,e1,rfl⟩:=za3 hf;exact a.ok hv hd e1 λx G1 E1 D1=>⟨by rw [D1.length,a.ln e1];exact few hn,λp hp=>k _ _ (E1.trans (QI hp)) (XB (hd.up E1) hp D1) λ_=>(TC hp D1).back E1⟩⟩
def qK {r:List T->Gp->Q3->Prop} {t:TA3} (R:FnD r) (a:PuA t):PuE (cb3 r t):=
 ⟨λρ=>(a.f ρ).bind R.f,a.fv,R.nw,λhv hd hf k=>by
  obtain ⟨x,e1,hf⟩:=obb hf;exact a.ok hv hd e1 λx' G1 E1 D1=>R.ok D1 (hd.up E1) hf λz G3 E3 D3 N3=>k z G3 (E1.trans E3) D3 λh=>(N3 h).back E1⟩
def asB:PyData->Option Bool
 |.bool b=>some b
 |_=>none
def asI:PyData->Option Int
 |.int b=>some b
 |_=>none
def TK {d:PyData} {b:Bool} (h:asB d=some b):d=.bool b:=by cases d<;>simp [asB] at h;subst h;rfl
def CT {d:PyData} {b:Int} (h:asI d=some b):d=.int b:=by cases d<;>simp [asI] at h;subst h;rfl
def bTb {t:TE3} (a:PuE t):PuC (tb3 t):=⟨λρ=>(a.f ρ).bind asB,a.fv,λhv hd hf k=>by
 obtain ⟨x,e1,hf⟩:=obb hf;have:=TK hf;subst this;exact a.ok hv hd e1 λx' G1 E1 D1 _=>by cases D1;exact k G1 E1⟩
def bOr {t u:TT3} (a:PuC t) (b:PuC u):PuC (or3 t u):=⟨λρ=>(a.f ρ).bind λk=>if k then some true else b.f ρ,a.fv++b.fv,λhv hd hf k=>by
 obtain ⟨x,e1,hf⟩:=obb hf;refine a.ok hv.l hd e1 λG1 E1=>?_;cases x with
 |false=>exact b.ok (hv.r.up E1) (hd.up E1) hf λG2 E2=>k G2 (E1.trans E2)
 |true=>cases hf;exact k G1 E1⟩
def qi0 {t:TT3} (a:PuC t):PuC (UX t):=⟨λρ=>(a.f ρ).map (! ·),a.fv,λhv hd hf k=>by
 obtain ⟨x,e1,hf⟩:=za3 hf;subst hf;exact a.ok hv hd e1 λG1 E1=>k G1 E1⟩
def bTt:PuC tt3:=⟨λ_=>some true,[],λhv hd hf k=>by cases hf;exact k _ Ex.refl⟩
def T5 {ta tb:TE3} (a:PuE ta) (b:PuE tb):PuE (j0 ta tb):=⟨λρ=>((a.f ρ).bind asB).bind λk=>if k then b.f ρ else some (.bool false),a.fv++b.fv,false,λhv hd hf k=>by
 obtain ⟨x,e1,hf⟩:=obb hf;obtain ⟨y,e1,e2⟩:=obb e1;have:=TK e2;subst this;refine a.ok hv.l hd e1 λx' G1 E1 D1 _=>?_;cases D1;cases x with
 |true=>exact b.ok (hv.r.up E1) (hd.up E1) hf λz G2 E2 D2 _=>k z G2 (E1.trans E2) D2 (λz=>by cases z)
 |false=>cases hf;exact k _ G1 E1 (.bl false) (λz=>by cases z)⟩
def qqO {ta tb:TE3} (a:PuE ta) (b:PuE tb):PuE (CA ta tb):=⟨λρ=>((a.f ρ).bind asB).bind λk=>if k then some (.bool true) else b.f ρ,a.fv++b.fv,false,λhv hd hf k=>by
 obtain ⟨x,e1,hf⟩:=obb hf;obtain ⟨y,e1,e2⟩:=obb e1;have:=TK e2;subst this;refine a.ok hv.l hd e1 λx' G1 E1 D1 _=>?_;cases D1;cases x with
 |false=>exact b.ok (hv.r.up E1) (hd.up E1) hf λz G2 E2 D2 _=>k z G2 (E1.trans E2) D2 (λz=>by cases z)
 |true=>cases hf;exact k _ G1 E1 (.bl true) (λz=>by cases z)⟩
def qnv {ta:TE3} (a:PuE ta):PuE (Z5 ta):=⟨λρ=>((a.f ρ).bind asB).map λk=>.bool (!k),a.fv,false,λhv hd hf k=>by
 obtain ⟨x,e1,hf⟩:=za3 hf;obtain ⟨y,e1,e2⟩:=obb e1;have:=TK e2;subst this;subst hf;refine a.ok hv hd e1 λx' G1 E1 D1 _=>?_;cases D1;exact k _ G1 E1 (.bl _) (λz=>by cases z)⟩
def bIf {t:TT3} {ta tb:TE3} (c:PuC t) (a:PuE ta) (b:PuE tb):PuE (if3 t ta tb):=⟨λρ=>(c.f ρ).bind λk=>if k then a.f ρ else b.f ρ,c.fv++(a.fv++b.fv),false,λhv hd hf k=>by
 obtain ⟨x,e1,hf⟩:=obb hf;refine c.ok hv.l hd e1 λG1 E1=>?_;cases x with
 |true=>exact a.ok (hv.r.l.up E1) (hd.up E1) hf λz G2 E2 D2 _=>k z G2 (E1.trans E2) D2 (λz=>by cases z)
 |false=>exact b.ok (hv.r.r.up E1) (hd.up E1) hf λz G2 E2 D2 _=>k z G2 (E1.trans E2) D2 (λz=>by cases z)⟩
def tyD:PyData->Option String
 |.none=>some "NoneType" |.bool _=>some "bool" |.int _=>some "int" |.str _=>some "str" |.tuple _=>some "tuple" |.list _=>some "list" |.dict _=>none
def qi9 {ta:TE3} (g:String->Bool) (a:PuE ta):PuE (DX g ta):=⟨λρ=>(a.f ρ).bind λd=>(tyD d).map λt=>.bool (g t),a.fv,false,λhv hd hf k=>by
 obtain ⟨x,e1,hf⟩:=obb hf;obtain ⟨y,e2,hf⟩:=za3 hf;subst hf;refine a.ok hv hd e1 λx' G1 E1 D1 _=>?_;have:tyT G1 x'=some y:=by
  cases D1 with
  |lst h _=>have g:=qO (qE h).2;simp [tyT,g];simpa [tyD] using e2
  |_=>simpa [tyT,tyD] using e2
 simp only [this];exact k _ G1 E1 (.bl _) (λz=>by cases z)⟩
def bNp:PuO np3:=⟨λ_=>some none,[],λhv hd hf k=>by cases hf;exact k _ Ex.refl⟩
def bSp {t:TE3} (a:PuE t):PuO (sp3 t):=⟨λρ=>((a.f ρ).bind asI).map some,a.fv,λhv hd hf k=>by
 obtain ⟨x,e1,hf⟩:=za3 hf;obtain ⟨y,e1,e2⟩:=obb e1;have:=CT e2;subst this;subst hf;refine a.ok hv hd e1 λx' G1 E1 D1 _=>?_;cases D1;exact k G1 E1⟩
def Dqs.cut {G:Gp} {xs:List T} {ds:List PyData} (h:Dqs G xs ds) (lo hi:Option Int):Dqs G (DK xs lo hi) (DK ds lo hi):=by
 unfold DK;rw [h.length];exact (h.drop _).take _
def slD (d:PyData) (lo hi:Option Int):Option PyData:=match d with
 |.tuple xs=>cif (HT.sIx xs.length 0 lo=0/\HT.sIx xs.length xs.length hi=xs.length) none (some (.tuple (DK xs lo hi)))
 |.list xs=>some (.list (DK xs lo hi))
 |_=>none
def bSl {te:TE3} {tl th:TO3} (a:PuE te) (l:PuO tl) (h:PuO th):PuE (X6 te tl th):=⟨λρ=>(a.f ρ).bind λd=>(l.f ρ).bind λlo=>(h.f ρ).bind λhi=>slD d lo hi,a.fv++(l.fv++h.fv),false,λhv hd hf k=>by
 obtain ⟨d,e1,hf⟩:=obb hf;obtain ⟨lo,e2,hf⟩:=obb hf;obtain ⟨hi,e3,hf⟩:=obb hf;refine a.ok hv.l hd e1 λx' G1 E1 D1 _=>l.ok (hv.r.l.up E1) (hd.up E1) e2 λG2 E2=>h.ok (hv.r.r.up (E1.trans E2)) (hd.up (E1.trans E2)) e3 λG3 E3=>?_;have E:=(E1.trans E2).trans E3;have D3:=(D1.up (jR E2)).up (jR E3);unfold slD at hf;cases D3 with
 |tup hs=>
  simp only [cif] at hf;split at hf
  ·cases hf
  ·rename_i n;cases hf;exact ⟨by rw [hs.length];exact n,k _ _ E (.tup (hs.cut _ _)) (λz=>by cases z)⟩
 |lst g hs=>
  simp only at hf;cases hf;simp only [sl3,qO (qE g).2];intro p hp;exact k _ _ (E.trans (QI hp)) (XB (hd.up E) hp (hs.cut _ _)) (λz=>by cases z)
 |_=>simp at hf⟩
def ER:List PyData->Option (List Int)
 |[]=>some []
 |.int i::r=>(ER r).map (i::·)
 |_=>none
def qb2 (ns:List Int):ER (ns.map PyData.int)=some ns:=by
 induction ns with
 |nil=>rfl
 |cons n r ih=>simp [ER,ih]
theorem NJ:∀ {xs:List PyData} {ns:List Int},ER xs=some ns->xs=ns.map PyData.int
 |[],_,h=>by simp [ER] at h;subst h;rfl
 |.int i::r,ns,h=>by
  simp only [ER] at h;obtain ⟨ms,e,rfl⟩:=za3 h;rw [NJ e];rfl
 |.none::r,ns,h=>by simp [ER] at h
 |.bool _::r,ns,h=>by simp [ER] at h
 |.str _::r,ns,h=>by simp [ER] at h
 |.list _::r,ns,h=>by simp [ER] at h
 |.tuple _::r,ns,h=>by simp [ER] at h
 |.dict _::r,ns,h=>by simp [ER] at h
def qcx (d:PyData):Option PyData:=match d with
 |.list ds=>(ER ds).bind λns=>cif (ns.length<4000) (some (.int (DO ns))) none
 |_=>none
def qmJ {te:TE3} (a:PuE te):PuE (qhL te):=⟨λρ=>(a.f ρ).bind qcx,a.fv,false,λhv hd hf k=>by
 obtain ⟨d,e1,hf⟩:=obb hf;refine a.ok hv hd e1 λx' G1 E1 D1 _=>?_;unfold qcx at hf;cases D1 with
 |lst g hs=>
  simp only at hf;obtain ⟨ns,en,hf⟩:=obb hf;unfold cif at hf;split at hf
  ·rename_i hl;cases hf;have:=NJ en;subst this;have:=hs.ints;subst this;simp only [qO (qE g).2,TB];exact ⟨hl,k _ _ E1 (.int _) (λz=>by cases z)⟩
  ·cases hf
 |_=>simp at hf⟩
def cI (C:Int->Int->Prop) (g:Int->Int->Int) (d e:PyData):Option PyData:=match d,e with|.int i,.int j=>cif (C i j) (some (.int (g i j))) none|_,_=>none
def opC (C:Int->Int->Prop) (g:Int->Int->Int):OpD (iC C g):=⟨cI C g,false,λ{D G x y d e v q} hx hy hd hf k=>by
 unfold cI at hf;cases hx<;>try (simp at hf;done)
 cases hy<;>try (simp at hf;done)
 simp only [cif] at hf;split at hf
 ·rename_i c;cases hf;exact ⟨c,k _ _ Ex.refl (.int _) (λz=>by cases z)⟩
 ·cases hf⟩
def opB (g:Int->Int->Bool):OpD (iB g):=⟨λd e=>match d,e with|.int i,.int j=>some (.bool (g i j))|_,_=>none,false,λ{D G x y d e v q} hx hy hd hf k=>by
 cases hx<;>try (simp at hf;done)
 cases hy<;>try (simp at hf;done)
 cases hf;exact k _ _ Ex.refl (.bl _) (λz=>by cases z)⟩
def LU:PyData->PyData->Option Bool
 |.none,.none=>some true|.none,.int _=>some false|.int _,.none=>some false|.none,.bool _=>some false|.bool _,.none=>some false|.none,.str _=>some false|.str _,.none=>some false
 |.int i,.int j=>some (decide (i=j))|.bool i,.bool j=>some (decide (i=j))|.str i,.str j=>some (decide (i=j))
 |.int _,.str _=>some false|.str _,.int _=>some false|.bool _,.str _=>some false|.str _,.bool _=>some false
 |_,_=>none
def qcA {G:Gp} {x y:T} {d e:PyData} (hx:Dq G x d) (hy:Dq G y e):QX x y=LU d e:=by
 cases hx<;>cases hy<;>rfl
def eqD (neg:Bool) (d e:PyData):Option PyData:=match LU d e with
 |some k=>some (.bool (if neg then !k else k))
 |none=>cif (dpt d<=40/\dpt d≠0) ((jq d e).map λb=>.bool (if neg then !b else b)) none
def NY (neg:Bool):OpD (QK neg):=⟨eqD neg,false,λ{D G x y d e v q} hx hy hd hf k=>by
 unfold QK;rw [qcA hx hy];unfold eqD at hf;cases h:LU d e with
 |some b=>rw [h] at hf;cases hf;exact k _ _ Ex.refl (.bl _) (λz=>by cases z)
 |none=>
  rw [h] at hf;simp only [cif] at hf ⊢;split at hf
  ·rename_i c;obtain ⟨b,e1,rfl⟩:=za3 hf;exact ⟨d,e,b,(hx.up VI).dp,(hy.up VI).dp,e1,c.1,c.2,k _ _ Ex.refl (.bl _) (λz=>by cases z)⟩
  ·cases hf⟩
def qoJ (neg:Bool) (d e:PyData):Option PyData:=match d,e with|.bool i,.bool j=>some (.bool (if neg then i != j else i==j))|_,_=>none
def qdU (neg:Bool):OpD (qiq neg):=⟨qoJ neg,false,λ{D G x y d e v q} hx hy hd hf k=>by
 unfold qoJ at hf;cases hx<;>try (simp at hf;done)
 cases hy<;>try (simp at hf;done)
 cases hf;exact k _ _ Ex.refl (.bl _) (λz=>by cases z)⟩
def ixD (d e:PyData):Option PyData:=match d,e with
 |.tuple xs,.int i=>atI xs i
 |.list xs,.int i=>atI xs i
 |_,_=>none
theorem Dqs.atI {G:Gp} {xs:List T} {ds:List PyData} {i:Int} {d:PyData} (h:Dqs G xs ds) (e:L2.atI ds i=some d):∃ x,L2.atI xs i=some x/\Dq G x d:=by
 unfold L2.atI at e ⊢;rw [h.length];obtain ⟨j,e1,e2⟩:=obb e;obtain ⟨x,hx,r⟩:=h.get e2;exact ⟨x,by rw [e1];exact hx,r⟩
def qaL:OpD ix3:=⟨ixD,false,λ{D G x y d e v q} hx hy hd hf k=>by
 unfold ixD at hf;cases hx with
 |tup hs=>
  cases hy<;>try (simp at hf;done)
  obtain ⟨x,e1,r⟩:=hs.atI hf;simp only [ix3,e1];exact k _ _ Ex.refl r (λz=>by cases z)
 |lst g hs=>
  cases hy<;>try (simp at hf;done)
  obtain ⟨x,e1,r⟩:=hs.atI hf;simp only [ix3,qO (qE g).2,e1];exact k _ _ Ex.refl r (λz=>by cases z)
 |_=>simp at hf⟩
def qoL (d e:PyData):Option PyData:=match d,e with
 |.tuple xs,.tuple ys=>cif (xs≠[]/\xs.length+ys.length<=sizeLine) (some (.tuple (xs++ys))) none
 |.list xs,.list ys=>cif (xs.length+ys.length<=sizeLine) (some (.list (xs++ys))) none
 |.int i,.int j=>some (.int (i+j))
 |_,_=>none
def W5:OpD jS:=⟨qoL,false,λ{D G x y d e v q} hx hy hd hf k=>by
  unfold qoL at hf;cases hx with
  | int i => cases hy <;> try (simp at hf;done)
             cases hf;exact k _ _ Ex.refl (.int _) (λz=>by cases z)
  |tup hs=>
    cases hy<;>try (simp at hf;done)
    rename_i hs2;simp only [cif] at hf;split at hf
    · rename_i c;cases hf;refine ⟨?_,by rw [hs.length,hs2.length];exact c.2,k _ _ Ex.refl (.tup (hs.append hs2)) (λz=>by cases z)⟩;rintro rfl;cases hs;exact c.1 rfl
    · cases hf
  |lst g hs=>
    cases hy<;>try (simp at hf;done)
    rename_i g2 hs2;simp only [cif] at hf;split at hf
    · rename_i c;cases hf;simp only [jS,(qE g).2,(qE g2).2];exact ⟨by rw [hs.length,hs2.length];exact c,λp hp=>k _ _ (QI hp) (XB hd hp (hs.append hs2)) (λz=>by cases z)⟩
    · cases hf
  |_=>simp at hf⟩
def qjg (d e:PyData):Option PyData:=match d,e with
 |.list xs,.list ys=>cif (xs.length+ys.length<=sizeLine) (some (.list (xs++ys))) none
 |_,_=>none
def KZ:OpD jS:=⟨qjg,true,λ{D G x y d e v q} hx hy hd hf k=>by
 unfold qjg at hf;cases hx with
 |lst g hs=>
  cases hy<;>try (simp at hf;done)
  rename_i g2 hs2;simp only [cif] at hf;split at hf
  ·rename_i c;cases hf;simp only [jS,(qE g).2,(qE g2).2];exact ⟨by rw [hs.length,hs2.length];exact c,λp hp=>k _ _ (QI hp) (XB hd hp (hs.append hs2)) λ_=>TC hp (hs.append hs2)⟩
  ·cases hf
 |_=>simp at hf⟩
def qnj:List PyData->Option PyData
 |[.tuple xs]=>some (.int xs.length)
 |[.list xs]=>some (.int xs.length)
 |_=>none
def qgB:FnD JZ:=⟨qnj,false,λ{D G xs ds v q} hx hd hf k=>by
 unfold qnj at hf;split at hf
 ·cases hx with
  |cons a b=>cases b;cases a;rename_i hs;cases hf;simp only [JZ];rw [hs.length];exact k _ _ Ex.refl (.int _) (λz=>by cases z)
 ·cases hx with
  |cons a b=>cases b;cases a;rename_i g hs;cases hf;simp only [JZ,qO (qE g).2];rw [hs.length];exact k _ _ Ex.refl (.int _) (λz=>by cases z)
 ·cases hf⟩
def qnL:List PyData->Option PyData
 |[.int i]=>some (.int i)
 |[.bool k]=>some (.int (if k then 1 else 0))
 |_=>none
def qjH:FnD WF:=⟨qnL,false,λ{D G xs ds v q} hx hd hf k=>by
 unfold qnL at hf;split at hf
 ·cases hx with
  |cons a b=>cases b;cases a;cases hf;exact k _ _ Ex.refl (.int _) (λz=>by cases z)
 ·cases hx with
  |cons a b=>cases b;cases a;cases hf;exact k _ _ Ex.refl (.int _) (λz=>by cases z)
 ·cases hf⟩
def qoy:List PyData->Option PyData
 |[.tuple xs]=>some (.tuple xs)
 |[.list xs]=>some (.tuple xs)
 |_=>none
def qdk:FnD zh:=⟨qoy,false,λ{D G xs ds v q} hx hd hf k=>by
 unfold qoy at hf;split at hf
 ·cases hx with
  |cons a b=>cases b;cases a;rename_i hs;cases hf;exact k _ _ Ex.refl (.tup hs) (λz=>by cases z)
 ·cases hx with
  |cons a b=>cases b;cases a;rename_i g hs;cases hf;simp only [zh,qO (qE g).2];exact k _ _ Ex.refl (.tup hs) (λz=>by cases z)
 ·cases hf⟩
def qap:List PyData->Option (List Bool)
 |[]=>some []
 |.bool i::r=>(qap r).map (i::·)
 |_=>none
def qeK (ns:List Bool):qap (ns.map PyData.bool)=some ns:=by
 induction ns with
 |nil=>rfl
 |cons n r ih=>simp [qap,ih]
theorem qdf {G:Gp}:∀ {xs:List T} {ds:List PyData} {ns:List Bool},Dqs G xs ds->qap ds=some ns->qjj xs=some (ns.all id)/\qoM xs=some (ns.any id)
 |_,_,_,.nil,h=>by simp [qap] at h;subst h;exact ⟨rfl,rfl⟩
 |_,.bool i::r,ns,.cons a b,h=>by
  simp only [qap] at h;obtain ⟨ms,e,rfl⟩:=za3 h;obtain ⟨h1,h2⟩:=qdf b e;cases a;simp [qjj,qoM,h1,h2]
 |_,.int _::r,ns,_,h=>by simp [qap] at h
 |_,.none::r,ns,_,h=>by simp [qap] at h
 |_,.str _::r,ns,_,h=>by simp [qap] at h
 |_,.list _::r,ns,_,h=>by simp [qap] at h
 |_,.tuple _::r,ns,_,h=>by simp [qap] at h
 |_,.dict _::r,ns,_,h=>by simp [qap] at h
def qlK:List PyData->Option PyData
 |[.list xs]=>(qap xs).map λns=>.bool (ns.all id)
 |_=>none
def qmY:FnD WM:=⟨qlK,false,λ{D G xs ds v q} hx hd hf k=>by
 unfold qlK at hf;split at hf
 ·obtain ⟨ns,e,rfl⟩:=za3 hf;cases hx with
  |cons a b=>cases b;cases a;rename_i g hs;simp only [WM,qO (qE g).2,(qdf hs e).1];exact k _ _ Ex.refl (.bl _) (λz=>by cases z)
 ·cases hf⟩
def PSp (F:List PyData->Option PyData) (fr:Bool):Sp3:=λts G q=>∃ (D:Addr->Prop) (ds:List PyData) (d:PyData),Dqs (rs D G) ts ds/\Dom D G/\F ds=some d/\∀ x G',Ex G G'->Dq (rs D G') x d->(fr=true->Nw D G G' x d)->q x G'
def Q1 (F:List PyData->Option PyData) (fr:Bool):FnD (PSp F fr):=⟨F,fr,λ{D G xs ds v q} hx hd hf k=>⟨D,ds,v,hx,hd,hf,k⟩⟩
def LI:PyData->Option (List PyData)
 |.tuple xs=>some xs
 |.list xs=>some xs
 |_=>none
def qaJ {t:TE3} (a:PuE t):PuI (YH t):=⟨λρ=>(a.f ρ).bind LI,a.fv,false,λ{D τ ρ G r ds} hv hd hf k=>by
 obtain ⟨d,e1,hf⟩:=obb hf;refine a.ok hv hd e1 λx G1 E1 D1 _=>?_;unfold LI at hf;cases D1 with
 |tup hs=>cases hf;exact k _ _ _ E1 hs (λ_ _=>trivial) (λz=>by cases z)
 |lst g hs=>
  cases hf;simp only [qO (qE g).2];refine k _ _ _ E1 hs (λG2 h=>?_) (λz=>by cases z);rcases h with h|h
  ·cases h
  ·exact qO (h _ _ g)
 |_=>simp at hf⟩
def jg (lo:Int) (n:Nat):List Int:=(List.range n).map λ(i:Nat)=>lo+(i:Int)
def qfe (lo:Int) (n:Nat):qaK lo n=(jg lo n).map T.int:=by simp [qaK,jg,map_map,Function.comp_def]
def qhJ:List PyData->Option (List PyData)
 |[.int j]=>cif (-(2 ^ 62)<=j/\j<2 ^ 62) (some ((jg 0 j.toNat).map PyData.int)) none
 |[.int i,.int j]=>cif (-(2 ^ 62)<=i/\i<2 ^ 62/\-(2 ^ 62)<=j/\j<2 ^ 62) (some ((jg i (j-i).toNat).map PyData.int)) none
 |_=>none
def CL {t:TA3} (a:PuA t):PuI (jy t):=⟨λρ=>(a.f ρ).bind qhJ,a.fv,true,λ{D τ ρ G r ds} hv hd hf k=>by
 obtain ⟨d,e1,hf⟩:=obb hf;refine a.ok hv hd e1 λx G1 E1 D1=>?_;unfold qhJ at hf;split at hf
 ·unfold cif at hf;split at hf
  ·rename_i c;cases hf;cases D1 with
   |cons a b=>cases b;cases a;simp only;rw [qfe];exact ⟨c,k _ _ _ E1 (Dqs.ofInts _) (λ_ _=>trivial) λ_=>⟨_,rfl⟩⟩
  ·cases hf
 ·unfold cif at hf;split at hf
  ·rename_i c;cases hf;cases D1 with
   |cons a b=>cases b with
    |cons b c'=>cases c';cases a;cases b;simp only;rw [qfe];exact ⟨c,k _ _ _ E1 (Dqs.ofInts _) (λ_ _=>trivial) λ_=>⟨_,rfl⟩⟩
  ·cases hf
 ·cases hf⟩
def qhI (us vs:List PyData):List PyData:=(us.zip vs).map λp=>.tuple [p.1,p.2]
theorem Dqs.zip {G:Gp}:∀ {xs:List T} {ds:List PyData} {ys:List T} {es:List PyData},Dqs G xs ds->Dqs G ys es->Dqs G (qdL xs ys) (qhI ds es)
 |_,_,_,_,.nil,_=>by simp [qdL,qhI];exact .nil
 |_,_,_,_,.cons _ _,.nil=>by simp [qdL,qhI];exact .nil
 |_,_,_,_,.cons a b,.cons c d=>.cons (.tup (.cons a (.cons c .nil))) (Dqs.zip b d)
def RT {G:Gp} {x:T} {d:PyData} {ds:List PyData} (h:Dq G x d) (e:LI d=some ds):∃ us,JQ G x=some us/\Dqs G us ds:=by
 unfold LI at e;cases h with
 |tup hs=>cases e;exact ⟨_,rfl,hs⟩
 |lst g hs=>cases e;exact ⟨_,qO g,hs⟩
 |_=>simp at e
def CO {G G':Gp} {x:T} {us:List T} (e:Ex G G') (h:JQ G x=some us):JQ G' x=some us:=by
 cases x with
 |tup xs=>exact h
 |ref p=>exact e.getL h
 |_=>cases h
def qqn {t:TA3} (a:PuA t):PuI (qdK t):=⟨λρ=>(a.f ρ).bind λds=>match ds with|[d,e]=>(LI d).bind λus=>(LI e).bind λvs=>some (qhI us vs)|_=>none,a.fv,false,λ{D τ ρ G r ds} hv hd hf k=>by
 obtain ⟨d,e1,hf⟩:=obb hf;refine a.ok hv hd e1 λx G1 E1 D1=>?_;split at hf
 ·obtain ⟨us,e2,hf⟩:=obb hf;obtain ⟨vs,e3,hf⟩:=obb hf;cases hf;cases D1 with
  |cons a b=>cases b with
   |cons b c=>
    cases c;obtain ⟨us',h1,h2⟩:=RT a e2;obtain ⟨vs',h3,h4⟩:=RT b e3;simp only [CO VI h1,CO VI h3];refine k _ _ _ E1 (h2.zip h4) (λG2 h=>?_) (λz=>by cases z);rcases h with h|h
    ·cases h
    ·exact ⟨CO h h1,CO h h3⟩
 ·cases hf⟩
def enD (k:Nat):List PyData->List PyData
 |[]=>[]
 |x::r=>.tuple [.int (k:Int),x]::enD (k+1) r
theorem Dqs.enum {G:Gp}:∀ {xs:List T} {ds:List PyData} (k:Nat),Dqs G xs ds->Dqs G (QU k xs) (enD k ds)
 |_,_,_,.nil=>.nil
 |_,_,k,.cons a b=>.cons (.tup (.cons (.int _) (.cons a .nil))) (Dqs.enum (k+1) b)
def qhD {t:TA3} (a:PuA t):PuI (CJ t):=⟨λρ=>(a.f ρ).bind λds=>match ds with|[d]=>(LI d).map λus=>enD 0 us|_=>none,a.fv,false,λ{D τ ρ G r ds} hv hd hf k=>by
 obtain ⟨d,e1,hf⟩:=obb hf;refine a.ok hv hd e1 λx G1 E1 D1=>?_;split at hf
 ·obtain ⟨us,e2,rfl⟩:=za3 hf;cases D1 with
  |cons a b=>
   cases b;obtain ⟨us',h1,h2⟩:=RT a e2;simp only [CO VI h1];refine k _ _ _ E1 (h2.enum 0) (λG2 h=>?_) (λz=>by cases z);rcases h with h|h
   ·cases h
   ·exact CO h h1
 ·cases hf⟩
inductive Bd (H:Gp):List (Nat×T)->List (Nat×PyData)->Prop
 |nil:Bd H [] []
 |cons {i:Nat} {x:T} {d:PyData} {ts:List (Nat×T)} {bs:List (Nat×PyData)}:Dq H x d->Bd H ts bs->Bd H ((i,x)::ts) ((i,d)::bs)
theorem Bd.append {H:Gp}:∀ {ts:List (Nat×T)} {bs:List (Nat×PyData)} {us:List (Nat×T)} {cs:List (Nat×PyData)},Bd H ts bs->Bd H us cs->Bd H (ts++us) (bs++cs)
 |_,_,_,_,.nil,h=>h
 |_,_,_,_,.cons a b,h=>.cons a (Bd.append b h)
theorem Bd.up {H H':Gp} (e:Ex H H'):∀ {ts:List (Nat×T)} {bs:List (Nat×PyData)},Bd H ts bs->Bd H' ts bs
 |_,_,.nil=>.nil
 |_,_,.cons a b=>.cons (a.up e) (Bd.up e b)
def sets:St3->List (Nat×T)->St3
 |τ,[]=>τ
 |τ,p::r=>sets (τ.set p.1 (some p.2)) r
def Z9:Rho->List (Nat×PyData)->Rho
 |ρ,[]=>ρ
 |ρ,p::r=>Z9 (ρ.set p.1 (.sh p.2)) r
theorem M2:∀ (τ:St3) (a b:List (Nat×T)),sets τ (a++b)=sets (sets τ a) b
 |τ,[],b=>rfl
 |τ,p::a,b=>by simp only [cons_append,sets];exact M2 _ a b
structure PuG (g:TG3) where
 f:PyData->Option (List (Nat×PyData))
 tg:List Nat
 at':∀ {d bs},f d=some bs->∀ p∈bs,p.1∈tg
 ok:∀ {H x d bs},Dq H x d->f d=some bs->∃ ts,Bd H ts bs/\∀ τ G (q:St3->Gp->Prop),q (sets τ ts) G->g x τ G q
structure PuGs (g:LD) where
 f:List PyData->Option (List (Nat×PyData))
 tg:List Nat
 at':∀ {d bs},f d=some bs->∀ p∈bs,p.1∈tg
 ok:∀ {H x d bs},Dqs H x d->f d=some bs->∃ ts,Bd H ts bs/\∀ τ G (q:St3->Gp->Prop),q (sets τ ts) G->g x τ G q
def gN (i:Nat):PuG (gn3 i):=⟨λd=>some [(i,d)],[i],λh p hp=>by cases h;simp at hp;subst hp;simp,λhx h=>by cases h;exact ⟨_,.cons hx .nil,λτ G q hq=>hq⟩⟩
def qao:PuGs zG:=⟨λds=>match ds with|[]=>some []|_=>none,[],(λh p hp=>by split at h;cases h;cases hp;cases h),λhx h=>by
 split at h
 ·cases h;cases hx;exact ⟨[],.nil,λτ G q hq=>hq⟩
 ·cases h⟩
def jK {t:TG3} {u:LD} (a:PuG t) (b:PuGs u):PuGs (qo t u):=⟨λds=>match ds with|d::r=>(a.f d).bind λx=>(b.f r).map λy=>x++y|[]=>none,a.tg++b.tg,(λh p hp=>by
 split at h
 ·obtain ⟨x,e1,h⟩:=obb h;obtain ⟨y,e2,rfl⟩:=za3 h;rcases List.mem_append.mp hp with z|z
  ·exact List.mem_append.mpr (.inl (a.at' e1 p z))
  ·exact List.mem_append.mpr (.inr (b.at' e2 p z))
 ·cases h),λhx h=>by
 split at h
 ·obtain ⟨x,e1,h⟩:=obb h;obtain ⟨y,e2,rfl⟩:=za3 h;cases hx with
  |cons hx hr=>
   obtain ⟨ts,b1,k1⟩:=a.ok hx e1;obtain ⟨us,b2,k2⟩:=b.ok hr e2;refine ⟨ts++us,b1.append b2,λτ G q hq=>k1 τ G _ (k2 _ G q ?_)⟩;rw [← M2];exact hq
 ·cases h⟩
def qaF {u:LD} (n:Nat) (b:PuGs u):PuG (zH n u):=⟨λd=>match d with|.tuple ds=>if ds.length=n then b.f ds else none|_=>none,b.tg,(λh p hp=>by
 split at h
 ·split at h
  ·exact b.at' h p hp
  ·cases h
 ·cases h),λhx h=>by
 split at h
 ·split at h
  ·rename_i c;cases hx with
   |tup hs=>
    obtain ⟨ts,b1,k1⟩:=b.ok hs h;exact ⟨ts,b1,λτ G q hq=>⟨by rw [hs.length];exact c,k1 τ G q hq⟩⟩
  ·cases h
 ·cases h⟩
structure VA (D:Addr->Prop) (G:Gp) (τ:St3) (ρ:Rho):Prop where
 len:ρ.length=τ.length
 vw:∀ i d,vw ρ i=some d->∃ t,τ[i]?=some (some t)/\Dq (rs D G) t d
def VA.view {D:Addr->Prop} {G:Gp} {τ:St3} {ρ:Rho} (h:VA D G τ ρ) (fv:List Nat):C5 fv D G τ ρ:=λi _ d e=>h.vw i d e
def VA.upx {D:Addr->Prop} {G G':Gp} {τ:St3} {ρ:Rho} (h:VA D G τ ρ) (e:Ex (rs D G) (rs D G')):VA D G' τ ρ:=⟨h.len,λi d hd=>let ⟨t,a,b⟩:=h.vw i d hd;⟨t,a,b.up e⟩⟩
def VA.up {D:Addr->Prop} {G G':Gp} {τ:St3} {ρ:Rho} (h:VA D G τ ρ) (e:Ex G G'):VA D G' τ ρ:=h.upx (jR e)
def qfP {ρ:Rho} {i j:Nat} {s:Sl}:vw (ρ.set i s) j=if i=j then (if i<ρ.length then s.d else none) else vw ρ j:=by
 unfold vw;rw [getElem?_set];split
 ·subst j;split
  ·rfl
  ·rfl
 ·rfl
theorem VA.set {D:Addr->Prop} {G:Gp} {τ:St3} {ρ:Rho} (h:VA D G τ ρ) {i:Nat} {x:T} {d:PyData} (hx:Dq (rs D G) x d):VA D G (τ.set i (some x)) (ρ.set i (.sh d)):=by
 refine ⟨by simp [h.len],λj e he=>?_⟩;rw [qfP] at he;split at he
 ·subst j;split at he
  ·rename_i l;cases he;refine ⟨x,?_,hx⟩;rw [getElem?_set,if_pos rfl,if_pos (by rw [← h.len];exact l)]
  ·cases he
 ·rename_i n;obtain ⟨t,a,b⟩:=h.vw j e he;exact ⟨t,by rw [getElem?_set,if_neg n];exact a,b⟩
theorem VA.sets {D:Addr->Prop} {G:Gp}:∀ {ts:List (Nat×T)} {bs:List (Nat×PyData)} {τ:St3} {ρ:Rho},VA D G τ ρ->Bd (rs D G) ts bs->VA D G (Pu.sets τ ts) (Z9 ρ bs)
 |_,_,_,_,h,.nil=>h
 |_,_,_,_,h,.cons a b=>by unfold Pu.sets Z9;exact VA.sets (h.set a) b
theorem VA.keep {D:Addr->Prop} {G:Gp} {ρ:Rho}:∀ {ts:List (Nat×T)} {τ:St3},VA D G τ ρ->(∀ p∈ts,Pu.vw ρ p.1=none)->VA D G (Pu.sets τ ts) ρ
 |[],_,h,_=>h
 |p::r,τ,h,hn=>VA.keep (ts:=r) ⟨by rw [List.length_set];exact h.len,λj d hd=>by
   have:p.1≠j:=by rintro rfl;rw [hn p (by simp)] at hd;cases hd
   obtain ⟨t,a,b⟩:=h.vw j d hd;exact ⟨t,by rw [getElem?_set,if_neg this];exact a,b⟩⟩ λq hq=>hn q (by simp [hq])
def RA (m:List (Option Nat)) (ρ:Rho):Rho:=m.map λo=>match o with|some j=>(match vw ρ j with|some d=>.sh d|none=>.un)|none=>.un
theorem VA.cap {m:List (Option Nat)} {D:Addr->Prop} {G:Gp} {τ:St3} {ρ:Rho} (h:C5 (m.filterMap id) D G τ ρ):VA D G (L3.cap m τ) (RA m ρ):=by
 refine ⟨by simp [RA,L3.cap],λi d hd=>?_⟩;unfold Pu.vw RA at hd;rw [getElem?_map] at hd;cases e:m[i]? with
 |none=>rw [e] at hd;cases hd
 |some o=>
  rw [e] at hd;cases o with
  |none=>cases hd
  |some j=>
   simp only [Option.map_some,Option.bind_some] at hd;cases e2:Pu.vw ρ j with
   |none=>rw [e2] at hd;cases hd
   |some d'=>
    rw [e2] at hd;have hd':d'=d:=by simpa [Sl.d] using hd
    subst hd';obtain ⟨t,a,b⟩:=h j (List.mem_filterMap.mpr ⟨some j,v9 e,rfl⟩) d' e2;refine ⟨t,?_,b⟩;unfold L3.cap;rw [getElem?_map,e];simp [a]
def RI {m:List (Option Nat)} {ρ:Rho} {i:Nat} (h:m[i]?=some none):vw (RA m ρ) i=none:=by
 unfold vw RA;rw [getElem?_map,h];rfl
def lcP (h:PyData->Option (Option PyData)):List PyData->Option (List PyData)
 |[]=>some []
 |d::r=>(h d).bind λo=>(lcP h r).bind λys=>some (match o with|some y=>y::ys|none=>ys)
def lcH (gf:PyData->Option (List (Nat×PyData))) (cf:Rho->Option Bool) (ef:Rho->Option PyData) (ρ:Rho) (d:PyData):Option (Option PyData):=
 (gf d).bind λbs=>(cf (Z9 ρ bs)).bind λk=>if k then (ef (Z9 ρ bs)).map some else some none
def zM {h:PyData->Option (Option PyData)} {α:Type} {g:α->PyData} {k:α->PyData} {xs:List α} (hh:∀ a∈xs,h (g a)=some (some (k a))):lcP h (xs.map g)=some (xs.map k):=by
 induction xs with
 |nil=>rfl
 |cons a r ih=>simp only [map_cons,lcP,hh a (by simp),Option.bind_some,ih λb hb=>hh b (by simp [hb])]
theorem qaQ {H:Gp}:∀ {ts:List (Nat×T)} {bs:List (Nat×PyData)},Bd H ts bs->∀ p∈ts,∃ q∈bs,q.1=p.1
 |_,_,.nil,p,hp=>by cases hp
 |_,_,.cons a b,p,hp=>by
  rcases mem_cons.mp hp with rfl|hp
  ·exact ⟨_,u9,rfl⟩
  ·obtain ⟨q,hq,e⟩:=qaQ b p hp;exact ⟨q,by simp [hq],e⟩
theorem qg6 {stay:Gp->Prop} {g:TG3} {tif:TT3} {te:TE3} {q:Q3} (pg:PuG g) (pc:PuC tif) (pe:PuE te) {D:Addr->Prop} {ρ0:Rho} {G0:Gp} (hs:∀ G,Ex G0 G->stay G) (hm:∀ i∈pg.tg,vw ρ0 i=none) (fin:List PyData) (hfin:fin.length<=sizeLine)
  (k:∀ G ys,Ex G0 G->Dqs (rs D G) ys fin->∀ p,G p=none->q (.ref p) (gu G p (.lst ys))) :
  ∀ (ds:List PyData) (items ys:List T) (es fs:List PyData) (τ:St3) (G:Gp),Dqs (rs D G0) items ds->VA D G τ ρ0->Ex G0 G->Dom D G->Dqs (rs D G) ys es->lcP (lcH pg.f pc.f pe.f ρ0) ds=some fs->es++fs=fin->qax stay g tif te q items ys τ G
 |_,_,ys,es,fs,τ,G,.nil,va,E,hd,hy,hf,hl=>by
  cases hf;rw [List.append_nil] at hl;subst hl;exact ⟨hs G E,k G ys E hy⟩
 |d::ds,x::items,ys,es,fs,τ,G,.cons hx hr,va,E,hd,hy,hf,hl=>by
  unfold lcP at hf;obtain ⟨o,e1,hf⟩:=obb hf;obtain ⟨Z1,e2,hf⟩:=obb hf;unfold lcH at e1;obtain ⟨bs,e3,e1⟩:=obb e1;obtain ⟨c,e4,e1⟩:=obb e1;obtain ⟨ts,bd,kg⟩:=pg.ok (hx.up (jR E)) e3;refine ⟨hs G E,kg τ G _ ?_⟩;have va1:=va.sets bd;have va2:=va.keep (ts:=ts) λp hp=>by
   obtain ⟨q,hq,e⟩:=qaQ bd p hp;rw [← e];exact hm _ (pg.at' e3 q hq)
  refine pc.ok (va1.view _) hd e4 λG1 E1=>?_;cases c with
  |true=>
   rw [if_pos rfl];rw [if_pos rfl] at e1;obtain ⟨y,e5,rfl⟩:=za3 e1;simp only [Option.some.injEq] at hf;subst hf;refine pe.ok ((va1.up E1).view _) (hd.up E1) e5 λz G2 E2 D2 _=>⟨?_,?_⟩
   ·rw [hy.length];rw [← hl] at hfin;simp at hfin;omega
   ·refine qg6 pg pc pe hs hm fin hfin k ds items (ys++[z]) (es++[y]) Z1 _ G2 hr ((va2.up E1).up E2) (E.trans (E1.trans E2)) ((hd.up E1).up E2) (((hy.up (jR E1)).up (jR E2)).append (.cons D2 .nil)) e2 ?_;rw [← hl];simp
  |false=>
   rw [if_neg y8];simp at e1;subst e1;simp only [Option.some.injEq] at hf;subst hf;exact qg6 pg pc pe hs hm fin hfin k ds items ys es Z1 _ G1 hr (va2.up E1) (E.trans E1) (hd.up E1) (hy.up (jR E1)) e2 hl
def lcF (pi:Rho->Option (List PyData)) (h:Rho->PyData->Option (Option PyData)) (m:List (Option Nat)) (ρ:Rho):Option PyData:=
 (pi ρ).bind λds=>(lcP (h (RA m ρ)) ds).bind λfs=>cif (fs.length<=sizeLine) (some (.list fs)) none
def bLc {wi:TI3} {g:TG3} {tif:TT3} {te:TE3} (pi:PuI wi) (pg:PuG g) (pc:PuC tif) (pe:PuE te) (m:List (Option Nat)) (hm:Tru (pg.tg.all λi=>m[i]?==some none)):PuE (lc3 wi g tif te m):=
 ⟨lcF pi.f (lcH pg.f pc.f pe.f) m,pi.fv++m.filterMap id,true,λ{D τ ρ G q d} hv hd hf k=>by
  unfold lcF at hf;obtain ⟨ds,e1,hf⟩:=obb hf;obtain ⟨fs,e2,hf⟩:=obb hf;unfold cif at hf;split at hf
  ·rename_i hl;cases hf;refine pi.ok hv.l hd e1 λitems stay G1 E1 D1 hs _=>?_;have va:=(VA.cap (m:=m) hv.r).up E1;refine qg6 pg pc pe (D:=D) (ρ0:=RA m ρ) (G0:=G1) (λG2 E2=>hs G2 (.inr (VI.trans E2))) (λi hi=>RI ?_) fs hl (λG2 ys E2 D2 p hp=>?_) ds items [] [] fs _ G1 D1 va Ex.refl (hd.up E1) .nil e2 (by simp)
   ·have:=List.all_eq_true.mp hm.h i hi;simpa using this
   ·exact k _ _ ((E1.trans E2).trans (QI hp)) (XB ((hd.up E1).up E2) hp D2) λ_=>(TC hp D2).back (E1.trans E2)
  ·cases hf⟩
def E0 (p:Addr) (G G':Gp):Prop:=∀ b o,b≠p->G b=some o->G' b=some o
def E0.refl {p:Addr} {G:Gp}:E0 p G G:=λ_ _ _ e=>e
def E0.trans {p:Addr} {G G1 G2:Gp} (a:E0 p G G1) (b:E0 p G1 G2):E0 p G G2:=λx o n e=>b x o n (a x o n e)
def E0.of {p:Addr} {G G1:Gp} (a:Ex G G1):E0 p G G1:=λx o _ e=>a x o e
def E0.wr {p:Addr} {G:Gp} {o:O}:E0 p G (gu G p o):=λb ob n e=>by rw [zu n];exact e
theorem E0.rs {p:Addr} {D:Addr->Prop} {G G1:Gp} (a:E0 p G G1):Ex (rs (λb=>D b\/b=p) G) (rs (λb=>D b\/b=p) G1):=λb o h=>by
 obtain ⟨n,h⟩:=qE h;rw [jO n];exact a b o (λz=>n (.inr z)) h
def qmH {D:Addr->Prop} {G:Gp} {p:Addr} {o:O} (h:Dom D G):Dom D (gu G p o):=λb d z=>by
 by_cases e:b=p
 ·subst e;rw [qu] at z;cases z
 ·rw [zu e] at z;exact h b d z
theorem qhz {p:Addr} {stay:Gp->Prop} {g:TG3} {tif:TT3} {te:TE3} {N:St3->Gp->Prop} (pg:PuG g) (pc:PuC tif) (pe:PuE te) {D:Addr->Prop} {ρ0:Rho} {G0:Gp} (hs:∀ G,Ex (rs (λb=>D b\/b=p) G0) G->stay G) (hm:∀ i∈pg.tg,vw ρ0 i=none) (fin:List PyData) (hfin:fin.length<=sizeLine)
  (k:∀ τ G ys,VA (λb=>D b\/b=p) G τ ρ0->E0 p G0 G->Dom (λb=>D b\/b=p) G->G p=some (.lst ys)->Dqs (rs (λb=>D b\/b=p) G) ys fin->N τ G) :
  ∀ (ds:List PyData) (items ys:List T) (es fs:List PyData) (τ:St3) (G:Gp),Dqs (rs (λb=>D b\/b=p) G0) items ds->VA (λb=>D b\/b=p) G τ ρ0->E0 p G0 G->Dom (λb=>D b\/b=p) G->G p=some (.lst ys)->Dqs (rs (λb=>D b\/b=p) G) ys es->lcP (lcH pg.f pc.f pe.f ρ0) ds=some fs->es++fs=fin->qjd p stay g tif te N items τ G
 |_,_,ys,es,fs,τ,G,.nil,va,E,hd,gp,hy,hf,hl=>by
  cases hf;rw [List.append_nil] at hl;subst hl;exact ⟨hs G (E.rs.trans VI),k τ G ys va E hd gp hy⟩
 |d::ds,x::items,ys,es,fs,τ,G,.cons hx hr,va,E,hd,gp,hy,hf,hl=>by
  unfold lcP at hf;obtain ⟨o,e1,hf⟩:=obb hf;obtain ⟨Z1,e2,hf⟩:=obb hf;unfold lcH at e1;obtain ⟨bs,e3,e1⟩:=obb e1;obtain ⟨c,e4,e1⟩:=obb e1;obtain ⟨ts,bd,kg⟩:=pg.ok (hx.up E.rs) e3;refine ⟨hs G (E.rs.trans VI),kg τ G _ ?_⟩;have va1:=va.sets bd;have va2:=va.keep (ts:=ts) λp hp=>by
   obtain ⟨q,hq,e⟩:=qaQ bd p hp;rw [← e];exact hm _ (pg.at' e3 q hq)
  refine pc.ok (va1.view _) hd e4 λG1 E1=>?_;cases c with
  |true=>
   rw [if_pos rfl];rw [if_pos rfl] at e1;obtain ⟨y,e5,rfl⟩:=za3 e1;simp only [Option.some.injEq] at hf;subst hf;refine pe.ok ((va1.up E1).view _) (hd.up E1) e5 λz G2 E2 D2 _=>?_;simp only [E2 _ _ (E1 _ _ gp)];have W:E0 p G2 (gu G2 p (.lst (ys++[z]))):=E0.wr;refine ⟨?_,?_⟩
   ·rw [hy.length];rw [← hl] at hfin;simp at hfin;omega
   ·refine qhz pg pc pe hs hm fin hfin k ds items (ys++[z]) (es++[y]) Z1 _ _ hr (((va2.up E1).up E2).upx W.rs) ((E.trans (E0.of (E1.trans E2))).trans W) (qmH ((hd.up E1).up E2)) qu ((((hy.up (jR E1)).up (jR E2)).append (.cons D2 .nil)).up W.rs) e2 ?_;rw [← hl];simp
  |false=>
   rw [if_neg y8];simp at e1;subst e1;simp only [Option.some.injEq] at hf;subst hf;exact qhz pg pc pe hs hm fin hfin k ds items ys es Z1 _ G1 hr (va2.up E1) (E.trans (E0.of E1)) (hd.up E1) (E1 _ _ gp) (hy.up (jR E1)) e2 hl
def qhv (h:PyData->Option (Option (List PyData))):List PyData->Option (List PyData)
 |[]=>some []
 |d::r=>(h d).bind λo=>(qhv h r).bind λys=>some (match o with|some y=>y++ys|none=>ys)
def qkd (gf:PyData->Option (List (Nat×PyData))) (cf:Rho->Option Bool) (it:Rho->Option (List PyData)) (h:Rho->PyData->Option (Option PyData)) (ρ:Rho) (d:PyData):Option (Option (List PyData)):=
 (gf d).bind λbs=>(cf (Z9 ρ bs)).bind λk=>if k then ((it (Z9 ρ bs)).bind λds=>lcP (h (Z9 ρ bs)) ds).map some else some none
theorem MI:∀ {bs:List (Nat×PyData)} {ρ:Rho} {i:Nat},(∀ p∈bs,p.1≠i)->vw (Z9 ρ bs) i=vw ρ i
 |[],_,_,_=>rfl
 |p::r,ρ,i,h=>by
  unfold Z9;rw [MI (λq hq=>h q (by simp [hq])),qfP,if_neg (h p (by simp))]
theorem NC:∀ (bs:List (Nat×PyData)) (ρ:Rho),(Z9 ρ bs).length=ρ.length
 |[],τ=>rfl
 |p::r,τ=>by unfold Z9;rw [NC r];simp
theorem qcu {p:Addr} {stay:Gp->Prop} {g g2:TG3} {tif tif2:TT3} {wi2:TI3} {te:TE3} {q:Q3} (pg:PuG g) (pc:PuC tif) (pi2:PuI wi2) (pg2:PuG g2) (pc2:PuC tif2) (pe:PuE te) {D:Addr->Prop} {ρ0:Rho} {G0:Gp} (hs:∀ G,Ex (rs (λb=>D b\/b=p) G0) G->stay G) (hm:∀ i∈pg.tg,vw ρ0 i=none) (hm2:∀ i∈pg2.tg,vw ρ0 i=none) (hdj:∀ i∈pg2.tg,i∉pg.tg) (fin:List PyData) (hfin:fin.length<=sizeLine)
  (k:∀ G ys,E0 p G0 G->G p=some (.lst ys)->Dqs (rs (λb=>D b\/b=p) G) ys fin->q (.ref p) G) :
  ∀ (ds:List PyData) (items ys:List T) (es fs:List PyData) (τ:St3) (G:Gp),Dqs (rs (λb=>D b\/b=p) G0) items ds->VA (λb=>D b\/b=p) G τ ρ0->E0 p G0 G->Dom (λb=>D b\/b=p) G->G p=some (.lst ys)->Dqs (rs (λb=>D b\/b=p) G) ys es->qhv (qkd pg.f pc.f pi2.f (lcH pg2.f pc2.f pe.f) ρ0) ds=some fs->es++fs=fin->N7 p stay g tif wi2 g2 tif2 te q items τ G
 |_,_,ys,es,fs,τ,G,.nil,va,E,hd,gp,hy,hf,hl=>by
  cases hf;rw [List.append_nil] at hl;subst hl;exact ⟨hs G (E.rs.trans VI),k G ys E gp hy⟩
 |d::ds,x::items,ys,es,fs,τ,G,.cons hx hr,va,E,hd,gp,hy,hf,hl=>by
  unfold qhv at hf;obtain ⟨o,e1,hf⟩:=obb hf;obtain ⟨Z1,e2,hf⟩:=obb hf;unfold qkd at e1;obtain ⟨bs,e3,e1⟩:=obb e1;obtain ⟨c,e4,e1⟩:=obb e1;obtain ⟨ts,bd,kg⟩:=pg.ok (hx.up E.rs) e3;refine ⟨hs G (E.rs.trans VI),kg τ G _ ?_⟩;have va1:=va.sets bd;have va2:=va.keep (ts:=ts) λp hp=>by
   obtain ⟨q,hq,e⟩:=qaQ bd p hp;rw [← e];exact hm _ (pg.at' e3 q hq)
  refine pc.ok (va1.view _) hd e4 λG1 E1=>?_;cases c with
  |true=>
   rw [if_pos rfl];rw [if_pos rfl] at e1;obtain ⟨y,e5,rfl⟩:=za3 e1;obtain ⟨ds2,e6,e5⟩:=obb e5;simp only [Option.some.injEq] at hf;subst hf;refine pi2.ok ((va1.up E1).view _) (hd.up E1) e6 λitems2 stay2 G2 E2 D2 hs2 _=>?_;have l2:(es++y).length<=sizeLine:=by
    rw [← hl] at hfin;simp at hfin ⊢;omega
   refine qhz pg2 pc2 pe (ρ0:=Z9 ρ0 bs) (G0:=G2) (λG3 E3=>hs2 G3 (.inr E3)) (λi hi=>?_) (es++y) l2 (λτ3 G3 zs va3 E3 hd3 gp3 hz=>?_) ds2 items2 ys es y _ G2 D2 ((va1.up E1).up E2) E0.refl ((hd.up E1).up E2) (E2 _ _ (E1 _ _ gp)) ((hy.up (jR E1)).up (jR E2)) e5 rfl
   ·rw [MI λq hq e=>hdj i hi (by rw [← e];exact pg.at' e3 q hq)];exact hm2 i hi
   ·have E4:E0 p G G3:=(E0.of (E1.trans E2)).trans E3;have va4:VA (λb=>D b\/b=p) G3 τ3 ρ0:=⟨by rw [← va3.len,NC],λi d' hd'=>va3.vw i d' (by
     rw [MI λq hq e=>?_];exact hd';rw [← e,hm _ (pg.at' e3 q hq)] at hd';cases hd')⟩
    exact qcu pg pc pi2 pg2 pc2 pe hs hm hm2 hdj fin hfin k ds items zs (es++y) Z1 τ3 G3 hr va4 (E.trans E4) hd3 gp3 hz e2 (by rw [← hl];simp)
  |false=>
   rw [if_neg y8];simp at e1;subst e1;simp only [Option.some.injEq] at hf;subst hf;exact qcu pg pc pi2 pg2 pc2 pe hs hm hm2 hdj fin hfin k ds items ys es Z1 _ G1 hr (va2.up E1) (E.trans (E0.of E1)) (hd.up E1) (E1 _ _ gp) (hy.up (jR E1)) e2 hl
def qng (pi:Rho->Option (List PyData)) (h:Rho->PyData->Option (Option (List PyData))) (m:List (Option Nat)) (ρ:Rho):Option PyData:=
 (pi ρ).bind λds=>(qhv (h (RA m ρ)) ds).bind λfs=>cif (fs.length<=sizeLine) (some (.list fs)) none
def WE {h:PyData->Option (Option (List PyData))} {α:Type} {g:α->PyData} {k:α->List PyData} {xs:List α} (hh:∀ a∈xs,h (g a)=some (some (k a))):qhv h (xs.map g)=some (xs.flatMap k):=by
 induction xs with
 |nil=>rfl
 |cons a r ih=>simp only [map_cons,qhv,hh a (by simp),Option.bind_some,ih λb hb=>hh b (by simp [hb]),List.flatMap_cons]
def qjh {wi wi2:TI3} {g g2:TG3} {tif tif2:TT3} {te:TE3} (pi:PuI wi) (pg:PuG g) (pc:PuC tif) (pi2:PuI wi2) (pg2:PuG g2) (pc2:PuC tif2) (pe:PuE te) (m:List (Option Nat)) (hm:Tru (pg.tg.all λi=>m[i]?==some none)) (hm2:Tru (pg2.tg.all λi=>m[i]?==some none)) (hdj:Tru (pg2.tg.all λi=>!pg.tg.contains i)):PuE (qdl wi g tif wi2 g2 tif2 te m):=
 ⟨qng pi.f (qkd pg.f pc.f pi2.f (lcH pg2.f pc2.f pe.f)) m,pi.fv++m.filterMap id,true,λ{D τ ρ G q d} hv hd hf k=>by
  unfold qng at hf;obtain ⟨ds,e1,hf⟩:=obb hf;obtain ⟨fs,e2,hf⟩:=obb hf;unfold cif at hf;split at hf
  ·rename_i hl;cases hf;refine pi.ok hv.l hd e1 λitems stay G1 E1 D1 hs _ p hp=>?_;have va:=(VA.cap (m:=m) hv.r).up E1;have np:∀ {b o},G1 b=some o->b≠p:=λe=>by rintro rfl;rw [hp] at e;cases e
   have X1:Ex (rs D G1) (rs (λb=>D b\/b=p) (gu G1 p (.lst []))):=λb o e=>by
    obtain ⟨n,e⟩:=qE e;rw [jO (by rintro (z|z);exact n z;exact np e z),zu (np e)];exact e
   refine qcu pg pc pi2 pg2 pc2 pe (D:=D) (ρ0:=RA m ρ) (G0:=gu G1 p (.lst [])) (p:=p) (λG2 E2=>hs G2 (.inr (X1.trans E2))) (λi hi=>RI ?_) (λi hi=>RI ?_) (λi hi hj=>?_) fs hl (λG2 ys E2 gp D2=>?_) ds items [] [] fs _ _ (D1.up X1) ⟨va.len,λi d hd=>let ⟨t,a,b⟩:=va.vw i d hd;⟨t,a,b.up X1⟩⟩ E0.refl ?_ qu .nil e2 (by simp)
   ·simpa using List.all_eq_true.mp hm.h i hi
   ·simpa using List.all_eq_true.mp hm2.h i hi
   ·have:=List.all_eq_true.mp hdj.h i hi;simp at this;exact this hj
   ·have EE:Ex G1 G2:=λb o e=>E2 b o (np e) (by rw [zu (np e)];exact e);have hdp:¬ D p:=λz=>(hd.up E1) p z hp;refine k _ _ (E1.trans EE) (.lst (by rw [jO hdp];exact gp) (D2.up (zL λb z=>.inl z))) λ_=>Nw.back (.inr ⟨p,ys,fs,rfl,rfl,hp,gp,D2⟩) E1
   ·intro b hb z;by_cases e:b=p
    ·subst e;rw [qu] at z;cases z
    ·rw [zu e] at z;rcases hb with hb|hb
     ·exact (hd.up E1) b hb z
     ·exact e hb
  ·cases hf⟩
def AD (D:Addr->Prop) (A:Nat->Addr->Prop) (b:Addr):Prop:=D b\/∃ i,A i b
def Ons (R G:Gp) (B:Addr->Prop) (qs:List Addr) (dss:List (List PyData)):Prop:=qs.length=dss.length/\∀ (j:Nat) (q:Addr) (ds:List PyData),qs[j]?=some q->dss[j]?=some ds->B q/\∃ ys,G q=some (.lst ys)/\Dqs R ys ds
def SlR (R G:Gp) (B:Addr->Prop) (t:Option (Option T)):Sl->Prop
 |.un=>True
 |.sh d=>∃ x,t=some (some x)/\Dq R x d
 |.ow ds=>∃ p xs,B p/\t=some (some (.ref p))/\G p=some (.lst xs)/\Dqs R xs ds
 |.dc kvs=>∃ p ks,B p/\t=some (some (.ref p))/\G p=some (.dct ks)/\ks.map (λq=>q.1)=kvs.map (λq=>q.1)/\Dqs R (ks.map λq=>q.2) (kvs.map λq=>q.2)
 |.on dss=>∃ p qs,B p/\t=some (some (.ref p))/\G p=some (.lst (qs.map T.ref))/\(p::qs).Nodup/\Ons R G B qs dss
 |.rg d=>∃ x,t=some (some x)/\Dq (rs (λb=>¬ B b) G) x d
section
variable {R R' G G':Gp} {B B':Addr->Prop} {t:Option (Option T)} {s:Sl}
def Ons.mono {qs:List Addr} {dss:List (List PyData)} (h:Ons R G B qs dss) (hr:Ex R R') (hg:∀ q∈qs,∀ o,B q->G q=some o->G' q=some o) (hb:∀ p,B p->B' p):Ons R' G' B' qs dss:=
 ⟨h.1,λj q ds a b=>let ⟨c,ys,d,e⟩:=h.2 j q ds a b;⟨hb _ c,ys,hg _ (v9 a) _ c d,e.up hr⟩⟩
theorem SlR.mono (h:SlR R G B t s) (hr:Ex R R') (hg:s≠.un->∀ p o,B p->G p=some o->G' p=some o) (hb:∀ p,B p->B' p):SlR R' G' B' t s:=by
 by_cases n:s=.un
 ·subst n;trivial
 replace hg:=hg n
 cases s with
 |un=>trivial
 |sh d=>obtain ⟨x,a,b⟩:=h;exact ⟨x,a,b.up hr⟩
 |ow ds=>obtain ⟨p,xs,a,b,c,d⟩:=h;exact ⟨p,xs,hb _ a,b,hg _ _ a c,d.up hr⟩
 |dc ds=>obtain ⟨p,xs,a,b,c,d,e⟩:=h;exact ⟨p,xs,hb _ a,b,hg _ _ a c,d,e.up hr⟩
 |on ds=>obtain ⟨p,xs,a,b,c,d,e⟩:=h;exact ⟨p,xs,hb _ a,b,hg _ _ a c,d,e.mono hr (λq _=>hg q) hb⟩
 |rg d=>obtain ⟨x,a,b⟩:=h;exact ⟨x,a,b.up λq o e=>by
   obtain ⟨n,e⟩:=qE e;rw [jO λz=>n λy=>z (hb q y)];exact hg q o (Classical.not_not.mp n) e⟩
theorem Ons.dqs:∀ {qs:List Addr} {dss:List (List PyData)},Ons R G B qs dss->Ex R R'->(∀ p o,B p->G p=some o->R' p=some o)->Dqs R' (qs.map T.ref) (dss.map PyData.list)
 |[],[],_,_,_=>.nil
 |q::qs,ds::dss,h,hr,hg=>by
  obtain ⟨a,ys,b,c⟩:=h.2 0 q ds rfl rfl;exact .cons (.lst (hg _ _ a b) (c.up hr)) (Ons.dqs ⟨by simpa using h.1,λj q ds x y=>h.2 (j+1) q ds x y⟩ hr hg)
 |[],_::_,h,_,_=>by cases h.1
 |_::_,[],h,_,_=>by cases h.1
def SlR.vis (h:SlR R G B t s) {d:PyData} (hs:s.d=some d) (hr:Ex R R') (hg:∀ p o,B p->G p=some o->R' p=some o):∃ x,t=some (some x)/\Dq R' x d:=by
 cases s with
 |un=>cases hs
 |sh d=>cases hs;obtain ⟨x,a,b⟩:=h;exact ⟨x,a,b.up hr⟩
 |ow ds=>cases hs;obtain ⟨p,xs,a,b,c,d⟩:=h;exact ⟨_,b,.lst (hg _ _ a c) (d.up hr)⟩
 |dc ds=>cases hs
 |on ds=>cases hs;obtain ⟨p,xs,a,b,c,d,e⟩:=h;exact ⟨_,b,.lst (hg _ _ a c) (e.dqs hr hg)⟩
 |rg d=>cases hs;obtain ⟨x,a,b⟩:=h;exact ⟨x,a,b.up λq o e=>by
   obtain ⟨n,e⟩:=qE e;exact hg q o (Classical.not_not.mp n) e⟩
end
structure RS (D:Addr->Prop) (G0:Gp) (A:Nat->Addr->Prop) (τ:St3) (ρ:Rho) (G:Gp):Prop where
 ex:Ex G0 G
 dm:Dom D G0
 fr:∀ i p,A i p->G0 p=none
 da:∀ i p,A i p->G p≠none
 inj:∀ i j p,A i p->A j p->i=j
 len:ρ.length=τ.length
 sl:∀ (i:Nat) (s:Sl),ρ[i]?=some s->SlR (rs (AD D A) G) G (A i) τ[i]? s
section
variable {D:Addr->Prop} {G0 G G':Gp} {A A':Nat->Addr->Prop} {τ:St3} {ρ:Rho}
theorem RS.sh (h:RS D G0 A τ ρ G) (i:Nat) (d:PyData) (e:ρ[i]?=some (Sl.sh d)):∃ t,τ[i]?=some (some t)/\Dq (rs (AD D A) G) t d:=h.sl i _ e
theorem RS.ow (h:RS D G0 A τ ρ G) (i:Nat) (ds:List PyData) (e:ρ[i]?=some (Sl.ow ds)):∃ p xs,A i p/\τ[i]?=some (some (.ref p))/\G p=some (.lst xs)/\Dqs (rs (AD D A) G) xs ds:=h.sl i _ e
def RS.nd (h:RS D G0 A τ ρ G) {i:Nat} {p:Addr} (e:A i p):¬ D p:=λz=>h.dm p z (h.fr i p e)
def RS.dom (h:RS D G0 A τ ρ G):Dom (AD D A) G:=λb hb=>by
 rcases hb with hb|⟨i,hi⟩
 ·exact (h.dm.up h.ex) b hb
 ·exact h.da i b hi
def RS.domD (h:RS D G0 A τ ρ G):Dom D G:=h.dm.up h.ex
def RS.keep (h:RS D G0 A τ ρ G) {W:Addr->Prop} (hg:∀ b o,¬ W b->G b=some o->G' b=some o) (hW:∀ b,W b->∃ j,A j b/\ρ[j]?=some Sl.un/\G' b≠none):RS D G0 A τ ρ G':=by
 have out:∀ b,W b->AD D A b:=λb z=>let ⟨j,a,_⟩:=hW b z;.inr ⟨j,a⟩
 have X:Ex (rs (AD D A) G) (rs (AD D A) G'):=λb o e=>by
  obtain ⟨n,e⟩:=qE e;rw [jO n];exact hg b o (λz=>n (out b z)) e
 refine ⟨λb o e=>hg b o (λz=>?_) (h.ex b o e),h.dm,h.fr,λi p a z=>?_,h.inj,h.len,λi s e=>(h.sl i s e).mono X (λnu p o a g=>hg p o (λz=>?_) g) λ_ z=>z⟩
 ·obtain ⟨j,a,_⟩:=hW b z;rw [h.fr j b a] at e;cases e
 ·by_cases c:W p
  ·obtain ⟨j,_,_,n⟩:=hW p c;exact n z
  ·cases g:G p with
   |none=>exact h.da i p a g
   |some o=>rw [hg p o c g] at z;cases z
 ·obtain ⟨j,b,u,_⟩:=hW p z;have:=h.inj i j p a b;subst this;rw [u] at e;cases e;exact nu rfl
def RS.up (h:RS D G0 A τ ρ G) (e:Ex G G'):RS D G0 A τ ρ G':=h.keep (W:=λ_=>False) (λb o _ z=>e b o z) λ_ z=>z.elim
def RS.viewAll (h:RS D G0 A τ ρ G) (fv:List Nat):C5 fv D G τ ρ:=λi _ d hd=>by
 unfold vw at hd;obtain ⟨s,e,hd⟩:=obb hd;exact (h.sl i s e).vis hd (zL λb z=>.inl z) λp o a g=>by rw [jO (h.nd a)];exact g
def RS.view (h:RS D G0 A τ ρ G) {fv:List Nat} (hn:∀ i∈fv,∀ p,¬ A i p):C5 fv (AD D A) G τ ρ:=λi hi d hd=>by
 unfold vw at hd;obtain ⟨s,e,hd⟩:=obb hd;exact (h.sl i s e).vis hd (λ_ _ z=>z) λp o a=>(hn i hi p a).elim
def Sl.dem:Sl->Sl
 |.ow ds=>.sh (.list ds)
 |.dc _=>.un
 |.on dss=>.sh (.list (dss.map PyData.list))
 |.rg d=>.sh d
 |s=>s
def dm:List Bool->Rho->Rho
 |b::m,s::r=>(match b with|true=>s.dem|false=>s)::dm m r
 |_,r=>r
def mkb (m:List Bool) (i:Nat):Bool:=(m[i]?).getD false
theorem qaj:∀ (m:List Bool) (ρ:Rho) (i:Nat),(dm m ρ)[i]?=(ρ[i]?).map λs=>if mkb m i=true then s.dem else s
 |[],ρ,i=>by simp [dm,mkb]
 |b::m,[],i=>by simp [dm]
 |b::m,s::r,0=>by cases b<;>simp [dm,mkb]
 |b::m,s::r,i+1=>by
  have:=qaj m r i;simp only [dm,x3,mkb] at this ⊢;exact this
def qqe (s:Sl):s.dem.d=s.d:=by cases s<;>rfl
def qqE (m:List Bool) (ρ:Rho) (i:Nat):vw (dm m ρ) i=vw ρ i:=by
 unfold vw;rw [qaj];cases ρ[i]? with
 |none=>rfl
 |some s=>
  simp only [Option.map_some,Option.bind_some];split
  ·exact qqe s
  ·rfl
theorem qfk:∀ (m:List Bool) (ρ:Rho),(dm m ρ).length=ρ.length
 |[],ρ=>rfl
 |b::m,[]=>rfl
 |b::m,s::r=>by simp [dm,qfk m r]
def Ad (m:List Bool) (A:Nat->Addr->Prop):Nat->Addr->Prop:=λi p=>A i p/\mkb m i=false
def qkk (s:Sl):s.dem=.un\/∃ d,s.dem=.sh d/\s.d=some d:=by cases s<;>simp [Sl.dem,Sl.d]
def RS.dem (h:RS D G0 A τ ρ G) (m:List Bool):RS D G0 (Ad m A) τ (Pu.dm m ρ) G:=by
 have less:Ex (rs (AD D A) G) (rs (AD D (Ad m A)) G):=zL λb z=>by
  rcases z with z|⟨i,z⟩
  ·exact .inl z
  ·exact .inr ⟨i,z.1⟩
 refine ⟨h.ex,h.dm,λi p e=>h.fr i p e.1,λi p e=>h.da i p e.1,λi j p a b=>h.inj i j p a.1 b.1,by rw [qfk];exact h.len,λi s e=>?_⟩;rw [qaj] at e;obtain ⟨s',e1,rfl⟩:=za3 e;have q:=h.sl i s' e1;split
 ·rename_i hm;rcases qkk s' with z|⟨d,z,hd⟩<;>rw [z]
  ·trivial
  ·refine q.vis hd less λp o a g=>?_;rw [jO]
   ·exact g
   ·rintro (z|⟨j,z⟩)
    ·exact h.nd a z
    ·have:=h.inj i j p a z.1;subst this;rw [z.2] at hm;cases hm
 ·rename_i hm;exact q.mono less (λ_ _ _ _ z=>z) λp z=>⟨z,by simpa using hm⟩
def RS.viewD (h:RS D G0 A τ ρ G) {m:List Bool} {fv:List Nat} (hm:Tru (fv.all (mkb m))):C5 fv (AD D (Ad m A)) G τ ρ:=by
 have:=(h.dem m).view (fv:=fv) λi hi p z=>by have q:=List.all_eq_true.mp hm.h i hi;rw [z.2] at q;cases q
 intro i hi d hd;exact this i hi d (by rw [qqE];exact hd)
def Rg (A:Nat->Addr->Prop) (i:Nat) (B:Addr->Prop):Nat->Addr->Prop:=λj p=>(j=i/\B p)\/(j≠i/\A j p)
def RS.upd (h:RS D G0 A τ ρ G) (i:Nat) {x:T} {s:Sl} {B W:Addr->Prop} (hg:∀ b o,¬ W b->G b=some o->G' b=some o) (hW:∀ b,W b->∃ j,A j b/\(j=i\/(ρ[j]?=some Sl.un/\G' b≠none))) (hB:∀ b,B b->(A i b\/G b=none)/\G' b≠none)
  (hs:Ex (rs (AD D A) G) (rs (AD D (Rg A i B)) G')->SlR (rs (AD D (Rg A i B)) G') G' B (some (some x)) s):RS D G0 (Rg A i B) (τ.set i (some x)) (ρ.set i s) G':=by
 have X:Ex (rs (AD D A) G) (rs (AD D (Rg A i B)) G'):=λb o e=>by
  obtain ⟨n,e⟩:=qE e;rw [jO]
  ·exact hg b o (λz=>let ⟨j,a,_⟩:=hW b z;n (.inr ⟨j,a⟩)) e
  ·rintro (z|⟨j,⟨rfl,z⟩|⟨_,z⟩⟩)
   ·exact n (.inl z)
   ·rcases (hB b z).1 with z|z
    ·exact n (.inr ⟨j,z⟩)
    ·rw [z] at e;cases e
   ·exact n (.inr ⟨j,z⟩)
 have ng:∀ p,G p=none->G0 p=none:=λp g=>by
  cases z:G0 p with
  |none=>rfl
  |some o=>rw [h.ex _ _ z] at g;cases g
 refine ⟨λb o e=>hg b o (λz=>?_) (h.ex b o e),h.dm,λj p e=>?_,λj p e=>?_,λj k p a b=>?_,by simp [h.len],λj s' e=>?_⟩
 ·obtain ⟨j,a,_⟩:=hW b z;rw [h.fr j b a] at e;cases e
 ·rcases e with ⟨rfl,z⟩|⟨_,z⟩
  ·rcases (hB p z).1 with z|z
   ·exact h.fr j p z
   ·exact ng p z
  ·exact h.fr j p z
 ·rcases e with ⟨rfl,z⟩|⟨n,z⟩
  ·exact (hB p z).2
  ·intro g;by_cases c:W p
   ·obtain ⟨k,a,b|⟨_,b⟩⟩:=hW p c
    ·exact n ((h.inj j k p z a).trans b)
    ·exact b g
   ·cases g':G p with
    |none=>exact h.da j p z g'
    |some o=>rw [hg p o c g'] at g;cases g
 ·rcases a with ⟨rfl,a⟩|⟨n,a⟩<;>rcases b with ⟨rfl,b⟩|⟨n',b⟩
  ·rfl
  ·rcases (hB p a).1 with z|z
   ·exact h.inj _ _ p z b
   ·exact absurd z (h.da k p b)
  ·rcases (hB p b).1 with z|z
   ·exact h.inj _ _ p a z
   ·exact absurd z (h.da j p a)
  ·exact h.inj j k p a b
 ·rw [getElem?_set] at e ⊢;split at e
  ·rename_i hj;subst hj;split at e
   ·rename_i hl;cases e;rw [if_pos rfl,if_pos (by rw [← h.len];exact hl)];exact (hs X).mono (λ_ _ z=>z) (λ_ _ _ _ z=>z) λp z=>.inl ⟨rfl,z⟩
   ·cases e
  ·rename_i hj;rw [if_neg hj];refine (h.sl j s' e).mono X (λnu p o a g=>hg p o (λz=>?_) g) λp z=>.inr ⟨λy=>hj y.symm,z⟩;obtain ⟨k,b,y|⟨y,_⟩⟩:=hW p z
   ·exact hj ((h.inj j k p a b).trans y).symm
   ·have:=h.inj j k p a b;subst this;rw [e] at y;cases y;exact nu rfl
abbrev Er (A:Nat->Addr->Prop) (i:Nat):Nat->Addr->Prop:=Rg A i λ_=>False
def qfE {i j:Nat} {p:Addr} (h:Er A i j p):A j p/\j≠i:=by
 rcases h with ⟨_,z⟩|⟨n,z⟩
 ·exact z.elim
 ·exact ⟨z,n⟩
def RS.put (h:RS D G0 A τ ρ G) (i:Nat) {x:T} {d:PyData} (hx:Dq (rs (AD D A) G) x d):RS D G0 (Er A i) (τ.set i (some x)) (ρ.set i (.sh d)) G:=
 h.upd i (W:=λ_=>False) (λ_ _ _ z=>z) (λ_ z=>z.elim) (λ_ z=>z.elim) λX=>⟨x,rfl,hx.up X⟩
theorem RS.puts:∀ {ts:List (Nat×T)} {bs:List (Nat×PyData)} {A:Nat->Addr->Prop} {τ:St3} {ρ:Rho},RS D G0 A τ ρ G->Bd (rs (AD D A) G) ts bs->∃ A',RS D G0 A' (sets τ ts) (Z9 ρ bs) G
 |_,_,A,_,_,h,.nil=>⟨A,h⟩
 |_,_,A,_,_,h,.cons (i:=i) a b=>by
  unfold sets Z9;exact RS.puts (h.put i a) (b.up (zL λb z=>by
   rcases z with z|⟨j,z⟩
   ·exact .inl z
   ·exact .inr ⟨j,(qfE z).1⟩))
def RS.putN (h:RS D G0 A τ ρ G) (i:Nat) {x:T} {d:PyData} {ds:List PyData} (hd:d=.list ds) (E:Ex G G') (hx:Nw (AD D A) G G' x d):RS D G0 (Rg A i λb=>x=.ref b) (τ.set i (some x)) (ρ.set i (.ow ds)) G':=by
 rcases hx with hx|⟨p,xs,ds',rfl,e',gp,gp',hs⟩
 ·rw [hd] at hx;cases hx
 rw [hd] at e';cases e';refine h.upd i (W:=λ_=>False) (λb o _ z=>E b o z) (λ_ z=>z.elim) (λb z=>by cases z;exact ⟨.inr gp,by rw [gp'];simp⟩) λ_=>⟨p,xs,rfl,rfl,gp',hs.up (zL λb z=>?_)⟩
 rcases z with z|⟨j,⟨_,z⟩|⟨_,z⟩⟩
 ·exact .inl (.inl z)
 ·cases z;exact .inr rfl
 ·exact .inl (.inr ⟨j,z⟩)
def WL {i:Nat} {t:Option T} (h:τ[i]?=some t):τ.set i t=τ:=by
 apply List.ext_getElem?;intro j;rw [getElem?_set];split
 ·rename_i e;subst e;split
  ·exact h.symm
  ·rename_i n;rw [List.getElem?_eq_none (by omega)] at h;cases h
 ·rfl
def LR {i:Nat}:Rg A i (A i)=A:=funext λj=>funext λp=>propext ⟨λz=>by
 rcases z with ⟨rfl,z⟩|⟨_,z⟩<;>exact z,λz=>by
 by_cases c:j=i
 ·subst c;exact .inl ⟨rfl,z⟩
 ·exact .inr ⟨c,z⟩⟩
def RS.wr (h:RS D G0 A τ ρ G) {i:Nat} {p:Addr} {xs:List T} {ds:List PyData} (hi:A i p) (ht:τ[i]?=some (some (.ref p))) (hs:Dqs (rs (AD D A) G) xs ds):RS D G0 A τ (ρ.set i (.ow ds)) (gu G p (.lst xs)):=by
 have:=h.upd i (G':=gu G p (.lst xs)) (x:=.ref p) (s:=.ow ds) (B:=A i) (W:=λb=>b=p) (λb o n z=>by rw [zu n];exact z) (λb z=>⟨i,by rw [z];exact hi,.inl rfl⟩) (λb z=>⟨.inl z,by
  by_cases c:b=p
  ·rw [c,qu];simp
  ·rw [zu c];exact h.da i b z⟩) λX=>⟨p,xs,hi,rfl,qu,hs.up X⟩
 rw [WL ht,LR] at this;exact this
def RS.base {Gb:Gp} (h:RS D Gb A τ ρ G) (e:Ex G0 Gb) (hd:Dom D G0):RS D G0 A τ ρ G:=
 ⟨e.trans h.ex,hd,(λi p a=>by
  cases z:G0 p with
  |none=>rfl
  |some o=>have:=h.fr i p a;rw [e _ _ z] at this;cases this),h.da,h.inj,h.len,h.sl⟩
end
inductive Ot where
 |nx (ρ:Rho)|bk (ρ:Rho)|ct (ρ:Rho)|rt (d:PyData) (fr:Bool)
def qjf (D:Addr->Prop) (G0:Gp) (e:Ends3):Ot->Prop
 |.nx ρ=>∀ A τ G,RS D G0 A τ ρ G->e.nx τ G
 |.bk ρ=>∀ A τ G,RS D G0 A τ ρ G->e.bk τ G
 |.ct ρ=>∀ A τ G,RS D G0 A τ ρ G->e.ct τ G
 |.rt d fr=>∀ x G,Ex G0 G->Dq (rs D G) x d->(fr=true->Nw D G0 G x d)->e.rt x G
theorem qjf.base {D:Addr->Prop} {G0 Gb:Gp} {e:Ends3} {o:Ot} (h:qjf D G0 e o) (x:Ex G0 Gb) (hd:Dom D G0):qjf D Gb e o:=by
 cases o with
 |nx ρ=>exact λA τ G r=>h A τ G (r.base x hd)
 |bk ρ=>exact λA τ G r=>h A τ G (r.base x hd)
 |ct ρ=>exact λA τ G r=>h A τ G (r.base x hd)
 |rt d fr=>exact λy G a b c=>h y G (x.trans a) b λz=>(c z).back x
structure PuS (t:TS3) where
 f:Nat->Rho->Option Ot
 ok:∀ {D G0 A τ ρ G n o} {e:Ends3},RS D G0 A τ ρ G->f n ρ=some o->qjf D G0 e o->t e τ G
def SR:PuS qZ:=⟨λ_ ρ=>some (.nx ρ),λh hf k=>by cases hf;exact k _ _ _ h⟩
def qq9:PuS WA:=⟨λ_ ρ=>none,λh hf k=>by cases hf⟩
def qoR (a b:Nat->Rho->Option Ot) (n:Nat) (ρ:Rho):Option Ot:=(a n ρ).bind λo=>match o with|.nx ρ'=>b n ρ'|o=>some o
def SJ {t u:TS3} (a:PuS t) (b:PuS u):PuS (qF t u):=⟨qoR a.f b.f,λ{D G0 A τ ρ G n o e} h hf k=>by
 unfold qoR at hf;obtain ⟨o1,e1,hf⟩:=obb hf;refine a.ok h e1 ?_;cases o1 with
 |nx ρ'=>exact λA' τ' G' h'=>b.ok h' hf k
 |bk ρ'=>cases hf;exact k
 |ct ρ'=>cases hf;exact k
 |rt d fr=>cases hf;exact k⟩
def sIf {c:TT3} {t u:TS3} (pc:PuC c) (a:PuS t) (b:PuS u):PuS (ZC c t u):=⟨λn ρ=>(pc.f ρ).bind λk=>if k then a.f n ρ else b.f n ρ,λh hf k=>by
 obtain ⟨o1,e1,hf⟩:=obb hf;refine pc.ok (h.viewAll _) h.domD e1 λG1 E1=>?_;cases o1 with
 |true=>exact a.ok (h.up E1) hf k
 |false=>exact b.ok (h.up E1) hf k⟩
def K9 {t:TE3} (a:PuE t):PuS (zm t):=⟨λ_ ρ=>(a.f ρ).map λd=>.rt d a.nw,λh hf k=>by
 obtain ⟨d,e1,rfl⟩:=za3 hf;exact a.ok (h.viewAll _) h.domD e1 λx G1 E1 D1 N1=>k x G1 (h.ex.trans E1) D1 λz=>(N1 z).back h.ex⟩
def qdj (ρ:Rho) (i:Nat):Option Ot:=match ρ[i]? with|some (.ow ds)=>some (.rt (.list ds) true)|some (.sh d)=>some (.rt d false)|_=>none
def qiv (i:Nat):PuS (zm (v3 i)):=⟨λ_ ρ=>qdj ρ i,λh hf k=>by
 unfold qdj at hf;split at hf
 ·rename_i ds e;cases hf;obtain ⟨p,xs,b,c,g,f⟩:=h.ow i _ e;simp only [zm,v3,c];refine k _ _ h.ex (.lst (by rw [jO (h.nd b)];exact g) (f.up (zL λb z=>.inl z))) λ_=>.inr ⟨p,xs,ds,rfl,rfl,h.fr i p b,g,f.up (zL λq z=>?_)⟩;rcases z with z|z
  ·exact .inl z
  ·subst z;exact .inr ⟨i,b⟩
 ·rename_i d e;cases hf;obtain ⟨t,b,c⟩:=h.sh i _ e;simp only [zm,v3,b];exact k _ _ h.ex (c.up (zL λb z=>.inl z)) (λz=>by cases z)
 ·cases hf⟩
def U0 {H H':Gp} {x:T} {d:PyData} (h:Dq H x d) (s:K1 d=true):Dq H' x d:=by
 cases h<;>first|(constructor;done)|(simp [K1] at s;done)
def qsr:PyData->Sl
 |.list ds=>.ow ds
 |d=>.sh d
def qaI (m:List Bool) (nw:Bool) (i:Nat) (d:PyData) (ρ:Rho):Rho:=if K1 d then ρ.set i (.sh d) else (dm m ρ).set i (if nw then qsr d else .sh d)
def qja {t:TE3} (a:PuE t) (i:Nat) (m:List Bool) (hm:Tru (a.fv.all (mkb m))):PuS (qN t (gn3 i)):=⟨λ_ ρ=>(a.f ρ).map λd=>.nx (qaI m a.nw i d ρ),λ{D G0 A τ ρ G n o e} h hf k=>by
 obtain ⟨d,e1,rfl⟩:=za3 hf;refine a.ok (h.viewD hm) (h.dem m).dom e1 λx G1 E1 D1 N1=>?_;unfold qaI at k;show e.nx (τ.set i (some x)) G1;split at k
 ·rename_i hs;exact k _ _ _ ((h.up E1).put i (U0 D1 hs))
 ·split at k
  ·rename_i hn;have N:=N1 hn;rcases id N with h2|⟨p,xs,ds,h1,h2,_⟩
   ·exact absurd h2 (by assumption)
   subst h2;exact k _ _ _ ((h.dem m).putN i rfl E1 N)
  ·exact k _ _ _ (((h.dem m).up E1).put i D1)⟩
def qak {t:TE3} {g:TG3} (a:PuE t) (pg:PuG g) (m:List Bool) (hm:Tru (a.fv.all (mkb m))):PuS (qN t g):=⟨λ_ ρ=>(a.f ρ).bind λd=>(pg.f d).map λbs=>.nx (Z9 (dm m ρ) bs),λ{D G0 A τ ρ G n o e} h hf k=>by
 obtain ⟨d,e1,hf⟩:=obb hf;obtain ⟨bs,e2,rfl⟩:=za3 hf;refine a.ok (h.viewD hm) (h.dem m).dom e1 λx G1 E1 D1 N1=>?_;obtain ⟨ts,bd,kg⟩:=pg.ok D1 e2;refine kg _ _ _ ?_;obtain ⟨A',h'⟩:=((h.dem m).up E1).puts bd;exact k _ _ _ h'⟩
def qoP (i j:Nat) (m:List Bool) (ds:List PyData) (ρ:Rho):Option Ot:=match ds with
 |[d,e]=>if K1 d&&K1 e then some (.nx ((ρ.set i (.sh d)).set j (.sh e))) else some (.nx (((dm m ρ).set i (.sh d)).set j (.sh e)))
 |_=>none
def qmD {D:Addr->Prop} {A:Nat->Addr->Prop} {G:Gp} {i:Nat}:Ex (rs (AD D A) G) (rs (AD D (Er A i)) G):=zL λb z=>by
 rcases z with z|⟨j,z⟩
 ·exact .inl z
 ·exact .inr ⟨j,(qfE z).1⟩
def slot (ρ:Rho) (i:Nat):Option (List PyData):=match ρ[i]? with|some (.ow ds)=>some ds|_=>none
def ZI {ρ:Rho} {i:Nat} {ds:List PyData} (h:slot ρ i=some ds):ρ[i]?=some (.ow ds):=by
 unfold slot at h;split at h
 ·rename_i e;cases h;exact e
 ·cases h
def dmS (m:List Bool) (d:PyData) (ρ:Rho):Rho:=if K1 d then ρ else dm m ρ
def RS.evalS {D:Addr->Prop} {G0 G:Gp} {A:Nat->Addr->Prop} {τ:St3} {ρ:Rho} (h:RS D G0 A τ ρ G) {t:TE3} (a:PuE t) (m:List Bool) (hm:Tru (a.fv.all (mkb m))) {d:PyData} (hf:a.f ρ=some d):∃ A1,RS D G0 A1 τ (dmS m d ρ) G/\∀ q:Q3,(∀ x G',Ex G G'->Dq (rs (AD D A1) G') x d->q x G')->t τ G q:=by
 unfold dmS;by_cases hs:K1 d=true
 ·rw [if_pos hs];exact ⟨A,h,λq k=>a.ok (h.viewAll _) h.domD hf λx G1 E1 D1 _=>k x G1 E1 (U0 D1 hs)⟩
 ·rw [if_neg hs];exact ⟨Ad m A,h.dem m,λq k=>a.ok (h.viewD hm) (h.dem m).dom hf λx G1 E1 D1 _=>k x G1 E1 D1⟩
def qkr (i:Nat) (d:PyData) (ρ:Rho):Option Ot:=(slot ρ i).bind λds=>cif (ds.length<sizeLine) (some (.nx (ρ.set i (.ow (ds++[d]))))) none
def qq7 {t:TE3} (a:PuE t) (i:Nat) (m:List Bool) (hm:Tru (a.fv.all (mkb m))):PuS (q5 (bm3 JO (v3 i) (qc t qk))):=⟨λ_ ρ=>(a.f ρ).bind λd=>qkr i d (dmS m d ρ),λ{D G0 A τ ρ G n o e} h hf k=>by
 obtain ⟨d,e1,hf⟩:=obb hf;obtain ⟨A1,h1,ev⟩:=h.evalS a m hm e1;unfold qkr at hf;obtain ⟨ds,e2,hf⟩:=obb hf;unfold cif at hf;split at hf
 ·rename_i hl;cases hf;obtain ⟨p,xs,b,c,g,f⟩:=h1.ow i _ (ZI e2);simp only [q5,bm3,v3,c,qO g];refine ⟨rfl,ev _ λx G1 E1 D1=>?_⟩;simp only [qk,JO,E1 _ _ g];exact ⟨by rw [f.length];exact hl,k _ _ _ ((h1.up E1).wr b c ((f.up (jR E1)).append (.cons D1 .nil)))⟩
 ·cases hf⟩
def ql4 {t:TE3} (a:PuE t):PuS (q5 t):=⟨λ_ ρ=>(a.f ρ).map λ_=>.nx ρ,λh hf k=>by
 obtain ⟨d,e1,rfl⟩:=za3 hf;exact a.ok (h.viewAll _) h.domD e1 λx G1 E1 D1 N1=>k _ _ _ (h.up E1)⟩
def T4 (gf:PyData->Option (List (Nat×PyData))) (bf:Rho->Option Ot):List PyData->Rho->Option Ot
 |[],ρ=>some (.nx ρ)
 |d::r,ρ=>(gf d).bind λbs=>(bf (Z9 ρ bs)).bind λo=>match o with
  |.nx ρ'=>T4 gf bf r ρ'
  |.ct ρ'=>T4 gf bf r ρ'
  |.bk ρ'=>some (.nx ρ')
  |.rt d b=>some (.rt d b)
theorem NF {stay:Gp->Prop} {g:TG3} {tb:TS3} {e:Ends3} (pg:PuG g) (pb:PuS tb) {D:Addr->Prop} {G0:Gp} {n:Nat} {o:Ot} {items0:List T} (hs:∀ A τ ρ G,RS D G0 A τ ρ G->stay G) (k:qjf D G0 e o) :
  ∀ (ds:List PyData) (items:List T),(∀ A τ ρ G,RS D G0 A τ ρ G->Dqs (rs (AD D A) G) items ds)->∀ A τ ρ G,RS D G0 A τ ρ G->T4 pg.f (pb.f n) ds ρ=some o->SE stay g tb e items τ G
 |[],items,hi,A,τ,ρ,G,h,hf=>by
  cases hf;have:=hi _ _ _ _ h;cases this;exact ⟨hs _ _ _ _ h,k _ _ _ h⟩
 |d::ds,items,hi,A,τ,ρ,G,h,hf=>by
  have hh:=hi _ _ _ _ h;cases hh with
  |cons hx hr=>
   rename_i x items;unfold T4 at hf;obtain ⟨bs,e1,hf⟩:=obb hf;obtain ⟨o1,e2,hf⟩:=obb hf;obtain ⟨ts,bd,kg⟩:=pg.ok hx e1;refine ⟨hs _ _ _ _ h,kg _ _ _ ?_⟩;obtain ⟨A',h'⟩:=h.puts bd;refine pb.ok h' e2 ?_;have hi':∀ A τ ρ G,RS D G0 A τ ρ G->Dqs (rs (AD D A) G) items ds:=λA τ ρ G h=>by
    have:=hi _ _ _ _ h;cases this with
    |cons a b=>exact b
   cases o1 with
   |nx ρ'=>exact λA2 τ2 G2 h2=>NF (items0:=items0) pg pb hs k ds items hi' _ _ _ _ h2 hf
   |ct ρ'=>exact λA2 τ2 G2 h2=>NF (items0:=items0) pg pb hs k ds items hi' _ _ _ _ h2 hf
   |bk ρ'=>cases hf;exact k
   |rt d fr=>cases hf;exact k
def qoH (pi:Rho->Option (List PyData)) (nm:Bool) (m:List Bool) (gf:PyData->Option (List (Nat×PyData))) (bf:Nat->Rho->Option Ot) (n:Nat) (ρ:Rho):Option Ot:=(pi ρ).bind λds=>T4 gf (bf n) ds (if nm then ρ else dm m ρ)
def qjt {wi:TI3} {g:TG3} {tb:TS3} (pi:PuI wi) (pg:PuG g) (pb:PuS tb) (m:List Bool) (hm:Tru (pi.fv.all (mkb m))):PuS (C8 wi g tb):=⟨qoH pi.f pi.nm m pg.f pb.f,λ{D G0 A τ ρ G n o e} h hf k=>by
 unfold qoH at hf;obtain ⟨ds,e1,hf⟩:=obb hf;refine pi.ok (h.viewD hm) (h.dem m).dom e1 λitems stay G1 E1 D1 hs hnm=>?_;cases hb:pi.nm with
 |true=>
  rw [hb,if_pos rfl] at hf;obtain ⟨ns,rfl⟩:=hnm hb;have:=D1.ints;subst this;exact NF (items0:=[]) pg pb (λ_ _ _ _ _=>hs _ (.inl hb)) k _ _ (λA τ ρ G _=>Dqs.ofInts _) _ _ _ _ (h.up E1) hf
 |false=>
  rw [hb,if_neg y8] at hf;have h1:=(h.dem m).up E1;have b1:Ex G0 (rs (λb=>∃ i,Ad m A i b) G1):=λb o e=>by
   rw [jO]
   ·exact h1.ex _ _ e
   ·rintro ⟨i,z⟩;rw [h1.fr i _ z] at e;cases e
  have h2:RS D (rs (λb=>∃ i,Ad m A i b) G1) (Ad m A) τ (dm m ρ) G1:=⟨VI,h.dm.up b1,λi p z=>by unfold rs;exact zB ⟨i,z⟩,h1.da,h1.inj,h1.len,h1.sl⟩
  have X:∀ A2 τ2 ρ2 G2,RS D (rs (λb=>∃ i,Ad m A i b) G1) A2 τ2 ρ2 G2->Ex (rs (AD D (Ad m A)) G1) (rs (AD D A2) G2):=λA2 τ2 ρ2 G2 r b o e=>by
   obtain ⟨n1,e⟩:=qE e;have eb:rs (λb=>∃ i,Ad m A i b) G1 b=some o:=by rw [jO (λz=>n1 (.inr z))];exact e
   rw [jO]
   ·exact r.ex _ _ eb
   ·rintro (z|⟨i,z⟩)
    ·exact n1 (.inl z)
    ·rw [r.fr i _ z] at eb;cases eb
  exact NF (items0:=[]) pg pb (λA2 τ2 ρ2 G2 r=>hs _ (.inr ((X _ _ _ _ r).trans VI))) (k.base b1 h.dm) _ _ (λA2 τ2 ρ2 G2 r=>D1.up (X _ _ _ _ r)) _ _ _ _ h2 hf⟩
def WH (fr:Bool):Option Ot->Option PyData
 |some (.rt d b)=>if fr=true/\b=false then (match d with|.none=>some .none|_=>none) else some d
 |some (.nx _)=>if fr then none else some .none
 |_=>none
def st (ds:List PyData) (N:Nat):Rho:=ds.map Sl.sh++List.replicate (N-ds.length) .un
def qhZ {D:Addr->Prop} {G:Gp} {ts:List T} {ds:List PyData} (N:List Str) (hs:Dqs (rs D G) ts ds) (hd:Dom D G):RS D G (λ_ _=>False) (qm N ts) (st ds N.length) G:=by
 refine ⟨Ex.refl,hd,(λi p e=>e.elim),(λi p e=>e.elim),(λi j p e=>e.elim),(by simp [st,qm,hs.length]),λi s e=>?_⟩;unfold st at e;unfold qm;by_cases hi:i<ds.length
 ·rw [List.getElem?_append_left (by simpa using hi),getElem?_map] at e;obtain ⟨d2,e3,rfl⟩:=za3 e;obtain ⟨x,e5,hx⟩:=hs.get e3;refine ⟨x,?_,hx.up (zL λb z=>?_)⟩
  ·rw [List.getElem?_append_left (by simp [hs.length];exact hi),getElem?_map,e5];rfl
  ·rcases z with z|⟨i,z⟩
   ·exact z
   ·exact z.elim
 ·rw [List.getElem?_append_right (by simpa using hi),List.getElem?_replicate] at e;split at e<;>cases e
  trivial
def run (f:Nat->Rho->Option Ot) (k N n:Nat) (fr:Bool) (ds:List PyData):Option PyData:=if ds.length=k then WH fr (f n (st ds N)) else none
def jB {t:TS3} (b:PuS t) (N:List Str) (k n:Nat) (fr:Bool):∀ ts G q,PSp (run b.f k N.length n fr) fr ts G q->ts.length=k/\t { nx:=λ_ G'=>q .non G',rt:=q } (qm N ts) G:=by
 rintro ts G q ⟨D,ds,d,hs,hd,hf,h⟩;unfold run at hf;split at hf
 ·rename_i hk;refine ⟨by rw [hs.length];exact hk,?_⟩;have r:=qhZ N hs hd;unfold WH at hf;split at hf
  ·rename_i d' b' e;split at hf
   ·split at hf
    ·cases hf;exact b.ok r e λx G' a c z=>h x G' a c λ_=>.inl rfl
    ·cases hf
   ·rename_i hb;cases hf;exact b.ok r e λx G' a c z=>h x G' a c λw=>z (by
     cases b' with
     |true=>rfl
     |false=>exact absurd ⟨w,rfl⟩ hb)
  ·rename_i ρ' e;split at hf
   ·cases hf
   ·rename_i hb;cases hf;exact b.ok r e λA τ G' r'=>h .non G' r'.ex .non λw=>absurd w hb
  ·cases hf
 ·cases hf
def qeG {fr:Bool}:∀ ts G q,PSp (λ_=>none) fr ts G q->False:=λts G q ⟨_,_,_,_,_,h,_⟩=>by cases h
def Fn3.pz {P:Program} {w:World} {K:Frg} {mg:Str->Option Value} {base:Heap} {k:Nat} {x:Str} {sp:Sp3} (F:Fn3 P w K mg base k x sp) (fr:Bool):Fn3 P w K mg base k x (PSp (λ_=>none) fr):=F.imp λts G q h=>(qeG ts G q h).elim
def qrq {i:Nat}:(bV i).f=λρ=>vw ρ i:=id rfl
def qeY {i:Int}:(QR i).f=λ_=>some (.int i):=id rfl
def qkx {i:Bool}:(bBl i).f=λ_=>some (.bool i):=id rfl
def qgc {i:Str}:(qaA i).f=λ_=>some (.str i):=id rfl
def qrF {r:R3} {ta tb:TE3} {R:OpD r} {a:PuE ta} {b:PuE tb}:(bO R a b).f=λρ=>(a.f ρ).bind λx=>(b.f ρ).bind λy=>R.f x y:=id rfl
def qgt:qC.f=λ_=>some []:=id rfl
def qcQ {ta:TE3} {tr:TA3} {a:PuE ta} {r:PuA tr}:(qg a r).f=λρ=>(a.f ρ).bind λx=>(r.f ρ).bind λxs=>some (x::xs):=id rfl
def qfu {t:TA3} {a:PuA t} {hn:Tru (Nat.ble a.n 1000)}:(DE a hn).f=λρ=>(a.f ρ).map .tuple:=id rfl
def qeU {t:TA3} {a:PuA t} {hn:Tru (Nat.ble a.n 1000)}:(X0 a hn).f=λρ=>(a.f ρ).map .list:=id rfl
def qbJ {r:List T->Gp->Q3->Prop} {t:TA3} {R:FnD r} {a:PuA t}:(qK R a).f=λρ=>(a.f ρ).bind R.f:=id rfl
def qmk {t:TE3} {a:PuE t}:(bTb a).f=λρ=>(a.f ρ).bind asB:=id rfl
def qjn {t u:TT3} {a:PuC t} {b:PuC u}:(bOr a b).f=λρ=>(a.f ρ).bind λk=>if k then some true else b.f ρ:=id rfl
def qe5 {t:TT3} {a:PuC t}:(qi0 a).f=λρ=>(a.f ρ).map (! ·):=id rfl
def qk6:bTt.f=λ_=>some true:=id rfl
def qc0 {ta tb:TE3} {a:PuE ta} {b:PuE tb}:(T5 a b).f=λρ=>((a.f ρ).bind asB).bind λk=>if k then b.f ρ else some (.bool false):=id rfl
def qfy {ta tb:TE3} {a:PuE ta} {b:PuE tb}:(qqO a b).f=λρ=>((a.f ρ).bind asB).bind λk=>if k then some (.bool true) else b.f ρ:=id rfl
def qce {ta:TE3} {a:PuE ta}:(qnv a).f=λρ=>((a.f ρ).bind asB).map λk=>.bool (!k):=id rfl
def qjP {t:TT3} {ta tb:TE3} {c:PuC t} {a:PuE ta} {b:PuE tb}:(bIf c a b).f=λρ=>(c.f ρ).bind λk=>if k then a.f ρ else b.f ρ:=id rfl
def qeS {ta:TE3} {g:String->Bool} {a:PuE ta}:(qi9 g a).f=λρ=>(a.f ρ).bind λd=>(tyD d).map λt=>.bool (g t):=id rfl
def qn9:bNp.f=λ_=>some none:=id rfl
def ql7 {t:TE3} {a:PuE t}:(bSp a).f=λρ=>((a.f ρ).bind asI).map some:=id rfl
def qnC {te:TE3} {tl th:TO3} {a:PuE te} {l:PuO tl} {h:PuO th}:(bSl a l h).f=λρ=>(a.f ρ).bind λd=>(l.f ρ).bind λlo=>(h.f ρ).bind λhi=>slD d lo hi:=id rfl
def qcP {te:TE3} {a:PuE te}:(qmJ a).f=λρ=>(a.f ρ).bind qcx:=id rfl
def qjq {wi:TI3} {g:TG3} {tif:TT3} {te:TE3} {pi:PuI wi} {pg:PuG g} {pc:PuC tif} {pe:PuE te} {m:List (Option Nat)} {hm:Tru (pg.tg.all λi=>m[i]?==some none)}:(bLc pi pg pc pe m hm).f=lcF pi.f (lcH pg.f pc.f pe.f) m:=id rfl
def qf7 {wi wi2:TI3} {g g2:TG3} {tif tif2:TT3} {te:TE3} {pi:PuI wi} {pg:PuG g} {pc:PuC tif} {pi2:PuI wi2} {pg2:PuG g2} {pc2:PuC tif2} {pe:PuE te} {m:List (Option Nat)} {hm:Tru (pg.tg.all λi=>m[i]?==some none)} {hm2:Tru (pg2.tg.all λi=>m[i]?==some none)} {hdj:Tru (pg2.tg.all λi=>!pg.tg.contains i)}:(qjh pi pg pc pi2 pg2 pc2 pe m hm hm2 hdj).f=qng pi.f (qkd pg.f pc.f pi2.f (lcH pg2.f pc2.f pe.f)) m:=id rfl
def qfZ:qgB.f=qnj:=id rfl
def qgd:qjH.f=qnL:=id rfl
def qgg:qdk.f=qoy:=id rfl
def qe2:qmY.f=qlK:=id rfl
def qaX {F:List PyData->Option PyData} {fr:Bool}:(Q1 F fr).f=F:=id rfl
def qmh {g:Int->Int->Bool} {i j:Int}:(opB g).f (.int i) (.int j)=some (.bool (g i j)):=id rfl
def qlO {C:Int->Int->Prop} {g:Int->Int->Int}:(opC C g).f=cI C g:=id rfl
def qgK {n:Bool}:(NY n).f=eqD n:=id rfl
def qcB {n:Bool}:(qdU n).f=qoJ n:=id rfl
def qe8:qaL.f=ixD:=id rfl
def qbc:W5.f=qoL:=id rfl
def NW:KZ.f=qjg:=id rfl
def qfY {t:TE3} {a:PuE t}:(qaJ a).f=λρ=>(a.f ρ).bind LI:=id rfl
def qfI {t:TA3} {a:PuA t}:(CL a).f=λρ=>(a.f ρ).bind qhJ:=id rfl
def qfr {t:TA3} {a:PuA t}:(qqn a).f=λρ=>(a.f ρ).bind λds=>match ds with|[d,e]=>(LI d).bind λus=>(LI e).bind λvs=>some (qhI us vs)|_=>none:=id rfl
def qcb {t:TA3} {a:PuA t}:(qhD a).f=λρ=>(a.f ρ).bind λds=>match ds with|[d]=>(LI d).map λus=>enD 0 us|_=>none:=id rfl
def qdc {t:TE3} {a:PuE t}:(qaJ a).nm=false:=id rfl
def qck {t:TA3} {a:PuA t}:(qqn a).nm=false:=id rfl
def NH {t:TA3} {a:PuA t}:(qhD a).nm=false:=id rfl
def qci {t:TA3} {a:PuA t}:(CL a).nm=true:=id rfl
def qrk {i:Nat}:(gN i).f=λd=>some [(i,d)]:=id rfl
def qgj:qao.f []=some []:=id rfl
def qb0 {t:TG3} {u:LD} {a:PuG t} {b:PuGs u} {d:PyData} {r:List PyData}:(jK a b).f (d::r)=(a.f d).bind λx=>(b.f r).map λy=>x++y:=id rfl
def qfK {u:LD} {n:Nat} {b:PuGs u} {ds:List PyData}:(qaF n b).f (.tuple ds)=if ds.length=n then b.f ds else none:=id rfl
def qbL:SR.f=λ_ ρ=>some (.nx ρ):=id rfl
def qfi {t u:TS3} {a:PuS t} {b:PuS u}:(SJ a b).f=qoR a.f b.f:=id rfl
def qmI {c:TT3} {t u:TS3} {pc:PuC c} {a:PuS t} {b:PuS u}:(sIf pc a b).f=λn ρ=>(pc.f ρ).bind λk=>if k then a.f n ρ else b.f n ρ:=id rfl
def qeP {t:TE3} {a:PuE t}:(K9 a).f=λ_ ρ=>(a.f ρ).map λd=>.rt d a.nw:=id rfl
def qbU {i:Nat}:(qiv i).f=λ_ ρ=>qdj ρ i:=id rfl
def qgr {t:TE3} {a:PuE t} {i:Nat} {m:List Bool} {hm:Tru (a.fv.all (mkb m))}:(qja a i m hm).f=λ_ ρ=>(a.f ρ).map λd=>.nx (qaI m a.nw i d ρ):=id rfl
def qdh {t:TE3} {g:TG3} {a:PuE t} {pg:PuG g} {m:List Bool} {hm:Tru (a.fv.all (mkb m))}:(qak a pg m hm).f=λ_ ρ=>(a.f ρ).bind λd=>(pg.f d).map λbs=>.nx (Z9 (dm m ρ) bs):=id rfl
def qgJ {t:TE3} {a:PuE t} {i:Nat} {m:List Bool} {hm:Tru (a.fv.all (mkb m))}:(qq7 a i m hm).f=λ_ ρ=>(a.f ρ).bind λd=>qkr i d (dmS m d ρ):=id rfl
def qa9 {t:TE3} {a:PuE t}:(ql4 a).f=λ_ ρ=>(a.f ρ).map λ_=>.nx ρ:=id rfl
def qgG {wi:TI3} {g:TG3} {tb:TS3} {pi:PuI wi} {pg:PuG g} {pb:PuS tb} {m:List Bool} {hm:Tru (pi.fv.all (mkb m))}:(qjt pi pg pb m hm).f=qoH pi.f pi.nm m pg.f pb.f:=id rfl
def qeQ {i:Bool}:(bBl i).nw=false:=id rfl
def qlF {r:R3} {ta tb:TE3} {R:OpD r} {a:PuE ta} {b:PuE tb}:(bO R a b).nw=R.nw:=id rfl
def qbH {t:TA3} {a:PuA t} {hn:Tru (Nat.ble a.n 1000)}:(X0 a hn).nw=true:=id rfl
def NE {r:List T->Gp->Q3->Prop} {t:TA3} {R:FnD r} {a:PuA t}:(qK R a).nw=R.nw:=id rfl
def NL {F:List PyData->Option PyData} {fr:Bool}:(Q1 F fr).nw=fr:=id rfl
def ND {ta tb:TE3} {a:PuE ta} {b:PuE tb}:(T5 a b).nw=false:=id rfl
def qco {ta tb:TE3} {a:PuE ta} {b:PuE tb}:(qqO a b).nw=false:=id rfl
def qfO {t:TT3} {ta tb:TE3} {c:PuC t} {a:PuE ta} {b:PuE tb}:(bIf c a b).nw=false:=id rfl
def qfH {wi:TI3} {g:TG3} {tif:TT3} {te:TE3} {pi:PuI wi} {pg:PuG g} {pc:PuC tif} {pe:PuE te} {m:List (Option Nat)} {hm:Tru (pg.tg.all λi=>m[i]?==some none)}:(bLc pi pg pc pe m hm).nw=true:=id rfl
def qcV {wi wi2:TI3} {g g2:TG3} {tif tif2:TT3} {te:TE3} {pi:PuI wi} {pg:PuG g} {pc:PuC tif} {pi2:PuI wi2} {pg2:PuG g2} {pc2:PuC tif2} {pe:PuE te} {m:List (Option Nat)} {hm:Tru (pg.tg.all λi=>m[i]?==some none)} {hm2:Tru (pg2.tg.all λi=>m[i]?==some none)} {hdj:Tru (pg2.tg.all λi=>!pg.tg.contains i)}:(qjh pi pg pc pi2 pg2 pc2 pe m hm hm2 hdj).nw=true:=id rfl
def qbu:qgB.nw=false:=id rfl
def qcN:qdk.nw=false:=id rfl
def qbP:qmY.nw=false:=id rfl
def qcg:qaL.nw=false:=id rfl
def MQ:W5.nw=false:=id rfl
def T8:KZ.nw=true:=id rfl
def qbi {n:Bool}:(NY n).nw=false:=id rfl
def qrr {s:Sl} {r:Rho}:vw (s::r) 0=s.d:=id rfl
def qrs {s:Sl} {r:Rho} {i:Nat}:vw (s::r) (i+1)=vw r i:=id rfl
def qoi {d:PyData}:(Sl.sh d).d=some d:=id rfl
def qnT {ds:List PyData}:(Sl.ow ds).d=some (.list ds):=id rfl
def qaU {r:Rho} {ds:List PyData}:slot (.ow ds::r) 0=some ds:=id rfl
def qe7 {s:Sl} {r:Rho} {i:Nat}:slot (s::r) (i+1)=slot r i:=id rfl
def qbO {r:Rho} {ds:List PyData}:qdj (.ow ds::r) 0=some (.rt (.list ds) true):=id rfl
def qbW {r:Rho} {d:PyData}:qdj (.sh d::r) 0=some (.rt d false):=id rfl
def qfq {s:Sl} {r:Rho} {i:Nat}:qdj (s::r) (i+1)=qdj r i:=id rfl
def qmB {xs:List PyData} {i:Int}:ixD (.tuple xs) (.int i)=L2.atI xs i:=id rfl
def qjN {xs:List PyData} {i:Int}:ixD (.list xs) (.int i)=L2.atI xs i:=id rfl
def at0 {α:Type} {a:α} {r:List α}:L2.atI (a::r) 0=some a:=by simp [L2.atI,ixN]
def at1 {α:Type} {a b:α} {r:List α}:L2.atI (a::b::r) 1=some b:=by
 have h:ixN (a::b::r).length 1=some 1:=by unfold ixN;rw [if_pos (by omega),if_pos (by simp;omega)];rfl
 unfold L2.atI;rw [h];rfl
def atN {α:Type} {xs:List α} {k:Nat} (h:k<xs.length):L2.atI xs (k:Int)=xs[k]?:=by
 have e:ixN xs.length (k:Int)=some k:=by unfold ixN;rw [if_pos (by omega),if_pos (by omega)];rfl
 unfold L2.atI;rw [e];rfl
def eqS {n:Bool} {a b:Str}:eqD n (.str a) (.str b)=some (.bool (if n then !decide (a=b) else decide (a=b))):=id rfl
def eqI {n:Bool} {a b:Int}:eqD n (.int a) (.int b)=some (.bool (if n then !decide (a=b) else decide (a=b))):=id rfl
def qiV {C:Int->Int->Prop} {g:Int->Int->Int} {i j:Int} (h:C i j):cI C g (.int i) (.int j)=some (.int (g i j)):=by simp only [cI];exact zB h
def WT {i j:Int} (h:-1000000<i/\i<1000000):cI US (·*·) (.int i) (.int j)=some (.int (i*j)):=qiV (.inl ⟨by omega,by omega⟩)
def qnD {i j:Int} (h:0<j):cI (λ_ j=>0<j) (·%·) (.int i) (.int j)=some (.int (i%j)):=qiV h
def qfV {i j:Int} (h:0<j/\j<1073741824):cI LG (·/·) (.int i) (.int j)=some (.int (i/j)):=qiV h
def qrh {i j:Int}:qoL (.int i) (.int j)=some (.int (i+j)):=id rfl
def LC {j:Int} (h:-1000000000<=j/\j<1000000000):qhJ [.int j]=some ((jg 0 j.toNat).map PyData.int):=by simp only [qhJ];exact zB ⟨by omega,by omega⟩
def qru {i j:Int} (h:-1000000000<=i/\i<1000000000/\-1000000000<=j/\j<1000000000):qhJ [.int i,.int j]=some ((jg i (j-i).toNat).map PyData.int):=by simp only [qhJ];exact zB ⟨by omega,by omega,by omega,by omega⟩
def ZR {pi:Rho->Option (List PyData)} {h:Rho->PyData->Option (Option PyData)} {m:List (Option Nat)} {ρ:Rho} {ds fs:List PyData} (h1:pi ρ=some ds) (h2:lcP (h (RA m ρ)) ds=some fs) (h3:fs.length<=16777216):lcF pi h m ρ=some (.list fs):=by unfold lcF;rw [h1];simp only [Option.bind_some,h2];exact zB h3
def RK {pi:Rho->Option (List PyData)} {h:Rho->PyData->Option (Option (List PyData))} {m:List (Option Nat)} {ρ:Rho} {ds fs:List PyData} (h1:pi ρ=some ds) (h2:qhv (h (RA m ρ)) ds=some fs) (h3:fs.length<=16777216):qng pi h m ρ=some (.list fs):=by unfold qng;rw [h1];simp only [Option.bind_some,h2];exact zB h3
def qiF {i:Nat} {d:PyData} {ρ:Rho} {ds:List PyData} (h:slot ρ i=some ds) (hl:ds.length<16777216):qkr i d ρ=some (.nx (ρ.set i (.ow (ds++[d])))):=by unfold qkr;rw [h];simp only [Option.bind_some];exact zB hl
def qdx {gf:PyData->Option (List (Nat×PyData))} {bf:Rho->Option Ot} {α:Type} {g:α->PyData} (xs:List α) (I:Nat->Rho->Prop) {ρ:Rho} (h0:I 0 ρ)
  (hs:∀ i x ρ,xs[i]?=some x->I i ρ->∃ bs ρ',gf (g x)=some bs/\(bf (Z9 ρ bs)=some (.nx ρ')\/bf (Z9 ρ bs)=some (.ct ρ'))/\I (i+1) ρ'):∃ ρ',T4 gf bf (xs.map g) ρ=some (.nx ρ')/\I xs.length ρ':=by
 have key:∀ (r:List α) (i:Nat) (ρ:Rho),xs.drop i=r->i<=xs.length->I i ρ->∃ ρ',T4 gf bf (r.map g) ρ=some (.nx ρ')/\I xs.length ρ':=by
  intro r;induction r with
  |nil=>
   intro i ρ e hi h;have:i=xs.length:=by
    have:=congrArg List.length e;simp at this;omega
   subst this;exact ⟨ρ,rfl,h⟩
  |cons x r ih=>
   intro i ρ e hi h;have hl:i<xs.length:=by
    have:=congrArg List.length e;simp at this;omega
   have e':=List.drop_eq_getElem_cons hl;rw [e] at e';injection e' with e1 e2;obtain ⟨bs,ρ',h1,h2,h3⟩:=hs i x ρ (by rw [v0 hl,e1]) h;obtain ⟨ρ2,h4,h5⟩:=ih (i+1) ρ' e2.symm hl h3;refine ⟨ρ2,?_,h5⟩;simp only [map_cons,T4,h1,Option.bind_some];rcases h2 with h2|h2<;>(rw [h2];exact h4)
 exact key xs 0 ρ (by simp) (Nat.zero_le _) h0
def qc1 {gf:PyData->Option (List (Nat×PyData))} {bf:Rho->Option Ot} {α:Type} {g:α->PyData} (xs:List α) (n:Nat) (x:α) (hn:xs[n]?=some x) (I:Nat->Rho->Prop) {ρ:Rho} {o:Ot} (h0:I 0 ρ)
  (hs:∀ i x ρ,i<n->xs[i]?=some x->I i ρ->∃ bs ρ',gf (g x)=some bs/\(bf (Z9 ρ bs)=some (.nx ρ')\/bf (Z9 ρ bs)=some (.ct ρ'))/\I (i+1) ρ')
  (he:∀ ρ,I n ρ->∃ bs,gf (g x)=some bs/\((∃ d b,o=.rt d b/\bf (Z9 ρ bs)=some (.rt d b))\/∃ ρ',o=.nx ρ'/\bf (Z9 ρ bs)=some (.bk ρ'))):T4 gf bf (xs.map g) ρ=some o:=by
 have hl:=(za4 hn).1;have key:∀ (k i:Nat) (ρ:Rho),i+k=n->I i ρ->T4 gf bf ((xs.drop i).map g) ρ=some o:=by
  intro k;induction k with
  |zero=>
   intro i ρ e h;have:i=n:=by omega
   subst this;obtain ⟨bs,h1,h2⟩:=he ρ h;rw [List.drop_eq_getElem_cons hl];have ex:xs[i]=x:=by
    rw [v0 hl] at hn;exact Option.some.inj hn
   rw [ex];simp only [map_cons,T4,h1,Option.bind_some];rcases h2 with ⟨d,b,rfl,h2⟩|⟨ρ',rfl,h2⟩<;>(rw [h2];rfl)
  |succ k ih=>
   intro i ρ e h;have hi:i<xs.length:=by omega
   obtain ⟨bs,ρ',h1,h2,h3⟩:=hs i xs[i] ρ (by omega) (v0 hi) h;rw [List.drop_eq_getElem_cons hi];simp only [map_cons,T4,h1,Option.bind_some];rcases h2 with h2|h2<;>(rw [h2];exact ih (i+1) ρ' (by omega) h3)
 exact key n 0 ρ (by omega) h0
def sqk (b:Nat->Rho->Option Ot) (n:Nat) (o:Ot):Option Ot:=match o with|.nx ρ'=>b n ρ'|o=>some o
def qf9 {a b:Nat->Rho->Option Ot} {n:Nat} {ρ:Rho}:qoR a b n ρ=(a n ρ).bind (sqk b n):=id rfl
def qf6 {b:Nat->Rho->Option Ot} {n:Nat} {ρ:Rho}:sqk b n (.nx ρ)=b n ρ:=id rfl
def qgh {b:Nat->Rho->Option Ot} {n:Nat} {d:PyData} {f:Bool}:sqk b n (.rt d f)=some (.rt d f):=id rfl
def qcw {d:PyData}:WH true (some (.rt d true))=some d:=id rfl
def qgx {d:PyData} {b:Bool}:WH false (some (.rt d b))=some d:=by simp [WH]
def qaP {ρ:Rho}:WH false (some (.nx ρ))=some .none:=id rfl
def qjB {b:Bool}:asB (.bool b)=some b:=id rfl
def qkJ {b:Int}:asI (.int b)=some b:=id rfl
def qfU {xs:List PyData}:qnj [.tuple xs]=some (.int xs.length):=id rfl
def qfc {xs:List PyData}:qnj [.list xs]=some (.int xs.length):=id rfl
def M9 {i:Bool}:qnL [.bool i]=some (.int (if i then 1 else 0)):=id rfl
def qfw {xs:List PyData}:qoy [.list xs]=some (.tuple xs):=id rfl
def K5 {xs:List Bool}:qlK [.list (xs.map PyData.bool)]=some (.bool (xs.all id)):=by simp only [qlK,qeK,Option.map_some]
def qig {xs:List Int} (h:xs.length<4000):qcx (.list (xs.map PyData.int))=some (.int (DO xs)):=by simp only [qcx,qb2,Option.bind_some];exact zB h
def qfT {xs:List PyData}:LI (.list xs)=some xs:=id rfl
def qlq {i:Int}:tyD (.int i)=some "int" := id rfl
def qkl {i:List PyData}:tyD (.tuple i)=some "tuple" := id rfl
def qjL {i:List PyData}:tyD (.list i)=some "list" := id rfl
def qgl {n a b:Bool}:qoJ n (.bool a) (.bool b)=some (.bool (if n then a != b else a==b)):=id rfl
def qop {m:List Bool} {nw:Bool} {i:Nat} {v:Int} {ρ:Rho}:qaI m nw i (.int v) ρ=ρ.set i (.sh (.int v)):=id rfl
def ql8 {m:List Bool} {nw:Bool} {i:Nat} {v:Str} {ρ:Rho}:qaI m nw i (.str v) ρ=ρ.set i (.sh (.str v)):=id rfl
def qg2 {m:List Bool} {nw:Bool} {i:Nat} {v:List PyData} {ρ:Rho}:qaI m nw i (.tuple v) ρ=(dm m ρ).set i (.sh (.tuple v)):=by cases nw<;>rfl
def qgn {m:List Bool} {i:Nat} {v:List PyData} {ρ:Rho}:qaI m true i (.list v) ρ=(dm m ρ).set i (.ow v):=id rfl
def qf8 {m:List Bool} {i:Nat} {v:List PyData} {ρ:Rho}:qaI m false i (.list v) ρ=(dm m ρ).set i (.sh (.list v)):=id rfl
def qkv {m:List Bool} {v:Int} {ρ:Rho}:dmS m (.int v) ρ=ρ:=id rfl
def qlU {m:List Bool} {v:List PyData} {ρ:Rho}:dmS m (.tuple v) ρ=dm m ρ:=id rfl
def qmK {m:List Bool} {v:List PyData} {ρ:Rho}:dmS m (.list v) ρ=dm m ρ:=id rfl
def qro {ρ:Rho}:dm [] ρ=ρ:=id rfl
def qrt {m:List Bool} {s:Sl} {ρ:Rho}:dm (true::m) (s::ρ)=s.dem::dm m ρ:=id rfl
def qrp {m:List Bool} {s:Sl} {ρ:Rho}:dm (false::m) (s::ρ)=s::dm m ρ:=id rfl
def qky {ds:List PyData}:(Sl.ow ds).dem=.sh (.list ds):=id rfl
def qkt {d:PyData}:(Sl.sh d).dem=.sh d:=id rfl
def qml {ρ:Rho}:RA [] ρ=[]:=id rfl
def qjU {m:List (Option Nat)} {ρ:Rho}:RA (none::m) ρ=.un::RA m ρ:=id rfl
def cp (o:Option PyData):Sl:=match o with|some d=>.sh d|none=>.un
def qlX {m:List (Option Nat)} {j:Nat} {ρ:Rho}:RA (some j::m) ρ=cp (vw ρ j)::RA m ρ:=id rfl
def qq4 {d:PyData}:cp (some d)=.sh d:=id rfl
def qnl {i j:Nat} {m:List Bool} {x y:Int} {ρ:Rho}:qoP i j m [.int x,.int y] ρ=some (.nx ((ρ.set i (.sh (.int x))).set j (.sh (.int y)))):=id rfl
def qgL {pi:Rho->Option (List PyData)} {m:List Bool} {gf:PyData->Option (List (Nat×PyData))} {bf:Nat->Rho->Option Ot} {n:Nat} {ρ:Rho}:qoH pi false m gf bf n ρ=(pi ρ).bind λds=>T4 gf (bf n) ds (dm m ρ):=id rfl
def qfW {ρ:Rho}:Z9 ρ []=ρ:=id rfl
def qe0 {ρ:Rho} {i:Nat} {d:PyData} {r:List (Nat×PyData)}:Z9 ρ ((i,d)::r)=Z9 (ρ.set i (.sh d)) r:=id rfl
def JT {gf:PyData->Option (List (Nat×PyData))} {cf:Rho->Option Bool} {ef:Rho->Option PyData} {ρ:Rho} {d:PyData}:lcH gf cf ef ρ d=(gf d).bind λbs=>(cf (Z9 ρ bs)).bind λk=>if k then (ef (Z9 ρ bs)).map some else some none:=id rfl
def NU {gf:PyData->Option (List (Nat×PyData))} {cf:Rho->Option Bool} {it:Rho->Option (List PyData)} {h:Rho->PyData->Option (Option PyData)} {ρ:Rho} {d:PyData}:qkd gf cf it h ρ d=(gf d).bind λbs=>(cf (Z9 ρ bs)).bind λk=>if k then ((it (Z9 ρ bs)).bind λds=>lcP (h (Z9 ρ bs)) ds).map some else some none:=id rfl
def Nx (o:Option Ot) (P:Rho->Prop):Prop:=match o with|some (.nx ρ)=>P ρ|some (.ct ρ)=>P ρ|_=>False
def qkw {ρ:Rho} {P:Rho->Prop}:Nx (some (.nx ρ)) P=P ρ:=id rfl
def qn5 {o:Option Ot} {P:Rho->Prop} (h:Nx o P):∃ ρ,(o=some (.nx ρ)\/o=some (.ct ρ))/\P ρ:=by
 unfold Nx at h;split at h
 ·exact ⟨_,.inl rfl,h⟩
 ·exact ⟨_,.inr rfl,h⟩
 ·exact h.elim
section
variable {gf:PyData->Option (List (Nat×PyData))} {bf:Rho->Option Ot} {α:Type} {g:α->PyData} {ρ:Rho} {Q:Option Ot->Prop} {F:Ot->Option Ot}
def R4 (xs:List α) (I:Nat->Rho->Prop) (h0:I 0 ρ) (hs:∀ i x ρ,xs[i]?=some x->I i ρ->Nx ((gf (g x)).bind λbs=>bf (Z9 ρ bs)) (I (i+1))) (k:∀ ρ',I xs.length ρ'->Q (some (.nx ρ'))):Q (T4 gf bf (xs.map g) ρ):=by
 obtain ⟨ρ',e,h⟩:=qdx (gf:=gf) (bf:=bf) (g:=g) xs I h0 λi x ρ hx hi=>by
  obtain ⟨ρ2,e,h⟩:=qn5 (hs i x ρ hx hi);cases e1:gf (g x) with
  |none=>rw [e1] at e;rcases e with e|e<;>cases e
  |some bs=>rw [e1] at e;exact ⟨bs,ρ2,rfl,e,h⟩
 rw [e];exact k ρ' h
def qa0 (xs:List α) (I:Nat->Rho->Prop) (h0:I 0 ρ) (hs:∀ i x ρ,xs[i]?=some x->I i ρ->Nx ((gf (g x)).bind λbs=>bf (Z9 ρ bs)) (I (i+1))) (k:∀ ρ',I xs.length ρ'->Q (F (.nx ρ'))):Q ((T4 gf bf (xs.map g) ρ).bind F):=
 R4 (Q:=λo=>Q (o.bind F)) xs I h0 hs k
def TM (xs:List α) (n:Nat) (x:α) (d:PyData) (b:Bool) (hn:xs[n]?=some x) (I:Nat->Rho->Prop) (h0:I 0 ρ) (hs:∀ i x ρ,i<n->xs[i]?=some x->I i ρ->Nx ((gf (g x)).bind λbs=>bf (Z9 ρ bs)) (I (i+1))) (he:∀ ρ,I n ρ->((gf (g x)).bind λbs=>bf (Z9 ρ bs))=some (.rt d b)) (k:Q (some (.rt d b))):Q (T4 gf bf (xs.map g) ρ):=by
 rw [qc1 (gf:=gf) (bf:=bf) (g:=g) xs n x hn I h0 (λi x ρ hi hx hI=>by
  obtain ⟨ρ2,e,h⟩:=qn5 (hs i x ρ hi hx hI);cases e1:gf (g x) with
  |none=>rw [e1] at e;rcases e with e|e<;>cases e
  |some bs=>rw [e1] at e;exact ⟨bs,ρ2,rfl,e,h⟩) (o:=.rt d b) λρ hI=>by
  have:=he ρ hI;cases e1:gf (g x) with
  |none=>rw [e1] at this;cases this
  |some bs=>rw [e1] at this;exact ⟨bs,rfl,.inl ⟨d,b,rfl,this⟩⟩]
 exact k
def qhu (xs:List α) (n:Nat) (x:α) (d:PyData) (b:Bool) (hn:xs[n]?=some x) (I:Nat->Rho->Prop) (h0:I 0 ρ) (hs:∀ i x ρ,i<n->xs[i]?=some x->I i ρ->Nx ((gf (g x)).bind λbs=>bf (Z9 ρ bs)) (I (i+1))) (he:∀ ρ,I n ρ->((gf (g x)).bind λbs=>bf (Z9 ρ bs))=some (.rt d b)) (k:Q (F (.rt d b))):Q ((T4 gf bf (xs.map g) ρ).bind F):=
 TM (Q:=λo=>Q (o.bind F)) xs n x d b hn I h0 hs he k
end
def qqW {α:Type} {us:List α} (h:us.length=1):∃ a0,us=[a0]:=List.length_eq_one_iff.mp h
def qpW {α:Type} {us:List α} (h:us.length=2):∃ a0 a1,us=[a0,a1]:=by
 obtain ⟨a0,r,rfl⟩:=List.exists_cons_of_length_pos (show 0<us.length by omega);obtain ⟨a1,rfl⟩:=qqW (show r.length=1 by simpa using h);exact ⟨a0,a1,rfl⟩
def qpl {α:Type} {us:List α} (h:us.length=3):∃ a0 a1 a2,us=[a0,a1,a2]:=by
 obtain ⟨a0,r,rfl⟩:=List.exists_cons_of_length_pos (show 0<us.length by omega);obtain ⟨a1,a2,rfl⟩:=qpW (show r.length=2 by simpa using h);exact ⟨a0,a1,a2,rfl⟩
def qqd {α:Type} {us:List α} (h:us.length=4):∃ a0 a1 a2 a3,us=[a0,a1,a2,a3]:=by
 obtain ⟨a0,r,rfl⟩:=List.exists_cons_of_length_pos (show 0<us.length by omega);obtain ⟨a1,a2,a3,rfl⟩:=qpl (show r.length=3 by simpa using h);exact ⟨a0,a1,a2,a3,rfl⟩
def qqV {α:Type} {us:List α} (h:us.length=5):∃ a0 a1 a2 a3 a4,us=[a0,a1,a2,a3,a4]:=by
 obtain ⟨a0,r,rfl⟩:=List.exists_cons_of_length_pos (show 0<us.length by omega);obtain ⟨a1,a2,a3,a4,rfl⟩:=qqd (show r.length=4 by simpa using h);exact ⟨a0,a1,a2,a3,a4,rfl⟩
def qql {α:Type} {us:List α} (h:us.length=6):∃ a0 a1 a2 a3 a4 a5,us=[a0,a1,a2,a3,a4,a5]:=by
 obtain ⟨a0,r,rfl⟩:=List.exists_cons_of_length_pos (show 0<us.length by omega);obtain ⟨a1,a2,a3,a4,a5,rfl⟩:=qqV (show r.length=5 by simpa using h);exact ⟨a0,a1,a2,a3,a4,a5,rfl⟩
def qsg {α:Type} {us:List α} (h:us.length=7):∃ a0 a1 a2 a3 a4 a5 a6,us=[a0,a1,a2,a3,a4,a5,a6]:=by
 obtain ⟨a0,r,rfl⟩:=List.exists_cons_of_length_pos (show 0<us.length by omega);obtain ⟨a1,a2,a3,a4,a5,a6,rfl⟩:=qql (show r.length=6 by simpa using h);exact ⟨a0,a1,a2,a3,a4,a5,a6,rfl⟩
end Pu
namespace Pv
open PySem L2 L3 Pu
open Bk (Dl)
def pD (p:Int×Int):PyData:=.tuple [.int p.1,.int p.2]
def qb8 (r:List Int):PyData:=.tuple (r.map PyData.int)
def dlD:Dl->PyData
 |.skew r c b x y=>.tuple [.str "skew",.int r,.int c,.int b,.int x,.int y]
 |.rests r c b p=>.tuple [.str "rests",.int r,.int c,.int b,.int p]
 |.bits h l ms=>.tuple [.str "bits",.int h,.int l,.tuple (ms.map PyData.int)]
 |.table b cells=>.tuple [.str "table",.int b,.tuple (cells.map qb8)]
 |.joined d e=>.tuple [.str "joined",dlD d,dlD e]
end Pv
namespace Pu
open PySem L2 L3
open Bk (Lf Ext)
section
variable {D:Addr->Prop} {a:Addr} {G G' G0:Gp} {n n':Nat} {fv gv:List Nat} {l:Nat} {τ:St3} {ρ:Rho}
def MP (e:Ext a G G') (h:D a):Ex (rs D G) (rs D G'):=λb o x=>by
 obtain ⟨n,x⟩:=qE x;rw [jO n];exact e b o (by rintro rfl;exact n h) x
def EU {k:Int} (h:Lf G a k):G a≠none:=by
 obtain ⟨o,c,m,e,_⟩:=h;rw [e];simp
def R7 {k:Int} (hd:Dom D G) (e:Ext a G G') (lf:Lf G' a k):Dom D G':=λb hb z=>by
 by_cases h:b=a
 ·subst h;exact EU lf z
 ·cases g:G b with
  |none=>exact hd b hb g
  |some o=>rw [e b o h g] at z;cases z
def Nw.backx {x:T} {d:PyData} {k:Int} (h:Nw D G G' x d) (e:Ext a G0 G) (lf:Lf G a k):Nw D G0 G' x d:=by
 rcases h with h|⟨p,xs,ds,h1,h2,c,r⟩
 ·exact .inl h
 refine .inr ⟨p,xs,ds,h1,h2,?_,r⟩;cases z:G0 p with
 |none=>rfl
 |some o=>
  by_cases hp:p=a
  ·subst hp;exact absurd c (EU lf)
  ·rw [e p o hp z] at c;cases c
structure Ln (fv:List Nat) (l:Nat) (D:Addr->Prop) (G:Gp) (τ:St3) (ρ:Rho) (a:Addr) (n:Nat):Prop where
 v:C5 fv D G τ ρ
 d:Dom D G
 da:D a
 tl:τ[l]?=some (some (.ref a))
 ul:vw ρ l=none
 lf:Lf G a n
theorem Ln.up (h:Ln fv l D G τ ρ a n) (e:Ext a G G') (lf:Lf G' a n'):Ln fv l D G' τ ρ a n':=
 ⟨λi hi d hd=>let ⟨t,x,y⟩:=h.v i hi d hd;⟨t,x,y.up (MP e h.da)⟩,R7 h.d e lf,h.da,h.tl,h.ul,lf⟩
def Ln.fst (h:Ln (fv++gv) l D G τ ρ a n):Ln fv l D G τ ρ a n:=⟨h.v.l,h.d,h.da,h.tl,h.ul,h.lf⟩
def Ln.snd (h:Ln (fv++gv) l D G τ ρ a n):Ln gv l D G τ ρ a n:=⟨h.v.r,h.d,h.da,h.tl,h.ul,h.lf⟩
end
abbrev QD:=PyData->Nat->Prop
structure PwE (l:Nat) (t:TE3) where
 w:Rho->Nat->QD->Prop
 fv:List Nat
 nw:Bool
 mono:∀ {ρ n} {Q Q':QD},w ρ n Q->(∀ d m,Q d m->Q' d m)->w ρ n Q'
 ok:∀ {D τ ρ G a n} {q:Q3} {Q:QD},Ln fv l D G τ ρ a n->w ρ n Q->(∀ x d G' n',Q d n'->Ext a G G'->Lf G' a n'->Dq (rs D G') x d->(nw=true->Nw D G G' x d)->q x G')->t τ G q
structure PwC (l:Nat) (t:TT3) where
 w:Rho->Nat->(Bool->Nat->Prop)->Prop
 fv:List Nat
 mono:∀ {ρ n} {Q Q':Bool->Nat->Prop},w ρ n Q->(∀ d m,Q d m->Q' d m)->w ρ n Q'
 ok:∀ {D τ ρ G a n} {q:Bool->Gp->Prop} {Q:Bool->Nat->Prop},Ln fv l D G τ ρ a n->w ρ n Q->(∀ k G' n',Q k n'->Ext a G G'->Lf G' a n'->q k G')->t τ G q
structure PwA (l:Nat) (t:TA3) where
 w:Rho->Nat->(List PyData->Nat->Prop)->Prop
 fv:List Nat
 k:Nat
 mono:∀ {ρ n} {Q Q':List PyData->Nat->Prop},w ρ n Q->(∀ d m,Q d m->Q' d m)->w ρ n Q'
 ok:∀ {D τ ρ G a n} {q:List T->Gp->Prop} {Q:List PyData->Nat->Prop},Ln fv l D G τ ρ a n->w ρ n Q->(∀ x d G' n',Q d n'->d.length=k->Ext a G G'->Lf G' a n'->Dqs (rs D G') x d->q x G')->t τ G q
structure PwI (l:Nat) (t:TI3) where
 w:Rho->Nat->(List PyData->Nat->Prop)->Prop
 fv:List Nat
 nm:Bool
 mono:∀ {ρ n} {Q Q':List PyData->Nat->Prop},w ρ n Q->(∀ d m,Q d m->Q' d m)->w ρ n Q'
 ok:∀ {D τ ρ G a n} {r:List T->(Gp->Prop)->Gp->Prop} {Q:List PyData->Nat->Prop},Ln fv l D G τ ρ a n->w ρ n Q ->
  (∀ items stay ds G' n',Q ds n'->Ext a G G'->Lf G' a n'->Dqs (rs D G') items ds->(∀ G'',(nm=true\/Ex (rs D G') G'')->stay G'')->(nm=true->∃ ns:List Int,ds=ns.map PyData.int)->r items stay G')->t τ G r
structure DrD (r:List T->Gp->Q3->Prop) where
 W:List PyData->Nat->QD->Prop
 nw:Bool
 mono:∀ {ds n} {Q Q':QD},W ds n Q->(∀ d m,Q d m->Q' d m)->W ds n Q'
 ok:∀ {D:Addr->Prop} {G:Gp} {a:Addr} {n:Nat} {ts:List T} {ds:List PyData} {q:Q3} {Q:QD},Lf G a n->D a->Dom D G->Dqs (rs D G) ts ds->W ds n Q->(∀ x d G' n',Q d n'->Ext a G G'->Lf G' a n'->Dq (rs D G') x d->(nw=true->Nw D G G' x d)->q x G')->r (.ref a::ts) G q
section
variable {l:Nat}
def eOf {t:TE3} (b:PuE t):PwE l t:=⟨λρ n Q=>∃ d,b.f ρ=some d/\Q d n,b.fv,b.nw,λ⟨d,h1,h2⟩ h=>⟨d,h1,h _ _ h2⟩,λh ⟨d,h1,h2⟩ k=>
 b.ok h.v h.d h1 λx G1 E1 D1 N1=>k x d G1 _ h2 (Bk.XM E1) (h.lf.ex E1) D1 N1⟩
def cOf {t:TT3} (b:PuC t):PwC l t:=⟨λρ n Q=>∃ d,b.f ρ=some d/\Q d n,b.fv,λ⟨d,h1,h2⟩ h=>⟨d,h1,h _ _ h2⟩,λh ⟨d,h1,h2⟩ k=>
 b.ok h.v h.d h1 λG1 E1=>k d G1 _ h2 (Bk.XM E1) (h.lf.ex E1)⟩
def aOf {t:TA3} (b:PuA t):PwA l t:=⟨λρ n Q=>∃ d,b.f ρ=some d/\Q d n,b.fv,b.n,λ⟨d,h1,h2⟩ h=>⟨d,h1,h _ _ h2⟩,λh ⟨d,h1,h2⟩ k=>
 b.ok h.v h.d h1 λx G1 E1 D1=>k x d G1 _ h2 (b.ln h1) (Bk.XM E1) (h.lf.ex E1) D1⟩
def iOf {t:TI3} (b:PuI t):PwI l t:=⟨λρ n Q=>∃ d,b.f ρ=some d/\Q d n,b.fv,b.nm,λ⟨d,h1,h2⟩ h=>⟨d,h1,h _ _ h2⟩,λh ⟨d,h1,h2⟩ k=>
 b.ok h.v h.d h1 λitems stay G1 E1 D1 s nm=>k items stay d G1 _ h2 (Bk.XM E1) (h.lf.ex E1) D1 s nm⟩
def eO {r:R3} {ta tb:TE3} (R:OpD r) (a:PwE l ta) (b:PwE l tb):PwE l (o3 r ta tb):=
 ⟨λρ n Q=>a.w ρ n λx n1=>b.w ρ n1 λy n2=>∃ v,R.f x y=some v/\Q v n2,a.fv++b.fv,R.nw,λh k=>a.mono h λx n1 h=>b.mono h λy n2 ⟨v,h1,h2⟩=>⟨v,h1,k _ _ h2⟩,λh hw k=>
  a.ok h.fst hw λx dx G1 n1 h1 E1 L1 D1 _=>b.ok (h.snd.up E1 L1) h1 λy dy G2 n2 ⟨v,e,hq⟩ E2 L2 D2 _=>R.ok (D1.up (MP E2 h.da)) D2 (R7 (R7 h.d E1 L1) E2 L2) e λz G3 E3 D3 N3=>k z v G3 n2 hq ((E1.trans E2).trans (Bk.XM E3)) (L2.ex E3) D3 λz=>(N3 z).backx (E1.trans E2) L2⟩
def qiG {ta:TE3} {tr:TA3} (a:PwE l ta) (r:PwA l tr):PwA l (qc ta tr):=
 ⟨λρ n Q=>a.w ρ n λx n1=>r.w ρ n1 λxs n2=>Q (x::xs) n2,a.fv++r.fv,r.k+1,λh k=>a.mono h λx n1 h=>r.mono h λxs n2 h=>k _ _ h,λh hw k=>
  a.ok h.fst hw λx dx G1 n1 h1 E1 L1 D1 _=>r.ok (h.snd.up E1 L1) h1 λy dy G2 n2 hq hl E2 L2 D2=>k _ _ G2 n2 hq (by simp [hl]) (E1.trans E2) L2 (.cons (D1.up (MP E2 h.da)) D2)⟩
def eDr {r:List T->Gp->Q3->Prop} {t:TA3} (R:DrD r) (b:PwA l t):PwE l (cb3 r (qc (v3 l) t)):=⟨λρ n Q=>b.w ρ n λxs n1=>R.W xs n1 Q,b.fv,R.nw,λh k=>b.mono h λxs n1 h=>R.mono h k,λ{D τ ρ G a n q Q} h hw k=>by
 simp only [cb3,qc,v3,h.tl];exact b.ok h hw λx dx G1 n1 hW hl E1 L1 D1=>R.ok L1 h.da (R7 h.d E1 L1) D1 hW λz d G3 n3 hq E3 L3 D3 N3=>k z d G3 n3 hq (E1.trans E3) L3 D3 λz=>(N3 z).backx E1 L1⟩
def cTb {t:TE3} (b:PwE l t):PwC l (tb3 t):=⟨λρ n Q=>b.w ρ n λd n1=>∃ k,asB d=some k/\Q k n1,b.fv,λh k=>b.mono h λd m ⟨v,h1,h2⟩=>⟨v,h1,k _ _ h2⟩,λh hw k=>b.ok h hw λx d G1 n1 ⟨v,e,hq⟩ E1 L1 D1 _=>by
 have:=TK e;subst this;cases D1;exact k _ _ _ hq E1 L1⟩
def qre {t:TT3} (a:PwC l t):PwC l (UX t):=⟨λρ n Q=>a.w ρ n λk n1=>Q (!k) n1,a.fv,λh k=>a.mono h λj m h=>k _ _ h,λh hw k=>a.ok h hw λj G1 n1 hj E1 L1=>k _ _ _ hj E1 L1⟩
def iS {t:TE3} (b:PwE l t):PwI l (YH t):=⟨λρ n Q=>b.w ρ n λd n1=>∃ ds,LI d=some ds/\Q ds n1,b.fv,false,λh k=>b.mono h λxs n1 ⟨v,h1,h2⟩=>⟨v,h1,k _ _ h2⟩,λh hw k=>b.ok h hw λx dx G1 n1 ⟨ds,e,hq⟩ E1 L1 D1 _=>by
 unfold LI at e;cases D1 with
 |tup hs=>cases e;exact k _ _ _ _ _ hq E1 L1 hs (λ_ _=>trivial) (λz=>by cases z)
 |lst g hs=>
  cases e;simp only [qO (qE g).2];refine k _ _ _ _ _ hq E1 L1 hs (λG2 h=>?_) (λz=>by cases z);rcases h with h|h
  ·cases h
  ·exact qO (h _ _ g)
 |_=>simp at e⟩
end
def VA.ext {D:Addr->Prop} {a:Addr} {G G':Gp} {τ:St3} {ρ:Rho} (h:VA D G τ ρ) (e:Ext a G G') (da:D a):VA D G' τ ρ:=h.upx (MP e da)
structure RL (l:Nat) (a:Addr) (z0:Option (Option T)×Nat) (D:Addr->Prop) (G0:Gp) (A:Nat->Addr->Prop) (τ:St3) (ρ:Rho) (G:Gp) (n:Nat):Prop where
 r:RS D G0 A τ ρ G
 al:A l a
 tl:τ[l]?=some (some (.ref a))
 ul:ρ[l]?=some Sl.un
 lf:Lf G a n
 tz:τ[0]?=z0.1/\τ.length=z0.2
section
variable {l:Nat} {a:Addr} {z0:Option (Option T)×Nat} {D:Addr->Prop} {G0 G G':Gp} {A:Nat->Addr->Prop} {τ:St3} {ρ:Rho} {n n':Nat}
def RL.vl (h:RL l a z0 D G0 A τ ρ G n):vw ρ l=none:=by unfold vw;rw [h.ul];rfl
def RL.up (h:RL l a z0 D G0 A τ ρ G n) (e:Ext a G G') (lf:Lf G' a n'):RL l a z0 D G0 A τ ρ G' n':=
 ⟨h.r.keep (W:=λb=>b=a) e λb z=>⟨l,by rw [z];exact h.al,h.ul,by rw [z];exact EU lf⟩,h.al,h.tl,h.ul,lf,h.tz⟩
def RL.ne (h:RL l a z0 D G0 A τ ρ G n) {i:Nat} {p:Addr} {s:Sl} (hp:A i p) (e:ρ[i]?=some s) (hs:s≠.un):p≠a:=by
 rintro rfl;have:=h.r.inj i l _ hp h.al;subst this;rw [h.ul] at e;cases e;exact hs rfl
def RL.all (h:RL l a z0 D G0 A τ ρ G n) (fv:List Nat):Ln fv l (λb=>D b\/b=a) G τ ρ a n:=by
 refine ⟨λi _ d hd=>?_,λb hb=>?_,.inr rfl,h.tl,h.vl,h.lf⟩
 ·unfold vw at hd;obtain ⟨s,e,hd⟩:=obb hd;refine (h.r.sl i s e).vis hd (zL λb z=>?_) λp o q g=>?_
  ·rcases z with z|z
   ·exact .inl z
   ·subst z;exact .inr ⟨l,h.al⟩
  ·rw [jO]
   ·exact g
   ·rintro (z|z)
    ·exact h.r.nd q z
    ·exact h.ne q e (by rintro rfl;cases hd) z
 ·rcases hb with hb|hb
  ·exact h.r.domD b hb
  ·subst hb;exact EU h.lf
def qrB {m:List Bool} (hm:mkb m l=false) (al:A l a):Ad m A l a:=⟨al,hm⟩
theorem RL.dem (h:RL l a z0 D G0 A τ ρ G n) {m:List Bool} (hm:mkb m l=false):RL l a z0 D G0 (Ad m A) τ (Pu.dm m ρ) G n:=
 ⟨h.r.dem m,qrB hm h.al,h.tl,by rw [qaj,h.ul];simp [hm],h.lf,h.tz⟩
def RL.ln (h:RL l a z0 D G0 A τ ρ G n) {m:List Bool} {fv:List Nat} (hm:mkb m l=false) (hf:Tru (fv.all (mkb m))):Ln fv l (AD D (Ad m A)) G τ ρ a n:=
 ⟨h.r.viewD hf,(h.r.dem m).dom,.inr ⟨l,qrB hm h.al⟩,h.tl,h.vl,h.lf⟩
theorem RL.put (h:RL l a z0 D G0 A τ ρ G n) {i:Nat} (hi:i≠l) (h0:i≠0) {x:T} {d:PyData} (hx:Dq (rs (AD D A) G) x d):RL l a z0 D G0 (Er A i) (τ.set i (some x)) (ρ.set i (.sh d)) G n:=
 ⟨h.r.put i hx,(.inr ⟨λz=>hi z.symm,h.al⟩),by rw [getElem?_set,if_neg hi];exact h.tl,by rw [getElem?_set,if_neg hi];exact h.ul,h.lf,⟨by rw [getElem?_set,if_neg h0];exact h.tz.1,by rw [List.length_set];exact h.tz.2⟩⟩
theorem RL.puts:∀ {ts:List (Nat×T)} {bs:List (Nat×PyData)} {A:Nat->Addr->Prop} {τ:St3} {ρ:Rho},RL l a z0 D G0 A τ ρ G n->Bd (rs (AD D A) G) ts bs->(∀ p∈bs,p.1≠l/\p.1≠0)->∃ A',RL l a z0 D G0 A' (sets τ ts) (Z9 ρ bs) G n
 |_,_,A,_,_,h,.nil,_=>⟨A,h⟩
 |_,_,A,_,_,h,.cons x b,hn=>by
  unfold sets Z9;exact RL.puts (h.put (hn _ u9).1 (hn _ u9).2 x) (b.up qmD) (λp hp=>hn p (v6 _ hp))
theorem RL.upd (h:RL l a z0 D G0 A τ ρ G n) {i:Nat} (hi:i≠l) (h0:i≠0) {x:T} {s:Sl} {B:Addr->Prop} (hg:∀ b o,b≠a->¬ A i b->G b=some o->G' b=some o) (lf:Lf G' a n') (hB:∀ b,B b->(A i b\/G b=none)/\G' b≠none)
  (hs:Ex (rs (AD D A) G) (rs (AD D (Rg A i B)) G')->SlR (rs (AD D (Rg A i B)) G') G' B (some (some x)) s):RL l a z0 D G0 (Rg A i B) (τ.set i (some x)) (ρ.set i s) G' n':=
 ⟨h.r.upd i (W:=λb=>b=a\/A i b) (λb o w z=>hg b o (λy=>w (.inl y)) (λy=>w (.inr y)) z) (λb z=>by
  rcases z with z|z
  ·exact ⟨l,by rw [z];exact h.al,.inr ⟨h.ul,by rw [z];exact EU lf⟩⟩
  ·exact ⟨i,z,.inl rfl⟩) hB hs,.inr ⟨λz=>hi z.symm,h.al⟩,by rw [getElem?_set,if_neg hi];exact h.tl,by rw [getElem?_set,if_neg hi];exact h.ul,lf,⟨by rw [getElem?_set,if_neg h0];exact h.tz.1,by rw [List.length_set];exact h.tz.2⟩⟩
def RL.putN (h:RL l a z0 D G0 A τ ρ G n) {i:Nat} (hi:i≠l) (h0:i≠0) {x:T} {d:PyData} {ds:List PyData} (hd:d=.list ds) (E:Ext a G G') (lf:Lf G' a n') (hx:Nw (AD D A) G G' x d):∃ A',RL l a z0 D G0 A' (τ.set i (some x)) (ρ.set i (.ow ds)) G' n':=by
 rcases hx with hx|⟨p,xs,ds',rfl,e',gp,gp',hs⟩
 ·rw [hd] at hx;cases hx
 rw [hd] at e';cases e';refine ⟨_,h.upd hi h0 (B:=λb=>b=p) (λb o w _ z=>E b o w z) lf (λb z=>by subst z;exact ⟨.inr gp,by rw [gp'];simp⟩) λ_=>⟨p,xs,rfl,rfl,gp',hs.up (zL λb z=>?_)⟩⟩;rcases z with z|⟨j,⟨_,z⟩|⟨_,z⟩⟩
 ·exact .inl (.inl z)
 ·exact .inr z
 ·exact .inl (.inr ⟨j,z⟩)
theorem RL.wr (h:RL l a z0 D G0 A τ ρ G n) {i:Nat} {p:Addr} {xs:List T} {ds ds0:List PyData} (ho:ρ[i]?=some (Sl.ow ds0)) (hi:A i p) (ht:τ[i]?=some (some (.ref p))) (hs:Dqs (rs (AD D A) G) xs ds):RL l a z0 D G0 A τ (ρ.set i (.ow ds)) (gu G p (.lst xs)) n:=by
 have il:i≠l:=by rintro rfl;rw [h.ul] at ho;cases ho
 have pa:p≠a:=by rintro rfl;exact il (h.r.inj i l _ hi h.al)
 exact ⟨h.r.wr hi ht hs,h.al,h.tl,by rw [getElem?_set,if_neg il];exact h.ul,h.lf.new pa,h.tz⟩
end
abbrev QO:=Ot->Nat->Prop
def qcj (l:Nat) (a:Addr) (z0:Option (Option T)×Nat) (D:Addr->Prop) (G0:Gp) (e:Ends3):Ot->Nat->Prop
 |.nx ρ,n=>∀ A τ G,RL l a z0 D G0 A τ ρ G n->e.nx τ G
 |.bk ρ,n=>∀ A τ G,RL l a z0 D G0 A τ ρ G n->e.bk τ G
 |.ct ρ,n=>∀ A τ G,RL l a z0 D G0 A τ ρ G n->e.ct τ G
 |.rt d fr,n=>∀ x G,Ex G0 G->Lf G a n->Dq (rs (λb=>D b\/b=a) G) x d->(fr=true->Nw (λb=>D b\/b=a) G0 G x d)->e.rt x G
structure PwS (l:Nat) (t:TS3) where
 w:Rho->Nat->QO->Prop
 mono:∀ {ρ n} {Q Q':QO},w ρ n Q->(∀ o m,Q o m->Q' o m)->w ρ n Q'
 ok:∀ {a z0 D G0 A τ ρ G n} {e:Ends3} {Q:QO},RL l a z0 D G0 A τ ρ G n->w ρ n Q->(∀ o m,Q o m->qcj l a z0 D G0 e o m)->t e τ G
section
variable {l:Nat}
def qaW:PwS l qZ:=⟨λρ n Q=>Q (.nx ρ) n,λh k=>k _ _ h,λh hw k=>k _ _ hw _ _ _ h⟩
def sqw (b:Rho->Nat->QO->Prop) (Q:QO):QO:=λo n=>match o with|.nx ρ'=>b ρ' n Q|o=>Q o n
def D4 {t u:TS3} (x:PwS l t) (y:PwS l u):PwS l (qF t u):=⟨λρ n Q=>x.w ρ n (sqw y.w Q),λh k=>x.mono h λo m h=>by
  cases o with
  |nx ρ=>exact y.mono h k
  |bk ρ=>exact k _ _ h
  |ct ρ=>exact k _ _ h
  |rt d f=>exact k _ _ h,λh hw k=>x.ok h hw λo m h=>by
  cases o with
  |nx ρ=>exact λA τ G r=>y.ok r h k
  |bk ρ=>exact k _ _ h
  |ct ρ=>exact k _ _ h
  |rt d f=>exact k _ _ h⟩
def wIf {c:TT3} {t u:TS3} (pc:PwC l c) (x:PwS l t) (y:PwS l u):PwS l (ZC c t u):=⟨λρ n Q=>pc.w ρ n λk n1=>if k then x.w ρ n1 Q else y.w ρ n1 Q,λh k=>pc.mono h λj m h=>by
  cases j with
  |true=>rw [if_pos rfl] at h ⊢;exact x.mono h k
  |false=>exact y.mono h k,λh hw k=>pc.ok (h.all _) hw λj G1 n1 hj E1 L1=>by
  cases j with
  |true=>rw [if_pos rfl] at hj ⊢;exact x.ok (h.up E1 L1) hj k
  |false=>exact y.ok (h.up E1 L1) hj k⟩
def qgV {a:Addr} {z0:Option (Option T)×Nat} {D:Addr->Prop} {G0 G G':Gp} {A:Nat->Addr->Prop} {τ:St3} {ρ:Rho} {n:Nat} (h:RL l a z0 D G0 A τ ρ G n) (e:Ext a G G'):Ex G0 G':=λb o x=>e b o (by rintro rfl;rw [h.r.fr l _ h.al] at x;cases x) (h.r.ex b o x)
def qji {t:TE3} (x:PwE l t):PwS l (zm t):=⟨λρ n Q=>x.w ρ n λd n1=>Q (.rt d x.nw) n1,λh k=>x.mono h λd m h=>k _ _ h,λh hw k=>x.ok (h.all _) hw λy d G1 n1 hq E1 L1 D1 N1=>k _ _ hq y G1 (qgV h E1) L1 D1 λz=>(N1 z).back h.r.ex⟩
def qnJ (i:Nat):PwS l (zm (v3 i)):=⟨λρ n Q=>∃ d b,qdj ρ i=some (.rt d b)/\Q (.rt d b) n,λ⟨d,b,h1,h2⟩ k=>⟨d,b,h1,k _ _ h2⟩,λ{a z0 D G0 A τ ρ G n e Q} h ⟨d,b,h1,h2⟩ k=>by
 unfold qdj at h1;split at h1
 ·rename_i ds e;cases h1;obtain ⟨p,xs,b,c,g,f⟩:=h.r.ow i _ e;simp only [zm,v3,c];have pa:p≠a:=by
   rintro rfl;have:=h.r.inj i l _ b h.al;subst this;rw [h.ul] at e;cases e
  refine k _ _ h2 _ _ h.r.ex h.lf (.lst (by rw [jO (by rintro (z|z);exact h.r.nd b z;exact pa z)];exact g) (f.up (zL λb z=>?_))) λ_=>.inr ⟨p,xs,ds,rfl,rfl,h.r.fr i p b,g,f.up (zL λq z=>?_)⟩
  ·rcases z with z|z
   ·exact .inl z
   ·subst z;exact .inr ⟨l,h.al⟩
  ·rcases z with (z|z)|z
   ·exact .inl z
   ·subst z;exact .inr ⟨l,h.al⟩
   ·subst z;exact .inr ⟨i,b⟩
 ·rename_i d e;cases h1;obtain ⟨t,b,c⟩:=h.r.sh i _ e;simp only [zm,v3,b];refine k _ _ h2 _ _ h.r.ex h.lf (c.up (zL λb z=>?_)) (λz=>by cases z);rcases z with z|z
  ·exact .inl z
  ·subst z;exact .inr ⟨l,h.al⟩
 ·cases h1⟩
def LA {t:TE3} (x:PwE l t) (i:Nat) (m:List Bool) (hm:Tru (x.fv.all (mkb m))) (hl:Tru (!mkb m l&&(i != l&&i != 0))):PwS l (qN t (gn3 i)):=⟨λρ n Q=>x.w ρ n λd n1=>Q (.nx (qaI m x.nw i d ρ)) n1,λh k=>x.mono h λd m h=>k _ _ h,λ{a z0 D G0 A τ ρ G n e Q} h hw k=>by
 have hl':mkb m l=false/\i≠l/\i≠0:=by simpa using hl.h
 refine x.ok (h.ln hl'.1 hm) hw λy d G1 n1 hq E1 L1 D1 N1=>?_;have k:=k _ _ hq;unfold qaI at k;show e.nx (τ.set i (some y)) G1;split at k
 ·rename_i hs;exact k _ _ _ ((h.up E1 L1).put hl'.2.1 hl'.2.2 (U0 D1 hs))
 ·split at k
  ·rename_i hn;have N:=N1 hn;rcases id N with h2|⟨p,xs,ds,h1,h2,_⟩
   ·exact absurd h2 (by assumption)
   subst h2;obtain ⟨A',r⟩:=(h.dem hl'.1).putN hl'.2.1 hl'.2.2 rfl E1 L1 N;exact k _ _ _ r
  ·exact k _ _ _ (((h.dem hl'.1).up E1 L1).put hl'.2.1 hl'.2.2 D1)⟩
def qpP {t:TA3} (x:PwA l t) (i j:Nat) (m:List Bool) (hm:Tru (x.fv.all (mkb m))) (hl:Tru (!mkb m l&&((i != l&&i != 0)&&(j != l&&j != 0)))):PwS l (DZ i j t):=⟨λρ n Q=>x.w ρ n λds n1=>∃ o,qoP i j m ds ρ=some o/\Q o n1,λh k=>x.mono h λd m ⟨bs,h1,h2⟩=>⟨bs,h1,k _ _ h2⟩,λ{a z0 D G0 A τ ρ G n e Q} h hw k=>by
 have hl':mkb m l=false/\(i≠l/\i≠0)/\j≠l/\j≠0:=by simpa using hl.h
 refine x.ok (h.ln hl'.1 hm) hw λy d G1 n1 ⟨o,e2,hq⟩ hlen E1 L1 D1=>?_;unfold qoP at e2;split at e2
 ·cases D1 with
  |cons x1 b=>cases b with
   |cons x2 c=>
    cases c;split at e2
    ·rename_i hs;cases e2;rw [Bool.and_eq_true] at hs;exact k _ _ hq _ _ _ (((h.up E1 L1).put hl'.2.1.1 hl'.2.1.2 (U0 x1 hs.1)).put hl'.2.2.1 hl'.2.2.2 (U0 x2 hs.2))
    ·cases e2;exact k _ _ hq _ _ _ ((((h.dem hl'.1).up E1 L1).put hl'.2.1.1 hl'.2.1.2 x1).put hl'.2.2.1 hl'.2.2.2 (x2.up qmD))
 ·cases e2⟩
def RL.evalS {a:Addr} {z0:Option (Option T)×Nat} {D:Addr->Prop} {G0 G:Gp} {A:Nat->Addr->Prop} {τ:St3} {ρ:Rho} {n:Nat} (h:RL l a z0 D G0 A τ ρ G n) {t:TE3} (x:PwE l t) (m:List Bool) (hm:Tru (x.fv.all (mkb m))) (hl:mkb m l=false) {Q:QD} (hw:x.w ρ n Q) (q:Q3) (k:∀ y d G' n' A1,Q d n'->RL l a z0 D G0 A1 τ (dmS m d ρ) G' n'->Ext a G G'->Dq (rs (AD D A1) G') y d->q y G'):t τ G q:=by
 refine x.ok (h.ln hl hm) hw λy d G1 n1 hq E1 L1 D1 _=>?_;by_cases hs:K1 d=true
 ·exact k y d G1 n1 A hq (by unfold dmS;rw [if_pos hs];exact h.up E1 L1) E1 (U0 D1 hs)
 ·exact k y d G1 n1 _ hq (by unfold dmS;rw [if_neg hs];exact (h.dem hl).up E1 L1) E1 D1
def qra {t:TE3} (x:PwE l t) (i:Nat) (m:List Bool) (hm:Tru (x.fv.all (mkb m))) (hl:Tru (!mkb m l)):PwS l (q5 (bm3 D6 (v3 i) (qc t qk))):=⟨λρ n Q=>∃ ds,slot ρ i=some ds/\x.w ρ n λd n1=>slot (dmS m d ρ) i=some ds/\∃ es,d=.list es/\ds.length+es.length<=16777216/\Q (.nx ((dmS m d ρ).set i (.ow (ds++es)))) n1,λ⟨v,h0,h⟩ k=>⟨v,h0,x.mono h λd m ⟨y,es,h1,h2,h3⟩=>⟨y,es,h1,h2,k _ _ h3⟩⟩,λ{a z0 D G0 A τ ρ G n e Q} h ⟨ds,h0,hw⟩ k=>by
 have hl':mkb m l=false:=by simpa using hl.h
 obtain ⟨p,xs,b,c,g,f⟩:=h.r.ow i _ (ZI h0);simp only [q5,bm3,v3,c,qO g];refine ⟨rfl,h.evalS x m hm hl' hw _ λy d G1 n1 A1 ⟨h1,es,he,h2,hq⟩ r E1 D1=>?_⟩;subst he;obtain ⟨p',xs',b',c',g',f'⟩:=r.r.ow i _ (ZI h1);rw [c] at c';cases c';cases D1 with
 |lst g2 hs2=>
  simp only [qk,D6,g',(qE g2).2];exact ⟨by rw [f'.length,hs2.length,y9];exact h2,k _ _ hq _ _ _ (r.wr (ZI h1) b' c (f'.append hs2))⟩⟩
def qdm (gf:PyData->Option (List (Nat×PyData))) (bw:Rho->Nat->QO->Prop):List PyData->Rho->Nat->QO->Prop
 |[],ρ,n,Q=>Q (.nx ρ) n
 |d::r,ρ,n,Q=>∃ bs,gf d=some bs/\bw (Z9 ρ bs) n λo n1=>match o with
  |.nx ρ'=>qdm gf bw r ρ' n1 Q
  |.ct ρ'=>qdm gf bw r ρ' n1 Q
  |.bk ρ'=>Q (.nx ρ') n1
  |.rt d b=>Q (.rt d b) n1
theorem WY {g:TG3} {tb:TS3} (pg:PuG g) (pb:PwS l tb):∀ {ds:List PyData} {ρ:Rho} {n:Nat} {Q Q':QO},qdm pg.f pb.w ds ρ n Q->(∀ o m,Q o m->Q' o m)->qdm pg.f pb.w ds ρ n Q'
 |[],_,_,_,_,h,k=>k _ _ h
 |d::r,_,_,_,_,⟨bs,e,h⟩,k=>⟨bs,e,pb.mono h λo m h=>by
   cases o with
   |nx ρ=>exact WY pg pb h k
   |ct ρ=>exact WY pg pb h k
   |bk ρ=>exact k _ _ h
   |rt d b=>exact k _ _ h⟩
theorem RC {stay:Gp->Prop} {g:TG3} {tb:TS3} {e:Ends3} (pg:PuG g) (pb:PwS l tb) {a:Addr} {z0:Option (Option T)×Nat} {D:Addr->Prop} {G0:Gp} {Q:QO} (hl:∀ i∈pg.tg,i≠l/\i≠0) (hs:∀ A τ ρ G n,RL l a z0 D G0 A τ ρ G n->stay G) (k:∀ o m,Q o m->qcj l a z0 D G0 e o m) :
  ∀ (ds:List PyData) (items:List T),(∀ A τ ρ G n,RL l a z0 D G0 A τ ρ G n->Dqs (rs (AD D A) G) items ds)->∀ A τ ρ G n,RL l a z0 D G0 A τ ρ G n->qdm pg.f pb.w ds ρ n Q->SE stay g tb e items τ G
 |[],items,hi,A,τ,ρ,G,n,h,hw=>by
  have:=hi _ _ _ _ _ h;cases this;exact ⟨hs _ _ _ _ _ h,k _ _ hw _ _ _ h⟩
 |d::ds,items,hi,A,τ,ρ,G,n,h,⟨bs,e1,hw⟩=>by
  have hh:=hi _ _ _ _ _ h;cases hh with
  |cons hx hr=>
   rename_i x items;obtain ⟨ts,bd,kg⟩:=pg.ok hx e1;refine ⟨hs _ _ _ _ _ h,kg _ _ _ ?_⟩;obtain ⟨A',h'⟩:=h.puts bd λp hp=>hl _ (pg.at' e1 p hp);have hi':∀ A τ ρ G n,RL l a z0 D G0 A τ ρ G n->Dqs (rs (AD D A) G) items ds:=λA τ ρ G n h=>by
    have:=hi _ _ _ _ _ h;cases this with
    |cons a b=>exact b
   refine pb.ok h' hw λo m hq=>?_;cases o with
   |nx ρ'=>exact λA2 τ2 G2 h2=>RC pg pb hl hs k ds items hi' _ _ _ _ _ h2 hq
   |ct ρ'=>exact λA2 τ2 G2 h2=>RC pg pb hl hs k ds items hi' _ _ _ _ _ h2 hq
   |bk ρ'=>exact k _ _ hq
   |rt d fr=>exact k _ _ hq
theorem RL.base {a:Addr} {z0:Option (Option T)×Nat} {D:Addr->Prop} {G0 Gb G:Gp} {A:Nat->Addr->Prop} {τ:St3} {ρ:Rho} {n:Nat} (h:RL l a z0 D Gb A τ ρ G n) (e:Ex G0 Gb) (hd:Dom D G0):RL l a z0 D G0 A τ ρ G n:=⟨h.r.base e hd,h.al,h.tl,h.ul,h.lf,h.tz⟩
theorem qcj.base {a:Addr} {z0:Option (Option T)×Nat} {D:Addr->Prop} {G0 Gb:Gp} {e:Ends3} {o:Ot} {n:Nat} (h:qcj l a z0 D G0 e o n) (x:Ex G0 Gb) (hd:Dom D G0):qcj l a z0 D Gb e o n:=by
 cases o with
 |nx ρ=>exact λA τ G r=>h A τ G (r.base x hd)
 |bk ρ=>exact λA τ G r=>h A τ G (r.base x hd)
 |ct ρ=>exact λA τ G r=>h A τ G (r.base x hd)
 |rt d fr=>exact λy G p q r z=>h y G (x.trans p) q r λw=>(z w).back x
def qkW {wi:TI3} {g:TG3} {tb:TS3} (pi:PwI l wi) (pg:PuG g) (pb:PwS l tb) (m:List Bool) (hm:Tru (pi.fv.all (mkb m))) (hl:Tru (!mkb m l&&pg.tg.all (λi=>i != l&&i != 0))):PwS l (C8 wi g tb):=⟨λρ n Q=>pi.w ρ n λds n1=>qdm pg.f pb.w ds (if pi.nm then ρ else dm m ρ) n1 Q,λh k=>pi.mono h λd m h=>WY pg pb h k,λ{a z0 D G0 A τ ρ G n e Q} h hw k=>by
 have hl':mkb m l=false/\∀ i∈pg.tg,i≠l/\i≠0:=by simpa using hl.h
 refine pi.ok (h.ln hl'.1 hm) hw λitems stay ds G1 n1 hq E1 L1 D1 hs hnm=>?_;cases hb:pi.nm with
 |true=>
  rw [hb,if_pos rfl] at hq;obtain ⟨ns,rfl⟩:=hnm hb;have:=D1.ints;subst this;exact RC pg pb hl'.2 (λ_ _ _ _ _ _=>hs _ (.inl hb)) k _ _ (λA τ ρ G _ _=>Dqs.ofInts _) _ _ _ _ _ (h.up E1 L1) hq
 |false=>
  rw [hb,if_neg y8] at hq;have h1:=(h.dem hl'.1).up E1 L1;have b1:Ex G0 (rs (λb=>∃ i,Ad m A i b) G1):=λb o e=>by
   rw [jO]
   ·exact h1.r.ex _ _ e
   ·rintro ⟨i,z⟩;rw [h1.r.fr i _ z] at e;cases e
  have h2:RL l a z0 D (rs (λb=>∃ i,Ad m A i b) G1) (Ad m A) τ (dm m ρ) G1 n1:=⟨⟨VI,h.r.dm.up b1,λi p z=>by unfold rs;exact zB ⟨i,z⟩,h1.r.da,h1.r.inj,h1.r.len,h1.r.sl⟩,h1.al,h1.tl,h1.ul,h1.lf,h1.tz⟩
  have X:∀ A2 τ2 ρ2 G2,RS D (rs (λb=>∃ i,Ad m A i b) G1) A2 τ2 ρ2 G2->Ex (rs (AD D (Ad m A)) G1) (rs (AD D A2) G2):=λA2 τ2 ρ2 G2 r b o e=>by
   obtain ⟨n1,e⟩:=qE e;have eb:rs (λb=>∃ i,Ad m A i b) G1 b=some o:=by rw [jO (λz=>n1 (.inr z))];exact e
   rw [jO]
   ·exact r.ex _ _ eb
   ·rintro (z|⟨i,z⟩)
    ·exact n1 (.inl z)
    ·rw [r.fr i _ z] at eb;cases eb
  exact RC pg pb hl'.2 (λA2 τ2 ρ2 G2 n2 r=>hs _ (.inr ((X _ _ _ _ r.r).trans VI))) (λo m hq=>(k o m hq).base b1 h.r.dm) _ _ (λA2 τ2 ρ2 G2 n2 r=>D1.up (X _ _ _ _ r.r)) _ _ _ _ _ h2 hq⟩
end
def DSp (W:List PyData->Nat->QD->Prop) (fr:Bool):Sp3:=λts G q=>∃ (D:Addr->Prop) (a:Addr) (n:Nat) (ts':List T) (ds:List PyData) (Q:QD),ts=.ref a::ts'/\Lf G a n/\D a/\Dom D G/\Dqs (rs D G) ts' ds/\W ds n Q/\∀ x d G' n',Q d n'->Ext a G G'->Lf G' a n'->Dq (rs D G') x d->(fr=true->Nw D G G' x d)->q x G'
structure Wm where
 W:List PyData->Nat->QD->Prop
 mono:∀ {ds n} {Q Q':QD},W ds n Q->(∀ d m,Q d m->Q' d m)->W ds n Q'
def dSp (w:Wm) (fr:Bool):DrD (DSp w.W fr):=⟨w.W,fr,w.mono,λ{D G a n ts ds q Q} lf da hd hs hw k=>⟨D,a,n,ts,ds,Q,rfl,lf,da,hd,hs,hw,k⟩⟩
def qjb (fr:Bool) (Q:QD):QO:=λo n=>match o with
 |.rt d b=>(fr=true->b=true)/\∃ m,n<=m/\Q d m
 |.nx _=>fr=false/\∃ m,n<=m/\Q .none m
 |_=>False
def qoG {t:TS3} (b:PwS 0 t) (k N:Nat) (fr:Bool):Wm:=⟨λds n Q=>ds.length+1=k/\b.w (.un::(ds.map Sl.sh++List.replicate (N-(ds.length+1)) .un)) n (qjb fr Q),λ⟨h1,h2⟩ k=>⟨h1,b.mono h2 λo m h=>by
 cases o with
 |rt d f=>obtain ⟨h1,m,h2,h3⟩:=h;exact ⟨h1,m,h2,k _ _ h3⟩
 |nx ρ=>obtain ⟨h1,m,h2,h3⟩:=h;exact ⟨h1,m,h2,k _ _ h3⟩
 |bk ρ=>exact h
 |ct ρ=>exact h⟩⟩
def LY {t:TS3} (b:PwS 0 t) (N:List Str) (k:Nat) (fr:Bool):∀ ts G q,DSp (qoG b k N.length fr).W fr ts G q->ts.length=k/\t { nx:=λ_ G'=>q .non G',rt:=q } (qm N ts) G:=by
 rintro ts G q ⟨D,a,n,ts',ds,Q,rfl,lf,da,hd,hs,⟨hk,hw⟩,h⟩;refine ⟨by simp [hs.length];omega,?_⟩;have DD:∀ b,(D b/\b≠a)\/b=a↔D b:=λb=>by
  by_cases e:b=a
  ·subst e;simp [da]
  ·simp [e]
 have rr:∀ H,rs (λb=>(D b/\b≠a)\/b=a) H=rs D H:=λH=>by
  have:(λb=>(D b/\b≠a)\/b=a)=D:=funext λb=>propext (DD b);rw [this]
 have ad:AD (λb=>D b/\b≠a) (λi p=>i=0/\p=a)=D:=funext λb=>propext ⟨(λz=>by
   rcases z with z|⟨i,_,z⟩
   ·exact z.1
   ·rw [z];exact da),(λz=>by
   by_cases e:b=a
   ·exact .inr ⟨0,rfl,e⟩
   ·exact .inl ⟨z,e⟩)⟩
 have ga:G a≠none:=EU lf;have r:RL 0 a (some (some (.ref a)),(qm N (.ref a::ts')).length) (λb=>D b/\b≠a) (rs (λb=>b=a) G) (λi p=>i=0/\p=a) (qm N (.ref a::ts')) (.un::(ds.map Sl.sh++List.replicate (N.length-(ds.length+1)) .un)) G n:=by
  refine ⟨⟨VI,λb hb=>by rw [jO (D:=λb=>b=a) hb.2];exact hd b hb.1,λi p e=>by rw [e.2];unfold rs;exact zB rfl,λi p e=>by rw [e.2];exact ga,λi j p e e'=>e.1.trans e'.1.symm,by simp [qm,hs.length],λi s e=>?_⟩,⟨rfl,rfl⟩,by simp [qm],rfl,lf,⟨by simp [qm],rfl⟩⟩;rw [ad];cases i with
  |zero=>cases e;trivial
  |succ i=>
   rw [x3] at e;by_cases hi:i<ds.length
   ·rw [List.getElem?_append_left (by simpa using hi),getElem?_map] at e;obtain ⟨d2,e3,rfl⟩:=za3 e;obtain ⟨x,e5,hx⟩:=hs.get e3;refine ⟨x,?_,hx⟩;unfold qm;rw [List.getElem?_append_left (by simp [hs.length];exact hi),getElem?_map,x3,e5];rfl
   ·rw [List.getElem?_append_right (by simpa using hi),List.getElem?_replicate] at e;split at e<;>cases e
    trivial
 have xe:∀ {G'},Ex (rs (λb=>b=a) G) G'->Ext a G G':=λe b o n x=>e b o (by rw [jO (D:=λb=>b=a) n];exact x);refine b.ok r hw λo m hq=>?_;cases o with
 |rt d f=>
  intro x G' E L Dx0 N;have Dx:=Dx0;rw [rr] at Dx;obtain ⟨hq1,m2,hm,hq2⟩:=hq;refine h x d G' m2 hq2 (xe E) (L.mono (by omega)) Dx λz=>?_;rcases N (hq1 z) with h2|⟨p,xs,ds',h1,h2,c,g,f'⟩
  ·exact .inl h2
  have np:p≠a:=by
   rintro rfl;rw [h1] at Dx0;cases Dx0 with
   |lst g0 _=>exact (qE g0).1 (.inr rfl)
  refine .inr ⟨p,xs,ds',h1,h2,by rw [jO (D:=λb=>b=a) np] at c;exact c,g,f'.up (zL λb z=>?_)⟩;rcases z with z|z
  ·exact .inl ((DD b).mpr z)
  ·exact .inr z
 |nx ρ=>
  obtain ⟨hq1,m2,hm,hq2⟩:=hq;exact λA τ G' r'=>h .non .none G' m2 hq2 (xe r'.r.ex) (r'.lf.mono (by omega)) .non λz=>by rw [hq1] at z;cases z
 |bk ρ=>exact hq.elim
 |ct ρ=>exact hq.elim
end Pu
namespace Pu
open PySem L2 L3
open Bk (Lf Ext Dl)
def okW:QO:=λo _=>match o with|.nx _=>True|.ct _=>True|_=>False
def qrm (K:Int):TE3:=o3 jS (c3 (.int 1)) (cb3 X2 (qc (c3 (.int K)) (qc (cb3 JZ (qc (v3 0) qk)) qk)))
def qj8 {i:Nat} {τ:St3} {t:T} {G:Gp} {q:Q3} (h:τ[i]?=some (some t)):v3 i τ G q=q t G:=by unfold v3;rw [h]
def qrJ (K:Int) (R:TS3):TS3:=qF (C8 (jy (qc (qrm K) qk)) (gn3 1) (qF (qN (cb3 Bk.YA (qc (v3 0) (qc (v3 1) qk))) (gn3 2)) R)) (zm (c3 (.bl true)))
def qdG {R:TS3} (b:PwS 2 R) (N:List Str) (K:Int) (M:Nat) (hK:0<=K/\K<=60) (hN:N.length=M+3) (h:∀ k:Nat,k<=60->b.w ([.un,.sh (.int k),.un]++List.replicate M .un) 0 okW):∀ ts G q,CW ts G q->ts.length=1/\qrJ K R { nx:=λ_ G'=>q .non G',rt:=q } (qm N ts) G:=by
 rintro ts G q ⟨a,ns,rfl,hG,hl,hq⟩;refine ⟨rfl,?_⟩;have s0:(qm N [T.ref a])[0]?=some (some (.ref a)):=by simp [qm]
 have gl:getL G a=some (ns.map T.int):=by unfold getL;rw [hG]
 simp only [qrJ,qF,C8,jy,qrm,qc,qk,o3,c3,cb3,v3,s0,JZ,gl,X2,jS,length_map];have cnt:((1+(if ((ns.length:Nat):Int)<K then ((ns.length:Nat):Int) else K)).toNat)<=61:=by split<;>omega
 refine ⟨⟨by split<;>omega,by split<;>omega⟩,?_⟩;refine qcL _ (λ_ τ G'=>G' a=some (.frz (ns.map T.int))/\τ[0]?=some (some (.ref a))/\τ.length=M+3) ⟨hG,s0,by simp [qm,hN]⟩ (λ_ _ _ _ _=>True.intro) ?_ ?_
 ·rintro i z τ G' nx hz ⟨gA,t0,tl⟩ hn;obtain ⟨hi,rfl⟩:=XN hz;have hi2:i<=60:=by omega
  have t1:(τ.set 1 (some (T.int (0+(i:Int)))))[0]?=some (some (.ref a)):=by rw [getElem?_set,if_neg (by omega)];exact t0
  have t2:(τ.set 1 (some (T.int (0+(i:Int)))))[1]?=some (some (T.int (0+(i:Int)))):=by rw [getElem?_set,if_pos rfl,if_pos (by omega)]
  show v3 0 (τ.set 1 (some (T.int (0+(i:Int))))) G' (λx G1=>v3 1 (τ.set 1 (some (T.int (0+(i:Int))))) G1 λy G2=>Bk.YA [x,y] G2 λz G3=>R _ ((τ.set 1 (some (T.int (0+(i:Int))))).set 2 (some z)) G3);rw [qj8 t1,qj8 t2];refine ⟨a,_,ns,rfl,gA,hl,by omega,by omega,λp o c hp ho=>?_⟩;have pa:a≠p:=by rintro rfl;rw [gA] at hp;cases hp
  have r:RL 2 p (some (some (.ref a)),M+3) (λ_=>False) G' (λj q=>j=2/\q=p) ((τ.set 1 (some (T.int (0+(i:Int))))).set 2 (some (.ref p))) ([.un,.sh (.int i),.un]++List.replicate M .un) (gu G' p (.lst [.int o,.int c,.int 0])) 0:=by
   refine ⟨⟨QI hp,λb z=>z.elim,λj q e=>by rw [e.2];exact hp,λj q e=>by rw [e.2,qu];simp,λj k q e e'=>e.1.trans e'.1.symm,by simp [tl],λj s e=>?_⟩,⟨rfl,rfl⟩,by rw [getElem?_set,if_pos rfl,if_pos (by simp;omega)],rfl,⟨o,c,0,qu,ho,by omega,by omega⟩,⟨by rw [getElem?_set,if_neg (by omega)];exact t1,by simp [tl]⟩⟩
   match j,e with
   |0,e=>cases e;trivial
   |1,e=>
    cases e;refine ⟨.int (0+(i:Int)),by rw [getElem?_set,if_neg (by omega)];exact t2,?_⟩;rw [Int.zero_add];exact .int _
   |2,e=>cases e;trivial
   |j+3,e=>
    simp only [cons_append,List.nil_append,x3,List.getElem?_replicate] at e;split at e<;>cases e
    trivial
  refine b.ok r (h i hi2) λo' m ho'=>?_;cases o' with
  |nx ρ'=>exact λA τ' G2 r2=>hn _ _ ⟨r2.r.ex _ _ gA,r2.tz.1,r2.tz.2⟩
  |ct ρ'=>exact λA τ' G2 r2=>hn _ _ ⟨r2.r.ex _ _ gA,r2.tz.1,r2.tz.2⟩
  |bk ρ'=>exact ho'.elim
  |rt d f=>exact ho'.elim
 ·rintro τ G' ⟨gA,t0,tl⟩;exact hq G'
def qpL {G:Gp} {ts:List T} {i:Int} (h:Dqs G ts [.int i]):ts=[.int i]:=by
 cases h with
 |cons a b=>cases b;cases a;rfl
def lfc {G:Gp} {a:Addr} {n c:Nat} (h:Lf G a ((n:Int)+(c:Int))):Lf G a ((n+c:Nat):Int):=by rw [Int.natCast_add];exact h
def LM:DrD Bk.zX:=⟨λds n Q=>∃ m:Int,ds=[.int m]/\(1<=m/\m<1073741824)/\n<1000000000/\∀ d:Int,0<=d->d<m->Q (.int d) (n+1),false,
 λ⟨m,h1,h2,h3,h4⟩ k=>⟨m,h1,h2,h3,λd x y=>k _ _ (h4 d x y)⟩,λ{D G a n ts ds q Q} lf da hd hs ⟨m,h1,h2,h3,h4⟩ k=>by
 subst h1;have:=qpL hs;subst this;exact ⟨a,n,m,rfl,h2.1,h2.2,lf,by omega,λd G' x y L E=>k _ _ G' (n+1) (h4 d x y) E (lfc (c:=1) L) (.int d) (λz=>by cases z)⟩⟩
def qkO {l:Nat} {t:TE3} {b:PuE t}:(eOf (l:=l) b).w=λρ n Q=>∃ d,b.f ρ=some d/\Q d n:=id rfl
def qlW {l:Nat} {t:TT3} {b:PuC t}:(cOf (l:=l) b).w=λρ n Q=>∃ d,b.f ρ=some d/\Q d n:=id rfl
def qmM {l:Nat} {t:TA3} {b:PuA t}:(aOf (l:=l) b).w=λρ n Q=>∃ d,b.f ρ=some d/\Q d n:=id rfl
def qkf {l:Nat} {t:TI3} {b:PuI t}:(iOf (l:=l) b).w=λρ n Q=>∃ d,b.f ρ=some d/\Q d n:=id rfl
def qrH {l:Nat} {r:R3} {ta tb:TE3} {R:OpD r} {a:PwE l ta} {b:PwE l tb}:(eO R a b).w=λρ n Q=>a.w ρ n λx n1=>b.w ρ n1 λy n2=>∃ v,R.f x y=some v/\Q v n2:=id rfl
def qcU {l:Nat} {ta:TE3} {tr:TA3} {a:PwE l ta} {r:PwA l tr}:(qiG a r).w=λρ n Q=>a.w ρ n λx n1=>r.w ρ n1 λxs n2=>Q (x::xs) n2:=id rfl
def qnf {l:Nat} {r:List T->Gp->Q3->Prop} {t:TA3} {R:DrD r} {b:PwA l t}:(eDr R b).w=λρ n Q=>b.w ρ n λxs n1=>R.W xs n1 Q:=id rfl
def qma {l:Nat} {t:TE3} {b:PwE l t}:(cTb b).w=λρ n Q=>b.w ρ n λd n1=>∃ k,asB d=some k/\Q k n1:=id rfl
def qfQ {l:Nat} {t:TT3} {a:PwC l t}:(qre a).w=λρ n Q=>a.w ρ n λk n1=>Q (!k) n1:=id rfl
def qrg {l:Nat} {t:TE3} {b:PwE l t}:(iS b).w=λρ n Q=>b.w ρ n λd n1=>∃ ds,LI d=some ds/\Q ds n1:=id rfl
def qmO {l:Nat} {t:TE3} {b:PwE l t}:(iS b).nm=false:=id rfl
def qfn {l:Nat} {t:TI3} {b:PuI t}:(iOf (l:=l) b).nm=b.nm:=id rfl
def qgI {l:Nat} {t:TE3} {b:PuE t}:(eOf (l:=l) b).nw=b.nw:=id rfl
def qkQ {l:Nat} {r:R3} {ta tb:TE3} {R:OpD r} {a:PwE l ta} {b:PwE l tb}:(eO R a b).nw=R.nw:=id rfl
def qf0 {l:Nat} {r:List T->Gp->Q3->Prop} {t:TA3} {R:DrD r} {b:PwA l t}:(eDr R b).nw=R.nw:=id rfl
def qbk {l:Nat}:(qaW (l:=l)).w=λρ n Q=>Q (.nx ρ) n:=id rfl
def qb4 {l:Nat} {t u:TS3} {x:PwS l t} {y:PwS l u}:(D4 x y).w=λρ n Q=>x.w ρ n (sqw y.w Q):=id rfl
def qbb {b:Rho->Nat->QO->Prop} {Q:QO} {ρ:Rho} {n:Nat}:sqw b Q (.nx ρ) n=b ρ n Q:=id rfl
def qgE {b:Rho->Nat->QO->Prop} {Q:QO} {d:PyData} {f:Bool} {n:Nat}:sqw b Q (.rt d f) n=Q (.rt d f) n:=id rfl
def qm2 {l:Nat} {c:TT3} {t u:TS3} {pc:PwC l c} {x:PwS l t} {y:PwS l u}:(wIf pc x y).w=λρ n Q=>pc.w ρ n λk n1=>if k then x.w ρ n1 Q else y.w ρ n1 Q:=id rfl
def qgM {l:Nat} {t:TE3} {x:PwE l t}:(qji x).w=λρ n Q=>x.w ρ n λd n1=>Q (.rt d x.nw) n1:=id rfl
def qbE {l:Nat} {i:Nat}:(qnJ (l:=l) i).w=λρ n Q=>∃ d b,qdj ρ i=some (.rt d b)/\Q (.rt d b) n:=id rfl
def qfb {l:Nat} {t:TE3} {x:PwE l t} {i:Nat} {m:List Bool} {hm:Tru (x.fv.all (mkb m))} {hl:Tru (!mkb m l&&(i != l&&i != 0))}:(LA x i m hm hl).w=λρ n Q=>x.w ρ n λd n1=>Q (.nx (qaI m x.nw i d ρ)) n1:=id rfl
def qfC {l:Nat} {t:TA3} {x:PwA l t} {i j:Nat} {m:List Bool} {hm:Tru (x.fv.all (mkb m))} {hl:Tru (!mkb m l&&((i != l&&i != 0)&&(j != l&&j != 0)))}:(qpP x i j m hm hl).w=λρ n Q=>x.w ρ n λds n1=>∃ o,qoP i j m ds ρ=some o/\Q o n1:=id rfl
def qeT {l:Nat} {t:TE3} {x:PwE l t} {i:Nat} {m:List Bool} {hm:Tru (x.fv.all (mkb m))} {hl:Tru (!mkb m l)}:(qra x i m hm hl).w=λρ n Q=>∃ ds,slot ρ i=some ds/\x.w ρ n λd n1=>slot (dmS m d ρ) i=some ds/\∃ es,d=.list es/\ds.length+es.length<=16777216/\Q (.nx ((dmS m d ρ).set i (.ow (ds++es)))) n1:=id rfl
def qfJ {l:Nat} {wi:TI3} {g:TG3} {tb:TS3} {pi:PwI l wi} {pg:PuG g} {pb:PwS l tb} {m:List Bool} {hm:Tru (pi.fv.all (mkb m))} {hl:Tru (!mkb m l&&pg.tg.all (λi=>i != l&&i != 0))}:(qkW pi pg pb m hm hl).w=λρ n Q=>pi.w ρ n λds n1=>qdm pg.f pb.w ds (if pi.nm then ρ else dm m ρ) n1 Q:=id rfl
def qc6 {ds:List PyData} {n:Nat} {Q:QD}:LM.W ds n Q=(∃ m:Int,ds=[.int m]/\(1<=m/\m<1073741824)/\n<1000000000/\∀ d:Int,0<=d->d<m->Q (.int d) (n+1)):=id rfl
def qoq {w:Wm} {fr:Bool}:(dSp w fr).W=w.W:=id rfl
def qfx {w:Wm} {fr:Bool}:(dSp w fr).nw=fr:=id rfl
def qb3 {Q:QD} {d:PyData} {b:Bool} {n:Nat}:qjb false Q (.rt d b) n=∃ m,n<=m/\Q d m:=propext ⟨λh=>h.2,λh=>⟨λz=>(y8 z).elim,h⟩⟩
def qgw {Q:QD} {d:PyData} {n:Nat}:qjb true Q (.rt d true) n=∃ m,n<=m/\Q d m:=propext ⟨λh=>h.2,λh=>⟨λ_=>rfl,h⟩⟩
def qgD {ρ:Rho} {n:Nat}:okW (.nx ρ) n=True:=id rfl
def qkq {α:Type} {v:α} {P:α->Prop}:(∃ d,some v=some d/\P d)=P v:=propext ⟨λ⟨d,h1,h2⟩=>by cases h1;exact h2,λh=>⟨v,rfl,h⟩⟩
def qgm {v:Int} {P:Int->Prop}:(∃ m:Int,[PyData.int v]=[.int m]/\P m)=P v:=propext ⟨λ⟨d,h1,h2⟩=>by cases h1;exact h2,λh=>⟨v,rfl,h⟩⟩
def qk7 {d:PyData} {b:Bool} {P:PyData->Bool->Prop}:(∃ d' b',some (Ot.rt d b)=some (.rt d' b')/\P d' b')=P d b:=propext ⟨λ⟨x,y,h1,h2⟩=>by cases h1;exact h2,λh=>⟨d,b,rfl,h⟩⟩
def qff {v:List PyData} {P:List PyData->Prop}:(∃ d,PyData.list v=.list d/\P d)=P v:=propext ⟨λ⟨d,h1,h2⟩=>by cases h1;exact h2,λh=>⟨v,rfl,h⟩⟩
def qe1 {m:List Bool} {nw:Bool} {i:Nat} {d:Dl} {ρ:Rho}:qaI m nw i (Pv.dlD d) ρ=(dm m ρ).set i (.sh (Pv.dlD d)):=by cases d<;>exact qg2
def qeW {m:List Bool} {d:Int×Int} {ρ:Rho}:dmS m (Pv.pD d) ρ=dm m ρ:=id rfl
def Z8 {l:Nat} {t u:TS3} {x:PwS l t} {y:PwS l u} {ρ:Rho} {n:Nat} {Q:QO} (h:∀ Y:Rho->Nat->QO->Prop,Y=y.w->x.w ρ n (sqw Y Q)):(D4 x y).w ρ n Q:=h _ rfl
structure Mn (bw:Rho->Nat->QO->Prop):Prop where
 h:∀ ρ n (Q Q':QO),bw ρ n Q->(∀ o m,Q o m->Q' o m)->bw ρ n Q'
def PwS.mn {l:Nat} {t:TS3} (b:PwS l t):Mn b.w:=⟨λ_ _ _ _ h k=>b.mono h k⟩
section
variable {l:Nat} {g:TG3} {tb:TS3}
def WP {gf:PyData->Option (List (Nat×PyData))} {bw:Rho->Nat->QO->Prop} {α:Type} {f:α->PyData} (xs:List α) (mono:Mn bw) (I:Nat->Rho->Nat->Prop) {ρ:Rho} {n:Nat} {Q:QO} (h0:I 0 ρ n)
  (hs:∀ i x ρ n,xs[i]?=some x->I i ρ n->∃ bs,gf (f x)=some bs/\bw (Z9 ρ bs) n λo m=>match o with|.nx ρ'=>I (i+1) ρ' m|.ct ρ'=>I (i+1) ρ' m|.bk ρ'=>Q (.nx ρ') m|.rt d b=>Q (.rt d b) m)
  (k:∀ ρ n,I xs.length ρ n->Q (.nx ρ) n):qdm gf bw (xs.map f) ρ n Q:=by
 have key:∀ (r:List α) (i:Nat) (ρ:Rho) (n:Nat),xs.drop i=r->i<=xs.length->I i ρ n->qdm gf bw (r.map f) ρ n Q:=by
  intro r;induction r with
  |nil=>
   intro i ρ n e hi h;have:i=xs.length:=by
    have:=congrArg List.length e;simp at this;omega
   subst this;exact k ρ n h
  |cons x r ih=>
   intro i ρ n e hi h;have hl:i<xs.length:=by
    have:=congrArg List.length e;simp at this;omega
   have e':=List.drop_eq_getElem_cons hl;rw [e] at e';injection e' with e1 e2;obtain ⟨bs,h1,h2⟩:=hs i x ρ n (by rw [v0 hl,e1]) h;refine ⟨bs,h1,mono.h _ _ _ _ h2 λo m h=>?_⟩;cases o with
   |nx ρ'=>exact ih (i+1) ρ' m e2.symm hl h
   |ct ρ'=>exact ih (i+1) ρ' m e2.symm hl h
   |bk ρ'=>exact h
   |rt d b=>exact h
 exact key xs 0 ρ n (by simp) (Nat.zero_le _) h0
end
def qbV {α β:Type} {x:α} {f:α->Option β}:(some x).bind f=f x:=id rfl
def qgb {α β:Type} {x:α} {f:α->β}:(some x).map f=some (f x):=id rfl
def qkM {α:Type} {x:α} {r:List α}:(x::r).length=r.length+1:=id rfl
def qj0 {α:Type}:([]:List α).length=0:=id rfl
def qmF {α:Type} {x y:α} {r:List α}:(x::r).set 0 y=y::r:=id rfl
def qk4 {α:Type} {x y:α} {r:List α} {i:Nat}:(x::r).set (i+1) y=x::r.set i y:=id rfl
def qnM {α:Type} {r:List α}:r++[]=r:=List.append_nil r
def qmg {α:Type} {x:α} {r s:List α}:(x::r)++s=x::(r++s):=id rfl
def qjF {α:Type} {s:List α}:[]++s=s:=id rfl
def ql2 {n:Nat}:0+n=n:=Nat.zero_add n
def qjl {p:Prop}:(True/\p)=p:=true_and p
def qkH {α:Type} {a b:α} {i:Decidable True}:@ite α True i a b=a:=if_pos trivial
def qjY {α:Type} {a b:α} {i:Decidable False}:@ite α False i a b=b:=if_neg not_false
def qkS:(false=true)=False:=Bool.false_eq_true
def qk8:(!true)=false:=id rfl
def qnt:(!false)=true:=id rfl
def qmS {i:Decidable True}:@decide True i=true:=decide_true i
def qkN {i:Decidable False}:@decide False i=false:=decide_false i
def qjo {b:Bool}:(true||b)=true:=Bool.true_or b
def qom {b:Bool}:(false||b)=b:=Bool.false_or b
def ai{a b:Prop}(x:a)(y:b):a/\b:=⟨x,y⟩
def pwA:=(ai (ai (ai (ai (ai (ai (ai @Pu.qkO @Pu.qlW) (ai @Pu.qmM (ai @Pu.qkf @Pu.qrH))) (ai (ai @Pu.qcU (ai @Pu.qnf @Pu.qma)) (ai @Pu.qfQ (ai @Pu.qrg @Pu.qmO)))) (ai (ai (ai @Pu.qfn (ai @Pu.qgI @Pu.qkQ)) (ai @Pu.qf0 (ai @Pu.qbk @Pu.qb4))) (ai (ai @Pu.qbb (ai @Pu.qgE @Pu.qm2)) (ai @Pu.qgM (ai @Pu.qbE @Pu.qfb))))) (ai (ai (ai (ai @Pu.qfC (ai @Pu.qeT @Pu.qfJ)) (ai @Pu.qc6 (ai @Pu.qoq @Pu.qfx))) (ai (ai @Pu.qb3 (ai @Pu.qgw @Pu.qgD)) (ai @Pu.qgm (ai @Pu.qk7 @Pu.qff)))) (ai (ai (ai @Pu.qe1 (ai @Pu.qeW @Pu.qkw)) (ai @Pu.qrq (ai @Pu.qeY @Pu.qkx))) (ai (ai @Pu.qgc (ai @Pu.qrF @Pu.qgt)) (ai @Pu.qcQ (ai @Pu.qfu @Pu.qeU)))))) (ai (ai (ai (ai (ai @Pu.qbJ (ai @Pu.qmk @Pu.qjn)) (ai @Pu.qe5 (ai @Pu.qk6 @Pu.qc0))) (ai (ai @Pu.qfy (ai @Pu.qce @Pu.qjP)) (ai @Pu.qeS (ai @Pu.qn9 @Pu.ql7)))) (ai (ai (ai @Pu.qnC (ai @Pu.qcP @Pu.qjq)) (ai @Pu.qf7 (ai @Pu.qfZ @Pu.qgd))) (ai (ai @Pu.qgg (ai @Pu.qe2 @Pu.qaX)) (ai @Pu.qmh (ai @Pu.qlO @Pu.qgK))))) (ai (ai (ai (ai @Pu.qcB (ai @Pu.qe8 @Pu.qbc)) (ai @Pu.NW (ai @Pu.qfY @Pu.qfI))) (ai (ai @Pu.qfr (ai @Pu.qcb @Pu.qdc)) (ai @Pu.qck (ai @Pu.NH @Pu.qci)))) (ai (ai (ai @Pu.qrk (ai @Pu.qgj @Pu.qb0)) (ai @Pu.qfK (ai @Pu.qbL @Pu.qfi))) (ai (ai @Pu.qmI (ai @Pu.qeP @Pu.qbU)) (ai @Pu.qgr (ai @Pu.qdh @Pu.qgJ))))))) (ai (ai (ai (ai (ai (ai @Pu.qa9 @Pu.qgG) (ai @Pu.qeQ (ai @Pu.qlF @Pu.qbH))) (ai (ai @Pu.NE (ai @Pu.NL @Pu.ND)) (ai @Pu.qco (ai @Pu.qfO @Pu.qfH)))) (ai (ai (ai @Pu.qcV (ai @Pu.qbu @Pu.qcN)) (ai @Pu.qbP (ai @Pu.qcg @Pu.MQ))) (ai (ai @Pu.T8 (ai @Pu.qbi @Pu.qrr)) (ai @Pu.qrs (ai @Pu.qoi @Pu.qnT))))) (ai (ai (ai (ai @Pu.qaU (ai @Pu.qe7 @Pu.qbO)) (ai @Pu.qbW (ai @Pu.qfq @Pu.qmB))) (ai (ai @Pu.qjN (ai @Pu.at0 @Pu.at1)) (ai @Pu.eqS (ai @Pu.eqI @Pu.qrh)))) (ai (ai (ai @Pu.qf9 (ai @Pu.qf6 @Pu.qgh)) (ai @Pu.qcw (ai @Pu.qgx @Pu.qaP))) (ai (ai @Pu.qjB (ai @Pu.qkJ @Pu.qfU)) (ai @Pu.qfc (ai @Pu.M9 @Pu.qfw)))))) (ai (ai (ai (ai (ai @Pu.K5 (ai @Pu.qfT @Pu.qlq)) (ai @Pu.qkl (ai @Pu.qjL @Pu.qgl))) (ai (ai @Pu.qop (ai @Pu.ql8 @Pu.qg2)) (ai @Pu.qgn (ai @Pu.qf8 @Pu.qkv)))) (ai (ai (ai @Pu.qlU (ai @Pu.qmK @Pu.qro)) (ai @Pu.qrt (ai @Pu.qrp @Pu.qky))) (ai (ai @Pu.qkt (ai @Pu.qml @Pu.qjU)) (ai @Pu.qlX (ai @Pu.qq4 @Pu.qnl))))) (ai (ai (ai (ai @Pu.qgL (ai @Pu.qfW @Pu.qe0)) (ai @Pu.qkq (ai @Pu.qbV @Pu.qgb))) (ai (ai @Pu.qkM (ai @Pu.qj0 @Pu.qmF)) (ai @Pu.qk4 (ai @Pu.qnM @Pu.qmg)))) (ai (ai (ai @Pu.qjF (ai @Pu.ql2 @Pu.qjl)) (ai @Pu.qkH (ai @Pu.qjY @Pu.qkS))) (ai (ai @Pu.qk8 (ai @Pu.qnt @Pu.qmS)) (ai @Pu.qkN (ai @Pu.qjo @Pu.qom))))))))
end Pu
namespace Bk
open PySem L2 L3
end Bk
namespace Pu
open PySem L2 L3
open Bk (Lf Ext Dl)
def L5 {H:Gp} {xs:List T} {d:PyData} {ds:List PyData} (h:Dqs H xs (d::ds)):∃ x r,xs=x::r/\Dq H x d/\Dqs H r ds:=by
 cases h with
 |cons a b=>exact ⟨_,_,rfl,a,b⟩
def qad {H:Gp} {xs:List T} (h:Dqs H xs []):xs=[]:=by cases h;rfl
def qrS {H:Gp} {x:T} {i:Int} (h:Dq H x (.int i)):x=.int i:=by cases h;rfl
def qrY {H:Gp} {x:T} {i:Str} (h:Dq H x (.str i)):x=.str i:=by cases h;rfl
def qfM {H:Gp} {x:T} {ds:List PyData} (h:Dq H x (.tuple ds)):∃ xs,x=.tup xs/\Dqs H xs ds:=by
 cases h with
 |tup a=>exact ⟨_,rfl,a⟩
def D5 {H:Gp} {xs:List T} {i:Int} {ds:List PyData} (h:Dqs H xs (.int i::ds)):∃ r,xs=.int i::r/\Dqs H r ds:=by
 obtain ⟨x,r,rfl,a,b⟩:=L5 h;exact ⟨r,by rw [qrS a],b⟩
def qcR {H:Gp} {xs:List T} {i:Str} {ds:List PyData} (h:Dqs H xs (.str i::ds)):∃ r,xs=.str i::r/\Dqs H r ds:=by
 obtain ⟨x,r,rfl,a,b⟩:=L5 h;exact ⟨r,by rw [qrY a],b⟩
def qic {H:Gp}:∀ (cs:List (List Int)) {xs:List T},Dqs H xs (cs.map Pv.qb8)->xs=cs.map Bk.qjk:=by
 intro cs;induction cs with
 |nil=>intro xs h;exact qad h
 |cons r cs ih=>
  intro xs h;obtain ⟨x,t,rfl,a,b⟩:=L5 h;obtain ⟨ys,rfl,a1⟩:=qfM a;rw [ih b,Dqs.ints a1];rfl
def qlo {H:Gp} (d:Dl):∀ {x:T},Dq H x (Pv.dlD d)->x=d.t:=by
 induction d with
 |skew r c b x y=>
  intro z h0;obtain ⟨_,rfl,h1⟩:=qfM h0;obtain ⟨_,rfl,h2⟩:=qcR h1;obtain ⟨_,rfl,h3⟩:=D5 h2;obtain ⟨_,rfl,h4⟩:=D5 h3;obtain ⟨_,rfl,h5⟩:=D5 h4;obtain ⟨_,rfl,h6⟩:=D5 h5;obtain ⟨_,rfl,h7⟩:=D5 h6;rw [qad h7];rfl
 |rests r c b p=>
  intro z h0;obtain ⟨_,rfl,h1⟩:=qfM h0;obtain ⟨_,rfl,h2⟩:=qcR h1;obtain ⟨_,rfl,h3⟩:=D5 h2;obtain ⟨_,rfl,h4⟩:=D5 h3;obtain ⟨_,rfl,h5⟩:=D5 h4;obtain ⟨_,rfl,h6⟩:=D5 h5;rw [qad h6];rfl
 |bits hh l ms=>
  intro z h0;obtain ⟨_,rfl,h1⟩:=qfM h0;obtain ⟨_,rfl,h2⟩:=qcR h1;obtain ⟨_,rfl,h3⟩:=D5 h2;obtain ⟨_,rfl,h4⟩:=D5 h3;obtain ⟨_,_,rfl,a0,h5⟩:=L5 h4;obtain ⟨_,rfl,a1⟩:=qfM a0;rw [qad h5,Dqs.ints a1];rfl
 |table b cells=>
  intro z h0;obtain ⟨_,rfl,h1⟩:=qfM h0;obtain ⟨_,rfl,h2⟩:=qcR h1;obtain ⟨_,rfl,h3⟩:=D5 h2;obtain ⟨_,_,rfl,a0,h4⟩:=L5 h3;obtain ⟨_,rfl,a1⟩:=qfM a0;rw [qad h4,qic cells a1];rfl
 |joined d e ih1 ih2=>
  intro z h0;obtain ⟨_,rfl,h1⟩:=qfM h0;obtain ⟨_,rfl,h2⟩:=qcR h1;obtain ⟨_,_,rfl,a0,h3⟩:=L5 h2;obtain ⟨_,_,rfl,b0,h4⟩:=L5 h3;rw [qad h4,ih1 a0,ih2 b0];rfl
def qbY:∀ (a b:Int),PyData.int a=PyData.int b->a=b:=λ_ _ h=>by injection h
def qhs:∀ (a b:List Int),Pv.qb8 a=Pv.qb8 b->a=b:=λa b h=>by
 unfold Pv.qb8 at h;injection h with h;exact (List.map_inj_right qbY).mp h
theorem NI:∀ (d e:Dl),Pv.dlD d=Pv.dlD e->d=e
 |.skew ..,.skew ..,h=>by simp [Pv.dlD] at h;simp [h]
 |.rests ..,.rests ..,h=>by simp [Pv.dlD] at h;simp [h]
 |.bits _ _ ms,.bits _ _ ns,h=>by
  simp only [Pv.dlD,PyData.tuple.injEq,List.cons.injEq,PyData.int.injEq,and_true,true_and,Int.natCast_inj] at h;have:=(List.map_inj_right qbY).mp h.2.2;simp [h.1,h.2.1,this]
 |.table _ cs,.table _ es,h=>by
  simp only [Pv.dlD,PyData.tuple.injEq,List.cons.injEq,PyData.int.injEq,and_true,true_and] at h;have:=(List.map_inj_right qhs).mp h.2;simp [h.1,this]
 |.joined d e,.joined d' e',h=>by
  simp only [Pv.dlD,PyData.tuple.injEq,List.cons.injEq,and_true,true_and] at h;rw [NI d d' h.1,NI e e' h.2]
 |.skew ..,.rests ..,h=>by simp [Pv.dlD] at h
 |.skew ..,.bits ..,h=>by simp [Pv.dlD] at h
 |.skew ..,.table ..,h=>by simp [Pv.dlD] at h
 |.skew ..,.joined ..,h=>by simp [Pv.dlD] at h
 |.rests ..,.skew ..,h=>by simp [Pv.dlD] at h
 |.rests ..,.bits ..,h=>by simp [Pv.dlD] at h
 |.rests ..,.table ..,h=>by simp [Pv.dlD] at h
 |.rests ..,.joined ..,h=>by simp [Pv.dlD] at h
 |.bits ..,.skew ..,h=>by simp [Pv.dlD] at h
 |.bits ..,.rests ..,h=>by simp [Pv.dlD] at h
 |.bits ..,.table ..,h=>by simp [Pv.dlD] at h
 |.bits ..,.joined ..,h=>by simp [Pv.dlD] at h
 |.table ..,.skew ..,h=>by simp [Pv.dlD] at h
 |.table ..,.rests ..,h=>by simp [Pv.dlD] at h
 |.table ..,.bits ..,h=>by simp [Pv.dlD] at h
 |.table ..,.joined ..,h=>by simp only [Pv.dlD,PyData.tuple.injEq,List.cons.injEq,PyData.str.injEq] at h;exact absurd h.1 (by decide)
 |.joined ..,.skew ..,h=>by simp [Pv.dlD] at h
 |.joined ..,.rests ..,h=>by simp [Pv.dlD] at h
 |.joined ..,.bits ..,h=>by simp [Pv.dlD] at h
 |.joined ..,.table ..,h=>by simp only [Pv.dlD,PyData.tuple.injEq,List.cons.injEq,PyData.str.injEq] at h;exact absurd h.1 (by decide)
def the (S:PyData->Prop):Option PyData:=@dite _ (∃ v,S v) (Classical.propDecidable _) (λh=>some (Classical.choose h)) λ_=>none
def M5 {S:PyData->Prop} {v:PyData} (h:the S=some v):S v:=by
 unfold the at h;split at h
 ·rename_i e;cases h;exact Classical.choose_spec e
 ·cases h
def qfh {S:PyData->Prop} {v:PyData} (h:S v) (u:∀ w,S w->w=v):the S=some v:=by
 unfold the;rw [dif_pos ⟨v,h⟩];exact congrArg some (u _ (Classical.choose_spec (⟨v,h⟩:∃ v,S v)))
def siz (d:Dl):PyData:=.tuple [.int d.R,.int d.C,.int d.B]
def qj3 (G:Gp) (d:Dl):Dq G (Bk.LV d) (siz d):=.tup (.cons (.int _) (.cons (.int _) (.cons (.int _) .nil)))
def SzR (n:Nat) (ds:List PyData) (v:PyData):Prop:=∃ d:Dl,ds=[Pv.dlD d]/\d.dep<=n/\d.Ok/\v=siz d
def fSz (n:Nat):FnD (Bk.za (n+1)):=⟨λds=>the (SzR n ds),false,λ{D G xs ds v q} hx hd hf k=>by
 obtain ⟨d,rfl,h1,h2,rfl⟩:=M5 hf;cases hx with
 |cons a b=>
  cases b;have:=qlo d a;subst this;exact ⟨d,rfl,h1,h2,k _ _ Ex.refl (qj3 _ d) (λz=>by cases z)⟩⟩
def qai {n:Nat} {d:Dl} (h1:d.dep<=n) (h2:d.Ok):the (SzR n [Pv.dlD d])=some (siz d):=qfh ⟨d,rfl,h1,h2,rfl⟩ λw ⟨e,a,_,_,b⟩=>by
 injection a with a;rw [b,NI d e a]
def qdR {n:Nat}:(fSz n).f=λds=>the (SzR n ds):=id rfl
def BkR (n:Nat) (ds:List PyData) (v:PyData):Prop:=∃ (d:Dl) (i j:Int),ds=[Pv.dlD d,.tuple [.int i,.int j]]/\d.dep<=n/\d.Ok/\Bk.Inn d i j/\v=.int (d.bank i j)
def fBk (n:Nat):FnD (Bk.N0 n):=⟨λds=>the (BkR n ds),false,λ{D G xs ds v q} hx hd hf k=>by
 obtain ⟨d,i,j,rfl,h1,h2,h3,rfl⟩:=M5 hf;cases hx with
 |cons a b=>cases b with
  |cons c b=>
   cases b;have:=qlo d a;subst this;cases c with
   |tup hs=>cases hs with
    |cons x hs=>cases hs with
     |cons y hs=>
      cases hs;cases x;cases y;exact ⟨d,i,j,rfl,h1,h2,h3,λG' E=>k _ _ E (.int _) (λz=>by cases z)⟩⟩
def qiz {n:Nat} {d:Dl} {i j:Int} (h1:d.dep<=n) (h2:d.Ok) (h3:Bk.Inn d i j):the (BkR n [Pv.dlD d,.tuple [.int i,.int j]])=some (.int (d.bank i j)):=qfh ⟨d,i,j,rfl,h1,h2,h3,rfl⟩ λw ⟨e,i',j',a,_,_,_,b⟩=>by
 simp only [List.cons.injEq,PyData.tuple.injEq,PyData.int.injEq,and_true] at a;rw [b,NI d e a.1,a.2.1,a.2.2]
def qaM (r c:Nat):List (Int×Int):=(List.range r).flatMap λ(i:Nat)=>(List.range c).map λ(j:Nat)=>((i:Int),(j:Int))
end Pu
namespace Pu
open PySem L2 L3
open Bk (Lf Ext Dl SD SDs RD MR qbB qcJ XE)
end Pu
namespace Pu
open PySem L2 L3
def qeN (st:Bool):List PyData->Option PyData
 |[.none]=>some (.str "None")
 |[.bool b]=>some (.str (if b=true then Str.ofString "True" else Str.ofString "False"))
 |[.int i]=>cif (i.natAbs.log2<1920) (some (.str (Str.ofString (toString i)))) none
 |[.str x]=>match st with
  |true=>some (.str x)
  |false=>cif ((reprText x).length<=sizeLine) (some (.str (reprText x))) none
 |[.list ds]=>cif (ShW (.list ds)) (some (.str (PyData.list ds).shown)) none
 |[.tuple ds]=>cif (ShW (.tuple ds)) (some (.str (PyData.tuple ds).shown)) none
 |_=>none
def YU {α:Type} {c:Prop} {x:α} {d:α} (h:cif c (some x) none=some d):c/\x=d:=by
 unfold cif at h;split at h
 ·rename_i z;exact ⟨z,Option.some.inj h⟩
 ·cases h
def qgU (st:Bool):FnD (qbq st):=⟨qeN st,false,λ{D G xs ds v q} hx hd hf k=>by
 cases hx with
 |nil=>cases hf
 |cons a b=>
  cases b with
  |cons b1 b2=>cases a<;>cases hf
  |nil=>
   have dp:=(a.up VI).dp;have fin:∀ (x:Str) {w:PyData},w=v->w=.str x->q (.str x) G:=λx w e1 e2=>k _ _ Ex.refl (by rw [← e1,e2];exact .str _) (λz=>by cases z);cases a with
   |non=>exact fin _ (Option.some.inj hf) rfl
   |bl b=>exact fin _ (Option.some.inj hf) rfl
   |int i=>exact ⟨(YU hf).1,fin _ (YU hf).2 rfl⟩
   |str x=>
    cases st with
    |true=>exact fin _ (Option.some.inj hf) rfl
    |false=>exact ⟨(YU hf).1,fin _ (YU hf).2 rfl⟩
   |tup hs=>exact ⟨_,dp,(YU hf).1,fin _ (YU hf).2 rfl⟩
   |lst g hs=>exact ⟨_,dp,(YU hf).1,fin _ (YU hf).2 rfl⟩⟩
def qbm {st:Bool}:(qgU st).f=qeN st:=id rfl
def nxM (M:Rho->Nat->Prop):QO:=λo m=>match o with|.nx ρ'=>M ρ' m|_=>False
def qiw {l:Nat} {t u:TS3} {x:PwS l t} {y:PwS l u} {ρ:Rho} {n:Nat} {Q:QO} (M:Rho->Nat->Prop) (h1:x.w ρ n (nxM M)) (h2:∀ ρ' m,M ρ' m->y.w ρ' m Q):(D4 x y).w ρ n Q:=by
 rw [qb4];refine x.mono h1 λo m h=>?_;cases o with
 |nx ρ'=>exact h2 _ _ h
 |_=>exact h.elim
def qim {α:Type} (g:α->PyData) (xs:List α):∀ k,enD k (xs.map g)=(xs.zipIdx k).map λp=>PyData.tuple [.int (p.2:Int),g p.1]:=by
 induction xs with
 |nil=>intro k;rfl
 |cons x xs ih=>intro k;simp only [map_cons,enD,List.zipIdx_cons,ih (k+1)]
def EC {α:Type} {xs:List α} {i n:Nat} {x:α} (h:(xs.zipIdx 0)[i]?=some (x,n)):xs[i]?=some x/\n=i/\i<xs.length:=by
 rw [List.getElem?_zipIdx] at h;obtain ⟨c,hc,e⟩:=za3 h;simp only [Nat.zero_add,Prod.mk.injEq] at e;obtain ⟨rfl,rfl⟩:=e;exact ⟨hc,rfl,(za4 hc).1⟩
def qoA (d e:PyData):Option PyData:=match d,e with
 |.list xs,.int k=>cif ((-(2 ^ 63)<=k/\k<2 ^ 63)/\xs.length*k.toNat<=sizeLine) (some (.list (List.replicate k.toNat xs).flatten)) none
 |_,_=>none
theorem Dqs.rep {G:Gp} {xs:List T} {ds:List PyData} (h:Dqs G xs ds):∀ k,Dqs G (List.replicate k xs).flatten (List.replicate k ds).flatten
 |0=>.nil
 |k+1=>by
  rw [List.replicate_succ,List.flatten_cons,List.replicate_succ,List.flatten_cons];exact h.append (h.rep k)
def qhw:OpD qht:=⟨qoA,true,λ{D G x y d e v q} hx hy hd hf k=>by
 unfold qoA at hf;cases hx with
 |lst g hs=>
  cases hy<;>try (simp at hf;done)
  simp only [cif] at hf;split at hf
  ·rename_i c;cases hf;simp only [qht,(qE g).2];exact ⟨c.1,by rw [hs.length];exact c.2,λp hp=>k _ _ (QI hp) (XB hd hp (hs.rep _)) λ_=>TC hp (hs.rep _)⟩
  ·cases hf
 |_=>simp at hf⟩
def qbD:qhw.f=qoA:=id rfl
def qri {d:PyData} {k:Int} (h:-1000<=k/\k<=1000000):qoA (.list [d]) (.int k)=some (.list (List.replicate k.toNat d)):=by
 have e:(List.replicate k.toNat [d]).flatten=List.replicate k.toNat d:=by simp
 refine (zB ⟨by omega,?_⟩).trans (by rw [e]);rw [y9,List.length_singleton];omega
def qcE {xs ys:List PyData} (h:xs.length+ys.length<=16777216):qjg (.list xs) (.list ys)=some (.list (xs++ys)):=zB (by rw [y9];exact h)
open Bk (Lf Ext)
def qqF {m:List Bool} {ρ:Rho} {i:Nat}:vw (dm m ρ) i=vw ρ i:=by
 unfold vw;rw [qaj];cases ρ[i]? with
 |none=>rfl
 |some s=>
  simp only [Option.map_some,Option.bind_some];split
  ·cases s<;>rfl
  ·rfl
def qj4 {l:Nat} {t1 t2:TE3} (a:PuE t1) (b:PuE t2) (i j:Nat) (m:List Bool) (ha:Tru a.nw) (hb:Tru b.nw) (h1:Tru (a.fv.all (mkb m))) (h2:Tru (b.fv.all (mkb m))) (hi:Tru (b.fv.all (· != i))) (hl:Tru (!mkb m l&&((i != l&&i != 0)&&(j != l&&j != 0)))):PwS l (DZ i j (qc t1 (qc t2 qk))):=
 ⟨λρ n Q=>∃ ds es,a.f ρ=some (.list ds)/\b.f ρ=some (.list es)/\Q (.nx ((dm m ((dm m ρ).set i (.ow ds))).set j (.ow es))) n,λ⟨ds,es,x,y,z⟩ k=>⟨ds,es,x,y,k _ _ z⟩,λ{a0 z0 D G0 A τ ρ G n e Q} h ⟨ds,es,e1,e2,hq⟩ k=>by
 have hl':mkb m l=false/\(i≠l/\i≠0)/\j≠l/\j≠0:=by simpa using hl.h
 have hd:=h.dem hl'.1;unfold DZ qc;refine a.ok (h.r.viewD h1) hd.r.dom e1 λx G1 E1 D1 N1=>?_;obtain ⟨A1,r1⟩:=hd.putN hl'.2.1.1 hl'.2.1.2 rfl (Bk.XM E1) (h.lf.ex E1) (N1 ha.h);have V:=r1.r.viewD h2;refine b.ok (D:=AD D (Ad m A1)) (λv hv d hd'=>?_) (r1.r.dem m).dom e2 λy G2 E2 D2 N2=>?_
 ·have vi:v≠i:=by simpa using List.all_eq_true.mp hi.h v hv
  have e3:vw ((dm m ρ).set i (.ow ds)) v=some d:=by
   have:vw ((dm m ρ).set i (.ow ds)) v=vw (dm m ρ) v:=by
    unfold vw;rw [getElem?_set,if_neg (λz=>vi z.symm)]
   rw [this,qqF];exact hd'
  obtain ⟨t,y1,y2⟩:=V v hv d e3;rw [getElem?_set,if_neg (λz=>vi z.symm)] at y1;exact ⟨t,y1,y2⟩
 ·obtain ⟨A2,r2⟩:=(r1.dem hl'.1).putN hl'.2.2.1 hl'.2.2.2 rfl (Bk.XM E2) (r1.lf.ex E2) (N2 hb.h);exact k _ _ hq _ _ _ r2⟩
def qhS {l:Nat} {t1 t2:TE3} {a:PuE t1} {b:PuE t2} {i j:Nat} {m:List Bool} {ha:Tru a.nw} {hb:Tru b.nw} {h1:Tru (a.fv.all (mkb m))} {h2:Tru (b.fv.all (mkb m))} {hi:Tru (b.fv.all (· != i))} {hl:Tru (!mkb m l&&((i != l&&i != 0)&&(j != l&&j != 0)))}:(qj4 (l:=l) a b i j m ha hb h1 h2 hi hl).w=λρ n Q=>∃ ds es,a.f ρ=some (.list ds)/\b.f ρ=some (.list es)/\Q (.nx ((dm m ((dm m ρ).set i (.ow ds))).set j (.ow es))) n:=id rfl
def RS.unk {D:Addr->Prop} {G0 G:Gp} {A:Nat->Addr->Prop} {τ:St3} {ρ:Rho} (h:RS D G0 A τ ρ G) (s:Nat) (t:Option T):RS D G0 A (τ.set s t) (ρ.set s .un) G:=by
 refine ⟨h.ex,h.dm,h.fr,h.da,h.inj,by rw [List.length_set,List.length_set];exact h.len,λi d x=>?_⟩;rw [getElem?_set] at x;split at x
 ·split at x<;>cases x
  trivial
 ·rename_i c;rw [getElem?_set,if_neg c];exact h.sl i d x
end Pu
namespace Pu
open PySem L2 L3
def SA (ρ:Rho) (i:Nat):Option (List (Int×PyData)):=match ρ[i]? with|some (.dc kvs)=>some kvs|_=>none
def qd8 {ρ:Rho} {i:Nat} {kvs:List (Int×PyData)} (h:SA ρ i=some kvs):ρ[i]?=some (.dc kvs):=by
 unfold SA at h;split at h
 ·rename_i e;cases h;exact e
 ·cases h
def VY:List (Int×PyData)->Int->Option PyData
 |[],_=>none
 |p::r,k=>if p.1=k then some p.2 else VY r k
def MY (kvs:List (Int×PyData)) (k:Int):Bool:=kvs.any λp=>decide (p.1=k)
def qi3 (kvs:List (Int×PyData)) (k:Int) (x:PyData):List (Int×PyData):=kvs.map λp=>if p.1=k then (p.1,x) else p
def DJ (kvs:List (Int×PyData)) (k:Int) (x:PyData):List (Int×PyData):=if MY kvs k then qi3 kvs k x else kvs++[(k,x)]
def DcQ (H:Gp) (ks:List (Int×T)) (kvs:List (Int×PyData)):Prop:=ks.map (λq=>q.1)=kvs.map (λq=>q.1)/\Dqs H (ks.map λq=>q.2) (kvs.map λq=>q.2)
theorem DcQ.up {H H':Gp} {ks:List (Int×T)} {kvs:List (Int×PyData)} (h:DcQ H ks kvs) (e:Ex H H'):DcQ H' ks kvs:=⟨h.1,h.2.up e⟩
theorem DcQ.nil {H:Gp}:DcQ H [] []:=⟨rfl,.nil⟩
theorem DcQ.cons {H:Gp} {a:Int} {x:T} {d:PyData} {ks:List (Int×T)} {kvs:List (Int×PyData)} (h:Dq H x d) (t:DcQ H ks kvs):DcQ H ((a,x)::ks) ((a,d)::kvs):=⟨congrArg (a::·) t.1,.cons h t.2⟩
theorem WX {H:Gp} {P:List (Int×T)->List (Int×PyData)->Prop} (p0:P [] []) (p1:∀ a x d ks kvs,Dq H x d->DcQ H ks kvs->P ks kvs->P ((a,x)::ks) ((a,d)::kvs)):∀ {ks kvs},DcQ H ks kvs->P ks kvs
 |[],[],_=>p0
 |[],_::_,h=>by have:=h.1;cases this
 |_::_,[],h=>by have:=h.1;cases this
 | (a,x)::ks,(b,d)::kvs,h=>by
  obtain ⟨h1,h2⟩:=h;have e:a=b/\ks.map (λq=>q.1)=kvs.map (λq=>q.1):=by
   rw [map_cons,map_cons] at h1;exact List.cons.inj h1
  obtain ⟨rfl,e⟩:=e;cases h2 with
  |cons q t=>exact p1 _ _ _ _ _ q ⟨e,t⟩ (WX p0 p1 ⟨e,t⟩)
def DcQ.len {H:Gp} {ks:List (Int×T)} {kvs:List (Int×PyData)} (h:DcQ H ks kvs):ks.length=kvs.length:=by
 have:=congrArg List.length h.1;rw [length_map,length_map] at this;exact this
def DcQ.look {H:Gp} {k:Int} {y:T} {d:PyData} (hy:Dq H y d) {ks:List (Int×T)} {kvs:List (Int×PyData)} (h:DcQ H ks kvs):Dq H ((SY ks k).getD y) ((VY kvs k).getD d):=by
 refine WX (P:=λks kvs=>Dq H ((SY ks k).getD y) ((VY kvs k).getD d)) hy (λa x e ks kvs q _ ih=>?_) h;show Dq H ((if a=k then some x else SY ks k).getD y) ((if a=k then some e else VY kvs k).getD d);by_cases c:a=k
 ·rw [if_pos c,if_pos c];exact q
 ·rw [if_neg c,if_neg c];exact ih
def DcQ.has {H:Gp} {k:Int} {ks:List (Int×T)} {kvs:List (Int×PyData)} (h:DcQ H ks kvs):qin ks k=MY kvs k:=by
 refine WX (P:=λks kvs=>qin ks k=MY kvs k) rfl (λa x e ks kvs q _ ih=>?_) h;show (decide (a=k)||qin ks k)=(decide (a=k)||MY kvs k);rw [ih]
def DcQ.rep {H:Gp} {k:Int} {y:T} {d:PyData} (hy:Dq H y d) {ks:List (Int×T)} {kvs:List (Int×PyData)} (h:DcQ H ks kvs):DcQ H (M8 ks k y) (qi3 kvs k d):=by
 refine WX (P:=λks kvs=>DcQ H (M8 ks k y) (qi3 kvs k d)) .nil (λa x e ks kvs q _ ih=>?_) h;show DcQ H ((if a=k then (a,y) else (a,x))::M8 ks k y) ((if a=k then (a,d) else (a,e))::qi3 kvs k d);by_cases c:a=k
 ·rw [if_pos c,if_pos c];exact ih.cons hy
 ·rw [if_neg c,if_neg c];exact ih.cons q
def DcQ.app {H:Gp} {k:Int} {y:T} {d:PyData} (hy:Dq H y d) {ks:List (Int×T)} {kvs:List (Int×PyData)} (h:DcQ H ks kvs):DcQ H (ks++[(k,y)]) (kvs++[(k,d)]):=
 WX (P:=λks kvs=>DcQ H (ks++[(k,y)]) (kvs++[(k,d)])) (DcQ.nil.cons hy) (λa x e ks kvs q _ ih=>ih.cons q) h
def DcQ.store {H:Gp} {k:Int} {y:T} {d:PyData} (hy:Dq H y d) {ks:List (Int×T)} {kvs:List (Int×PyData)} (h:DcQ H ks kvs):DcQ H (DN ks k y) (DJ kvs k d):=by
 unfold DN DJ;rw [h.has];cases MY kvs k with
 |true=>exact h.rep hy
 |false=>exact h.app hy
section
variable {D:Addr->Prop} {G0 G G':Gp} {A A':Nat->Addr->Prop} {τ:St3} {ρ:Rho}
def RS.dcq (h:RS D G0 A τ ρ G) {i:Nat} {kvs:List (Int×PyData)} (e:SA ρ i=some kvs):∃ p ks,A i p/\τ[i]?=some (some (.ref p))/\G p=some (.dct ks)/\DcQ (rs (AD D A) G) ks kvs:=h.sl i _ (qd8 e)
def RS.putD (h:RS D G0 A τ ρ G) (i:Nat) {p:Addr} (gp:G p=none):RS D G0 (Rg A i λb=>b=p) (τ.set i (some (.ref p))) (ρ.set i (.dc [])) (gu G p (.dct [])):=
 h.upd i (W:=λ_=>False) (λb o _ z=>QI gp b o z) (λ_ z=>z.elim) (λb z=>by subst z;exact ⟨.inr gp,by rw [qu];simp⟩) λ_=>⟨p,[],rfl,rfl,qu,rfl,.nil⟩
def RS.wrC (h:RS D G0 A τ ρ G) {i:Nat} {p:Addr} {ks:List (Int×T)} {kvs:List (Int×PyData)} (hi:A i p) (ht:τ[i]?=some (some (.ref p))) (hs:DcQ (rs (AD D A) G) ks kvs):RS D G0 A τ (ρ.set i (.dc kvs)) (gu G p (.dct ks)):=by
 have:=h.upd i (G':=gu G p (.dct ks)) (x:=.ref p) (s:=.dc kvs) (B:=A i) (W:=λb=>b=p) (λb o n z=>by rw [zu n];exact z) (λb z=>⟨i,by rw [z];exact hi,.inl rfl⟩) (λb z=>⟨.inl z,by
  by_cases c:b=p
  ·rw [c,qu];simp
  ·rw [zu c];exact h.da i b z⟩) λX=>⟨p,ks,hi,rfl,qu,(hs.up X).1,(hs.up X).2⟩
 rw [WL ht,LR] at this;exact this
end
def qfj (i:Nat):PuS (qN qdt (gn3 i)):=⟨λ_ ρ=>some (.nx (ρ.set i (.dc []))),λ{D G0 A τ ρ G n o e} h hf k=>by
 cases hf;intro p hp;exact k _ _ _ (h.putD i hp)⟩
def qeg {i:Nat}:(qfj i).f=λ_ ρ=>some (.nx (ρ.set i (.dc []))):=id rfl
def qoU (i j:Nat) (k d:PyData) (ρ:Rho):Option Ot:=(asI k).bind λk=>(SA ρ j).bind λkvs=>if K1 d then some (.nx (ρ.set i (.sh ((VY kvs k).getD d)))) else none
def qlY {tk te:TE3} (i j:Nat) (a:PuE tk) (b:PuE te):PuS (qN (qlb MB (v3 j) (qc tk (qc te qk))) (gn3 i)):=⟨λ_ ρ=>(a.f ρ).bind λk=>(b.f ρ).bind λd=>qoU i j k d ρ,λ{D G0 A τ ρ G n o e} h hf kk=>by
 obtain ⟨kd,e1,hf⟩:=obb hf;obtain ⟨d,e2,hf⟩:=obb hf;unfold qoU at hf;obtain ⟨k,e3,hf⟩:=obb hf;obtain ⟨kvs,e4,hf⟩:=obb hf;split at hf
 ·rename_i hs;cases hf;have:=CT e3;subst this;obtain ⟨p,ks,b1,c1,g1,q1⟩:=h.dcq e4;simp only [qN,qlb,v3,c1,g1];refine ⟨trivial,?_⟩;refine a.ok (h.viewAll _) h.domD e1 λx G1 E1 D1 _=>?_;cases D1;refine b.ok ((h.up E1).viewAll _) (h.up E1).domD e2 λy G2 E2 D2 _=>?_;simp only [qk,MB,E2 _ _ (E1 _ _ g1)];exact kk _ _ _ (((h.up E1).up E2).put i (((q1.up (jR E1)).up (jR E2)).look (U0 D2 hs)))
 ·cases hf⟩
def qel (i:Nat) (k d:PyData) (ρ:Rho):Option Ot:=(asI k).bind λk=>(SA ρ i).bind λkvs=>cif (kvs.length<sizeLine) (some (.nx (ρ.set i (.dc (DJ kvs k d))))) none
def qmT {t ti:TE3} (a:PuE t) (i:Nat) (b:PuE ti) (m:List Bool) (hm:Tru (a.fv.all (mkb m))):PuS (qN t (K4 (v3 i) ti)):=⟨λ_ ρ=>(a.f ρ).bind λd=>(b.f ρ).bind λk=>qel i k d (dmS m d ρ),λ{D G0 A τ ρ G n o e} h hf k=>by
 obtain ⟨d,e1,hf⟩:=obb hf;obtain ⟨kd,e3,hf⟩:=obb hf;obtain ⟨A1,h1,ev⟩:=h.evalS a m hm e1;unfold qel at hf;obtain ⟨kk,e4,hf⟩:=obb hf;obtain ⟨kvs,e2,hf⟩:=obb hf;unfold cif at hf;split at hf
 ·rename_i hl;cases hf;have:=CT e4;subst this;obtain ⟨p,ks,bb,c,g,f⟩:=h1.dcq e2;refine ev _ λx G1 E1 D1=>?_;simp only [K4,v3,c];refine b.ok ((h.up E1).viewAll _) (h.up E1).domD e3 λy G2 E2 D2 _=>?_;cases D2;simp only [qhB,E2 _ _ (E1 _ _ g)];exact ⟨by rw [f.len];exact hl,k _ _ _ (((h1.up E1).up E2).wrC bb c (((f.up (jR E1)).up (jR E2)).store (D1.up (jR E2))))⟩
 ·cases hf⟩
theorem qbI {H H':Gp}:∀ {xs:List T} {ds:List PyData},Dqs H xs ds->ds.all K1=true->Dqs H' xs ds
 |_,_,.nil,_=>.nil
 |_,_,.cons a b,h=>by
  rw [List.all_cons,Bool.and_eq_true] at h;exact .cons (U0 a h.1) (qbI b h.2)
def qii (d:PyData):Option PyData:=match d with
 |.int k=>if 0<=k/\k<=1000000 then some (.list ((List.range k.toNat).map λ(i:Nat)=>PyData.int (i:Int))) else none
 |_=>none
theorem ME {G:Gp}:∀ xs:List Nat,Dqs G (xs.map λ(i:Nat)=>T.int (i:Int)) (xs.map λ(i:Nat)=>PyData.int (i:Int))
 |[]=>.nil
 |x::xs=>.cons (.int _) (ME xs)
def qoC {te:TE3} (a:PuE te):PuE (SO te):=⟨λρ=>(a.f ρ).bind qii,a.fv,true,λ{D τ ρ G q d} hv hd hf k=>by
 obtain ⟨x,e1,hf⟩:=obb hf;unfold qii at hf;split at hf
 ·split at hf
  ·rename_i n hb;cases hf;refine a.ok hv hd e1 λx G1 E1 D1 _=>?_;cases D1;refine ⟨hb,λp gp=>?_⟩;have hdp:¬ D p:=λz=>(hd.up E1) p z gp;refine k _ _ (E1.trans (QI gp)) (.lst (by rw [jO hdp];exact qu) (ME _)) λ_=>.inr ⟨p,_,_,rfl,rfl,?_,qu,ME _⟩;cases z:G p with
   |none=>rfl
   |some o=>rw [E1 _ _ z] at gp;cases gp
  ·cases hf
 ·cases hf⟩
def qn0 {te:TE3} {a:PuE te}:(qoC a).f=λρ=>(a.f ρ).bind qii:=id rfl
def fBi (n:Nat):FnD (Bk.jT (n+1)):=fBk n
def qlB {n:Nat}:(fBi n).f=λds=>the (BkR n ds):=id rfl
theorem SV {G:Gp}:∀ {xs:List T} {ds:List PyData} (k:Nat),Dqs G xs ds->Dqs G (xs.eraseIdx k) (ds.eraseIdx k)
 |_,_,_,.nil=>by simp;exact .nil
 |_,_,0,.cons a b=>b
 |_,_,k+1,.cons a b=>.cons a (SV k b)
def qbK {l:Nat} {t:TE3} (x:PwE l t) (i j:Nat) (m:List Bool) (hm:Tru (x.fv.all (mkb m))) (hl:Tru (!mkb m l)):PwS l (q5 (bm3 JO (v3 i) (qc (bm3 qje (v3 j) (qc t qk)) qk))):=
  ⟨λρ n Q=>i≠j/\∃ ds es,slot ρ i=some ds/\slot ρ j=some es/\ds.length<16777216/\x.w ρ n λd n1=>∃ (k:Nat) (e:PyData),d=.int (k:Int)/\es[k]?=some e/\Q (.nx ((ρ.set j (.ow (es.eraseIdx k))).set i (.ow (ds++[e])))) n1,
   λ⟨h0,ds,es,h1,h2,h3,h4⟩ k=>⟨h0,ds,es,h1,h2,h3,x.mono h4 λd n1 ⟨kk,e,a,b,c⟩=>⟨kk,e,a,b,k _ _ c⟩⟩,
   λ{a z0 D G0 A τ ρ G n e Q} h ⟨h0,ds,es,h1,h2,h3,hw⟩ k=>by
    have hl':mkb m l=false:=by simpa using hl.h
    obtain ⟨p,xs,b,c,g,f⟩:=h.r.ow i _ (ZI h1);obtain ⟨p',ys,b',c',g',f'⟩:=h.r.ow j _ (ZI h2);simp only [q5,bm3,v3,qc,c,c',qO g,qO g'];refine ⟨rfl,rfl,h.evalS x m hm hl' hw _ λy d G1 n1 A1 ⟨kk,e',hd,he,hq⟩ r E1 D1=>?_⟩;subst hd;cases D1;have r':RL l a z0 D G0 A1 τ ρ G1 n1:=r;obtain ⟨p1,xs1,b1,c1,g1,f1⟩:=r'.r.ow i _ (ZI h1);obtain ⟨p2,ys2,b2,c2,g2,f2⟩:=r'.r.ow j _ (ZI h2);rw [c] at c1;cases c1;rw [c'] at c2;cases c2;obtain ⟨t,ht,dt⟩:=f2.get he;simp only [qk,qje,g2,Int.toNat_natCast,ht];refine ⟨by omega,?_⟩;have r2:=r'.wr (ZI h2) b2 c' (SV kk f2);have X:Ex (rs (AD D A1) G1) (rs (AD D A1) (gu G1 p' (.lst (ys2.eraseIdx kk)))):=λb o hb=>by
      obtain ⟨nb,e⟩:=qE hb;rw [jO nb,zu (λz=>nb (.inr ⟨j,by rw [z];exact b2⟩))];exact e
    have sl2:slot (ρ.set j (.ow (es.eraseIdx kk))) i=some ds:=by
      unfold slot;rw [List.getElem?_set_ne (Ne.symm h0)];exact h1
    obtain ⟨p3,xs3,b3,c3,g3,f3⟩:=r2.r.ow i _ (ZI sl2);rw [c] at c3;cases c3;simp only [JO,g3];exact ⟨by rw [f3.length,y9];exact h3,k _ _ hq _ _ _ (r2.wr (ZI sl2) b3 c (f3.append (.cons (dt.up X) .nil)))⟩⟩
def qc8 {l:Nat} {t:TE3} {x:PwE l t} {i j:Nat} {m:List Bool} {hm:Tru (x.fv.all (mkb m))} {hl:Tru (!mkb m l)}:(qbK x i j m hm hl).w=λρ n Q=>i≠j/\∃ ds es,slot ρ i=some ds/\slot ρ j=some es/\ds.length<16777216/\x.w ρ n λd n1=>∃ (k:Nat) (e:PyData),d=.int (k:Int)/\es[k]?=some e/\Q (.nx ((ρ.set j (.ow (es.eraseIdx k))).set i (.ow (ds++[e])))) n1:=id rfl
open Bk (Lf Ext)
end Pu
namespace Pu
open PySem L2 L3
open Bk (Dl)
end Pu
namespace Pv
open PySem L2 L3 Pu
open Bk (Un2)
def zZ (lo:Int) (n:Nat):(jg lo n).length=n:=by simp [jg]
end Pv
namespace Pv
open PySem L2 L3 Pu
open Bk (Dl Un2)
end Pv
namespace Pv
open PySem L2 L3 Pu
open Bk (pop qbX ji jA WK Dl jr EM VS EY)
theorem TF (n:Int):∀ (t:Nat) (ms:List Int),ji n (t+1) ms=2*ji n t ms
 |_,[]=>rfl
 |t,m::ms=>by
  simp only [ji,TF n (t+1) ms,Int.pow_succ];split<;>omega
def qaZ (n m:Int) (ms:List Int):jA (m::ms) n=(if qbX n m then 1 else 0)+2*jA ms n:=by
 unfold jA;rw [ji,TF];simp
theorem M3 (n:Int):∀ ms:List Int,0<=jA ms n/\jA ms n<2 ^ ms.length
 |[]=>by simp [jA,ji]
 |m::ms=>by
  have ih:=M3 n ms;rw [qaZ,length_cons,Int.pow_succ];split<;>omega
end Pv
namespace Pv
open PySem L2 L3 Pu
open Bk (pop qbX ji jA WK Dl)
end Pv
namespace Pv
open PySem L2 L3 Pu
open Bk (pop qbX ji jA Dl)
end Pv
namespace Hd
open PySem L2 L3 PySem.W
def oF (x:Str) (st:Stmt) (pm cd:Value):Obj:=⟨.type "function",none,.func (PySem.W.fnOf x x (qS st) (qz st) (qf st) .none .none .none pm none cd .none),#[]⟩
def oG (x:Str) (st:Stmt):Obj:=⟨.none,none,.func { name:=x,qualname:=x,params:=qS st,body:=.stmts (qz st),scope:=qf st,globals:=0,closure:=[],defaults:=.none,kwdefaults:=.none },#[]⟩
def oC (vs:List Value):Obj:=⟨.type "code",none,.fields vs.toArray,#[]⟩
def oT (vs:List Value):Obj:=⟨.type "tuple",none,.seq vs.toArray 0,#[]⟩
def eD (P:Params):Value×Value->DictEntry
 | (.str x t,v)=>⟨PyData.keyHash P x,.str x t,v⟩
 | (u,v)=>⟨0,u,v⟩
def oD (P:Params) (n:Nat) (es:List (Value×Value)):Obj:=⟨.type "dict",none,.dict (es.map (eD P)).toArray n,#[]⟩
def oK (x:Str) (t l n m:Nat) (a b:Addr) (u v z:Value) (e y q:Nat):Obj:=oC [.str x t,.str x (t+1),.str "/claim/cut.py" (t+2),.int l 0,.int n 0,.int 0 0,.int 0 0,.int 3 0,.ref a,.bool true,.int m 0,.ref b,u,v,z,.ref e,.int y 0,.int l 0,.str "/claim/cut.py" q]
def nmV:List Str->Nat->List Value
 |[],_=>[]
 |x::r,t=>.str x t::nmV r (t+1)
def oN (xs:List Str) (t:Nat):Obj:=oT (nmV xs t)
abbrev nd (o:Obj) (l r:PySem.W.BT):PySem.W.BT:=.node o l r
abbrev lf (o:Obj):PySem.W.BT:=.node o .nil .nil
def qpk {K:Frg} (x:Str) (st:Stmt) (f:Addr) (pm cd:Value) (l:K.lookup f=some (oF x st pm cd)) (c:PySem.W.codeIn K cd x=true) (k:PySem.W.keepIn K (.ref f)=true) :
  Fun K x x st f (PySem.W.fnOf x x (qS st) (qz st) (qf st) .none .none .none pm none cd .none):=j6 l c k
def qeL {K:Frg} {h:Heap} {mg:Str->Option Value} (X:K.In h) (G:h.Ns mainGlobals mg) (n:Str) (v:Value) (e:PySem.W.nsIn K mainGlobals n=some (some v)):mg n=some v:=PySem.W.mg_of X G e
def head {l:OpenLaw} {q:Program} {loose:List Str} {K:Params->Frag} {as:List Addr} {d:DefRec} {N:Nat} {k:Nat} {x:Str} (ha:∀ P,as=(K P).map (·.1))
  (ok:l.wellSaid=true)
  (left:LeftO l.prog q loose (λs=>xlAt q [] s&&recOk [] s) (λs=>as.map s.heap.get?) (λw=>(K w.params).map λp=>some p.2) N)
  (hdef:defOf q l.name=some (d,[])) (hp:l.prog.theDef l.name=some (d.params,d.body,d.scope)) (hk:kwWritten? d.params.kwonlyargs d.params.kw_defaults=some [])
  (hwr:(!l.row.writes||l.row.records.isEmpty)=true) (ok2:(chainsOk q&&opensWell l.prog&&(frees l.row.toRowW&&l.row.within.isEmpty))=true) (hb:l.prog.bare) (hw:l.row.toRowW.promised)
  (hn:l.most=some 63) (hdf:d.params.defaults=[]) (hr:Room k callerA) (hK:∀ w:World,DA (K w.params)=true)
  (F:∀ (w:World) (mg:Str->Option Value) (fa:Addr) (h:Heap),(K w.params).In h->h.Ns mainGlobals mg->mg d.name=some (.ref fa) ->
   ∃ fd:FuncData,(∀ (s:Shared) (u:Value),BindsTo s fd ⟨[u],[]⟩ [(x,u)])/\∀ base:Heap,(K w.params).In base->base.Ns mainGlobals mg->FnOk l.prog w (K w.params) mg base CX0 k fa fd [x] (lSp (K w.params) CW)):l.Holds:=by
 refine holds_law ok λsaid=>?_;exact holds_open (q:=q) (loose:=loose) (Xt:=λs=>xlAt q [] s&&recOk [] s) (XP:=XL q []) (Yf:=Hook.obs (kHook K as ha)) (Ya:=Hook.val (kHook K as ha)) (YP:=Hook.says (kHook K as ha)) (N:=N) left
  (Hook.of (kHook K as ha)) (Hook.keeps (kHook K as ha)) (λs e=>xl_of s (Bool.and_eq_true_iff.mp e).1) XL.keeps hdef hp hk (λs e=>recFacts_of (Bool.and_eq_true_iff.mp e).2) hwr said ok2 hb hw
  (L3.qp6 (l:=l) (k:=k) (x:=x) hn hdf hr (λw h Y=>kIn_of Y) hK F)
end Hd
namespace Hd
open PySem L2 L3 PySem.W PySem.Spec PySem.Calls PyProof.Rows
structure Fb (K:Frg) (mg:Str->Option Value) (x:Str) (st:Stmt) (ps:List Str) (f:Addr) (fd:FuncData):Prop where
 F:Fun K x x st f fd
 b:DR K fd ps []
 m:mg x=some (.ref f)
def sc0 {N ps:List Str} {s:Scope} (h1:s.kind=.function:=by rfl) (h2:s.isCoroutine=false:=by rfl) (h3:s.isGenerator=false:=by rfl) (h4:N.Nodup:=by decide +kernel) (h5:N.take ps.length=ps:=by rfl) (h6:∀ x∈ps,s.names.lookup x=some .local\/s.names.lookup x=some .cell:=by decide +kernel) (h7:∀ y∈s.names,y.2≠.free:=by decide +kernel):FnScope N ps s:=⟨h1,h2,h3,h4,h5,h6,h7⟩
def jfE {P:Program} {w:World} {K:Frg} {mg:Str->Option Value} {base:Heap} {x:Str} {st:Stmt} {f:Addr} {fd:FuncData} {N ps:List Str} {k:Nat} {sp:Sp3} {t3:TS3} (E:Fb K mg x st ps f fd) (S:FnScope N ps (qf st))
  (read:∀ ts G q,sp ts G q->ts.length=ps.length/\t3 { nx:=λ_ G'=>q .non G',rt:=q } (qm N ts) G)
  (body:∀ (cdv:Value) (A:Around) (outer:List Env) (s:Shared) (H:Hp) (E:XK),Room k (A.deeper (envOfC x (qf st) s.heap.objs.size f cdv)) ->
   jB3 (YD CX0 P w K mg base N x (qf st) f cdv A outer s H E).nox (qz st) t3):Fn3 P w K mg base (k+1) x sp:=qiZ E.F S E.b E.m body read
def e1 {K:Frg} {h:Heap} {mg:Str->Option Value} (X:K.In h) (G:h.Ns mainGlobals mg) (x:Str) (st:Stmt) (ps:List Str) (f:Addr) (pm cd:Value) (l:K.lookup f=some (oF x st pm cd):=by kernel_rfl) (c:PySem.W.codeIn K cd x=true:=by kernel_rfl) (k:PySem.W.keepIn K (.ref f)=true:=by kernel_rfl) (e:PySem.W.nsIn K mainGlobals x=some (some (.ref f)):=by kernel_rfl)
  (b:∀ (kV doc pm:Value) (an:Option Addr) (cdv ct:Value) (us:List Value),us.length=ps.length->bindArgs (PySem.W.fnOf x x (qS st) (qz st) (qf st) .none kV doc pm an cdv ct) ⟨us,[]⟩=pure (ps.zip us):=by exact λ_ _ _ _ _ _ us hl=>by obtain ⟨_,rfl⟩:=Pu.qqW hl;rfl) :
  Fb K mg x st ps f (PySem.W.fnOf x x (qS st) (qz st) (qf st) .none .none .none pm none cd .none):=⟨j6 l c k,(j6 l c k).binds b,PySem.W.mg_of X G e⟩
def e2 {K:Frg} {h:Heap} {mg:Str->Option Value} (X:K.In h) (G:h.Ns mainGlobals mg) (x:Str) (st:Stmt) (ps:List Str) (f:Addr) (pm cd:Value) (l:K.lookup f=some (oF x st pm cd):=by kernel_rfl) (c:PySem.W.codeIn K cd x=true:=by kernel_rfl) (k:PySem.W.keepIn K (.ref f)=true:=by kernel_rfl) (e:PySem.W.nsIn K mainGlobals x=some (some (.ref f)):=by kernel_rfl)
  (b:∀ (kV doc pm:Value) (an:Option Addr) (cdv ct:Value) (us:List Value),us.length=ps.length->bindArgs (PySem.W.fnOf x x (qS st) (qz st) (qf st) .none kV doc pm an cdv ct) ⟨us,[]⟩=pure (ps.zip us):=by exact λ_ _ _ _ _ _ us hl=>by obtain ⟨_,_,rfl⟩:=Pu.qpW hl;rfl) :
  Fb K mg x st ps f (PySem.W.fnOf x x (qS st) (qz st) (qf st) .none .none .none pm none cd .none):=⟨j6 l c k,(j6 l c k).binds b,PySem.W.mg_of X G e⟩
def e3 {K:Frg} {h:Heap} {mg:Str->Option Value} (X:K.In h) (G:h.Ns mainGlobals mg) (x:Str) (st:Stmt) (ps:List Str) (f:Addr) (pm cd:Value) (l:K.lookup f=some (oF x st pm cd):=by kernel_rfl) (c:PySem.W.codeIn K cd x=true:=by kernel_rfl) (k:PySem.W.keepIn K (.ref f)=true:=by kernel_rfl) (e:PySem.W.nsIn K mainGlobals x=some (some (.ref f)):=by kernel_rfl)
  (b:∀ (kV doc pm:Value) (an:Option Addr) (cdv ct:Value) (us:List Value),us.length=ps.length->bindArgs (PySem.W.fnOf x x (qS st) (qz st) (qf st) .none kV doc pm an cdv ct) ⟨us,[]⟩=pure (ps.zip us):=by exact λ_ _ _ _ _ _ us hl=>by obtain ⟨_,_,_,rfl⟩:=Pu.qpl hl;rfl) :
  Fb K mg x st ps f (PySem.W.fnOf x x (qS st) (qz st) (qf st) .none .none .none pm none cd .none):=⟨j6 l c k,(j6 l c k).binds b,PySem.W.mg_of X G e⟩
def e4 {K:Frg} {h:Heap} {mg:Str->Option Value} (X:K.In h) (G:h.Ns mainGlobals mg) (x:Str) (st:Stmt) (ps:List Str) (f:Addr) (pm cd:Value) (l:K.lookup f=some (oF x st pm cd):=by kernel_rfl) (c:PySem.W.codeIn K cd x=true:=by kernel_rfl) (k:PySem.W.keepIn K (.ref f)=true:=by kernel_rfl) (e:PySem.W.nsIn K mainGlobals x=some (some (.ref f)):=by kernel_rfl)
  (b:∀ (kV doc pm:Value) (an:Option Addr) (cdv ct:Value) (us:List Value),us.length=ps.length->bindArgs (PySem.W.fnOf x x (qS st) (qz st) (qf st) .none kV doc pm an cdv ct) ⟨us,[]⟩=pure (ps.zip us):=by exact λ_ _ _ _ _ _ us hl=>by obtain ⟨_,_,_,_,rfl⟩:=Pu.qqd hl;rfl) :
  Fb K mg x st ps f (PySem.W.fnOf x x (qS st) (qz st) (qf st) .none .none .none pm none cd .none):=⟨j6 l c k,(j6 l c k).binds b,PySem.W.mg_of X G e⟩
def e5 {K:Frg} {h:Heap} {mg:Str->Option Value} (X:K.In h) (G:h.Ns mainGlobals mg) (x:Str) (st:Stmt) (ps:List Str) (f:Addr) (pm cd:Value) (l:K.lookup f=some (oF x st pm cd):=by kernel_rfl) (c:PySem.W.codeIn K cd x=true:=by kernel_rfl) (k:PySem.W.keepIn K (.ref f)=true:=by kernel_rfl) (e:PySem.W.nsIn K mainGlobals x=some (some (.ref f)):=by kernel_rfl)
  (b:∀ (kV doc pm:Value) (an:Option Addr) (cdv ct:Value) (us:List Value),us.length=ps.length->bindArgs (PySem.W.fnOf x x (qS st) (qz st) (qf st) .none kV doc pm an cdv ct) ⟨us,[]⟩=pure (ps.zip us):=by exact λ_ _ _ _ _ _ us hl=>by obtain ⟨_,_,_,_,_,rfl⟩:=Pu.qqV hl;rfl) :
  Fb K mg x st ps f (PySem.W.fnOf x x (qS st) (qz st) (qf st) .none .none .none pm none cd .none):=⟨j6 l c k,(j6 l c k).binds b,PySem.W.mg_of X G e⟩
def e6 {K:Frg} {h:Heap} {mg:Str->Option Value} (X:K.In h) (G:h.Ns mainGlobals mg) (x:Str) (st:Stmt) (ps:List Str) (f:Addr) (pm cd:Value) (l:K.lookup f=some (oF x st pm cd):=by kernel_rfl) (c:PySem.W.codeIn K cd x=true:=by kernel_rfl) (k:PySem.W.keepIn K (.ref f)=true:=by kernel_rfl) (e:PySem.W.nsIn K mainGlobals x=some (some (.ref f)):=by kernel_rfl)
  (b:∀ (kV doc pm:Value) (an:Option Addr) (cdv ct:Value) (us:List Value),us.length=ps.length->bindArgs (PySem.W.fnOf x x (qS st) (qz st) (qf st) .none kV doc pm an cdv ct) ⟨us,[]⟩=pure (ps.zip us):=by exact λ_ _ _ _ _ _ us hl=>by obtain ⟨_,_,_,_,_,_,rfl⟩:=Pu.qql hl;rfl) :
  Fb K mg x st ps f (PySem.W.fnOf x x (qS st) (qz st) (qf st) .none .none .none pm none cd .none):=⟨j6 l c k,(j6 l c k).binds b,PySem.W.mg_of X G e⟩
def e7 {K:Frg} {h:Heap} {mg:Str->Option Value} (X:K.In h) (G:h.Ns mainGlobals mg) (x:Str) (st:Stmt) (ps:List Str) (f:Addr) (pm cd:Value) (l:K.lookup f=some (oF x st pm cd):=by kernel_rfl) (c:PySem.W.codeIn K cd x=true:=by kernel_rfl) (k:PySem.W.keepIn K (.ref f)=true:=by kernel_rfl) (e:PySem.W.nsIn K mainGlobals x=some (some (.ref f)):=by kernel_rfl)
  (b:∀ (kV doc pm:Value) (an:Option Addr) (cdv ct:Value) (us:List Value),us.length=ps.length->bindArgs (PySem.W.fnOf x x (qS st) (qz st) (qf st) .none kV doc pm an cdv ct) ⟨us,[]⟩=pure (ps.zip us):=by exact λ_ _ _ _ _ _ us hl=>by obtain ⟨_,_,_,_,_,_,_,rfl⟩:=Pu.qsg hl;rfl) :
  Fb K mg x st ps f (PySem.W.fnOf x x (qS st) (qz st) (qf st) .none .none .none pm none cd .none):=⟨j6 l c k,(j6 l c k).binds b,PySem.W.mg_of X G e⟩
def no {K:Frg} {h:Heap} {mg:Str->Option Value} (X:K.In h) (G:h.Ns mainGlobals mg) (n:Str) (e:PySem.W.nsIn K mainGlobals n=some none:=by kernel_rfl):mg n=none:=PySem.W.mg_none_of X G e
def c1 (P:Params) (M:Str) (q:Nat) (nm:Str) (t:Nat) (ln:Int) (r:Nat):Obj:=oD P 4 [(.str "__module__" (t+7),.str M q),(.str "__qualname__" (t+9),.str nm (t+8)),(.str "__firstlineno__" (t+11),.int ln (t+10)),(.str "__static_attributes__" (t+12),.ref (r+7))]
def c2 (nm:Str) (t:Nat) (ln:Int) (r:Nat):Obj:=oC [.str nm (t+2),.str nm (t+3),.str "/claim/cut.py" (t+4),.int ln 0,.int 0 0,.int 0 0,.int 0 0,.int 0 0,.ref (r+3),.bool false,.int 181 0,.ref (r+4),.none,.none,.none,.none,.int (t+5:Nat) 0,.int ln 0,.str "/claim/cut.py" (t+6)]
def c3 (M:Str) (q r:Nat):Obj:=⟨.type "frame",none,.plain,#[some (.ref (r+5)),some (.ref 3),some (.ref (r+2)),none,some (.str M q),none,some (.ref 0)]⟩
def c4 (P:Params) (M:Str) (q t:Nat) (ln:Int) (r:Nat):Obj:=oD P 2 [(.str "__module__" (t+7),.str M q),(.str "__firstlineno__" (t+11),.int ln (t+10)),(.str "__static_attributes__" (t+12),.ref (r+7)),(.str "__doc__" (t+13),.none)]
def c5 (nm:Str) (b t r:Nat):Obj:=⟨.type "type",none,.cls ({ name:=nm,bases:=[Value.ref b],mro:=[Value.ref (r+9),Value.ref b,Value.type "ValueError",Value.type "Exception",Value.type "BaseException",Value.type "object"],ns:=r+8,qualname:=nm }),#[some (.ref r),none,some (.str nm t),some (.str nm (t+8)),some (.builtin "ValueError.__new__"),some (.bool true)]⟩
def c6 (r:Nat):Obj:=⟨.type "super",none,.fields #[.ref r,.ref r,.ref r],#[]⟩
def c7 (r:Nat):Obj:=⟨.type "builtin_function_or_method",none,.fields #[.builtin "object.__init_subclass__",.ref r],#[]⟩
def oM (P:Params) (n:Nat) (M:Str) (q:Nat) (es:List (Value×Value)):Obj:=oD P n ([(.str "__name__" 165,.str M q),(.str "__doc__" 166,.none),(.str "__package__" 167,.none),(.str "__loader__" 168,.builtin "__main__.__loader__#opaque"),(.str "__spec__" 169,.none),(.str "__annotations__" 170,.ref 6),(.str "__builtins__" 171,.ref 4),(.str "__file__" 173,.str "/claim/cut.py" 172),(.str "__cached__" 174,.none)]++es)
theorem e {K:Frg} {h:Heap} {mg:Str->Option Value} (X:K.In h) (G:h.Ns mainGlobals mg) (x:Str) (st:Stmt) (ps:List Str) (f:Addr) (pm cd:Value) (l:K.lookup f=some (oF x st pm cd):=by kernel_rfl) (c:PySem.W.codeIn K cd x=true:=by kernel_rfl) (k:PySem.W.keepIn K (.ref f)=true:=by kernel_rfl) (e:PySem.W.nsIn K mainGlobals x=some (some (.ref f)):=by kernel_rfl)
  (b:∀ (kV doc pm:Value) (an:Option Addr) (cdv ct:Value) (us:List Value),us.length=ps.length->bindArgs (PySem.W.fnOf x x (qS st) (qz st) (qf st) .none kV doc pm an cdv ct) ⟨us,[]⟩=pure (ps.zip us):=by exact λ_ _ _ _ _ _ us hl=>by first|(obtain ⟨_,rfl⟩:=Pu.qqW hl;rfl)|(obtain ⟨_,_,rfl⟩:=Pu.qpW hl;rfl)|(obtain ⟨_,_,_,rfl⟩:=Pu.qpl hl;rfl)|(obtain ⟨_,_,_,_,rfl⟩:=Pu.qqd hl;rfl)|(obtain ⟨_,_,_,_,_,rfl⟩:=Pu.qqV hl;rfl)|(obtain ⟨_,_,_,_,_,_,rfl⟩:=Pu.qql hl;rfl)) :
  Fb K mg x st ps f (PySem.W.fnOf x x (qS st) (qz st) (qf st) .none .none .none pm none cd .none):=⟨j6 l c k,(j6 l c k).binds b,PySem.W.mg_of X G e⟩
end Hd
namespace L3
open PySem PySem.Spec PyProof.Rows L2
def XD.nil {K:Frg} {cs:List Value}:XD K cs []:=λ_ z=>nomatch z
def XD.cons {K:Frg} {cs:List Value} {o:Option Addr} {b:Bool} {D:List (Option Addr×Bool)} (h1:∀ C,o=some C->ExK K C) (h2:PySem.W.kitAny K (tyv o) cs=some b) (h:XD K cs D):XD K cs ((o,b)::D):=λp hp=>by
 rcases mem_cons.mp hp with rfl|hp
 ·exact ⟨h1,h2⟩
 ·exact h p hp
end L3
namespace Hd
open PySem PySem.Spec PyProof.Rows L2 L3 PySem.W
def oX (nm:Str) (C N:Addr) (bs bm sub:List Value) (tb:Addr) (t1 t2:Nat) (nw:String):Obj:=excClassObj nm nm C N bs bm true [] sub false none none (some (.ref tb)) none (some (.str nm t1)) (some (.str nm t2)) (some (.bool true)) nw
def qjG (K:Frag) (C:Addr) (mro:List Value):Bool:=match K.lookup C with
 |some ⟨.type "type",_,.cls cd,sl⟩=>cd.mro==mro&&!cd.hasDel&&match mro,sl.toList with|.ref C'::_,[_,_,_,_,some (.builtin _),_]=>C'==C|_,_=>false
 |_=>false
def qor {K:Frag} {h:Heap} {C:Addr} {mro:List Value} (X:K.In h) (q:qjG K C mro=true):ExC h C mro:=by
 unfold qjG at q;split at q
 ·rename_i dd cd sl ho;simp only [Bool.and_eq_true,beq_iff_eq,Bool.not_eq_true'] at q;obtain ⟨⟨h1,h2⟩,h3⟩:=q;split at h3
  ·rename_i C' bm k0 k1 k2 k3 n k5 hs;obtain ⟨nm,bs,mro,ns,qn,hd,sn,sub,ab,col,del⟩:=cd;dsimp only at h1 h2;subst h2;have e3:C'=C:=beq_iff_eq.mp h3;subst e3;subst h1;have hsl:sl=#[k0,k1,k2,k3,some (.builtin n),k5]:=by
    obtain ⟨l⟩:=sl;exact congrArg Array.mk hs
   subst hsl;exact ⟨nm,qn,ns,bs,bm,hd,sn,sub,ab,col,dd,k0,k1,k2,k3,k5,n,X _ _ ho,rfl⟩
  ·cases h3
 ·cases q
def qhc {base:Heap} {B C:Addr} {mro:List Value} {cs:List Addr} (h1:ExC base C mro) (h2:mro.contains (.ref B)=true) (h:∀ C∈cs,Ct base B C):∀ D∈C::cs,Ct base B D:=λD hD=>by
 rcases mem_cons.mp hD with rfl|hD
 ·exact ⟨mro,h1,h2⟩
 ·exact h D hD
def qp7 {K:Frag} {h:Heap} {mg:Str->Option Value} {x:Str} {C N tb:Addr} {nm:Str} {bs bm sub:List Value} {t1 t2:Nat} (X:K.In h) (hb:mg x=some (.ref C)) (l:K.lookup C=some (oX nm C N bs bm sub tb t1 t2 "ValueError.__new__"))
  (t:tailIn K [.type "ValueError",.type "Exception",.type "BaseException",.type "object"] bm=true) (n:nsOkIn K N=true) (i:nsIn K N "__init__" = some none):RaX mg h x C:=
 ⟨⟨hb,bm,N,nm,nm,bs,true,[],sub,false,none,none,_,_,_,_,_,_,X _ _ l,.of_isNs (isNs_of_in X n),nsMap_none_of_in X n i,tail_of_in X t⟩⟩
end Hd
namespace Hd
open PySem L2 L3 PySem.W PySem.Spec PySem.Calls PyProof.Rows
def qo0 {P:Program} {w:World} {K:Frg} {mg:Str->Option Value} {base:Heap} {x:Str} {st:Stmt} {f:Addr} {fd:FuncData} {N ps:List Str} {k:Nat} {sx:Spx} {t3:X3->TS3} (E:Fb K mg x st ps f fd) (S:FnScope N ps (qf st))
  (read:∀ ts G dx,sx ts G dx->ts.length=ps.length/\t3 dx { nx:=λ_ _=>False,rt:=λ_ _=>False } (qm N ts) G)
  (body:∀ (dx:X3) (cdv:Value) (A:Around) (outer:List Env) (s:Shared) (H:Hp) (E:XK),(∀ cls H',EX K dx cls none H'->E cls none H')->Room k (A.deeper (envOfC x (qf st) s.heap.objs.size f cdv)) ->
   jB3 (YD (CXe P w) P w K mg base N x (qf st) f cdv A outer s H E) (qz st) (t3 dx)):Fnx P w K mg base (k+1) x sx:=qgW E.F S E.b E.m body read
end Hd
namespace Pu
open PySem L2 L3
structure PzS (t:X3->TS3) where
 f:Nat->Rho->Option (Addr ⊕ Ot)
 okx:∀ {D G0 A τ ρ G n C} {dx:X3} {e:Ends3},RS D G0 A τ ρ G->f n ρ=some (.inl C)->(∀ G',Ex G0 G'->dx C G')->t dx e τ G
 okn:∀ {D G0 A τ ρ G n o} {dx:X3} {e:Ends3},RS D G0 A τ ρ G->f n ρ=some (.inr o)->qjf D G0 e o->t dx e τ G
def zP {t:TS3} (a:PuS t):PzS (λ_=>t) where
 f:=λn ρ=>(a.f n ρ).map .inr
 okx:=λh hf k=>by
  obtain ⟨o,e1,e2⟩:=za3 hf;cases e2
 okn:=λh hf k=>by
  obtain ⟨o,e1,e2⟩:=za3 hf;cases e2;exact a.ok h e1 k
def qrl:PzS (λ_=>WA) where
 f:=λ_ _=>none
 okx:=λh hf k=>by cases hf
 okn:=λh hf k=>by cases hf
def qeX {t:TA3} (C:Addr) (a:PuA t) (hn:Tru (Nat.ble a.n 1000)):PzS (λdx=>NG C dx t) where
 f:=λ_ ρ=>(a.f ρ).map λ_=>.inl C
 okx:=λh hf k=>by
  obtain ⟨d,e1,e2⟩:=za3 hf;cases e2;exact a.ok (h.viewAll _) h.domD e1 λxs G' E Q=>⟨by rw [Q.length,a.ln e1];exact few hn,k G' (h.ex.trans E)⟩
 okn:=λh hf k=>by
  obtain ⟨d,e1,e2⟩:=za3 hf;cases e2
def zIf {c:TT3} {t u:X3->TS3} (pc:PuC c) (a:PzS t) (b:PzS u):PzS (λdx=>ZC c (t dx) (u dx)) where
 f:=λn ρ=>(pc.f ρ).bind λk=>if k then a.f n ρ else b.f n ρ
 okx:=λh hf k=>by
  obtain ⟨o1,e1,hf⟩:=obb hf;refine pc.ok (h.viewAll _) h.domD e1 λG1 E1=>?_;cases o1 with
  |true=>exact a.okx (h.up E1) hf k
  |false=>exact b.okx (h.up E1) hf k
 okn:=λh hf k=>by
  obtain ⟨o1,e1,hf⟩:=obb hf;refine pc.ok (h.viewAll _) h.domD e1 λG1 E1=>?_;cases o1 with
  |true=>exact a.okn (h.up E1) hf k
  |false=>exact b.okn (h.up E1) hf k
def qh9 (a b:Nat->Rho->Option (Addr ⊕ Ot)) (n:Nat) (ρ:Rho):Option (Addr ⊕ Ot):=(a n ρ).bind λo=>match o with|.inl C=>some (.inl C)|.inr (.nx ρ')=>b n ρ'|.inr o=>some (.inr o)
def qpx {t u:X3->TS3} (a:PzS t) (b:PzS u):PzS (λdx=>qF (t dx) (u dx)) where
 f:=qh9 a.f b.f
 okx:=λ{D G0 A τ ρ G n C dx e} h hf k=>by
  unfold qh9 at hf;obtain ⟨o1,e1,hf⟩:=obb hf;cases o1 with
  |inl C'=>cases hf;exact a.okx h e1 k
  |inr o=>
   refine a.okn h e1 ?_;cases o with
   |nx ρ'=>exact λA' τ' G' h'=>b.okx h' hf k
   |bk ρ'=>cases hf
   |ct ρ'=>cases hf
   |rt d fr=>cases hf
 okn:=λ{D G0 A τ ρ G n o dx e} h hf k=>by
  unfold qh9 at hf;obtain ⟨o1,e1,hf⟩:=obb hf;cases o1 with
  |inl C'=>cases hf
  |inr o=>
   refine a.okn h e1 ?_;cases o with
   |nx ρ'=>exact λA' τ' G' h'=>b.okn h' hf k
   |bk ρ'=>cases hf;exact k
   |ct ρ'=>cases hf;exact k
   |rt d fr=>cases hf;exact k
def PXp (X:List PyData->Option Addr):Spx:=λts G dx=>∃ (D:Addr->Prop) (ds:List PyData) (C:Addr),Dqs (rs D G) ts ds/\Dom D G/\X ds=some C/\∀ G',Ex G G'->dx C G'
def qbx {t:TA3} (X:List PyData->Option Addr) (a:PuA t):PzS (λdx=>q5 (qoN (PXp X) dx t)) where
 f:=λ_ ρ=>((a.f ρ).bind X).map .inl
 okx:=λ{D G0 A τ ρ G n C dx e} h hf k=>by
  obtain ⟨d,e1,e2⟩:=za3 hf;cases e2;obtain ⟨ds,e3,e4⟩:=obb e1;exact a.ok (h.viewAll _) h.domD e3 λxs G' E Q=>⟨D,ds,C,Q,h.domD.up E,e4,λG'' E'=>k G'' ((h.ex.trans E).trans E')⟩
 okn:=λh hf k=>by
  obtain ⟨d,e1,e2⟩:=za3 hf;cases e2
def qlE:Option (Addr ⊕ Ot)->Option Addr
 |some (.inl C)=>some C
 |_=>none
def qmU (f:Nat->Rho->Option (Addr ⊕ Ot)) (k N n:Nat) (ds:List PyData):Option Addr:=if ds.length=k then qlE (f n (st ds N)) else none
def MF {t:X3->TS3} (b:PzS t) (N:List Str) (k n:Nat):∀ ts G dx,PXp (qmU b.f k N.length n) ts G dx->ts.length=k/\t dx { nx:=λ_ _=>False,rt:=λ_ _=>False } (qm N ts) G:=by
 rintro ts G dx ⟨D,ds,C,hs,hd,hf,h⟩;unfold qmU at hf;split at hf
 ·rename_i hk;refine ⟨by rw [hs.length];exact hk,?_⟩;cases e:b.f n (st ds N.length) with
  |none=>rw [e] at hf;cases hf
  |some o=>
   cases o with
   |inl C'=>rw [e] at hf;cases hf;exact b.okx (qhZ N hs hd) e h
   |inr o=>rw [e] at hf;cases hf
 ·cases hf
def qd1 {t:TA3} {C:Addr} {a:PuA t} {hn:Tru (Nat.ble a.n 1000)} {n:Nat} {ρ:Rho}:(qeX C a hn).f n ρ=(a.f ρ).map λ_=>.inl C:=id rfl
def qpC {c:TT3} {t u:X3->TS3} {pc:PuC c} {a:PzS t} {b:PzS u} {n:Nat} {ρ:Rho}:(zIf pc a b).f n ρ=(pc.f ρ).bind λk=>if k then a.f n ρ else b.f n ρ:=id rfl
def qfX {t u:X3->TS3} {a:PzS t} {b:PzS u} {n:Nat} {ρ:Rho}:(qpx a b).f n ρ=(a.f n ρ).bind λo=>match o with|.inl C=>some (.inl C)|.inr (.nx ρ')=>b.f n ρ'|.inr o=>some (.inr o):=id rfl
def NA {t:TA3} {X:List PyData->Option Addr} {a:PuA t} {n:Nat} {ρ:Rho}:(qbx X a).f n ρ=((a.f ρ).bind X).map .inl:=id rfl
def qbr {C:Addr}:qlE (some (.inl C))=some C:=id rfl
def j9 (ρ:Rho) (i:Nat):Option (List (List PyData)):=match ρ[i]? with|some (.on dss)=>some dss|_=>none
def VP {ρ:Rho} {i:Nat} {dss:List (List PyData)} (h:j9 ρ i=some dss):ρ[i]?=some (.on dss):=by
 unfold j9 at h;split at h
 ·rename_i e;cases h;exact e
 ·cases h
section
variable {D:Addr->Prop} {G0 G G':Gp} {A:Nat->Addr->Prop} {τ:St3} {ρ:Rho} {i:Nat} {p q:Addr} {qs:List Addr} {dss:List (List PyData)} {xs ys:List T} {ds:List PyData}
def RS.on (h:RS D G0 A τ ρ G) (e:j9 ρ i=some dss):∃ p qs,A i p/\τ[i]?=some (some (.ref p))/\G p=some (.lst (qs.map T.ref))/\(p::qs).Nodup/\Ons (rs (AD D A) G) G (A i) qs dss:=h.sl i _ (VP e)
def RS.putO (h:RS D G0 A τ ρ G) (gp:G p=none):RS D G0 (Rg A i λb=>b=p) (τ.set i (some (.ref p))) (ρ.set i (.on [])) (gu G p (.lst [])):=
 h.upd i (W:=λ_=>False) (λb o _ z=>QI gp b o z) (λ_ z=>z.elim) (λb z=>by subst z;exact ⟨.inr gp,by rw [qu];simp⟩) λ_=>⟨p,[],rfl,rfl,qu,by simp,rfl,λj q ds a=>by simp at a⟩
def Ons.get {R:Gp} {B:Addr->Prop} {j:Nat} (h:Ons R G B qs dss) (e:dss[j]?=some ds):∃ q ys,qs[j]?=some q/\B q/\G q=some (.lst ys)/\Dqs R ys ds:=by
 have hl:j<qs.length:=by rw [h.1];exact (za4 e).1
 obtain ⟨a,ys,b,c⟩:=h.2 j _ ds (v0 hl) e;exact ⟨_,ys,v0 hl,a,b,c⟩
def RS.onNew (h:RS D G0 A τ ρ G) (hp:A i p) (ht:τ[i]?=some (some (.ref p))) (gp:G p=some (.lst (qs.map T.ref))) (nd:(p::qs).Nodup) (on:Ons (rs (AD D A) G) G (A i) qs dss) (gq:G q=none) (hy:Dqs (rs (AD D A) G) ys ds):RS D G0 (Rg A i λb=>A i b\/b=q) τ (ρ.set i (.on (dss++[ds]))) (gu (gu G q (.lst ys)) p (.lst (qs.map T.ref++[.ref q]))):=by
 have qp:q≠p:=by rintro rfl;rw [gp] at gq;cases gq
 have at':∀ b o,b≠p->G b=some o->gu (gu G q (.lst ys)) p (.lst (qs.map T.ref++[.ref q])) b=some o:=λb o n z=>by
  rw [zu n,zu (by rintro rfl;rw [gq] at z;cases z)];exact z
 have atq:gu (gu G q (.lst ys)) p (.lst (qs.map T.ref++[.ref q])) q=some (.lst ys):=by rw [zu qp,qu]
 have:=h.upd i (G':=gu (gu G q (.lst ys)) p (.lst (qs.map T.ref++[.ref q]))) (x:=.ref p) (s:=.on (dss++[ds])) (B:=λb=>A i b\/b=q) (W:=λb=>b=p) at' (λb z=>⟨i,by rw [z];exact hp,.inl rfl⟩) (λb z=>by
  rcases z with z|z
  ·refine ⟨.inl z,?_⟩;by_cases c:b=p
   ·rw [c,qu];simp
   ·intro g;cases g':G b with
    |none=>exact h.da i b z g'
    |some o=>rw [at' b o c g'] at g;cases g
  ·subst z;exact ⟨.inr gq,by rw [atq];simp⟩) λX=>⟨p,qs++[q],.inl hp,rfl,by rw [qu,List.map_append];rfl,?_,by simp [on.1],λj q' ds' a b=>?_⟩
 ·rw [WL ht] at this;exact this
 ·have nq:q∉qs:=λz=>by
   obtain ⟨j,hj,e⟩:=List.getElem_of_mem z;obtain ⟨_,ys',b,_⟩:=on.2 j q _ (by rw [v0 hj,e]) (v0 (by rw [← on.1];exact hj));rw [gq] at b;cases b
  rw [← cons_append];refine List.nodup_append.mpr ⟨nd,by simp,λa ha b hb=>?_⟩;rw [List.mem_singleton.mp hb];rintro rfl;rcases mem_cons.mp ha with z|z
  ·exact qp z
  ·exact nq z
 ·by_cases c:j<qs.length
  ·rw [List.getElem?_append_left c] at a;rw [List.getElem?_append_left (by rw [← on.1];exact c)] at b;obtain ⟨c1,ys',c2,c3⟩:=on.2 j q' ds' a b;refine ⟨.inl c1,ys',at' _ _ ?_ c2,c3.up X⟩;rintro rfl;exact (List.nodup_cons.mp nd).1 (v9 a)
  ·rw [List.getElem?_append_right (by omega)] at a;rw [List.getElem?_append_right (by rw [← on.1];omega),← on.1] at b;have z:j-qs.length=0:=by
    have:=(za4 a).1;simp at this;omega
   rw [z] at a b;cases a;cases b;exact ⟨.inr rfl,ys,atq,hy.up X⟩
def RS.onSet (h:RS D G0 A τ ρ G) (hp:A i p) (ht:τ[i]?=some (some (.ref p))) (gp:G p=some (.lst (qs.map T.ref))) (nd:(p::qs).Nodup) (on:Ons (rs (AD D A) G) G (A i) qs dss) {j:Nat} (hq:qs[j]?=some q) (hA:A i q) (hy:Dqs (rs (AD D A) G) ys ds):RS D G0 A τ (ρ.set i (.on (dss.set j ds))) (gu G q (.lst ys)):=by
 have qp:p≠q:=by rintro rfl;exact (List.nodup_cons.mp nd).1 (v9 hq)
 have:=h.upd i (G':=gu G q (.lst ys)) (x:=.ref p) (s:=.on (dss.set j ds)) (B:=A i) (W:=λb=>b=q) (λb o n z=>by rw [zu n];exact z) (λb z=>⟨i,by rw [z];exact hA,.inl rfl⟩) (λb z=>⟨.inl z,by
  by_cases c:b=q
  ·rw [c,qu];simp
  ·rw [zu c];exact h.da i b z⟩) λX=>⟨p,qs,hp,rfl,by rw [zu qp];exact gp,nd,by rw [List.length_set];exact on.1,λk q' ds' a b=>?_⟩
 ·rw [WL ht,LR] at this;exact this
 ·rw [getElem?_set] at b;split at b
  ·rename_i e;subst e;split at b
   ·cases b;rw [a] at hq;cases hq;exact ⟨hA,ys,qu,hy.up X⟩
   ·cases b
  ·rename_i e;obtain ⟨c1,ys',c2,c3⟩:=on.2 k q' ds' a b;have n:q'≠q:=by
    rintro rfl;exact e ((List.getElem?_inj (za4 hq).1 (List.nodup_cons.mp nd).2).mp (hq.trans a.symm))
   exact ⟨c1,ys',by rw [zu n];exact c2,c3.up X⟩
end
def qry (i:Nat):PuS (qN (jX qk) (gn3 i)):=⟨λ_ ρ=>some (.nx (ρ.set i (.on []))),λ{D G0 A τ ρ G n o e} h hf k=>by
 cases hf;exact ⟨Nat.zero_le _,λp hp=>k _ _ _ (h.putO hp)⟩⟩
def MV (i:Nat) (ds:List PyData) (ρ:Rho):Option Ot:=(j9 ρ i).bind λdss=>if dss.length<1000000 then some (.nx (ρ.set i (.on (dss++[ds])))) else none
def qj7 {m:List Bool} {ρ:Rho} {i:Nat} {dss:List (List PyData)} (h:j9 (dm m ρ) i=some dss):j9 ρ i=some dss:=by
 have e:=VP h;rw [qaj] at e;obtain ⟨s,e1,e2⟩:=za3 e;unfold j9;split at e2
 ·cases s<;>cases e2
 ·rw [e1,e2]
def qf3 {t:TA3} (a:PuA t) (i:Nat) (m:List Bool) (hm:Tru (a.fv.all (mkb m))):PuS (q5 (bm3 JO (v3 i) (qc (jX t) qk))):=⟨λ_ ρ=>(a.f ρ).bind λds=>if ds.length<1000000 then MV i ds (dm m ρ) else none,λ{D G0 A τ ρ G n o e} h hf k=>by
 obtain ⟨ds,e1,hf⟩:=obb hf;split at hf
 ·rename_i hl;unfold MV at hf;obtain ⟨dss,e2,hf⟩:=obb hf;split at hf
  ·rename_i hl2;cases hf;obtain ⟨p,qs,b,c,g,nd,on⟩:=h.on (qj7 e2);simp only [q5,bm3,v3,c,qO g,qc,jX,qk];refine ⟨rfl,a.ok (h.viewD hm) (h.dem m).dom e1 λxs G1 E1 D1=>⟨by rw [D1.length,y9];omega,λq hq=>?_⟩⟩;have h1:=(h.dem m).up E1;obtain ⟨p',qs',b',c',g',nd',on'⟩:=h1.on e2;rw [c] at c';cases c';have qp:p≠q:=by rintro rfl;rw [hq] at g';cases g'
   simp only [JO,zu qp,g'];refine ⟨by rw [length_map,on'.1,y9];omega,k _ _ _ (h1.onNew b' c g' nd' on' hq D1)⟩
  ·cases hf
 ·cases hf⟩
def TY (i:Nat) (kk:Int) (d:PyData) (ρ:Rho):Option Ot:=(j9 ρ i).bind λdss=>(ixN dss.length kk).bind λj=>(dss[j]?).bind λds=>if ds.length<1000000 then some (.nx (ρ.set i (.on (dss.set j (ds++[d]))))) else none
def qlM {m:List Bool} {d:PyData} {ρ:Rho} {i:Nat} {dss:List (List PyData)} (h:j9 (dmS m d ρ) i=some dss):j9 ρ i=some dss:=by
 unfold dmS at h;split at h
 ·exact h
 ·exact qj7 h
def qgC {tk t:TE3} (b:PuE tk) (a:PuE t) (i:Nat) (m:List Bool) (hm:Tru (a.fv.all (mkb m))):PuS (q5 (bm3 JO (o3 ix3 (v3 i) tk) (qc t qk))):=⟨λ_ ρ=>(b.f ρ).bind λk=>(asI k).bind λkk=>(a.f ρ).bind λd=>TY i kk d (dmS m d ρ),λ{D G0 A τ ρ G n o e} h hf k=>by
 obtain ⟨kd,e1,hf⟩:=obb hf;obtain ⟨kk,e2,hf⟩:=obb hf;obtain ⟨d,e3,hf9⟩:=obb hf;clear hf;unfold TY at hf9;obtain ⟨dss,e4,hf9⟩:=obb hf9;obtain ⟨j,e5,hf9⟩:=obb hf9;obtain ⟨ds,e6,hf8⟩:=obb hf9;have:=CT e2;subst this;split at hf8
 ·rename_i hl;cases hf8;obtain ⟨p,qs,b1,c1,g1,nd1,on1⟩:=h.on (qlM e4);obtain ⟨q,ys,hq,Bq,gq,Dy⟩:=on1.get e6;simp only [q5,bm3,o3,v3,c1];refine b.ok (h.viewAll _) h.domD e1 λy G1 E1 D1 _=>?_;cases D1;have at':atI (qs.map T.ref) kk=some (.ref q):=by
   unfold atI;rw [length_map,on1.1,e5,Option.bind_some,getElem?_map,hq];rfl
  simp only [ix3,qO (E1 _ _ g1),at',qO (E1 _ _ gq),qc,qk];refine ⟨rfl,?_⟩;obtain ⟨A1,h1,ev⟩:=(h.up E1).evalS a m hm e3;refine ev _ λx G2 E2 D2=>?_;have h2:=h1.up E2;obtain ⟨p',qs',b2,c2,g2,nd2,on2⟩:=h2.on e4;rw [c1] at c2;cases c2;rw [E2 _ _ (E1 _ _ g1)] at g2;have qe:qs'=qs:=by
   have z:qs.map T.ref=qs'.map T.ref:=by injection g2 with g2;injection g2
   have inj:∀ {a b:List Addr},a.map T.ref=b.map T.ref->a=b:=λ{a}=>by
    induction a with
    |nil=>intro b z;cases b<;>simp_all
    |cons x a ih=>intro b z;cases b with
     |nil=>simp at z
     |cons y b=>simp at z;rw [z.1,ih (by simpa using z.2)]
   exact (inj z).symm
  subst qe;obtain ⟨q',ys',hq',Bq',gq',Dy'⟩:=on2.get e6;rw [hq] at hq';cases hq';simp only [JO,gq'];refine ⟨by rw [Dy'.length,y9];omega,k _ _ _ (h2.onSet b2 c1 (E2 _ _ (E1 _ _ g1)) nd2 on2 hq Bq' (Dy'.append (.cons D2 .nil)))⟩
 ·cases hf8⟩
def NrR (D:Addr->Prop) (G G':Gp) (x:T):PyData ⊕ List (List PyData)->Prop
 |.inl d=>Dq (rs D G') x d
 |.inr dss=>∃ p qs,x=.ref p/\(p::qs).Nodup/\(∀ q∈p::qs,G q=none)/\G' p=some (.lst (qs.map T.ref))/\Ons (rs (λb=>D b\/b∈p::qs) G') G' (λ_=>True) qs dss
def nrD:PyData ⊕ List (List PyData)->PyData
 |.inl d=>d
 |.inr dss=>.list (dss.map PyData.list)
def NrR.dq {D:Addr->Prop} {G G':Gp} {x:T} {r:PyData ⊕ List (List PyData)} (h:NrR D G G' x r) (hd:Dom D G):Dq (rs D G') x (nrD r):=by
 cases r with
 |inl d=>exact h
 |inr dss=>
  obtain ⟨p,qs,rfl,nd,fr,g,on⟩:=h;have vis:∀ b o,b∈p::qs->G' b=some o->rs D G' b=some o:=λb o hb z=>by
   rw [jO λy=>hd b y (fr b hb)];exact z
  refine .lst (vis _ _ u9 g) (Ons.dqs (B:=λb=>b∈p::qs) ⟨on.1,λj q ds a b=>⟨v6 _ (v9 a),(on.2 j q ds a b).2⟩⟩ (zL λb z=>.inl z) λb o hb z=>vis b o hb z)
def PNp (F:List PyData->Option (PyData ⊕ List (List PyData))):Sp3:=λts G q=>∃ (D:Addr->Prop) (ds:List PyData) (r:PyData ⊕ List (List PyData)),Dqs (rs D G) ts ds/\Dom D G/\F ds=some r/\∀ x G',Ex G G'->NrR D G G' x r->q x G'
def fNs (F:List PyData->Option (PyData ⊕ List (List PyData))):FnD (PNp F):=⟨λds=>(F ds).map nrD,false,λ{D G xs ds v q} hx hd hf k=>by
 obtain ⟨r,e,rfl⟩:=za3 hf;exact ⟨D,ds,r,hx,hd,e,λx G' E h=>k x G' E (h.dq hd) (λz=>by cases z)⟩⟩
structure PuN (t:TS3) where
 f:Nat->Rho->Option (PyData ⊕ List (List PyData))
 ok:∀ {D G0 A τ ρ G n r} {e:Ends3},RS D G0 A τ ρ G->f n ρ=some r->(∀ x G',Ex G0 G'->NrR D G0 G' x r->e.rt x G')->t e τ G
def qhk (i:Nat):PuN (zm (v3 i)):=⟨λ_ ρ=>(j9 ρ i).map .inr,λ{D G0 A τ ρ G n r e} h hf k=>by
 obtain ⟨dss,e1,rfl⟩:=za3 hf;obtain ⟨p,qs,b,c,g,nd,on⟩:=h.on e1;simp only [zm,v3,c];have own:∀ q∈p::qs,A i q:=λq hq=>by
  rcases mem_cons.mp hq with z|z
  ·rw [z];exact b
  ·obtain ⟨j,hj,rfl⟩:=List.getElem_of_mem z;exact (on.2 j _ _ (v0 hj) (v0 (by rw [← on.1];exact hj))).1
 refine k _ _ h.ex ⟨p,qs,rfl,nd,λq hq=>h.fr i q (own q hq),g,on.mono (zL λb z=>?_) (λ_ _ _ _ z=>z) λ_ _=>trivial⟩;rcases z with z|z
 ·exact .inl z
 ·exact .inr ⟨i,own b z⟩⟩
def qid {t u:TS3} (a:PuS t) (b:PuN u):PuN (qF t u):=⟨λn ρ=>(a.f n ρ).bind λo=>match o with|.nx ρ'=>b.f n ρ'|_=>none,λ{D G0 A τ ρ G n r e} h hf k=>by
 obtain ⟨o1,e1,hf⟩:=obb hf;refine a.ok h e1 ?_;cases o1 with
 |nx ρ'=>exact λA' τ' G' h'=>b.ok h' hf k
 |bk ρ'=>cases hf
 |ct ρ'=>cases hf
 |rt d fr=>cases hf⟩
def qoV (f:Nat->Rho->Option (PyData ⊕ List (List PyData))) (k N n:Nat) (ds:List PyData):Option (PyData ⊕ List (List PyData)):=if ds.length=k then f n (st ds N) else none
def qcZ {t:TS3} (b:PuN t) (N:List Str) (k n:Nat):∀ ts G q,PNp (qoV b.f k N.length n) ts G q->ts.length=k/\t { nx:=λ_ G'=>q .non G',rt:=q } (qm N ts) G:=by
 rintro ts G q ⟨D,ds,r,hs,hd,hf,h⟩;unfold qoV at hf;split at hf
 ·rename_i hk;exact ⟨by rw [hs.length];exact hk,b.ok (qhZ N hs hd) hf h⟩
 ·cases hf
def qju {i:Nat}:(qry i).f=λ_ ρ=>some (.nx (ρ.set i (.on []))):=id rfl
def qdC {t:TA3} {a:PuA t} {i:Nat} {m:List Bool} {hm:Tru (a.fv.all (mkb m))}:(qf3 a i m hm).f=λ_ ρ=>(a.f ρ).bind λds=>if ds.length<1000000 then MV i ds (dm m ρ) else none:=id rfl
def M0 {tk t:TE3} {b:PuE tk} {a:PuE t} {i:Nat} {m:List Bool} {hm:Tru (a.fv.all (mkb m))}:(qgC b a i m hm).f=λ_ ρ=>(b.f ρ).bind λk=>(asI k).bind λkk=>(a.f ρ).bind λd=>TY i kk d (dmS m d ρ):=id rfl
def qbo {i:Nat}:(qhk i).f=λ_ ρ=>(j9 ρ i).map .inr:=id rfl
def qcM {t u:TS3} {a:PuS t} {b:PuN u}:(qid a b).f=λn ρ=>(a.f n ρ).bind λo=>match o with|.nx ρ'=>b.f n ρ'|_=>none:=id rfl
def qki {F:List PyData->Option (PyData ⊕ List (List PyData))}:(fNs F).f=λds=>(F ds).map nrD:=id rfl
def qle {F:List PyData->Option (PyData ⊕ List (List PyData))}:(fNs F).nw=false:=id rfl
theorem qc5:∀ {a b:List Addr},a.map T.ref=b.map T.ref->a=b
 |[],[],_=>rfl
 |[],_::_,z=>by simp at z
 |_::_,[],z=>by simp at z
 |x::a,y::b,z=>by
  simp only [map_cons,List.cons.injEq,T.ref.injEq] at z;rw [z.1,qc5 z.2]
section
variable {D:Addr->Prop} {G0 G G':Gp} {A:Nat->Addr->Prop} {τ:St3} {ρ:Rho} {i:Nat} {p q:Addr} {qs:List Addr} {dss:List (List PyData)} {xs ys:List T} {ds:List PyData}
def RS.onAt (h:RS D G0 A τ ρ G) (e:j9 ρ i=some dss) (ht:τ[i]?=some (some (.ref p))) (hg:G p=some (.lst (qs.map T.ref))):A i p/\(p::qs).Nodup/\Ons (rs (AD D A) G) G (A i) qs dss:=by
 obtain ⟨p',qs',b,c,g,nd,on⟩:=h.on e;rw [ht] at c;cases c;rw [g] at hg;injection hg with hg;injection hg with hg;have:=qc5 hg;subst this;exact ⟨b,nd,on⟩
def RS.onW (h:RS D G0 A τ ρ G) (e:j9 ρ i=some dss) (ht:τ[i]?=some (some (.ref p))) (hg:G p=some (.lst (qs.map T.ref))) {j:Nat} (hq:qs[j]?=some q) (hd:dss[j]?=some ds) {es:List PyData} (hy:Dqs (rs (AD D A) G) ys es):RS D G0 A τ (ρ.set i (.on (dss.set j es))) (gu G q (.lst ys))/\gu G q (.lst ys) p=some (.lst (qs.map T.ref)):=by
 obtain ⟨b,nd,on⟩:=h.onAt e ht hg;obtain ⟨q',zs,hq',Bq,gq,_⟩:=on.get hd;rw [hq] at hq';cases hq';have pq:p≠q:=by rintro rfl;exact (List.nodup_cons.mp nd).1 (v9 hq)
 exact ⟨h.onSet b ht hg nd on hq Bq hy,by rw [zu pq];exact hg⟩
end
def fl1:PyData->Option (List PyData)
 |.list ds=>if ds.all K1 then some ds else none
 |_=>none
def fls:List PyData->Option (List (List PyData))
 |[]=>some []
 |d::r=>(fl1 d).bind λx=>(fls r).map λxs=>x::xs
def qjx {d:PyData} {ds:List PyData} (h:fl1 d=some ds):d=.list ds/\ds.all K1=true:=by
 unfold fl1 at h;split at h
 ·split at h
  ·rename_i e;cases h;exact ⟨rfl,e⟩
  ·cases h
 ·cases h
theorem qfd {stay:Gp->Prop} {g:TG3} {te:TE3} {q:Q3} (pg:PuG g) (pe:PuE te) (hn:pe.nw=true) {D:Addr->Prop} {ρ0:Rho} {G0:Gp} (hs:∀ G,Ex G0 G->stay G) (hm:∀ i∈pg.tg,vw ρ0 i=none) (fin:List (List PyData)) (hfin:fin.length<=sizeLine)
  (k:∀ G qs,Ex G0 G->qs.Nodup->Ons (λ_=>none) G (λb=>G0 b=none) qs fin->∀ p,G p=none->q (.ref p) (gu G p (.lst (qs.map T.ref)))) :
  ∀ (ds:List PyData) (items:List T) (qs:List Addr) (es:List (List PyData)) (fs:List PyData) (fss:List (List PyData)) (τ:St3) (G:Gp),Dqs (rs D G0) items ds->VA D G τ ρ0->Ex G0 G->Dom D G->qs.Nodup->Ons (λ_=>none) G (λb=>G0 b=none) qs es->lcP (lcH pg.f (λ_=>some true) pe.f ρ0) ds=some fs->fls fs=some fss->es++fss=fin->qax stay g tt3 te q items (qs.map T.ref) τ G
 |_,_,qs,es,fs,fss,τ,G,.nil,va,E,hd,nd,hy,hf,hf2,hl=>by
  cases hf;cases hf2;rw [List.append_nil] at hl;subst hl;exact ⟨hs G E,k G qs E nd hy⟩
 |d::ds,x::items,qs,es,fs,fss,τ,G,.cons hx hr,va,E,hd,nd,hy,hf,hf2,hl=>by
  unfold lcP at hf;obtain ⟨o,e1,hf⟩:=obb hf;obtain ⟨Z1,e2,hf⟩:=obb hf;unfold lcH at e1;obtain ⟨bs,e3,e1⟩:=obb e1;rw [Option.bind_some,if_pos rfl] at e1;obtain ⟨y,e5,rfl⟩:=za3 e1;simp only [Option.some.injEq] at hf;subst hf;unfold fls at hf2;obtain ⟨y',f1,hf2⟩:=obb hf2;obtain ⟨rest',f2,hf2⟩:=za3 hf2;subst hf2;obtain ⟨rfl,fl⟩:=qjx f1;obtain ⟨ts,bd,kg⟩:=pg.ok (hx.up (jR E)) e3;refine ⟨hs G E,kg τ G _ ?_⟩;have va1:=va.sets bd;have va2:=va.keep (ts:=ts) λp hp=>by
   obtain ⟨q,hq,e⟩:=qaQ bd p hp;rw [← e];exact hm _ (pg.at' e3 q hq)
  simp only [tt3,if_true];refine pe.ok (va1.view _) hd e5 λz G2 E2 D2 N2=>⟨?_,?_⟩
  ·rw [length_map,hy.1];rw [← hl] at hfin;simp at hfin;omega
  ·rcases N2 hn with z|⟨p,xs,ds',rfl,e',gp,gp',hs'⟩
   ·cases z
   cases e';have np:p∉qs:=λhp=>by
    obtain ⟨j,hj,e⟩:=List.getElem_of_mem hp;obtain ⟨_,zs,g,_⟩:=hy.2 j p _ (by rw [v0 hj,e]) (v0 (by rw [← hy.1];exact hj));rw [gp] at g;cases g
   have ng:G0 p=none:=by
    cases z:G0 p with
    |none=>rfl
    |some o=>rw [E _ _ z] at gp;cases gp
   rw [show qs.map T.ref++[T.ref p]=(qs++[p]).map T.ref by simp];refine qfd pg pe hn hs hm fin hfin k ds items (qs++[p]) (es++[y']) Z1 rest' _ G2 hr (va2.up E2) (E.trans E2) (hd.up E2) ?_ ⟨by simp [hy.1],λj q' ds'' a b=>?_⟩ e2 f2 (by rw [← hl];simp)
   ·exact List.nodup_append.mpr ⟨nd,by simp,λa ha b hb=>by rw [List.mem_singleton.mp hb];rintro rfl;exact np ha⟩
   ·by_cases c:j<qs.length
    ·rw [List.getElem?_append_left c] at a;rw [List.getElem?_append_left (by rw [← hy.1];exact c)] at b;obtain ⟨c1,ys',c2,c3⟩:=hy.2 j q' ds'' a b;exact ⟨c1,ys',E2 _ _ c2,c3⟩
    ·rw [List.getElem?_append_right (by omega)] at a;rw [List.getElem?_append_right (by rw [← hy.1];omega),← hy.1] at b;have z:j-qs.length=0:=by
      have:=(za4 a).1;simp at this;omega
     rw [z] at a b;cases a;cases b;exact ⟨ng,xs,gp',qbI hs' fl⟩
def qoD (i:Nat) (fs:List PyData) (ρ:Rho):Option Ot:=(fls fs).bind λdss=>if fs.length<=16777216 then some (.nx (ρ.set i (.on dss))) else none
theorem qb7:∀ {fs:List PyData} {dss:List (List PyData)},fls fs=some dss->dss.length=fs.length
 |[],_,h=>by cases h;rfl
 |d::r,dss,h=>by
  unfold fls at h;obtain ⟨x,_,h⟩:=obb h;obtain ⟨xs,e,rfl⟩:=za3 h;simp [qb7 e]
def qrz {wi:TI3} {g:TG3} {te:TE3} (pi:PuI wi) (pg:PuG g) (pe:PuE te) (m:List (Option Nat)) (i:Nat) (hm:Tru (pg.tg.all λi=>m[i]?==some none)) (hn:Tru pe.nw):PuS (qN (lc3 wi g tt3 te m) (gn3 i)):=⟨λ_ ρ=>(pi.f ρ).bind λds=>(lcP (lcH pg.f (λ_=>some true) pe.f (RA m ρ)) ds).bind λfs=>qoD i fs ρ,λ{D G0 A τ ρ G n o e} h hf k=>by
 obtain ⟨ds,e1,hf⟩:=obb hf;obtain ⟨fs,e2,hf9⟩:=obb hf;clear hf;unfold qoD at hf9;obtain ⟨dss,e3,hf8⟩:=obb hf9;split at hf8
 ·rename_i hl;cases hf8;refine pi.ok (h.viewAll _) h.domD e1 λitems stay G1 E1 D1 hs _=>?_;have va:=(VA.cap (m:=m) (h.viewAll (m.filterMap id))).up E1;refine qfd pg pe hn.h (D:=D) (ρ0:=RA m ρ) (G0:=G1) (λG2 E2=>hs G2 (.inr (VI.trans E2))) (λi hi=>RI ?_) dss (by rw [qb7 e3,y9];exact hl) (λG2 qs E2 nd on p hp=>?_) ds items [] [] fs dss _ G1 D1 va Ex.refl (h.domD.up E1) (by simp) ⟨rfl,λj q ds a b=>by simp at a⟩ e2 e3 (by simp)
  ·have:=List.all_eq_true.mp hm.h i hi;simpa using this
  ·have E3:=(E1.trans E2).trans (QI (o:=.lst (qs.map T.ref)) hp);have np:p∉qs:=λz=>by
    obtain ⟨j,hj,e⟩:=List.getElem_of_mem z;obtain ⟨_,ys,g,_⟩:=on.2 j p _ (by rw [v0 hj,e]) (v0 (by rw [← on.1];exact hj));rw [hp] at g;cases g
   have nw:∀ b,G1 b=none->G b=none:=λb z=>by
    cases y:G b with
    |none=>rfl
    |some o=>rw [E1 _ _ y] at z;cases z
   have nw2:∀ b,G2 b=none->G b=none:=λb z=>by
    cases y:G b with
    |none=>rfl
    |some o=>rw [E2 _ _ (E1 _ _ y)] at z;cases z
   show e.nx (τ.set i (some (.ref p))) _;refine k _ _ _ (h.upd i (B:=λb=>b=p\/b∈qs) (W:=λ_=>False) (λb o _ z=>E3 b o z) (λ_ z=>z.elim) (λb z=>?_) λX=>⟨p,qs,.inl rfl,rfl,qu,List.nodup_cons.mpr ⟨np,nd⟩,on.1,λj q ds a b=>?_⟩)
   ·rcases z with rfl|z
    ·exact ⟨.inr (nw2 _ hp),by rw [qu];simp⟩
    ·obtain ⟨j,hj,e⟩:=List.getElem_of_mem z;obtain ⟨n0,ys,g,_⟩:=on.2 j b _ (by rw [v0 hj,e]) (v0 (by rw [← on.1];exact hj));exact ⟨.inr (nw _ n0),by rw [zu (by rintro rfl;exact np z),g];simp⟩
   ·obtain ⟨_,ys,g,d⟩:=on.2 j q ds a b;have hq:=v9 a;exact ⟨.inr hq,ys,by rw [zu (by rintro rfl;exact np hq)];exact g,d.up λb o z=>by cases z⟩
 ·cases hf8⟩
def qlp {wi:TI3} {g:TG3} {te:TE3} {pi:PuI wi} {pg:PuG g} {pe:PuE te} {m:List (Option Nat)} {i:Nat} {hm:Tru (pg.tg.all λi=>m[i]?==some none)} {hn:Tru pe.nw}:(qrz pi pg pe m i hm hn).f=λ_ ρ=>(pi.f ρ).bind λds=>(lcP (lcH pg.f (λ_=>some true) pe.f (RA m ρ)) ds).bind λfs=>qoD i fs ρ:=id rfl
section
variable {D:Addr->Prop} {G0 G G':Gp} {A:Nat->Addr->Prop} {τ:St3} {ρ:Rho}
def qaG (ds:List PyData) (p:Nat) (w:PyData):List PyData:=(ds++List.replicate (p+1-ds.length) PyData.none).set p w
def NR (im ib ip iw is:Nat) (ρ:Rho):Option Ot:=(j9 ρ im).bind λdss=>(vw ρ ib).bind λb=>(asI b).bind λkk=>(vw ρ ip).bind λp=>(asI p).bind λpp=>(vw ρ iw).bind λw=>(ixN dss.length kk).bind λj=>(dss[j]?).bind λds=>
 if is<ρ.length/\K1 w=true/\0<=pp/\pp<1000000 then some (.nx ((ρ.set is .un).set im (.on (dss.set j (qaG ds pp.toNat w))))) else none
def qdF {ρ:Rho} {i j:Nat} {s:Sl} {dss:List (List PyData)} (h:j9 ρ i=some dss) (n:j≠i):j9 (ρ.set j s) i=some dss:=by
 unfold j9;rw [getElem?_set,if_neg n,VP h]
def qbF {ρ:Rho} {i:Nat} {dss es:List (List PyData)} (h:j9 ρ i=some dss):j9 (ρ.set i (.on es)) i=some es:=by
 have:=(za4 (VP h)).1;unfold j9;rw [getElem?_set,if_pos rfl,if_pos this]
def qgp (im ib ip iw is:Nat) (hn:Tru (is != im&&(is != ib&&(is != ip&&is != iw)))):PuS (qF (qN (o3 ix3 (v3 im) (v3 ib)) (gn3 is)) (qF (C7 (tb3 (o3 (iB λi j=>decide (i<=j)) (cb3 JZ (qc (v3 is) qk)) (v3 ip))) (q5 (bm3 JO (v3 is) (qc (c3 .non) qk)))) (qN (v3 iw) (jE (v3 is) (v3 ip))))):=⟨λ_ ρ=>NR im ib ip iw is ρ,λ{D G0 A τ ρ G n o e} h hf k=>by
 obtain ⟨n1,n2,n3,n4⟩:is≠im/\is≠ib/\is≠ip/\is≠iw:=by simpa using hn.h
 unfold NR at hf;obtain ⟨dss,e1,hf⟩:=obb hf;obtain ⟨bd,e2,hf⟩:=obb hf;obtain ⟨kk,e3,hf⟩:=obb hf;obtain ⟨pd,e4,hf⟩:=obb hf;obtain ⟨pp,e5,hf⟩:=obb hf;obtain ⟨wd,e6,hf⟩:=obb hf;obtain ⟨j,e7,hf⟩:=obb hf;obtain ⟨ds,e8,hf8⟩:=obb hf;clear hf;have:=CT e3;subst this;have:=CT e5;subst this;split at hf8
 ·rename_i hc;obtain ⟨li,hsc,p0,p1⟩:=hc;cases hf8;obtain ⟨l,rfl⟩:=Int.eq_ofNat_of_zero_le p0;obtain ⟨p,qs,b1,c1,g1,nd1,on1⟩:=h.on e1;obtain ⟨tb,tb1,tb2⟩:=h.viewAll [ib] ib (by simp) _ e2;cases tb2;obtain ⟨tp,tp1,tp2⟩:=h.viewAll [ip] ip (by simp) _ e4;cases tp2;obtain ⟨tw,tw1,tw2⟩:=h.viewAll [iw] iw (by simp) _ e6;obtain ⟨q,ys,hq,Bq,gq,Dy⟩:=on1.get e8;have at':atI (qs.map T.ref) kk=some (.ref q):=by
   unfold atI;rw [length_map,on1.1,e7,Option.bind_some,getElem?_map,hq];rfl
  rw [h.len] at li;have x1:∀ t,(τ.set is t)[is]?=some t:=λt=>by rw [getElem?_set,if_pos rfl,if_pos li]
  have x2:∀ {a:Nat} (t),is≠a->(τ.set is t)[a]?=τ[a]?:=λt z=>by rw [getElem?_set,if_neg z]
  have t0:(τ.set is (some (.ref q)))[im]?=some (some (.ref p)):=(x2 _ n1).trans c1;have t1:=x1 (some (.ref q));have t3:(τ.set is (some (.ref q)))[ip]?=some (some (.int (l:Int))):=(x2 _ n3).trans tp1;have t4:(τ.set is (some (.ref q)))[iw]?=some (some tw):=(x2 _ n4).trans tw1;simp only [qF,qN,o3,v3,c1,tb1,ix3,qO g1,at',gn3];have h1:=h.unk is (some (.ref q));have e1':=qdF (s:=.un) e1 n1;generalize τ.set is (some (.ref q))=τ1 at *;generalize ρ.set is .un=ρ1 at *;have jl:j<dss.length:=(za4 e8).1;have at1:∀ es:List PyData,(dss.set j es)[j]?=some es:=λes=>by rw [getElem?_set,if_pos rfl,if_pos jl]
  refine ⟨λm τ' G'=>τ'=τ1/\∃ t,m=l+1-ds.length-t/\t<=l+1-ds.length/\RS D G0 A τ1 (ρ1.set im (.on (dss.set j (ds++List.replicate t PyData.none)))) G'/\G' p=some (.lst (qs.map T.ref)),⟨_,rfl,0,rfl,Nat.zero_le _,?_,g1⟩,?_⟩
  ·rw [List.replicate_zero,List.append_nil,show dss.set j ds=dss from by
    apply List.ext_getElem?;intro a;rw [getElem?_set];by_cases z:j=a
    ·subst z;rw [if_pos rfl,if_pos jl];exact e8.symm
    ·rw [if_neg z],show ρ1.set im (.on dss)=ρ1 from by
    apply List.ext_getElem?;intro a;rw [getElem?_set];by_cases z:im=a
    ·subst z;rw [if_pos rfl,if_pos (za4 (VP e1')).1];exact (VP e1').symm
    ·rw [if_neg z]]
   exact h1
  ·rintro m τ' G' ⟨rfl,t,rfl,ht,hr,hg⟩;have es:=qbF (es:=dss.set j (ds++List.replicate t PyData.none)) e1';obtain ⟨_,_,on2⟩:=hr.onAt es t0 hg;obtain ⟨q',ys',hq',_,gq',Dy'⟩:=on2.get (at1 _);rw [hq] at hq';cases hq';have yl:ys'.length=ds.length+t:=by rw [Dy'.length];simp
   simp only [tb3,o3,cb3,qc,qk,v3,t1,JZ,qO gq',t3,iB];by_cases c:(ys'.length:Int)<=(l:Int)
   ·rw [if_pos (za2 c)];refine ⟨λτ2 G2=>τ2=τ'/\∃ t',l+1-ds.length-(t+1)=l+1-ds.length-t'/\t'<=l+1-ds.length/\RS D G0 A τ' (ρ1.set im (.on (dss.set j (ds++List.replicate t' PyData.none)))) G2/\G2 p=some (.lst (qs.map T.ref)),λτ' G' z=>⟨_,by omega,z⟩,?_⟩;simp only [q5,bm3,v3,t1,qO gq',qc,c3,qk];refine ⟨rfl,?_⟩;simp only [JO,gq'];refine ⟨by rw [y9];omega,trivial,t+1,rfl,by omega,?_⟩;have:=hr.onW es t0 hg hq (at1 _) (Dy'.append (.cons .non .nil));rw [List.set_set,List.set_set,List.append_assoc,show List.replicate t PyData.none++[PyData.none]=List.replicate (t+1) PyData.none from List.replicate_succ'.symm] at this;exact this
   ·rw [if_neg (by simpa using c)];have te:ds++List.replicate t PyData.none=ds++List.replicate (l+1-ds.length) PyData.none:=by rw [show t=l+1-ds.length by omega]
    have ixl:ixN ys'.length (l:Int)=some l:=by
     unfold ixN;rw [if_pos (by omega),if_pos (by omega)];simp
    simp only [qN,v3,t4,jE,t1,t3,DU,gq',ixl];have:=(hr.onW es t0 hg hq (at1 _) (Dy'.set l (U0 tw2 hsc))).1;rw [List.set_set,List.set_set,te] at this;exact k _ _ _ this
 ·cases hf8⟩
def qdA {im ib ip iw is:Nat} {hn:Tru (is != im&&(is != ib&&(is != ip&&is != iw)))}:(qgp im ib ip iw is hn).f=λ_ ρ=>NR im ib ip iw is ρ:=id rfl
end
def CZ:List PyData->Option (List (Int×Int))
 |[]=>some []
 |.tuple [.int x,.int y]::r=>(CZ r).map λps=>(x,y)::ps
 |_=>none
theorem NN {G:Gp}:∀ {ys:List T} {ds:List PyData} {ps:List (Int×Int)},Dqs G ys ds->CZ ds=some ps->CU ys=some ps
 |_,[],ps,.nil,e=>e
 |_,d::ds,ps,.cons a b,e=>by
  unfold CZ at e;split at e
  ·rename_i heq;cases heq
  ·rename_i x z r' heq;injection heq with h1 h2;subst h1;subst h2;obtain ⟨qs,e1,rfl⟩:=za3 e;cases a with
   |tup hs=>
    cases hs with
    |cons a1 hs=>
     cases hs with
     |cons a2 hs=>
      cases hs;cases a1;cases a2;simp only [CU,NN b e1,Option.map_some]
  ·cases e
def qcl:List PyData->Option PyData
 |[.list xs]=>(CZ xs).bind λps=>cif (ps.length<64/\Srt.Asc ps) (some (.list xs)) none
 |_=>none
def qk0:FnD TU:=⟨qcl,true,λ{D G xs ds v q} hx hd hf k=>by
 unfold qcl at hf;split at hf
 ·obtain ⟨ps,e,hf⟩:=obb hf;unfold cif at hf;split at hf
  ·rename_i c;cases hf;cases hx with
   |cons a b=>
    cases b;cases a;rename_i g hs;have e2:=NN hs e;simp only [TU,qO (qE g).2,e2];exact ⟨c,λl hl=>k _ _ (QI hl) (XB hd hl hs) λ_=>TC hl hs⟩
  ·cases hf
 ·cases hf⟩
def qh5:qk0.f=qcl:=id rfl
def qaq (ps:List (Int×Int)):CZ (ps.map λp=>PyData.tuple [.int p.1,.int p.2])=some ps:=by
 induction ps with
 |nil=>rfl
 |cons p ps ih=>simp only [map_cons,CZ,ih,Option.map_some]
def qkT {ps:List (Int×Int)} (h:ps.length<64) (up:Srt.Asc ps):qcl [.list (ps.map λp=>PyData.tuple [.int p.1,.int p.2])]=some (.list (ps.map λp=>PyData.tuple [.int p.1,.int p.2])):=by
 simp only [qcl,qaq,Option.bind_some];exact zB ⟨h,up⟩
open Bk (Lf Ext)
section
variable {l:Nat} {a0:Addr} {z0:Option (Option T)×Nat} {D:Addr->Prop} {G0 G G':Gp} {A:Nat->Addr->Prop} {τ:St3} {ρ:Rho} {n:Nat} {i j:Nat} {p q:Addr} {qs:List Addr} {dss:List (List PyData)} {xs ys:List T} {ds:List PyData}
end
end Pu
namespace K73
open PySem L2 L3 Bk
def top (i : Nat) : Stmt := PySem.Challenge.pw_bankwalk_k73_known_plans.main.body.getD i (.Pass ⟨0,0,0,0⟩)
variable {P:Program} {w:World} {K:Frg} {mg:Str->Option Value} {base:Heap} {f:Addr} {fd:FuncData} {k:Nat} {sp:Sp3}
section
variable (m0:mg "isinstance" = none) (m1:mg "bool" = none) (m2:mg "int" = none) {S3:Sp3} (V3:Fn3 P w K mg base k "is_number" S3) (m4:mg "len" = none) (m5:mg "tuple" = none) {S6:Sp3} (V6:Fn3 P w K mg base k "size_of" S6) (m7:mg "range" = none) {S8:Sp3} (V8:Fn3 P w K mg base k "odd_in_common" S8) (m9:mg "enumerate" = none) (m10:mg "sum" = none) {S11:Sp3} (V11:Fn3 P w K mg base k "parted" S11) {S12:Sp3} (V12:Fn3 P w K mg base k "bank_in" S12) {S13:Sp3} (V13:Fn3 P w K mg base k "number_of" S13) {S14:Sp3} (V14:Fn3 P w K mg base k "bits_bank" S14) {S15:Sp3} (V15:Fn3 P w K mg base k "joined_bank" S15) {S16:Sp3} (V16:Fn3 P w K mg base k "all_words" S16) {S17:Sp3} (V17:Fn3 P w K mg base k "rests_spots" S17) {S18:Sp3} (V18:Fn3 P w K mg base k "counted_spots" S18) {S19:Sp3} (V19:Fn3 P w K mg base k "spots_of" S19) (m20:mg "zip" = none) {S21:Sp3} (V21:Fn3 P w K mg base k "is_square" S21) (r_NotSquare:RaX mg base "NotSquare" 51) {S23:Sp3} (V23:Fn3 P w K mg base k "beat_banks" S23) (m24:mg "set" = none) {S25:Sp3} (V25:Fn3 P w K mg base k "is_beat" S25) {S26:Sp3} (V26:Fn3 P w K mg base k "refuse_not_square" S26) {S27:Sp3} (V27:Fn3 P w K mg base k "all_pairs" S27) {S28:Sp3} (V28:Fn3 P w K mg base k "first_beat" S28) {Z29:Spx} (Y29:Fnx P w K mg base k "refuse_not_square" Z29) (m30:mg "list" = none) (m31:mg "all" = none) {S32:Sp3} (V32:Fn3 P w K mg base k "is_list_of_lists" S32) {S33:Sp3} (V33:Fn3 P w K mg base k "is_pair" S33) (m34:mg "sorted" = none) (m35:mg "abs" = none) {S36:Sp3} (V36:Fn3 P w K mg base k "_law_mix" S36) {S37:Sp3} (V37:Fn3 P w K mg base k "_law_pick" S37) {S38:Sp3} (V38:Fn3 P w K mg base k "_law_names" S38) {S39:Sp3} (V39:Fn3 P w K mg base k "turn_plan" S39) {S40:Sp3} (V40:Fn3 P w K mg base k "turned" S40) {Z41:Spx} (Y41:Fnx P w K mg base k "turn_plan" Z41) {Z42:Spx} (Y42:Fnx P w K mg base k "turned" Z42) (m_BankError:mg "BankError" = some (.ref 38)) (b_BankError:ExC base 38 [.ref 38,.type "ValueError",.type "Exception",.type "BaseException",.type "object"]) (c_BankError:∀ C∈[51],Ct base 38 C) (m_NotSquare:mg "NotSquare" = some (.ref 51)) (x_0:XD K [.ref 51] [(none,false),(some 51,true)]) {S48:Sp3} (V48:Fn3 P w K mg base k "filled" S48) {S49:Sp3} (V49:Fn3 P w K mg base k "_law_refused" S49) {S50:Sp3} (V50:Fn3 P w K mg base k "shows_plan" S50) (m51:mg "str" = none) {S52:Sp3} (V52:Fn3 P w K mg base k "_law_left" S52) {S53:Sp3} (V53:Fn3 P w K mg base k "_law_tables" S53) {S54:Sp3} (V54:Fn3 P w K mg base k "_law_long_right" S54) (m55:mg "min" = none)
abbrev jZ:Stmt:=top 1
abbrev JV:List Str:=["thing"]
abbrev UH:List Str:=["thing"]
def KD:FnScope JV UH (qf jZ):=Hd.sc0
def S9 (E:Hd.Fb K mg "is_number" jZ UH f fd) (read:Rd sp 1 (Bk.UE) JV):Fn3 P w K mg base (k+1) "is_number" sp:=
 Hd.jfE E KD read λcdv A outer s H E hr=>(qq (qA (C1 (TZ (qb 0) rfl m0 rfl m2 PyProof.Rows.boot_int) (S0 (qlR (TZ (qb 0) rfl m0 rfl m1 PyProof.Rows.boot_bool))))))
abbrev JI:Stmt:=top 2
abbrev U4:List Str:=["thing"]
abbrev WQ:List Str:=["thing"]
def qan:FnScope U4 WQ (qf JI):=Hd.sc0
def qaf (E:Hd.Fb K mg "is_pair" JI WQ f fd) (read:Rd sp 1 (Bk.W8 S3) U4):Fn3 P w K mg base (k+1) "is_pair" sp:=
 Hd.jfE E qan read λcdv A outer s H E hr=>(qq (qA (C1 (TZ (qb 0) rfl m0 rfl m5 PyProof.Rows.boot_tuple) (C1 (VF (jY hr.units) zW (qQ jj QQ rfl m4 PySem.boot_len (qa (qb 0) qd)) qi (qV _)) (C1 (ql V3 hr rfl (qa (qU (qb 0) qi) qd)) (S0 (ql V3 hr rfl (qa (qU (qb 0) qi) qd))))))))
abbrev JJ:Stmt:=top 7
abbrev XO:List Str:=["dealing","kind","rows","columns","banks","other_rows","other_columns","other_banks"]
abbrev WW:List Str:=["dealing"]
def jt:FnScope XO WW (qf JJ):=Hd.sc0
def ES (E:Hd.Fb K mg "size_of" JJ WW f fd) (read:Rd sp 1 (Bk.XA S6) XO):Fn3 P w K mg base (k+1) "size_of" sp:=
 Hd.jfE E jt read λcdv A outer s H E hr=>(qj (qL 1 jt.nd (qU (qb 0) qi)) (qj (JB (z3 (jY hr.units) zW (qb 1) jJ (qV _)) (qq (qA (qX (qa (MS qi (qU (qb 0) qi)) (qa (MS qi (qU (qb 0) qi)) (qa (MS qi (qQ jj QQ rfl m4 PySem.boot_len (qa (qU (qb 0) qi) qd))) qd)))))) jC) (qj (JB (z3 (jY hr.units) zW (qb 1) jJ (qV _)) (qq (qA (qX (qa (qQ jj QQ rfl m4 PySem.boot_len (qa (qU (qb 0) qi) qd)) (qa (qQ jj QQ rfl m4 PySem.boot_len (qa (qU (qU (qb 0) qi) qi) qd)) (qa (qU (qb 0) qi) qd)))))) jC) (qj (JB (z3 (jY hr.units) zW (qb 1) jJ (qV _)) (qj (Q9 (ql V6 hr rfl (qa (qU (qb 0) qi) qd)) (QL rfl (qv (qr (i:=2) (jt.nd)) (qv (qr (i:=3) (jt.nd)) (qv (qr (i:=4) (jt.nd)) QA))))) (qj (Q9 (ql V6 hr rfl (qa (qU (qb 0) qi) qd)) (QL rfl (qv (qr (i:=5) (jt.nd)) (qv (qr (i:=6) (jt.nd)) (qv (qr (i:=7) (jt.nd)) QA))))) (qq (qA (qX (qa (QC (qb 2) (qb 5)) (qa (QC (qb 3) (qb 6)) (qa (QC (qb 4) (qb 7)) qd)))))))) jC) (qq (qA (qX (qa (qU (qb 0) qi) (qa (qU (qb 0) qi) (qa (qU (qb 0) qi) qd))))))))))
abbrev j7:Stmt:=top 8
abbrev V7:List Str:=["dealing","word","rows","columns","banks"]
abbrev UK:List Str:=["dealing","word"]
def ZW:FnScope V7 UK (qf j7):=Hd.sc0
def YN (E:Hd.Fb K mg "number_of" j7 UK f fd) (read:Rd sp 2 (Bk.V5 S6) V7):Fn3 P w K mg base (k+1) "number_of" sp:=
 Hd.jfE E ZW read λcdv A outer s H E hr=>(qj (Q9 (ql V6 hr rfl (qa (qb 0) qd)) (QL rfl (qv (qr (i:=2) (ZW.nd)) (qv (qr (i:=3) (ZW.nd)) (qv (qr (i:=4) (ZW.nd)) QA))))) (qq (qA (zj (QC (qU (qb 1) qi) (qb 3)) (qU (qb 1) qi)))))
abbrev QG:Stmt:=top 9
abbrev J7:List Str:=["dealing","rows","columns","banks"]
abbrev UQ:List Str:=["dealing"]
def ZQ:FnScope J7 UQ (qf QG):=Hd.sc0
def V4 (S6:Sp3):TS3:=(qF (qN (cb3 S6 (qc (v3 0) qk)) (zH 3 (qo (gn3 1) (qo (gn3 2) (qo (gn3 3) zG))))) (zm (qdl (jy (qc (v3 1) qk)) (gn3 0) tt3 (jy (qc (v3 2) qk)) (gn3 1) tt3 (j8 (qc (v3 0) (qc (v3 1) qk))) [none,none,some 2])))
def S4 (E:Hd.Fb K mg "all_words" QG UQ f fd) (read:Rd sp 1 (V4 S6) J7):Fn3 P w K mg base (k+1) "all_words" sp:=
 Hd.jfE E ZQ read λcdv A outer s H E hr=>(qj (Q9 (ql V6 hr rfl (qa (qb 0) qd)) (QL rfl (qv (qr (i:=1) (ZQ.nd)) (qv (qr (i:=2) (ZQ.nd)) (qv (qr (i:=3) (ZQ.nd)) QA))))) (qq (qA (qcD ["i","j","columns"] [none,none,some 2] rfl (qI rfl m7 (qa (qb 1) qd) (h1:=by intro _ _ _ h;simpa [qc,qk] using h)) (λ_ _ _=>(jgn 0)) (λ_ _ _=>zT) (λ_ _ _=>(qI rfl m7 (qa (qb 2) qd) (h1:=by intro _ _ _ h;simpa [qc,qk] using h))) (λ_ _ _=>(jgn 1)) (λ_ _ _=>zT) (λ_ _ _=>(qX (qa (qb 0) (qa (qb 1) qd)))) (by kernel_rfl) (by kernel_rfl)))))
abbrev zE:Stmt:=top 10
abbrev ZH:List Str:=["number","mask","common","many"]
abbrev Q6:List Str:=["number","mask"]
def zI:FnScope ZH Q6 (qf zE):=Hd.sc0
def D8 (E:Hd.Fb K mg "odd_in_common" zE Q6 f fd) (read:Rd sp 2 (Bk.ZE) ZH):Fn3 P w K mg base (k+1) "odd_in_common" sp:=
 Hd.jfE E zI read λcdv A outer s H E hr=>(qj (qL 2 zI.nd (LL (qb 0) (qb 1))) (qj (qL 3 zI.nd qi) (qj (NO PassesOwn.never (z3 qgZ DH (qb 2) qi (qV _)) (qj (qa2 3 zI.nd (LL (qb 2) qi)) (qq (qL 2 zI.nd (qnF (qb 2) qi))))) (qq (qA (VF (jY hr.units) zW (LL (qb 3) qi) qi (qV _)))))))
abbrev j3:Stmt:=top 11
abbrev WR:List Str:=["masks","number"]
abbrev UU:List Str:=["masks","number"]
def KU:FnScope WR UU (qf j3):=Hd.sc0
def KJ (E:Hd.Fb K mg "bits_bank" j3 UU f fd) (read:Rd sp 2 (Bk.UL S8) WR):Fn3 P w K mg base (k+1) "bits_bank" sp:=
 Hd.jfE E KU read λcdv A outer s H E hr=>(qq (qA (qQ (RG rfl) qif rfl m10 PyProof.Rows.boot_sum (qa (UI ["t","mask","number"] [none,none,some 1] rfl (qcf rfl m9 (qa (qb 0) qd)) (λ_ _ _=>(QL rfl (qv (jgn 0) (qv (jgn 1) QA)))) (λ_ _ _=>qjs (VZ (ql V8 hr rfl (qa (qb 2) (qa (qb 1) qd))))) (λ_ _ _=>(MS qi (qb 0))) (by kernel_rfl) (by kernel_rfl)) qd))))
abbrev YW:Stmt:=top 12
abbrev RV:List Str:=["word","rows","columns","i","j"]
abbrev SF:List Str:=["word","rows","columns"]
def XH:FnScope RV SF (qf YW):=Hd.sc0
def qda (E:Hd.Fb K mg "parted" YW SF f fd) (read:Rd sp 3 (Bk.SG) RV):Fn3 P w K mg base (k+1) "parted" sp:=
 Hd.jfE E XH read λcdv A outer s H E hr=>(qj (Q9 (qb 0) (QL rfl (qv (qr (i:=3) (XH.nd)) (qv (qr (i:=4) (XH.nd)) QA)))) (qq (qA (qX (qa (qX (qa (XC (qb 3) (qb 1)) (qa (XC (qb 4) (qb 2)) qd))) (qa (qX (qa (VL (qb 3) (qb 1)) (qa (VL (qb 4) (qb 2)) qd))) qd))))))
abbrev jb:Stmt:=top 13
abbrev JP:List Str:=["one","other","word","rows","columns","banks","upper","lower"]
abbrev J8:List Str:=["one","other","word"]
def zJ:FnScope JP J8 (qf jb):=Hd.sc0
def Z6 (E:Hd.Fb K mg "joined_bank" jb J8 f fd) (read:Rd sp 3 (Bk.JY S6 S11 S12) JP):Fn3 P w K mg base (k+1) "joined_bank" sp:=
 Hd.jfE E zJ read λcdv A outer s H E hr=>(qj (Q9 (ql V6 hr rfl (qa (qb 1) qd)) (QL rfl (qv (qr (i:=3) (zJ.nd)) (qv (qr (i:=4) (zJ.nd)) (qv (qr (i:=5) (zJ.nd)) QA))))) (qj (Q9 (ql V11 hr rfl (qa (qb 2) (qa (qb 3) (qa (qb 4) qd)))) (QL rfl (qv (qr (i:=6) (zJ.nd)) (qv (qr (i:=7) (zJ.nd)) QA)))) (qq (qA (zj (QC (ql V12 hr rfl (qa (qb 0) (qa (qb 6) qd))) (qb 5)) (ql V12 hr rfl (qa (qb 1) (qa (qb 7) qd))))))))
abbrev JH:Stmt:=top 14
abbrev XV:List Str:=["dealing","word","kind"]
abbrev XI:List Str:=["dealing","word"]
def CS:FnScope XV XI (qf JH):=Hd.sc0
def U9 (E:Hd.Fb K mg "bank_in" JH XI f fd) (read:Rd sp 2 (Bk.XF S13 S14 S15) XV):Fn3 P w K mg base (k+1) "bank_in" sp:=
 Hd.jfE E CS read λcdv A outer s H E hr=>(qj (qL 2 CS.nd (qU (qb 0) qi)) (qj (JB (z3 (jY hr.units) zW (qb 2) jJ (qV _)) (qq (qA (VL (zj (QC (qU (qb 0) qi) (qU (qb 1) qi)) (QC (qU (qb 0) qi) (qU (qb 1) qi))) (qU (qb 0) qi)))) jC) (qj (JB (z3 (jY hr.units) zW (qb 2) jJ (qV _)) (qq (qA (VL (ql V13 hr rfl (qa (qb 0) (qa (qb 1) qd))) (qU (qb 0) qi)))) jC) (qj (JB (z3 (jY hr.units) zW (qb 2) jJ (qV _)) (qq (qA (ql V14 hr rfl (qa (qU (qb 0) qi) (qa (ql V13 hr rfl (qa (qb 0) (qa (qb 1) qd))) qd))))) jC) (qj (JB (z3 (jY hr.units) zW (qb 2) jJ (qV _)) (qq (qA (qU (qU (qU (qb 0) qi) (qU (qb 1) qi)) (qU (qb 1) qi)))) jC) (qq (qA (ql V15 hr rfl (qa (qU (qb 0) qi) (qa (qU (qb 0) qi) (qa (qb 1) qd)))))))))))
abbrev jc:Stmt:=top 16
abbrev Q0:List Str:=["dealing","rows","columns","banks","places"]
abbrev JN:List Str:=["dealing"]
def z9:FnScope Q0 JN (qf jc):=Hd.sc0
def JK:TS3:=(qF (qN (X6 (v3 0) (sp3 (c3 (.int 1))) np3) (zH 4 (qo (gn3 1) (qo (gn3 2) (qo (gn3 3) (qo (gn3 4) zG)))))) (zm (lc3 (jy (qc (o3 (iC US (·*·)) (v3 1) (v3 2)) qk)) (gn3 0) tt3 (j8 (qc (o3 (iC (λ_ j=>0<j) (·%·)) (v3 0) (v3 1)) (qc (o3 (iC (λ_ j=>0<j) (·%·)) (v3 0) (v3 2)) qk))) [none,some 3,some 4])))
def X5 (E:Hd.Fb K mg "rests_spots" jc JN f fd) (read:Rd sp 1 (JK) Q0):Fn3 P w K mg base (k+1) "rests_spots" sp:=
 Hd.jfE E z9 read λcdv A outer s H E hr=>(qj (Q9 (qdH (qb 0) (qha qi) qh2) (QL rfl (qv (qr (i:=1) (z9.nd)) (qv (qr (i:=2) (z9.nd)) (qv (qr (i:=3) (z9.nd)) (qv (qr (i:=4) (z9.nd)) QA)))))) (qq (qA (UI ["number","banks","places"] [none,some 3,some 4] rfl (qI rfl m7 (qa (QC (qb 1) (qb 2)) qd) (h1:=by intro _ _ _ h;simpa [qc,qk] using h)) (λ_ _ _=>(jgn 0)) (λ_ _ _=>zT) (λ_ _ _=>(qX (qa (VL (qb 0) (qb 1)) (qa (VL (qb 0) (qb 2)) qd)))) (by kernel_rfl) (by kernel_rfl)))))
abbrev zD:Stmt:=top 17
abbrev zV:List Str:=["dealing","counts","spots","word","bank","place"]
abbrev ZB:List Str:=["dealing"]
def ze:FnScope zV ZB (qf zD):=Hd.sc0
def ZF (S16:Sp3) (S12:Sp3):TS3:=(qF (qN qdt (gn3 1)) (qF (qN (jX qk) (gn3 2)) (qF (C8 (YH (cb3 S16 (qc (v3 0) qk))) (gn3 3) (qF (qN (cb3 S12 (qc (v3 0) (qc (v3 3) qk))) (gn3 4)) (qF (qN (qlb MB (v3 1) (qc (v3 4) (qc (c3 (.int 0)) qk))) (gn3 5)) (qF (q5 (bm3 JO (v3 2) (qc (j8 (qc (v3 4) (qc (v3 5) qk))) qk))) (qN (o3 jS (v3 5) (c3 (.int 1))) (K4 (v3 1) (v3 4))))))) (zm (v3 2)))))
def DY (E:Hd.Fb K mg "counted_spots" zD ZB f fd) (read:Rd sp 1 (ZF S16 S12) zV):Fn3 P w K mg base (k+1) "counted_spots" sp:=
 Hd.jfE E ze read λcdv A outer s H E hr=>(qj (qL 1 ze.nd qed) (qj (qL 2 ze.nd (zU qd)) (qj (V2 PassesOwn.never rfl (YL (ql V16 hr rfl (qa (qb 0) qd))) (qr (i:=3) (ze.nd)) (qj (qL 4 ze.nd (ql V12 hr rfl (qa (qb 0) (qa (qb 3) qd)))) (qj (qL 5 ze.nd (qg1 (qb 1) (qa (qb 4) (qa qi qd)))) (qj (QP (JE (qb 2) (qa (qX (qa (qb 4) (qa (qb 5) qd))) qd))) (qq (Q9 (zj (qb 5) qi) (qia (qb 1) (qb 4)))))))) (qq (qA (qb 2))))))
abbrev Q7:Stmt:=top 18
abbrev VR:List Str:=["dealing"]
abbrev EQ:List Str:=["dealing"]
def LX:FnScope VR EQ (qf Q7):=Hd.sc0
def EG (S17:Sp3) (S18:Sp3):TS3:=(qF (ZC (tb3 (o3 (QK false) (o3 ix3 (v3 0) (c3 (.int 0))) (c3 (.str "rests")))) (zm (cb3 S17 (qc (v3 0) qk))) qZ) (zm (cb3 S18 (qc (v3 0) qk))))
def ML (E:Hd.Fb K mg "spots_of" Q7 EQ f fd) (read:Rd sp 1 (EG S17 S18) VR):Fn3 P w K mg base (k+1) "spots_of" sp:=
 Hd.jfE E LX read λcdv A outer s H E hr=>(qj (JB (z3 (jY hr.units) zW (qU (qb 0) qi) jJ (qV _)) (qq (qA (ql V17 hr rfl (qa (qb 0) qd)))) jC) (qq (qA (ql V18 hr rfl (qa (qb 0) qd)))))
abbrev YV:Stmt:=top 19
abbrev WG:List Str:=["dealing","worths","rows","columns","banks","memory","bank","place","worth","shelf"]
abbrev R5:List Str:=["dealing","worths"]
def jN:FnScope WG R5 (qf YV):=Hd.sc0
def RP (S6:Sp3) (S19:Sp3):TS3:=(qF (qN (cb3 S6 (qc (v3 0) qk)) (zH 3 (qo (gn3 2) (qo (gn3 3) (qo (gn3 4) zG))))) (qF (qN (lc3 (jy (qc (v3 4) qk)) (gn3 0) tt3 (jX qk) [none]) (gn3 5)) (qF (C8 (qdK (qc (cb3 S19 (qc (v3 0) qk)) (qc (v3 1) qk))) (zH 2 (qo (zH 2 (qo (gn3 6) (qo (gn3 7) zG))) (qo (gn3 8) zG))) (qF (qN (o3 ix3 (v3 5) (v3 6)) (gn3 9)) (qF (C7 (tb3 (o3 (iB λi j=>decide (i<=j)) (cb3 JZ (qc (v3 9) qk)) (v3 7))) (q5 (bm3 JO (v3 9) (qc (c3 .non) qk)))) (qN (v3 8) (jE (v3 9) (v3 7)))))) (zm (v3 5)))))
def qcF (E:Hd.Fb K mg "filled" YV R5 f fd) (read:Rd sp 2 (RP S6 S19) WG):Fn3 P w K mg base (k+1) "filled" sp:=
 Hd.jfE E jN read λcdv A outer s H E hr=>(qj (Q9 (ql V6 hr rfl (qa (qb 0) qd)) (QL rfl (qv (qr (i:=2) (jN.nd)) (qv (qr (i:=3) (jN.nd)) (qv (qr (i:=4) (jN.nd)) QA))))) (qj (qem 5 ["bank"] [none] rfl jN.nd (qI rfl m7 (qa (qb 4) qd) (h1:=by intro _ _ _ h;simpa [qc,qk] using h)) (λ_ _ _=>(jgn 0)) (λ_ _ _=>zT) (λ_ _ _=>(zU qd)) (by kernel_rfl) (by kernel_rfl) rfl rfl) (qj (V2 PassesOwn.never rfl (qlH rfl m20 (qa (ql V19 hr rfl (qa (qb 0) qd)) (qa (qb 1) qd))) (QL rfl (qv (QL rfl (qv (qr (i:=6) (jN.nd)) (qv (qr (i:=7) (jN.nd)) QA))) (qv (qr (i:=8) (jN.nd)) QA))) (qj (qL 9 jN.nd (qU (qb 5) (qb 6))) (qj (NO PassesOwn.never (z3 qoW DH (qQ jj QQ rfl m4 PySem.boot_len (qa (qb 9) qd)) (qb 7) (qV _)) (qq (QP (JE (qb 9) (qa qgA qd))))) (qq (Q9 (qb 8) (qb6 (qb 9) (qb 7))))))) (qq (qA (qb 5))))))
abbrev QH:Stmt:=top 21
abbrev JS:List Str:=["dealing","rows","columns","banks"]
abbrev UM:List Str:=["dealing"]
def ZV:FnScope JS UM (qf QH):=Hd.sc0
def V9 (S6:Sp3):TS3:=(qF (qN (cb3 S6 (qc (v3 0) qk)) (zH 3 (qo (gn3 1) (qo (gn3 2) (qo (gn3 3) zG))))) (zm (o3 (QK false) (v3 1) (v3 2))))
def K0 (E:Hd.Fb K mg "is_square" QH UM f fd) (read:Rd sp 1 (V9 S6) JS):Fn3 P w K mg base (k+1) "is_square" sp:=
 Hd.jfE E ZV read λcdv A outer s H E hr=>(qj (Q9 (ql V6 hr rfl (qa (qb 0) qd)) (QL rfl (qv (qr (i:=1) (ZV.nd)) (qv (qr (i:=2) (ZV.nd)) (qv (qr (i:=3) (ZV.nd)) QA))))) (qq (qA (VF (jY hr.units) zW (qb 1) (qb 2) (qV _)))))
abbrev qG:Stmt:=top 22
abbrev qx:List Str:=["dealing"]
abbrev zy:List Str:=["dealing"]
def QS:FnScope qx zy (qf qG):=Hd.sc0
def jo (S21:Sp3):TS3:=(ZC (UX (tb3 (cb3 S21 (qc (v3 0) qk)))) WA qZ)
def VV (E:Hd.Fb K mg "refuse_not_square" qG zy f fd) (read:Rd sp 1 (jo S21) qx):Fn3 P w K mg base (k+1) "refuse_not_square" sp:=
 Hd.jfE E QS read λcdv A outer s H E hr=>(qq (JB (XT (VZ (ql V21 hr rfl (qa (qb 0) qd)))) RF jC))
def zn (S21:Sp3) (dx:X3):TS3:=(ZC (UX (tb3 (cb3 S21 (qc (v3 0) qk)))) (NG 51 dx (qc (c3 (.str "the table hasn't as many rows as columns")) qk)) qZ)
def YR {sx:Spx} (E:Hd.Fb K mg "refuse_not_square" qG zy f fd) (read:∀ ts G dx,sx ts G dx->ts.length=1/\(zn S21) dx { nx:=λ_ _=>False,rt:=λ_ _=>False } (qm qx ts) G):Fnx P w K mg base (k+1) "refuse_not_square" sx:=
 Hd.qo0 (t3:=λdx=>(zn S21) dx) E QS read λdx cdv A outer s H E hE hr=>(qq (JB (XT (VZ (ql V21 hr rfl (qa (qb 0) qd)))) (qq (qeM hE r_NotSquare rfl rfl (qa jJ qd))) jC))
abbrev QF:Stmt:=top 23
abbrev ZM:List Str:=["dealing","rows","columns","banks"]
abbrev UO:List Str:=["dealing"]
def ZU:FnScope ZM UO (qf QF):=Hd.sc0
def UP (S6:Sp3):TS3:=(qF (qN (cb3 S6 (qc (v3 0) qk)) (zH 3 (qo (gn3 1) (qo (gn3 2) (qo (gn3 3) zG))))) (zm (qdl (jy (qc (v3 1) qk)) (gn3 0) tt3 (jy (qc (o3 jS (v3 0) (c3 (.int 1))) (qc (v3 2) qk))) (gn3 1) tt3 (j8 (qc (v3 0) (qc (v3 1) qk))) [none,none,some 2])))
def KA (E:Hd.Fb K mg "all_pairs" QF UO f fd) (read:Rd sp 1 (UP S6) ZM):Fn3 P w K mg base (k+1) "all_pairs" sp:=
 Hd.jfE E ZU read λcdv A outer s H E hr=>(qj (Q9 (ql V6 hr rfl (qa (qb 0) qd)) (QL rfl (qv (qr (i:=1) (ZU.nd)) (qv (qr (i:=2) (ZU.nd)) (qv (qr (i:=3) (ZU.nd)) QA))))) (qq (qA (qcD ["i","j","columns"] [none,none,some 2] rfl (qI rfl m7 (qa (qb 1) qd) (h1:=by intro _ _ _ h;simpa [qc,qk] using h)) (λ_ _ _=>(jgn 0)) (λ_ _ _=>zT) (λ_ _ _=>(KT rfl m7 (qa (zj (qb 0) qi) (qa (qb 2) qd)) (h1:=by intro _ _ _ h;simpa [qc,qk] using h))) (λ_ _ _=>(jgn 1)) (λ_ _ _=>zT) (λ_ _ _=>(qX (qa (qb 0) (qa (qb 1) qd)))) (by kernel_rfl) (by kernel_rfl)))))
abbrev jQ:Stmt:=top 24
abbrev Z0:List Str:=["dealing","pairs"]
abbrev YG:List Str:=["dealing","pairs"]
def RB:FnScope Z0 YG (qf jQ):=Hd.sc0
def VH (S12:Sp3):TS3:=(zm (qdl (YH (v3 1)) (zH 2 (qo (gn3 0) (qo (gn3 1) zG))) tt3 (YH (jX (qc (j8 (qc (v3 0) (qc (v3 1) qk))) (qc (j8 (qc (v3 1) (qc (v3 0) qk))) qk)))) (gn3 2) tt3 (cb3 S12 (qc (v3 3) (qc (v3 2) qk))) [none,none,none,some 0]))
def SL (E:Hd.Fb K mg "beat_banks" jQ YG f fd) (read:Rd sp 2 (VH S12) Z0):Fn3 P w K mg base (k+1) "beat_banks" sp:=
 Hd.jfE E RB read λcdv A outer s H E hr=>(qq (qA (qcD ["i","j","word","dealing"] [none,none,none,some 0] rfl (YL (qb 1)) (λ_ _ _=>(QL rfl (qv (jgn 0) (qv (jgn 1) QA)))) (λ_ _ _=>zT) (λ_ _ _=>(YL (zU (qa (qX (qa (qb 0) (qa (qb 1) qd))) (qa (qX (qa (qb 1) (qa (qb 0) qd))) qd))))) (λ_ _ _=>(jgn 2)) (λ_ _ _=>zT) (λ_ _ _=>(ql V12 hr rfl (qa (qb 3) (qa (qb 2) qd)))) (by kernel_rfl) (by kernel_rfl))))
abbrev JG:Stmt:=top 25
abbrev YY:List Str:=["dealing","pairs","banks"]
abbrev W2:List Str:=["dealing","pairs"]
def CM:FnScope YY W2 (qf JG):=Hd.sc0
def XU (S23:Sp3):TS3:=(qF (qN (cb3 S23 (qc (v3 0) (qc (v3 1) qk))) (gn3 2)) (zm (CA (o3 (iB λi j=>decide (i<j)) (cb3 JZ (qc (v3 1) qk)) (c3 (.int 2))) (o3 (QK false) (qhL (v3 2)) (cb3 JZ (qc (v3 2) qk))))))
def qat (E:Hd.Fb K mg "is_beat" JG W2 f fd) (read:Rd sp 2 (XU S23) YY):Fn3 P w K mg base (k+1) "is_beat" sp:=
 Hd.jfE E CM read λcdv A outer s H E hr=>(qj (qL 2 CM.nd (ql V23 hr rfl (qa (qb 0) (qa (qb 1) qd)))) (qq (qA (qqL (VF qh4 DH (qQ jj QQ rfl m4 PySem.boot_len (qa (qb 1) qd)) qi (qV _)) (S0 (VF (jY hr.units) zW (qaT rfl rfl m4 rfl m24 (qb 2)) (qQ jj QQ rfl m4 PySem.boot_len (qa (qb 2) qd)) (qV _)))))))
abbrev jL:Stmt:=top 26
abbrev j4:List Str:=["dealing","plan","pair","at","beat"]
abbrev YM:List Str:=["dealing","plan","pair"]
def J0:FnScope j4 YM (qf jL):=Hd.sc0
def VE (S25:Sp3):TS3:=(qF (C8 (CJ (qc (v3 1) qk)) (zH 2 (qo (gn3 3) (qo (gn3 4) zG))) (ZC (tb3 (cb3 S25 (qc (v3 0) (qc (o3 jS (v3 4) (jX (qc (v3 2) qk))) qk)))) (zm (v3 3)) qZ)) (zm (cb3 JZ (qc (v3 1) qk))))
def RH (E:Hd.Fb K mg "first_beat" jL YM f fd) (read:Rd sp 3 (VE S25) j4):Fn3 P w K mg base (k+1) "first_beat" sp:=
 Hd.jfE E J0 read λcdv A outer s H E hr=>(qj (V2 PassesOwn.never rfl (qcf rfl m9 (qa (qb 1) qd)) (QL rfl (qv (qr (i:=3) (J0.nd)) (qv (qr (i:=4) (J0.nd)) QA))) (qq (JB (VZ (ql V25 hr rfl (qa (qb 0) (qa (zj (qb 4) (zU (qa (qb 2) qd))) qd)))) (qq (qA (qb 3))) jC))) (qq (qA (qQ jj QQ rfl m4 PySem.boot_len (qa (qb 1) qd)))))
abbrev jw:Stmt:=top 27
abbrev zS:List Str:=["dealing","plan","pair","at"]
abbrev J4:List Str:=["dealing"]
def QB:FnScope zS J4 (qf jw):=Hd.sc0
def UN (S26:Sp3) (S27:Sp3) (S28:Sp3):TS3:=(qF (q5 (cb3 S26 (qc (v3 0) qk))) (qF (qN (jX qk) (gn3 1)) (qF (C8 (YH (cb3 S27 (qc (v3 0) qk))) (gn3 2) (qF (qN (cb3 S28 (qc (v3 0) (qc (v3 1) (qc (v3 2) qk)))) (gn3 3)) (qF (ZC (tb3 (o3 (QK false) (v3 3) (cb3 JZ (qc (v3 1) qk)))) (q5 (bm3 JO (v3 1) (qc (jX qk) qk))) qZ) (q5 (bm3 JO (o3 ix3 (v3 1) (v3 3)) (qc (v3 2) qk)))))) (zm (v3 1)))))
def T1 (E:Hd.Fb K mg "turn_plan" jw J4 f fd) (read:Rd sp 1 (UN S26 S27 S28) zS):Fn3 P w K mg base (k+1) "turn_plan" sp:=
 Hd.jfE E QB read λcdv A outer s H E hr=>(qj (QP (ql V26 hr rfl (qa (qb 0) qd))) (qj (qL 1 QB.nd (zU qd)) (qj (V2 PassesOwn.never rfl (YL (ql V27 hr rfl (qa (qb 0) qd))) (qr (i:=2) (QB.nd)) (qj (qL 3 QB.nd (ql V28 hr rfl (qa (qb 0) (qa (qb 1) (qa (qb 2) qd))))) (qj (JB (z3 (jY hr.units) zW (qb 3) (qQ jj QQ rfl m4 PySem.boot_len (qa (qb 1) qd)) (qV _)) (qq (QP (JE (qb 1) (qa (zU qd) qd)))) jC) (qq (QP (JE (qU (qb 1) (qb 3)) (qa (qb 2) qd))))))) (qq (qA (qb 1))))))
def ZS (Z29:Spx) (dx:X3):TS3:=(qF (q5 (qoN Z29 dx (qc (v3 0) qk))) WA)
def C9 {sx:Spx} (E:Hd.Fb K mg "turn_plan" jw J4 f fd) (read:∀ ts G dx,sx ts G dx->ts.length=1/\(ZS Z29) dx { nx:=λ_ _=>False,rt:=λ_ _=>False } (qm zS ts) G):Fnx P w K mg base (k+1) "turn_plan" sx:=
 Hd.qo0 (t3:=λdx=>(ZS Z29) dx) E QB read λdx cdv A outer s H E hE hr=>(qj (QP (MW hE Y29 hr rfl (qa (qb 0) qd))) RF)
abbrev VC:Stmt:=top 28
abbrev WO:List Str:=["dealing","plan","memory","spots","told","beat","i","j","bank","place","other_bank","other_place","worth"]
abbrev SC:List Str:=["dealing","plan","memory"]
def qbZ:FnScope WO SC (qf VC):=Hd.sc0
def U6 (Z29:Spx) (dx:X3):TS3:=(qF (q5 (qoN Z29 dx (qc (v3 0) qk))) WA)
def qaw {sx:Spx} (E:Hd.Fb K mg "turned" VC SC f fd) (read:∀ ts G dx,sx ts G dx->ts.length=3/\(U6 Z29) dx { nx:=λ_ _=>False,rt:=λ_ _=>False } (qm WO ts) G):Fnx P w K mg base (k+1) "turned" sx:=
 Hd.qo0 (t3:=λdx=>(U6 Z29) dx) E qbZ read λdx cdv A outer s H E hE hr=>(qj (QP (MW hE Y29 hr rfl (qa (qb 0) qd))) RF)
abbrev zb:Stmt:=top 30
abbrev qP:List Str:=["thing"]
abbrev jG:List Str:=["thing"]
def UJ:FnScope qP jG (qf zb):=Hd.sc0
def jP:TS3:=(zm (j0 (DX (λt=>VB t "list") (v3 0)) (cb3 WM (qc (lc3 (YH (v3 0)) (gn3 0) tt3 (DX (λt=>VB t "list") (v3 0)) [none]) qk))))
def UB (E:Hd.Fb K mg "is_list_of_lists" zb jG f fd) (read:Rd sp 1 (jP) qP):Fn3 P w K mg base (k+1) "is_list_of_lists" sp:=
 Hd.jfE E UJ read λcdv A outer s H E hr=>(qq (qA (C1 (TZ (qb 0) rfl m0 rfl m30 PyProof.Rows.boot_list) (S0 (qQ (Z2 rfl) L4 rfl m31 PyProof.Rows.boot_all (qa (UI ["part"] [none] rfl (YL (qb 0)) (λ_ _ _=>(jgn 0)) (λ_ _ _=>zT) (λ_ _ _=>(TZ (qb 0) rfl m0 rfl m30 PyProof.Rows.boot_list)) (by kernel_rfl) (by kernel_rfl)) qd))))))
abbrev jI:Stmt:=top 31
abbrev ZX:List Str:=["dealing","thing","pairs"]
abbrev YO:List Str:=["dealing","thing"]
def U5:FnScope ZX YO (qf jI):=Hd.sc0
def VJ (S32:Sp3) (S21:Sp3) (S27:Sp3) (S33:Sp3) (S25:Sp3):TS3:=(qF (ZC (or3 (UX (tb3 (cb3 S21 (qc (v3 0) qk)))) (UX (tb3 (cb3 S32 (qc (v3 1) qk))))) (zm (c3 (.bl false))) qZ) (qF (qN (qdl (YH (v3 1)) (gn3 0) tt3 (YH (v3 0)) (gn3 1) tt3 (v3 1) [none,none]) (gn3 2)) (qF (ZC (or3 (UX (tb3 (cb3 WM (qc (lc3 (YH (v3 2)) (gn3 0) tt3 (cb3 S33 (qc (v3 0) qk)) [none]) qk)))) (tb3 (o3 (QK true) (cb3 TU (qc (v3 2) qk)) (cb3 S27 (qc (v3 0) qk))))) (zm (c3 (.bl false))) qZ) (zm (cb3 WM (qc (lc3 (YH (v3 1)) (gn3 0) tt3 (cb3 S25 (qc (v3 1) (qc (v3 0) qk))) [none,some 0]) qk))))))
def SI (E:Hd.Fb K mg "shows_plan" jI YO f fd) (read:Rd sp 2 (VJ S32 S21 S27 S33 S25) ZX):Fn3 P w K mg base (k+1) "shows_plan" sp:=
 Hd.jfE E U5 read λcdv A outer s H E hr=>(qj (JB (jpt (qdp (XT (VZ (ql V21 hr rfl (qa (qb 0) qd)))) (NP (XT (VZ (ql V32 hr rfl (qa (qb 1) qd))))))) (qq (qA YE)) jC) (qj (qdb 2 ["beat","pair"] [none,none] rfl U5.nd (YL (qb 1)) (λ_ _ _=>(jgn 0)) (λ_ _ _=>zT) (λ_ _ _=>(YL (qb 0))) (λ_ _ _=>(jgn 1)) (λ_ _ _=>zT) (λ_ _ _=>(qb 1)) (by kernel_rfl) (by kernel_rfl) rfl rfl) (qj (JB (jpt (qdp (XT (VZ (qQ (Z2 rfl) L4 rfl m31 PyProof.Rows.boot_all (qa (UI ["pair"] [none] rfl (YL (qb 2)) (λ_ _ _=>(jgn 0)) (λ_ _ _=>zT) (λ_ _ _=>(ql V33 hr rfl (qa (qb 0) qd))) (by kernel_rfl) (by kernel_rfl)) qd)))) (NP (z3 (TJ hr.units) XG (qQ N6 qcH rfl m34 PyProof.Rows.boot_sorted (qa (qb 2) qd)) (ql V27 hr rfl (qa (qb 0) qd)) (qV _))))) (qq (qA YE)) jC) (qq (qA (qQ (Z2 rfl) L4 rfl m31 PyProof.Rows.boot_all (qa (UI ["beat","dealing"] [none,some 0] rfl (YL (qb 1)) (λ_ _ _=>(jgn 0)) (λ_ _ _=>zT) (λ_ _ _=>(ql V25 hr rfl (qa (qb 1) (qa (qb 0) qd)))) (by kernel_rfl) (by kernel_rfl)) qd)))))))
abbrev JC:Stmt:=top 33
abbrev XW:List Str:=["_law_cell","_law_k","_law_m"]
abbrev XY:List Str:=["_law_cell","_law_k"]
def C6:FnScope XW XY (qf JC):=Hd.sc0
def N4 (E:Hd.Fb K mg "_law_mix" JC XY f fd) (read:Rd sp 2 (Bk.W4) XW):Fn3 P w K mg base (k+1) "_law_mix" sp:=
 Hd.jfE E C6 read λcdv A outer s H E hr=>(qj (qL 2 C6.nd (VL (QC (zj (zj (VL (qb 0) qi) (QC (QC (qb 1) (qb 1)) qi)) qi) qi) qi)) (qq (qA (VL (QC (qb 2) (qb 2)) qi))))
abbrev ZD:Stmt:=top 34
abbrev EF:List Str:=["_law_script","_law_k","_law_cell","_law_own"]
abbrev EI:List Str:=["_law_script","_law_k"]
def UD:FnScope EF EI (qf ZD):=Hd.sc0
def MD (E:Hd.Fb K mg "_law_left" ZD EI f fd) (read:Rd sp 2 (Bk.EB) EF):Fn3 P w K mg base (k+1) "_law_left" sp:=
 Hd.jfE E UD read λcdv A outer s H E hr=>(qj (qL 2 UD.nd (qdz (z3 qh4 DH (qb 1) (qQ jj QQ rfl m4 PySem.boot_len (qa (qb 0) qd)) (qV _)) (qU (qb 0) (qb 1)) qi)) (qj (qL 3 UD.nd (qdz (z3 qqw DH (qQ M4 qbQ rfl m35 PyProof.Rows.boot_abs (qa (qb 2) qd)) (qjK qi qi) (qV _)) (qQ M4 qbQ rfl m35 PyProof.Rows.boot_abs (qa (qb 2) qd)) qi)) (qq (qA (zU (qa (qb 3) (qa (zj (qb 2) (QC qi (qb 1))) (qa qi qd))))))))
abbrev ZK:Stmt:=top 35
abbrev ET:List Str:=["_law_left_here","_law_many","_law_digit"]
abbrev EZ:List Str:=["_law_left_here","_law_many"]
def XJ:FnScope ET EZ (qf ZK):=Hd.sc0
def LZ (E:Hd.Fb K mg "_law_pick" ZK EZ f fd) (read:Rd sp 2 (Bk.EH S36) ET):Fn3 P w K mg base (k+1) "_law_pick" sp:=
 Hd.jfE E XJ read λcdv A outer s H E hr=>(qj (Q9 (zj (qU (qb 0) qi) qi) (qb6 (qb 0) qi)) (qj (JB (z3 qgZ DH (qU (qb 0) qi) qi (qV _)) (qj (qL 2 XJ.nd (VL (qU (qb 0) qi) (qb 1))) (qj (Q9 (XC (qU (qb 0) qi) (qb 1)) (qb6 (qb 0) qi)) (qq (qA (qb 2))))) jC) (qq (qA (VL (XC (ql V36 hr rfl (qa (ql V36 hr rfl (qa (qU (qb 0) qi) (qa (qU (qb 0) qi) qd))) (qa (zj (qU (qb 0) qi) qi) qd))) qi) (qb 1))))))
abbrev QJ:Stmt:=top 36
abbrev ZL:List Str:=["_law_left_here","_law_many","_law_found","_law_rest","_law_turn"]
abbrev UG:List Str:=["_law_left_here","_law_many"]
def Y9:FnScope ZL UG (qf QJ):=Hd.sc0
def UA (S37:Sp3):TS3:=(qF (DZ 2 3 (qc (jX qk) (qc (SO (c3 (.int 32))) qk))) (qF (C8 (jy (qc (v3 1) qk)) (gn3 4) (q5 (bm3 JO (v3 2) (qc (bm3 qje (v3 3) (qc (cb3 S37 (qc (v3 0) (qc (cb3 JZ (qc (v3 3) qk)) qk))) qk)) qk)))) (zm (v3 2))))
def KP (E:Hd.Fb K mg "_law_names" QJ UG f fd) (read:Rd sp 2 (UA S37) ZL):Fn3 P w K mg base (k+1) "_law_names" sp:=
 Hd.jfE E Y9 read λcdv A outer s H E hr=>(qj (qa5 (i:=2) (j:=3) rfl Y9.nd rfl rfl (by decide) rfl rfl (qa (zU qd) (qa (K7 rfl rfl m30 rfl m7 qi) qd))) (qj (V2 PassesOwn.never rfl (qI rfl m7 (qa (qb 1) qd) (h1:=by intro _ _ _ h;simpa [qc,qk] using h)) (qr (i:=4) (Y9.nd)) (qq (QP (JE (qb 2) (qa (qld (qb 3) (qa (ql V37 hr rfl (qa (qb 0) (qa (qQ jj QQ rfl m4 PySem.boot_len (qa (qb 3) qd)) qd))) qd)) qd))))) (qq (qA (qb 2)))))
abbrev jz:Stmt:=top 37
abbrev ZT:List Str:=["_law_left_here","_law_n","_law_names_here","_law_one","_law_own","_law_more","_law_sums","_law_sides","_law_found"]
abbrev YK:List Str:=["_law_left_here","_law_n"]
def qW:FnScope ZT YK (qf jz):=Hd.sc0
def VM (S38:Sp3):TS3:=(qF (qN (cb3 S38 (qc (v3 0) (qc (o3 (iC US (·*·)) (v3 1) (v3 1)) qk))) (gn3 2)) (qF (qN (cb3 zh (qc (lc3 (jy (qc (v3 1) qk)) (gn3 0) tt3 (cb3 zh (qc (lc3 (jy (qc (v3 2) qk)) (gn3 0) tt3 (o3 ix3 (v3 1) (c3 (.int 0))) [none,some 1]) qk)) [none,some 2,some 1]) qk)) (gn3 3)) (qF (qN (cb3 zh (qc (lc3 (jy (qc (v3 1) qk)) (gn3 0) tt3 (cb3 zh (qc (lc3 (jy (qc (v3 2) qk)) (gn3 0) tt3 (o3 ix3 (v3 1) (o3 jS (o3 (iC US (·*·)) (v3 2) (v3 3)) (v3 0))) [none,some 1,some 0,some 2]) qk)) [none,some 2,some 1]) qk)) (gn3 4)) (qF (qN (cb3 S38 (qc (v3 0) (qc (c3 (.int 9)) qk))) (gn3 5)) (qF (qN (cb3 zh (qc (lc3 (jy (qc (v3 1) qk)) (gn3 0) tt3 (cb3 zh (qc (lc3 (jy (qc (v3 2) qk)) (gn3 0) tt3 (o3 ix3 (v3 1) (o3 jS (v3 2) (v3 0))) [none,some 1,some 0]) qk)) [none,some 5,some 1]) qk)) (gn3 6)) (qF (qN (cb3 zh (qc (lc3 (jy (qc (v3 1) qk)) (gn3 0) tt3 (cb3 zh (qc (lc3 (jy (qc (v3 2) qk)) (gn3 0) tt3 (o3 ix3 (v3 1) (o3 jS (cb3 WF (qc (o3 (iB λi j=>decide (j<i)) (v3 2) (v3 0)) qk)) (o3 (iC US (·*·)) (c3 (.int 2)) (cb3 WF (qc (o3 (iB λi j=>decide (i<j)) (v3 2) (v3 0)) qk))))) [none,some 1,some 0]) qk)) [none,some 5,some 1]) qk)) (gn3 7)) (qF (qN (jX (qc (j8 (qc (j8 (qc (c3 (.str "table")) (qc (c3 (.int 32)) (qc (v3 3) qk)))) (qc (c3 (.bl false)) qk))) (qc (j8 (qc (j8 (qc (c3 (.str "table")) (qc (c3 (.int 32)) (qc (v3 4) qk)))) (qc (c3 (.bl true)) qk))) (qc (j8 (qc (j8 (qc (c3 (.str "table")) (qc (c3 (.int 32)) (qc (v3 6) qk)))) (qc (c3 (.bl false)) qk))) qk)))) (gn3 8)) (qF (qN (o3 jS (v3 8) (jX (qc (j8 (qc (j8 (qc (c3 (.str "table")) (qc (c3 (.int 32)) (qc (v3 7) qk)))) (qc (c3 (.bl false)) qk))) (qc (j8 (qc (j8 (qc (c3 (.str "skew")) (qc (v3 1) (qc (v3 1) (qc (c3 (.int 32)) (qc (c3 (.int 3)) (qc (c3 (.int 3)) qk))))))) (qc (c3 (.bl false)) qk))) qk)))) (gn3 8)) (zm (o3 jS (v3 8) (jX (qc (j8 (qc (j8 (qc (c3 (.str "skew")) (qc (v3 1) (qc (v3 1) (qc (c3 (.int 1)) (qc (c3 (.int 5)) (qc (c3 (.int 9)) qk))))))) (qc (c3 (.bl false)) qk))) (qc (j8 (qc (j8 (qc (c3 (.str "bits")) (qc (o3 (iC LG (·/·)) (v3 1) (c3 (.int 2))) (qc (o3 (iC LG (·/·)) (v3 1) (c3 (.int 2))) (qc (j8 qk) qk))))) (qc (c3 (.bl false)) qk))) qk)))))))))))))
def SQ (E:Hd.Fb K mg "_law_tables" jz YK f fd) (read:Rd sp 2 (VM S38) ZT):Fn3 P w K mg base (k+1) "_law_tables" sp:=
 Hd.jfE E qW read λcdv A outer s H E hr=>(qj (qL 2 qW.nd (ql V38 hr rfl (qa (qb 0) (qa (QC (qb 1) (qb 1)) qd)))) (qj (qL 3 qW.nd (zq zg QE rfl m5 PyProof.Rows.boot_tuple (qa (UI ["_law_i","_law_names_here","_law_n"] [none,some 2,some 1] rfl (qI rfl m7 (qa (qb 1) qd) (h1:=by intro _ _ _ h;simpa [qc,qk] using h)) (λ_ _ _=>(jgn 0)) (λ_ _ _=>zT) (λ_ _ _=>(zq zg QE rfl m5 PyProof.Rows.boot_tuple (qa (UI ["_law_j","_law_names_here"] [none,some 1] rfl (qI rfl m7 (qa (qb 2) qd) (h1:=by intro _ _ _ h;simpa [qc,qk] using h)) (λ_ _ _=>(jgn 0)) (λ_ _ _=>zT) (λ_ _ _=>(qU (qb 1) qi)) (by kernel_rfl) (by kernel_rfl)) qd))) (by kernel_rfl) (by kernel_rfl)) qd))) (qj (qL 4 qW.nd (zq zg QE rfl m5 PyProof.Rows.boot_tuple (qa (UI ["_law_i","_law_names_here","_law_n"] [none,some 2,some 1] rfl (qI rfl m7 (qa (qb 1) qd) (h1:=by intro _ _ _ h;simpa [qc,qk] using h)) (λ_ _ _=>(jgn 0)) (λ_ _ _=>zT) (λ_ _ _=>(zq zg QE rfl m5 PyProof.Rows.boot_tuple (qa (UI ["_law_j","_law_names_here","_law_i","_law_n"] [none,some 1,some 0,some 2] rfl (qI rfl m7 (qa (qb 2) qd) (h1:=by intro _ _ _ h;simpa [qc,qk] using h)) (λ_ _ _=>(jgn 0)) (λ_ _ _=>zT) (λ_ _ _=>(qU (qb 1) (zj (QC (qb 2) (qb 3)) (qb 0)))) (by kernel_rfl) (by kernel_rfl)) qd))) (by kernel_rfl) (by kernel_rfl)) qd))) (qj (qL 5 qW.nd (ql V38 hr rfl (qa (qb 0) (qa qi qd)))) (qj (qL 6 qW.nd (zq zg QE rfl m5 PyProof.Rows.boot_tuple (qa (UI ["_law_i","_law_more","_law_n"] [none,some 5,some 1] rfl (qI rfl m7 (qa (qb 1) qd) (h1:=by intro _ _ _ h;simpa [qc,qk] using h)) (λ_ _ _=>(jgn 0)) (λ_ _ _=>zT) (λ_ _ _=>(zq zg QE rfl m5 PyProof.Rows.boot_tuple (qa (UI ["_law_j","_law_more","_law_i"] [none,some 1,some 0] rfl (qI rfl m7 (qa (qb 2) qd) (h1:=by intro _ _ _ h;simpa [qc,qk] using h)) (λ_ _ _=>(jgn 0)) (λ_ _ _=>zT) (λ_ _ _=>(qU (qb 1) (zj (qb 2) (qb 0)))) (by kernel_rfl) (by kernel_rfl)) qd))) (by kernel_rfl) (by kernel_rfl)) qd))) (qj (qL 7 qW.nd (zq zg QE rfl m5 PyProof.Rows.boot_tuple (qa (UI ["_law_i","_law_more","_law_n"] [none,some 5,some 1] rfl (qI rfl m7 (qa (qb 1) qd) (h1:=by intro _ _ _ h;simpa [qc,qk] using h)) (λ_ _ _=>(jgn 0)) (λ_ _ _=>zT) (λ_ _ _=>(zq zg QE rfl m5 PyProof.Rows.boot_tuple (qa (UI ["_law_j","_law_more","_law_i"] [none,some 1,some 0] rfl (qI rfl m7 (qa (qb 2) qd) (h1:=by intro _ _ _ h;simpa [qc,qk] using h)) (λ_ _ _=>(jgn 0)) (λ_ _ _=>zT) (λ_ _ _=>(qU (qb 1) (zj (zq XX LP rfl m2 PyProof.Rows.boot_int (qa (VF qgZ DH (qb 2) (qb 0) (qV _)) qd)) (QC qi (zq XX LP rfl m2 PyProof.Rows.boot_int (qa (VF qh4 DH (qb 2) (qb 0) (qV _)) qd)))))) (by kernel_rfl) (by kernel_rfl)) qd))) (by kernel_rfl) (by kernel_rfl)) qd))) (qj (qL 8 qW.nd (zU (qa (qX (qa (qX (qa jJ (qa qi (qa (qb 3) qd)))) (qa YE qd))) (qa (qX (qa (qX (qa jJ (qa qi (qa (qb 4) qd)))) (qa YE qd))) (qa (qX (qa (qX (qa jJ (qa qi (qa (qb 6) qd)))) (qa YE qd))) qd))))) (qj (qL 8 qW.nd (zj (qb 8) (zU (qa (qX (qa (qX (qa jJ (qa qi (qa (qb 7) qd)))) (qa YE qd))) (qa (qX (qa (qX (qa jJ (qa (qb 1) (qa (qb 1) (qa qi (qa qi (qa qi qd))))))) (qa YE qd))) qd))))) (qq (qA (zj (qb 8) (zU (qa (qX (qa (qX (qa jJ (qa (qb 1) (qa (qb 1) (qa qi (qa qi (qa qi qd))))))) (qa YE qd))) (qa (qX (qa (qX (qa jJ (qa (XC (qb 1) qi) (qa (XC (qb 1) qi) (qa (qX qd) qd))))) (qa YE qd))) qd))))))))))))))
abbrev jd:Stmt:=top 38
abbrev QZ:List Str:=["_law_dealing","_law_plan","_law_memory","_law_found","_law_way","_law_caught","error"]
abbrev JM:List Str:=["_law_dealing","_law_plan","_law_memory"]
def zK:FnScope QZ JM (qf jd):=Hd.sc0
def Q2 (S39:Sp3) (S40:Sp3) (Z41:Spx) (Z42:Spx):TS3:=(qF (qN (jX qk) (gn3 3)) (qF (C8 (jy (qc (c3 (.int 2)) qk)) (gn3 4) (qF (qN (c3 .non) (gn3 5)) (qF (qq3 6 [51] (ZC (tb3 (o3 (QK false) (v3 4) (c3 (.int 0)))) (q5 (cb3 S39 (qc (v3 0) qk))) (q5 (cb3 S40 (qc (v3 0) (qc (v3 1) (qc (v3 2) qk)))))) (xif (tb3 (o3 (QK false) (v3 4) (c3 (.int 0)))) (qbG Z41 (qc (v3 0) qk)) (qbG Z42 (qc (v3 0) (qc (v3 1) (qc (v3 2) qk))))) (qN (v3 6) (gn3 5))) (q5 (bm3 JO (v3 3) (qc (qow [(none,false),(some 51,true)] (v3 5)) qk)))))) (zm (o3 (QK false) (v3 3) (jX (qc (c3 (.bl true)) (qc (c3 (.bl true)) qk)))))))
def X8 (E:Hd.Fb K mg "_law_refused" jd JM f fd) (read:Rd sp 3 (Q2 S39 S40 Z41 Z42) QZ):Fn3 P w K mg base (k+1) "_law_refused" sp:=
 Hd.jfE E zK read λcdv A outer s H E hr=>(qj (qL 3 zK.nd (zU qd)) (qj (V2 PassesOwn.never rfl (qI rfl m7 (qa qi qd) (h1:=by intro _ _ _ h;simpa [qc,qk] using h)) (qr (i:=4) (zK.nd)) (qj (qL 5 zK.nd qgA) (qj (qoe (i:=6) [51] rfl rfl rfl rfl m_BankError b_BankError (by kernel_rfl) c_BankError zK.nd rfl rfl rfl (qq (JB (z3 (jY hr.units) zW (qb 4) qi (qV _)) (qq (QP (ql V39 hr rfl (qa (qb 0) qd)))) (qq (QP (ql V40 hr rfl (qa (qb 0) (qa (qb 1) (qa (qb 2) qd)))))))) (qqK (λ_ _ _=>(z3 (jY hr.units) zW (qb 4) qi (qV _))) (qbM (qa8 Y41 hr rfl (λ_ _ _=>(qa (qb 0) qd)))) (qbM (qa8 Y42 hr rfl (λ_ _ _=>(qa (qb 0) (qa (qb 1) (qa (qb 2) qd))))))) (λ_=>(qq (qL 5 zK.nd (qb 6))))) (qq (QP (JE (qb 3) (qa (qjV (qb 5) rfl m0 (qhn rfl m_NotSquare) x_0) qd))))))) (qq (qA (VF (jY hr.units) zW (qb 3) (zU (qa YE (qa YE qd))) (qV _))))))
abbrev zo:Stmt:=top 39
abbrev zF:List Str:=["_law_left_here","_law_rows","_law_columns","_law_dealing","_law_memory","_law_kept","_law_turn"]
abbrev QN:List Str:=["_law_left_here"]
def qJ:FnScope zF QN (qf zo):=Hd.sc0
def QM (S37:Sp3) (S48:Sp3) (S49:Sp3) (S50:Sp3):TS3:=(qF (DZ 1 2 (qc (o3 jS (c3 (.int 1)) (cb3 S37 (qc (v3 0) (qc (c3 (.int 5)) qk)))) (qc (o3 jS (c3 (.int 6)) (cb3 S37 (qc (v3 0) (qc (c3 (.int 5)) qk)))) qk))) (qF (ZC (tb3 (o3 (QK false) (cb3 S37 (qc (v3 0) (qc (c3 (.int 2)) qk))) (c3 (.int 0)))) (DZ 1 2 (qc (v3 2) (qc (v3 1) qk))) qZ) (qF (qN (o3 ix3 (jX (qc (j8 (qc (c3 (.str "skew")) (qc (v3 1) (qc (v3 2) (qc (c3 (.int 7)) (qc (c3 (.int 1)) (qc (c3 (.int 2)) qk))))))) (qc (j8 (qc (c3 (.str "rests")) (qc (v3 1) (qc (v3 2) (qc (c3 (.int 7)) (qc (c3 (.int 16)) qk)))))) qk))) (cb3 S37 (qc (v3 0) (qc (c3 (.int 2)) qk)))) (gn3 3)) (qF (qN (cb3 S48 (qc (v3 3) (qc (SO (o3 (iC US (·*·)) (v3 1) (v3 2))) qk))) (gn3 4)) (qF (qN (cb3 (qbq true) (qc (v3 4) qk)) (gn3 5)) (qF (C8 (jy (qc (c3 (.int 2)) qk)) (gn3 6) (ZC (or3 (UX (tb3 (cb3 S49 (qc (v3 3) (qc (jX qk) (qc (v3 4) qk)))))) (tb3 (o3 (QK true) (cb3 (qbq true) (qc (v3 4) qk)) (v3 5)))) (zm (c3 (.bl false))) qZ)) (zm (j0 (o3 (qiq false) (cb3 S50 (qc (v3 3) (qc (jX qk) qk))) (c3 (.bl false))) (o3 (qiq false) (cb3 S50 (qc (v3 3) (qc (jX (qc (jX (qc (j8 (qc (c3 (.int 0)) (qc (c3 (.int 1)) qk))) qk)) qk)) qk))) (c3 (.bl false)))))))))))
def DC (E:Hd.Fb K mg "_law_long_right" zo QN f fd) (read:Rd sp 1 (QM S37 S48 S49 S50) zF):Fn3 P w K mg base (k+1) "_law_long_right" sp:=
 Hd.jfE E qJ read λcdv A outer s H E hr=>(qj (qa5 (i:=1) (j:=2) rfl qJ.nd rfl rfl (by decide) rfl rfl (qa (zj qi (ql V37 hr rfl (qa (qb 0) (qa qi qd)))) (qa (zj qi (ql V37 hr rfl (qa (qb 0) (qa qi qd)))) qd))) (qj (JB (z3 (jY hr.units) zW (ql V37 hr rfl (qa (qb 0) (qa qi qd))) qi (qV _)) (qq (qa5 (i:=1) (j:=2) rfl qJ.nd rfl rfl (by decide) rfl rfl (qa (qb 2) (qa (qb 1) qd)))) jC) (qj (qL 3 qJ.nd (qU (zU (qa (qX (qa jJ (qa (qb 1) (qa (qb 2) (qa qi (qa qi (qa qi qd))))))) (qa (qX (qa jJ (qa (qb 1) (qa (qb 2) (qa qi (qa qi qd)))))) qd))) (ql V37 hr rfl (qa (qb 0) (qa qi qd))))) (qj (qL 4 qJ.nd (ql V48 hr rfl (qa (qb 3) (qa (K7 rfl rfl m30 rfl m7 (QC (qb 1) (qb 2))) qd)))) (qj (qL 5 qJ.nd (zq (W7 hr.gd hr.units) NQ rfl m51 PyProof.Rows.boot_str (qa (qb 4) qd))) (qj (V2 PassesOwn.never rfl (qI rfl m7 (qa qi qd) (h1:=by intro _ _ _ h;simpa [qc,qk] using h)) (qr (i:=6) (qJ.nd)) (qq (JB (jpt (qdp (XT (VZ (ql V49 hr rfl (qa (qb 3) (qa (zU qd) (qa (qb 4) qd)))))) (NP (z3 (TJ hr.units) XG (zq (W7 hr.gd hr.units) NQ rfl m51 PyProof.Rows.boot_str (qa (qb 4) qd)) (qb 5) (qV _))))) (qq (qA YE)) jC))) (qq (qA (C1 (VF qf5 qaO (ql V50 hr rfl (qa (qb 3) (qa (zU qd) qd))) YE (qV _)) (S0 (VF qf5 qaO (ql V50 hr rfl (qa (qb 3) (qa (zU (qa (zU (qa (qX (qa qi (qa qi qd))) qd)) qd)) qd))) YE (qV _))))))))))))
abbrev VG:Stmt:=top 40
abbrev qdO:List Str:=["_law_script","_law_k","_law_left_here","_law_n","_law_dealing","_law_at_once","_law_size","_law_pairs","_law_i","_law_due"]
abbrev qlS:List Str:=["_law_script"]
def V0:FnScope qdO qlS (qf VG):=Hd.sc0
def qiY (S52:Sp3) (S37:Sp3) (S53:Sp3) (S50:Sp3) (S39:Sp3) (S54:Sp3):TS3:=(qF (C8 (jy (qc (o3 jS (c3 (.int 1)) (cb3 X2 (qc (c3 (.int 8)) (qc (cb3 JZ (qc (v3 0) qk)) qk)))) qk)) (gn3 1) (qF (qN (cb3 S52 (qc (v3 0) (qc (v3 1) qk))) (gn3 2)) (qF (qN (o3 jS (c3 (.int 1)) (cb3 S37 (qc (v3 2) (qc (c3 (.int 5)) qk)))) (gn3 3)) (qF (C8 (YH (cb3 S53 (qc (v3 2) (qc (v3 3) qk)))) (zH 2 (qo (gn3 4) (qo (gn3 5) zG))) (qF (qN (if3 (tb3 (o3 (QK true) (o3 ix3 (v3 4) (c3 (.int 0))) (c3 (.str "bits")))) (v3 3) (o3 ix3 (jX (qc (c3 (.int 1)) (qc (c3 (.int 2)) (qc (c3 (.int 4)) qk)))) (o3 (iC LG (·/·)) (v3 3) (c3 (.int 2))))) (gn3 6)) (qF (qN (jX qk) (gn3 7)) (qF (C8 (jy (qc (v3 6) qk)) (gn3 8) (q5 (bm3 D6 (v3 7) (qc (lc3 (jy (qc (o3 jS (v3 8) (c3 (.int 1))) (qc (v3 6) qk))) (gn3 0) tt3 (j8 (qc (v3 1) (qc (v3 0) qk))) [none,some 8]) qk)))) (qF (qN (if3 (tb3 (v3 5)) (o3 qht (jX (qc (v3 7) qk)) (cb3 WF (qc (o3 (QK true) (v3 7) (jX qk)) qk))) (lc3 (YH (v3 7)) (gn3 0) tt3 (jX (qc (v3 0) qk)) [none])) (gn3 9)) (ZC (or3 (tb3 (o3 (QK true) (cb3 S39 (qc (v3 4) qk)) (v3 9))) (tb3 (o3 (qiq true) (cb3 S50 (qc (v3 4) (qc (v3 9) qk))) (c3 (.bl true))))) (zm (c3 (.bl false))) qZ)))))) (ZC (UX (tb3 (cb3 S54 (qc (v3 2) qk)))) (zm (c3 (.bl false))) qZ))))) (zm (c3 (.bl true))))
def qnk (F:Fun K "law" "law" VG f fd) (read:Rd sp 1 (qiY S52 S37 S53 S50 S39 S54) qdO):FnOk P w K mg base CX0 (k+1) f fd qlS (lSp K sp):=
 qds (t3:=(qiY S52 S37 S53 S50 S39 S54)) F V0 (λcdv A outer s H E hr=>(qj (V2 PassesOwn.never rfl (qI rfl m7 (qa (zj qi (qQ (qcz rfl) qhM rfl m55 PyProof.Rows.boot_min (qa qi (qa (qQ jj QQ rfl m4 PySem.boot_len (qa (qb 0) qd)) qd)))) qd) (h1:=by intro _ _ _ h;simpa [qc,qk] using h)) (qr (i:=1) (V0.nd)) (qj (qL 2 V0.nd (ql V52 hr rfl (qa (qb 0) (qa (qb 1) qd)))) (qj (qL 3 V0.nd (zj qi (ql V37 hr rfl (qa (qb 2) (qa qi qd))))) (qj (V2 PassesOwn.never rfl (YL (ql V53 hr rfl (qa (qb 2) (qa (qb 3) qd)))) (QL rfl (qv (qr (i:=4) (V0.nd)) (qv (qr (i:=5) (V0.nd)) QA))) (qj (qL 6 V0.nd (qdz (z3 (TJ hr.units) XG (qU (qb 4) qi) jJ (qV _)) (qb 3) (qU (zU (qa qi (qa qi (qa qi qd)))) (XC (qb 3) qi)))) (qj (qL 7 V0.nd (zU qd)) (qj (V2 PassesOwn.never rfl (qI rfl m7 (qa (qb 6) qd) (h1:=by intro _ _ _ h;simpa [qc,qk] using h)) (qr (i:=8) (V0.nd)) (qq (QP (qaY (qb 7) (qa (UI ["_law_j","_law_i"] [none,some 8] rfl (KT rfl m7 (qa (zj (qb 8) qi) (qa (qb 6) qd)) (h1:=by intro _ _ _ h;simpa [qc,qk] using h)) (λ_ _ _=>(jgn 0)) (λ_ _ _=>zT) (λ_ _ _=>(qX (qa (qb 1) (qa (qb 0) qd)))) (by kernel_rfl) (by kernel_rfl)) qd))))) (qj (qL 9 V0.nd (qdz (VZ (qb 5)) (qnw (zU (qa (qb 7) qd)) (zq XX LP rfl m2 PyProof.Rows.boot_int (qa (VF (TJ hr.units) XG (qb 7) (zU qd) (qV _)) qd))) (UI ["_law_pair"] [none] rfl (YL (qb 7)) (λ_ _ _=>(jgn 0)) (λ_ _ _=>zT) (λ_ _ _=>(zU (qa (qb 0) qd))) (by kernel_rfl) (by kernel_rfl)))) (qq (JB (jpt (qdp (z3 (TJ hr.units) XG (ql V39 hr rfl (qa (qb 4) qd)) (qb 9) (qV _)) (NP (z3 qgY qdB (ql V50 hr rfl (qa (qb 4) (qa (qb 9) qd))) YE (qV _))))) (qq (qA YE)) jC))))))) (qq (JB (XT (VZ (ql V54 hr rfl (qa (qb 2) qd)))) (qq (qA YE)) jC)))))) (qq (qA YE)))) read
end
end K73
namespace K73
open PySem L2 L3 Pu
def J2:PuS (Bk.UE):=(K9 (T5 (qi9 (λt=>VB t "int") (bV 0)) (qnv (qi9 (λt=>VB t "bool") (bV 0)))))
def jk:List PyData->Option PyData:=Pu.run J2.f 1 1 1000000000 false
def SU:Rd (PSp jk false) 1 (Bk.UE) JV:=jB J2 JV 1 1000000000 false
def KH {x0:PyData}:jk [x0]=WH false (J2.f 1000000000 [.sh x0]):=id rfl
def UZ:PuS (Bk.W8 (PSp jk false)):=(K9 (T5 (qi9 (λt=>VB t "tuple") (bV 0)) (T5 (bO (NY false) (qK qgB (qg (bV 0) qC)) (QR 2)) (T5 (qK (Q1 jk false) (qg (bO qaL (bV 0) (QR 0)) qC)) (qK (Q1 jk false) (qg (bO qaL (bV 0) (QR 1)) qC))))))
def JF:List PyData->Option PyData:=Pu.run UZ.f 1 1 1000000000 false
def qay:Rd (PSp JF false) 1 (Bk.W8 (PSp jk false)) U4:=jB UZ U4 1 1000000000 false
def qam {x0:PyData}:JF [x0]=WH false (UZ.f 1000000000 [.sh x0]):=id rfl
def JW:PuS (K73.V4 (Bk.za 3)):=(SJ (qak (qK (fSz 2) (qg (bV 0) qC)) (qaF 3 (jK (gN 1) (jK (gN 2) (jK (gN 3) qao)))) [true] ⟨rfl⟩) (K9 (qjh (CL (qg (bV 1) qC)) (gN 0) bTt (CL (qg (bV 2) qC)) (gN 1) bTt (DE (qg (bV 0) (qg (bV 1) qC)) ⟨rfl⟩) [none,none,some 2] ⟨rfl⟩ ⟨rfl⟩ ⟨rfl⟩)))
def jU:List PyData->Option PyData:=Pu.run JW.f 1 4 1000000000 true
def K8:Rd (PSp jU true) 1 (K73.V4 (Bk.za 3)) J7:=jB JW J7 1 1000000000 true
def KO {x0:PyData}:jU [x0]=WH true (JW.f 1000000000 [.sh x0,.un,.un,.un]):=id rfl
def QY:PuS (K73.JK):=(SJ (qak (bSl (bV 0) (bSp (QR 1)) bNp) (qaF 4 (jK (gN 1) (jK (gN 2) (jK (gN 3) (jK (gN 4) qao))))) [true] ⟨rfl⟩) (K9 (bLc (CL (qg (bO (opC US (·*·)) (bV 1) (bV 2)) qC)) (gN 0) bTt (DE (qg (bO (opC (λ_ j=>0<j) (·%·)) (bV 0) (bV 1)) (qg (bO (opC (λ_ j=>0<j) (·%·)) (bV 0) (bV 2)) qC)) ⟨rfl⟩) [none,some 3,some 4] ⟨rfl⟩)))
def zY:List PyData->Option PyData:=Pu.run QY.f 1 5 1000000000 true
def CF:Rd (PSp zY true) 1 (K73.JK) Q0:=jB QY Q0 1 1000000000 true
def CG {x0:PyData}:zY [x0]=WH true (QY.f 1000000000 [.sh x0,.un,.un,.un,.un]):=id rfl
def jH:PuS (K73.ZF (PSp jU true) (Bk.jT 3)):=(SJ (qfj 1) (SJ (qja (X0 qC ⟨rfl⟩) 2 [] ⟨rfl⟩) (SJ (qjt (qaJ (qK (Q1 jU true) (qg (bV 0) qC))) (gN 3) (SJ (qja (qK (fBi 2) (qg (bV 0) (qg (bV 3) qC))) 4 [true,false,false,true] ⟨rfl⟩) (SJ (qlY 5 1 (bV 4) (QR 0)) (SJ (qq7 (DE (qg (bV 4) (qg (bV 5) qC)) ⟨rfl⟩) 2 [false,false,false,false,true,true] ⟨rfl⟩) (qmT (bO W5 (bV 5) (QR 1)) 1 (bV 4) [false,false,false,false,false,true] ⟨rfl⟩)))) [true] ⟨rfl⟩) (qiv 2))))
def zp:List PyData->Option PyData:=Pu.run jH.f 1 6 1000000000 true
def DQ:Rd (PSp zp true) 1 (K73.ZF (PSp jU true) (Bk.jT 3)) zV:=jB jH zV 1 1000000000 true
def DS {x0:PyData}:zp [x0]=WH true (jH.f 1000000000 [.sh x0,.un,.un,.un,.un,.un]):=id rfl
def JD:PuS (K73.EG (PSp zY true) (PSp zp true)):=(SJ (sIf (bTb (bO (NY false) (bO qaL (bV 0) (QR 0)) (qaA "rests"))) (K9 (qK (Q1 zY true) (qg (bV 0) qC))) SR) (K9 (qK (Q1 zp true) (qg (bV 0) qC))))
def Q4:List PyData->Option PyData:=Pu.run JD.f 1 1 1000000000 true
def LW:Rd (PSp Q4 true) 1 (K73.EG (PSp zY true) (PSp zp true)) VR:=jB JD VR 1 1000000000 true
def W0 {x0:PyData}:Q4 [x0]=WH true (JD.f 1000000000 [.sh x0]):=id rfl
def WJ:PuN (K73.RP (Bk.za 3) (PSp Q4 true)):=(qid (qak (qK (fSz 2) (qg (bV 0) qC)) (qaF 3 (jK (gN 2) (jK (gN 3) (jK (gN 4) qao)))) [true] ⟨rfl⟩) (qid (qrz (CL (qg (bV 4) qC)) (gN 0) (X0 qC ⟨rfl⟩) [none] 5 ⟨rfl⟩ ⟨rfl⟩) (qid (qjt (qqn (qg (qK (Q1 Q4 true) (qg (bV 0) qC)) (qg (bV 1) qC))) (qaF 2 (jK (qaF 2 (jK (gN 6) (jK (gN 7) qao))) (jK (gN 8) qao))) (qgp 5 6 7 8 9 ⟨rfl⟩) [true,true] ⟨rfl⟩) (qhk 5))))
def JU:List PyData->Option (PyData ⊕ List (List PyData)):=Pu.qoV WJ.f 2 10 1000000000
def qbj:Rd (PNp JU) 2 (K73.RP (Bk.za 3) (PSp Q4 true)) WG:=qcZ WJ WG 2 1000000000
def qc9 {x0 x1:PyData}:JU [x0,x1]=WJ.f 1000000000 [.sh x0,.sh x1,.un,.un,.un,.un,.un,.un,.un,.un]:=id rfl
def J6:PuS (K73.V9 (Bk.za 3)):=(SJ (qak (qK (fSz 2) (qg (bV 0) qC)) (qaF 3 (jK (gN 1) (jK (gN 2) (jK (gN 3) qao)))) [true] ⟨rfl⟩) (K9 (bO (NY false) (bV 1) (bV 2))))
def qT:List PyData->Option PyData:=Pu.run J6.f 1 4 1000000000 false
def TL:Rd (PSp qT false) 1 (K73.V9 (Bk.za 3)) JS:=jB J6 JS 1 1000000000 false
def SW {x0:PyData}:qT [x0]=WH false (J6.f 1000000000 [.sh x0,.un,.un,.un]):=id rfl
def zc:PuS (K73.jo (PSp qT false)):=(sIf (qi0 (bTb (qK (Q1 qT false) (qg (bV 0) qC)))) qq9 SR)
def qD:List PyData->Option PyData:=Pu.run zc.f 1 1 1000000000 false
def VW:Rd (PSp qD false) 1 (K73.jo (PSp qT false)) qx:=jB zc qx 1 1000000000 false
def QT {x0:PyData}:qD [x0]=WH false (zc.f 1000000000 [.sh x0]):=id rfl
def zA:PzS (λdx=>zn (PSp qT false) dx):=(zIf (qi0 (bTb (qK (Q1 qT false) (qg (bV 0) qC)))) (qeX 51 (qg (qaA "the table hasn't as many rows as columns") qC) ⟨rfl⟩) (zP SR))
def qy:List PyData->Option Addr:=Pu.qmU zA.f 1 1 1000000000
def VX:∀ ts G dx,PXp qy ts G dx->ts.length=1/\zn (PSp qT false) dx { nx:=λ_ _=>False,rt:=λ_ _=>False } (qm qx ts) G:=MF zA qx 1 1000000000
def YI {x0:PyData}:qy [x0]=qlE (zA.f 1000000000 [.sh x0]):=id rfl
def JR:PuS (K73.UP (Bk.za 3)):=(SJ (qak (qK (fSz 2) (qg (bV 0) qC)) (qaF 3 (jK (gN 1) (jK (gN 2) (jK (gN 3) qao)))) [true] ⟨rfl⟩) (K9 (qjh (CL (qg (bV 1) qC)) (gN 0) bTt (CL (qg (bO W5 (bV 0) (QR 1)) (qg (bV 2) qC))) (gN 1) bTt (DE (qg (bV 0) (qg (bV 1) qC)) ⟨rfl⟩) [none,none,some 2] ⟨rfl⟩ ⟨rfl⟩ ⟨rfl⟩)))
def zC:List PyData->Option PyData:=Pu.run JR.f 1 4 1000000000 true
def K3:Rd (PSp zC true) 1 (K73.UP (Bk.za 3)) ZM:=jB JR ZM 1 1000000000 true
def KG {x0:PyData}:zC [x0]=WH true (JR.f 1000000000 [.sh x0,.un,.un,.un]):=id rfl
def ZP:PuS (K73.VH (Bk.jT 3)):=(K9 (qjh (qaJ (bV 1)) (qaF 2 (jK (gN 0) (jK (gN 1) qao))) bTt (qaJ (X0 (qg (DE (qg (bV 0) (qg (bV 1) qC)) ⟨rfl⟩) (qg (DE (qg (bV 1) (qg (bV 0) qC)) ⟨rfl⟩) qC)) ⟨rfl⟩)) (gN 2) bTt (qK (fBi 2) (qg (bV 3) (qg (bV 2) qC))) [none,none,none,some 0] ⟨rfl⟩ ⟨rfl⟩ ⟨rfl⟩))
def jv:List PyData->Option PyData:=Pu.run ZP.f 2 2 1000000000 true
def SM:Rd (PSp jv true) 2 (K73.VH (Bk.jT 3)) Z0:=jB ZP Z0 2 1000000000 true
def R6 {x0 x1:PyData}:jv [x0,x1]=WH true (ZP.f 1000000000 [.sh x0,.sh x1]):=id rfl
def U3:PuS (K73.XU (PSp jv true)):=(SJ (qja (qK (Q1 jv true) (qg (bV 0) (qg (bV 1) qC))) 2 [true,true] ⟨rfl⟩) (K9 (qqO (bO (opB λi j=>decide (i<j)) (qK qgB (qg (bV 1) qC)) (QR 2)) (bO (NY false) (qmJ (bV 2)) (qK qgB (qg (bV 2) qC))))))
def je:List PyData->Option PyData:=Pu.run U3.f 2 3 1000000000 false
def qav:Rd (PSp je false) 2 (K73.XU (PSp jv true)) YY:=jB U3 YY 2 1000000000 false
def qaC {x0 x1:PyData}:je [x0,x1]=WH false (U3.f 1000000000 [.sh x0,.sh x1,.un]):=id rfl
def ZY:PuS (K73.VE (PSp je false)):=(SJ (qjt (qhD (qg (bV 1) qC)) (qaF 2 (jK (gN 3) (jK (gN 4) qao))) (sIf (bTb (qK (Q1 je false) (qg (bV 0) (qg (bO KZ (bV 4) (X0 (qg (bV 2) qC) ⟨rfl⟩)) qC)))) (qiv 3) SR) [false,true] ⟨rfl⟩) (K9 (qK qgB (qg (bV 1) qC))))
def ju:List PyData->Option PyData:=Pu.run ZY.f 3 5 1000000000 false
def SB:Rd (PSp ju false) 3 (K73.VE (PSp je false)) j4:=jB ZY j4 3 1000000000 false
def R8 {x0 x1 x2:PyData}:ju [x0,x1,x2]=WH false (ZY.f 1000000000 [.sh x0,.sh x1,.sh x2,.un,.un]):=id rfl
def ZG:PuN (K73.UN (PSp qD false) (PSp zC true) (PSp ju false)):=(qid (ql4 (qK (Q1 qD false) (qg (bV 0) qC))) (qid (qry 1) (qid (qjt (qaJ (qK (Q1 zC true) (qg (bV 0) qC))) (gN 2) (SJ (qja (qK (Q1 ju false) (qg (bV 0) (qg (bV 1) (qg (bV 2) qC)))) 3 [true,true,true] ⟨rfl⟩) (SJ (sIf (bTb (bO (NY false) (bV 3) (qK qgB (qg (bV 1) qC)))) (qf3 qC 1 [] ⟨rfl⟩) SR) (qgC (bV 3) (bV 2) 1 [false,false,true] ⟨rfl⟩))) [true] ⟨rfl⟩) (qhk 1))))
def zk:List PyData->Option (PyData ⊕ List (List PyData)):=Pu.qoV ZG.f 1 4 1000000000
def KM:Rd (PNp zk) 1 (K73.UN (PSp qD false) (PSp zC true) (PSp ju false)) zS:=qcZ ZG zS 1 1000000000
def DG {x0:PyData}:zk [x0]=ZG.f 1000000000 [.sh x0,.un,.un,.un]:=id rfl
def YB:PzS (λdx=>ZS (PXp qy) dx):=(qpx (qbx qy (qg (bV 0) qC)) qrl)
def jV:List PyData->Option Addr:=Pu.qmU YB.f 1 4 1000000000
def KL:∀ ts G dx,PXp jV ts G dx->ts.length=1/\ZS (PXp qy) dx { nx:=λ_ _=>False,rt:=λ_ _=>False } (qm zS ts) G:=MF YB zS 1 1000000000
def RE {x0:PyData}:jV [x0]=qlE (YB.f 1000000000 [.sh x0,.un,.un,.un]):=id rfl
def WD:PzS (λdx=>U6 (PXp qy) dx):=(qpx (qbx qy (qg (bV 0) qC)) qrl)
def VU:List PyData->Option Addr:=Pu.qmU WD.f 3 13 1000000000
def qb1:∀ ts G dx,PXp VU ts G dx->ts.length=3/\U6 (PXp qy) dx { nx:=λ_ _=>False,rt:=λ_ _=>False } (qm WO ts) G:=MF WD WO 3 1000000000
def qab {x0 x1 x2:PyData}:VU [x0,x1,x2]=qlE (WD.f 1000000000 [.sh x0,.sh x1,.sh x2,.un,.un,.un,.un,.un,.un,.un,.un,.un,.un]):=id rfl
def zO:PuS (K73.jP):=(K9 (T5 (qi9 (λt=>VB t "list") (bV 0)) (qK qmY (qg (bLc (qaJ (bV 0)) (gN 0) bTt (qi9 (λt=>VB t "list") (bV 0)) [none] ⟨rfl⟩) qC))))
def qR:List PyData->Option PyData:=Pu.run zO.f 1 1 1000000000 false
def UR:Rd (PSp qR false) 1 (K73.jP) qP:=jB zO qP 1 1000000000 false
def UF {x0:PyData}:qR [x0]=WH false (zO.f 1000000000 [.sh x0]):=id rfl
def j5:PuS (K73.VJ (PSp qR false) (PSp qT false) (PSp zC true) (PSp JF false) (PSp je false)):=(SJ (sIf (bOr (qi0 (bTb (qK (Q1 qT false) (qg (bV 0) qC)))) (qi0 (bTb (qK (Q1 qR false) (qg (bV 1) qC))))) (K9 (bBl false)) SR) (SJ (qja (qjh (qaJ (bV 1)) (gN 0) bTt (qaJ (bV 0)) (gN 1) bTt (bV 1) [none,none] ⟨rfl⟩ ⟨rfl⟩ ⟨rfl⟩) 2 [false,true] ⟨rfl⟩) (SJ (sIf (bOr (qi0 (bTb (qK qmY (qg (bLc (qaJ (bV 2)) (gN 0) bTt (qK (Q1 JF false) (qg (bV 0) qC)) [none] ⟨rfl⟩) qC)))) (bTb (bO (NY true) (qK qk0 (qg (bV 2) qC)) (qK (Q1 zC true) (qg (bV 0) qC))))) (K9 (bBl false)) SR) (K9 (qK qmY (qg (bLc (qaJ (bV 1)) (gN 0) bTt (qK (Q1 je false) (qg (bV 1) (qg (bV 0) qC))) [none,some 0] ⟨rfl⟩) qC))))))
def qH:List PyData->Option PyData:=Pu.run j5.f 2 3 1000000000 false
def RZ:Rd (PSp qH false) 2 (K73.VJ (PSp qR false) (PSp qT false) (PSp zC true) (PSp JF false) (PSp je false)) ZX:=jB j5 ZX 2 1000000000 false
def UY {x0 x1:PyData}:qH [x0,x1]=WH false (j5.f 1000000000 [.sh x0,.sh x1,.un]):=id rfl
def Z3:=((qbK (eDr LM (aOf (qg (qK qgB (qg (bV 3) qC)) qC))) 2 3 [false,false,false,true] ⟨rfl⟩ ⟨rfl⟩):PwS 0 _)
def JL:PwS 0 (K73.UA Bk.zX):=(D4 (qj4 (X0 qC ⟨rfl⟩) (qoC (QR 32)) 2 3 [] ⟨rfl⟩ ⟨rfl⟩ ⟨rfl⟩ ⟨rfl⟩ ⟨rfl⟩ ⟨rfl⟩) (D4 (qkW (iOf (CL (qg (bV 1) qC))) (gN 4) Z3 [false,true] ⟨rfl⟩ ⟨rfl⟩) (qnJ 2)))
def jn:Wm:=qoG JL 2 5 true
def KC:Rd (DSp jn.W true) 2 (K73.UA Bk.zX) ZL:=LY JL ZL 2 true
def TQ {x0:PyData} {n:Nat} {Q:QD}:jn.W [x0] n Q=(2=2/\JL.w [.un,.sh x0,.un,.un,.un] n (qjb true Q)):=id rfl
def ZZ:PwS 0 (K73.VM (DSp jn.W true)):=(D4 (LA (eDr (dSp jn true) (aOf (qg (bO (opC US (·*·)) (bV 1) (bV 1)) qC))) 2 [false,true] ⟨rfl⟩ ⟨rfl⟩) (D4 (LA (eOf (qK qdk (qg (bLc (CL (qg (bV 1) qC)) (gN 0) bTt (qK qdk (qg (bLc (CL (qg (bV 2) qC)) (gN 0) bTt (bO qaL (bV 1) (QR 0)) [none,some 1] ⟨rfl⟩) qC)) [none,some 2,some 1] ⟨rfl⟩) qC))) 3 [false,true,true] ⟨rfl⟩ ⟨rfl⟩) (D4 (LA (eOf (qK qdk (qg (bLc (CL (qg (bV 1) qC)) (gN 0) bTt (qK qdk (qg (bLc (CL (qg (bV 2) qC)) (gN 0) bTt (bO qaL (bV 1) (bO W5 (bO (opC US (·*·)) (bV 2) (bV 3)) (bV 0))) [none,some 1,some 0,some 2] ⟨rfl⟩) qC)) [none,some 2,some 1] ⟨rfl⟩) qC))) 4 [false,true,true] ⟨rfl⟩ ⟨rfl⟩) (D4 (LA (eDr (dSp jn true) (aOf (qg (QR 9) qC))) 5 [] ⟨rfl⟩ ⟨rfl⟩) (D4 (LA (eOf (qK qdk (qg (bLc (CL (qg (bV 1) qC)) (gN 0) bTt (qK qdk (qg (bLc (CL (qg (bV 2) qC)) (gN 0) bTt (bO qaL (bV 1) (bO W5 (bV 2) (bV 0))) [none,some 1,some 0] ⟨rfl⟩) qC)) [none,some 5,some 1] ⟨rfl⟩) qC))) 6 [false,true,false,false,false,true] ⟨rfl⟩ ⟨rfl⟩) (D4 (LA (eOf (qK qdk (qg (bLc (CL (qg (bV 1) qC)) (gN 0) bTt (qK qdk (qg (bLc (CL (qg (bV 2) qC)) (gN 0) bTt (bO qaL (bV 1) (bO W5 (qK qjH (qg (bO (opB λi j=>decide (j<i)) (bV 2) (bV 0)) qC)) (bO (opC US (·*·)) (QR 2) (qK qjH (qg (bO (opB λi j=>decide (i<j)) (bV 2) (bV 0)) qC))))) [none,some 1,some 0] ⟨rfl⟩) qC)) [none,some 5,some 1] ⟨rfl⟩) qC))) 7 [false,true,false,false,false,true] ⟨rfl⟩ ⟨rfl⟩) (D4 (LA (eOf (X0 (qg (DE (qg (DE (qg (qaA "table") (qg (QR 32) (qg (bV 3) qC))) ⟨rfl⟩) (qg (bBl false) qC)) ⟨rfl⟩) (qg (DE (qg (DE (qg (qaA "table") (qg (QR 32) (qg (bV 4) qC))) ⟨rfl⟩) (qg (bBl true) qC)) ⟨rfl⟩) (qg (DE (qg (DE (qg (qaA "table") (qg (QR 32) (qg (bV 6) qC))) ⟨rfl⟩) (qg (bBl false) qC)) ⟨rfl⟩) qC))) ⟨rfl⟩)) 8 [false,false,false,true,true,false,true] ⟨rfl⟩ ⟨rfl⟩) (D4 (LA (eOf (bO KZ (bV 8) (X0 (qg (DE (qg (DE (qg (qaA "table") (qg (QR 32) (qg (bV 7) qC))) ⟨rfl⟩) (qg (bBl false) qC)) ⟨rfl⟩) (qg (DE (qg (DE (qg (qaA "skew") (qg (bV 1) (qg (bV 1) (qg (QR 32) (qg (QR 3) (qg (QR 3) qC)))))) ⟨rfl⟩) (qg (bBl false) qC)) ⟨rfl⟩) qC)) ⟨rfl⟩))) 8 [false,true,false,false,false,false,false,true,true] ⟨rfl⟩ ⟨rfl⟩) (qji (eOf (bO KZ (bV 8) (X0 (qg (DE (qg (DE (qg (qaA "skew") (qg (bV 1) (qg (bV 1) (qg (QR 1) (qg (QR 5) (qg (QR 9) qC)))))) ⟨rfl⟩) (qg (bBl false) qC)) ⟨rfl⟩) (qg (DE (qg (DE (qg (qaA "bits") (qg (bO (opC LG (·/·)) (bV 1) (QR 2)) (qg (bO (opC LG (·/·)) (bV 1) (QR 2)) (qg (DE qC ⟨rfl⟩) qC)))) ⟨rfl⟩) (qg (bBl false) qC)) ⟨rfl⟩) qC)) ⟨rfl⟩))))))))))))
def jp:Wm:=qoG ZZ 2 9 false
def SK:Rd (DSp jp.W false) 2 (K73.VM (DSp jn.W true)) ZT:=LY ZZ ZT 2 false
def RU {x0:PyData} {n:Nat} {Q:QD}:jp.W [x0] n Q=(2=2/\ZZ.w [.un,.sh x0,.un,.un,.un,.un,.un,.un,.un] n (qjb false Q)):=id rfl
def zi:List PyData->Option PyData:=λds=>match ds with|[d,p,m]=>(match zk [d] with|some _=>none|none=>if jV [d]=some 51/\VU [d,p,m]=some 51 then some (.bool true) else none)|_=>none
def jm:=((wIf (cOf (bOr (qi0 (bTb (qK (Q1 zi false) (qg (bV 3) (qg (X0 qC ⟨rfl⟩) (qg (bV 4) qC)))))) (bTb (bO (NY true) (qK (qgU true) (qg (bV 4) qC)) (bV 5))))) (qji (eOf (bBl false))) qaW):PwS 0 _)
def jf:PwS 0 (K73.QM Bk.zX (PNp JU) (PSp zi false) (PSp qH false)):=(D4 (qpP (qiG (eO W5 (eOf (QR 1)) (eDr LM (aOf (qg (QR 5) qC)))) (qiG (eO W5 (eOf (QR 6)) (eDr LM (aOf (qg (QR 5) qC)))) (aOf qC))) 1 2 [] ⟨rfl⟩ ⟨rfl⟩) (D4 (wIf (cTb (eO (NY false) (eDr LM (aOf (qg (QR 2) qC))) (eOf (QR 0)))) (qpP (aOf (qg (bV 2) (qg (bV 1) qC))) 1 2 [false,true,true] ⟨rfl⟩ ⟨rfl⟩) qaW) (D4 (LA (eO qaL (eOf (X0 (qg (DE (qg (qaA "skew") (qg (bV 1) (qg (bV 2) (qg (QR 7) (qg (QR 1) (qg (QR 2) qC)))))) ⟨rfl⟩) (qg (DE (qg (qaA "rests") (qg (bV 1) (qg (bV 2) (qg (QR 7) (qg (QR 16) qC))))) ⟨rfl⟩) qC)) ⟨rfl⟩)) (eDr LM (aOf (qg (QR 2) qC)))) 3 [false,true,true] ⟨rfl⟩ ⟨rfl⟩) (D4 (LA (eOf (qK (fNs JU) (qg (bV 3) (qg (qoC (bO (opC US (·*·)) (bV 1) (bV 2))) qC)))) 4 [false,true,true,true] ⟨rfl⟩ ⟨rfl⟩) (D4 (LA (eOf (qK (qgU true) (qg (bV 4) qC))) 5 [false,false,false,false,true] ⟨rfl⟩ ⟨rfl⟩) (D4 (qkW (iOf (CL (qg (QR 2) qC))) (gN 6) jm [] ⟨rfl⟩ ⟨rfl⟩) (qji (eOf (T5 (bO (qdU false) (qK (Q1 qH false) (qg (bV 3) (qg (X0 qC ⟨rfl⟩) qC))) (bBl false)) (bO (qdU false) (qK (Q1 qH false) (qg (bV 3) (qg (X0 (qg (X0 (qg (DE (qg (QR 0) (qg (QR 1) qC)) ⟨rfl⟩) qC) ⟨rfl⟩) qC) ⟨rfl⟩) qC))) (bBl false)))))))))))
def zf:Wm:=qoG jf 1 7 false
def EL:Rd (DSp zf.W false) 1 (K73.QM Bk.zX (PNp JU) (PSp zi false) (PSp qH false)) zF:=LY jf zF 1 false
def EW {n:Nat} {Q:QD}:zf.W [] n Q=(0+1=1/\jf.w [.un,.un,.un,.un,.un,.un,.un] n (qjb false Q)):=id rfl
def qph (zb8:Sp3) (zb9:Sp3) (zc3:Sp3) (zc5:Sp3) (zb6:Sp3):TS3:=(qF (qN (o3 jS (c3 (.int 1)) (cb3 zb8 (qc (v3 2) (qc (c3 (.int 5)) qk)))) (gn3 3)) (qF (C8 (YH (cb3 zb9 (qc (v3 2) (qc (v3 3) qk)))) (zH 2 (qo (gn3 4) (qo (gn3 5) zG))) (qF (qN (if3 (tb3 (o3 (QK true) (o3 ix3 (v3 4) (c3 (.int 0))) (c3 (.str "bits")))) (v3 3) (o3 ix3 (jX (qc (c3 (.int 1)) (qc (c3 (.int 2)) (qc (c3 (.int 4)) qk)))) (o3 (iC LG (·/·)) (v3 3) (c3 (.int 2))))) (gn3 6)) (qF (qN (jX qk) (gn3 7)) (qF (C8 (jy (qc (v3 6) qk)) (gn3 8) (q5 (bm3 D6 (v3 7) (qc (lc3 (jy (qc (o3 jS (v3 8) (c3 (.int 1))) (qc (v3 6) qk))) (gn3 0) tt3 (j8 (qc (v3 1) (qc (v3 0) qk))) [none,some 8]) qk)))) (qF (qN (if3 (tb3 (v3 5)) (o3 qht (jX (qc (v3 7) qk)) (cb3 WF (qc (o3 (QK true) (v3 7) (jX qk)) qk))) (lc3 (YH (v3 7)) (gn3 0) tt3 (jX (qc (v3 0) qk)) [none])) (gn3 9)) (ZC (or3 (tb3 (o3 (QK true) (cb3 zc5 (qc (v3 4) qk)) (v3 9))) (tb3 (o3 (qiq true) (cb3 zc3 (qc (v3 4) (qc (v3 9) qk))) (c3 (.bl true))))) (zm (c3 (.bl false))) qZ)))))) (ZC (UX (tb3 (cb3 zb6 (qc (v3 2) qk)))) (zm (c3 (.bl false))) qZ)))
def WN:=((qra (eOf (bLc (CL (qg (bO W5 (bV 8) (QR 1)) (qg (bV 6) qC))) (gN 0) bTt (DE (qg (bV 1) (qg (bV 0) qC)) ⟨rfl⟩) [none,some 8] ⟨rfl⟩)) 7 [false,false,false,false,false,false,true,false,true] ⟨rfl⟩ ⟨rfl⟩):PwS 2 _)
def SN:=((D4 (LA (eOf (bIf (bTb (bO (NY true) (bO qaL (bV 4) (QR 0)) (qaA "bits"))) (bV 3) (bO qaL (X0 (qg (QR 1) (qg (QR 2) (qg (QR 4) qC))) ⟨rfl⟩) (bO (opC LG (·/·)) (bV 3) (QR 2))))) 6 [false,false,false,true,true] ⟨rfl⟩ ⟨rfl⟩) (D4 (LA (eOf (X0 qC ⟨rfl⟩)) 7 [] ⟨rfl⟩ ⟨rfl⟩) (D4 (qkW (iOf (CL (qg (bV 6) qC))) (gN 8) WN [false,false,false,false,false,false,true] ⟨rfl⟩ ⟨rfl⟩) (D4 (LA (eOf (bIf (bTb (bV 5)) (bO qhw (X0 (qg (bV 7) qC) ⟨rfl⟩) (qK qjH (qg (bO (NY true) (bV 7) (X0 qC ⟨rfl⟩)) qC))) (bLc (qaJ (bV 7)) (gN 0) bTt (X0 (qg (bV 0) qC) ⟨rfl⟩) [none] ⟨rfl⟩))) 9 [false,false,false,false,false,true,false,true] ⟨rfl⟩ ⟨rfl⟩) (wIf (cOf (bOr (bTb (bO (NY true) (qK (fNs zk) (qg (bV 4) qC)) (bV 9))) (bTb (bO (qdU true) (qK (Q1 qH false) (qg (bV 4) (qg (bV 9) qC))) (bBl true))))) (qji (eOf (bBl false))) qaW))))):PwS 2 _)
def qez:PwS 2 (qph Bk.zX (DSp jp.W false) (PSp qH false) (PNp zk) (DSp zf.W false)):=(D4 (LA (eO W5 (eOf (QR 1)) (eDr LM (aOf (qg (QR 5) qC)))) 3 [] ⟨rfl⟩ ⟨rfl⟩) (D4 (qkW (iS (eDr (dSp jp false) (aOf (qg (bV 3) qC)))) (qaF 2 (jK (gN 4) (jK (gN 5) qao))) SN [false,false,false,true] ⟨rfl⟩ ⟨rfl⟩) (wIf (qre (cTb (eDr (dSp zf false) (aOf qC)))) (qji (eOf (bBl false))) qaW)))
def qlu (h:∀ k:Nat,k<=60->qez.w [.un,.sh (.int k),.un,.un,.un,.un,.un,.un,.un,.un] 0 okW):Rd CW 1 (K73.qiY Bk.YA Bk.zX (DSp jp.W false) (PSp qH false) (PNp zk) (DSp zf.W false)) qdO:=qdG qez qdO 8 7 ⟨by decide,by decide⟩ rfl h
end K73
namespace K73
open PySem L2 L3 Pu Pv
open Bk (Dl Inn)
abbrev PP:=Int×Int
def Nn (N:Nat) (p:PP):Prop:=(0<=p.1/\p.1<N)/\(0<=p.2/\p.2<N)
def bsD (ps:List PP):PyData:=.list (ps.map pD)
section
variable (b:Int->Int->Int)
def wb (p:PP):List Int:=[b p.1 p.2,b p.2 p.1]
def bb (ps:List PP):List Int:=ps.flatMap (wb b)
def okb (ps:List PP):Bool:=decide (((ps.length:Nat):Int)<2)||decide (((DO (bb b ps):Nat):Int)=((bb b ps).length:Nat))
def ff (pl:List (List PP)) (p:PP):Nat:=pl.findIdx λs=>okb b (s++[p])
def stp (pl:List (List PP)) (p:PP):List (List PP):=if ff b pl p=pl.length then pl++[[p]] else pl.modify (ff b pl p) (·++[p])
end
def row (N:Nat) (i:Int):List PP:=(jg (i+1) ((N:Int)-(i+1)).toNat).map λj=>(i,j)
def prs (N:Nat):List PP:=(jg 0 (N:Int).toNat).flatMap (row N)
def jF {lo:Int} {n:Nat} {x:Int} (h:x∈jg lo n):lo<=x/\x<lo+n:=by
 unfold jg at h;obtain ⟨i,hi,rfl⟩:=mem_map.mp h;have:=mem_range.mp hi;omega
def qpH {N:Nat} {i:Int} (h:0<=i/\i<N) {p:PP} (hp:p∈row N i):Nn N p:=by
 obtain ⟨j,hj,rfl⟩:=mem_map.mp hp;have:=jF hj;exact ⟨h,by simp only;omega,by simp only;omega⟩
def SX {N:Nat} {p:PP} (hp:p∈prs N):Nn N p:=by
 obtain ⟨i,hi,hp⟩:=List.mem_flatMap.mp hp;have:=jF hi;exact qpH (by omega) hp
theorem qbl {b:Int->Int->Int}:∀ {ps:List PP},(bb b ps).length=2*ps.length
 |[]=>rfl
 |p::ps=>by
  have:=qbl (b:=b) (ps:=ps);unfold bb at this ⊢;simp only [List.flatMap_cons,length_append,wb,length_cons,length_nil,this];omega
structure Sq (d:Dl) (N:Nat):Prop where
 ok:d.Ok
 dp:d.dep<=2
 r:d.R=N
 c:d.C=N
 n:N<=16
def Sq.inn {d:Dl} {N:Nat} (h:Sq d N) {p:PP} (hp:Nn N p):Inn d p.1 p.2/\Inn d p.2 p.1:=by
 have:=h.r;have:=h.c;obtain ⟨⟨a,b⟩,c,e⟩:=hp;exact ⟨⟨by omega,by omega,by omega,by omega⟩,⟨by omega,by omega,by omega,by omega⟩⟩
def qr9 {d:Dl} {N:Nat} (h:Sq d N) {ps:List PP} (hp:∀ p∈ps,Nn N p) (hl:ps.length<=1000):jv [dlD d,bsD ps]=some (.list ((bb d.bank ps).map PyData.int)):=by
 rw [R6]
 try simp only [Pu.pwA,ZP,bsD]
 rw [RK (ds:=ps.map pD) (fs:=ps.flatMap λp=>(wb d.bank p).map PyData.int)]
 ·try simp only [Pu.pwA,bb,List.map_flatMap]
 ·try simp only [Pu.pwA]
 ·refine WE λp hp'=>?_;obtain ⟨i1,i2⟩:=h.inn (hp p hp');have k1:=qiz (n:=2) h.dp h.ok i1;have k2:=qiz (n:=2) h.dp h.ok i2
  try simp only [Pu.pwA,NU,pD]
  try simp only [Pu.pwA,lcP,JT,qlB,k1,k2,wb,map_cons,List.map_nil]
 ·have e:(ps.flatMap λp=>(wb d.bank p).map PyData.int).length=2*ps.length:=by
   have:=qbl (b:=d.bank) (ps:=ps);rw [← this,← length_map (f:=PyData.int),bb,List.map_flatMap]
  rw [e];omega
def qkj {d:Dl} {N:Nat} (h:Sq d N) {ps:List PP} (hp:∀ p∈ps,Nn N p) (hl:ps.length<=1000):je [dlD d,bsD ps]=some (.bool (okb d.bank ps)):=by
 have e:=qr9 h hp hl;have l:=qbl (b:=d.bank) (ps:=ps);have ls:=qig (xs:=bb d.bank ps) (by omega);rw [qaC]
 try simp only [Pu.pwA,U3,e]
 try simp only [Pu.pwA,bsD,ls,length_map,okb]
 cases decide (((ps.length:Nat):Int)<2)<;>try simp only [Pu.pwA,Bool.true_or,Bool.false_or]
def qd6 {d:Dl} (ok:d.Ok) (dp:d.dep<=2):qT [dlD d]=some (.bool (decide (d.R=d.C))):=by
 rw [SW]
 try simp only [Pu.pwA,J6,qdR,qai (n:=2) dp ok,siz]
def qnS:∀ N:Nat,N<17->(prs N).length<=120:=by decide +kernel
def qq6 {d:Dl} {N:Nat} (h:Sq d N):zC [dlD d]=some (bsD (prs N)):=by
 have hn:=h.n;rw [KG]
 try simp only [Pu.pwA,JR,qdR,qai (n:=2) h.dp h.ok,siz,h.r,h.c]
 rw [RK (ds:=(jg 0 (N:Int).toNat).map PyData.int) (fs:=(jg 0 (N:Int).toNat).flatMap λi=>(row N i).map pD)]
 ·try simp only [Pu.pwA,bsD,prs,List.map_flatMap]
 ·try simp (disch:=omega) only [Pu.pwA,LC]
 ·refine WE λi hi=>?_;have:=jF hi
  try simp (disch:=omega) only [Pu.pwA,NU,qru]
  rw [zM (k:=λj=>pD (i,j))]
  ·try simp only [Pu.pwA,row,map_map,Function.comp_def]
  ·intro j hj
   try simp only [Pu.pwA,JT,pD]
 ·have e:((jg 0 (N:Int).toNat).flatMap λi=>(row N i).map pD).length=(prs N).length:=by rw [← length_map (f:=pD),prs,List.map_flatMap]
  have:=qnS N (by omega);omega
def plD (pl:List (List PP)):PyData:=.list (pl.map bsD)
structure Pl (N:Nat) (pl:List (List PP)) (k:Nat):Prop where
 nn:∀ s∈pl,∀ p∈s,Nn N p
 ls:∀ s∈pl,s.length<=k
 l:pl.length<=k
def qrP {ps:List PP} {p:PP} (hl:ps.length<=1000):qjg (bsD ps) (.list [pD p])=some (bsD (ps++[p])):=by
 unfold bsD;rw [qcE (by simp;omega),List.map_append];rfl
def qr7 {d:Dl} {N k:Nat} (h:Sq d N) {pl:List (List PP)} (hp:Pl N pl k) (hk:k<1000) {p:PP} (hn:Nn N p):ju [dlD d,plD pl,pD p]=some (.int ((ff d.bank pl p:Nat):Int)):=by
 have is:∀ s∈pl,je [dlD d,bsD (s++[p])]=some (.bool (okb d.bank (s++[p]))):=λs hs=>qkj h (λq hq=>by
  rcases List.mem_append.mp hq with hq|hq
  ·exact hp.nn s hs q hq
  ·rw [List.mem_singleton.mp hq];exact hn) (by have:=hp.ls s hs;simp;omega)
 have ct:∀ s∈pl,qjg (bsD s) (.list [pD p])=some (bsD (s++[p])):=λs hs=>qrP (by have:=hp.ls s hs;omega);rw [R8];unfold ZY
 try simp only [Pu.pwA,plD,bsD]
 have eb:∀ s:List PP,PyData.list (s.map pD)=bsD s:=λ_=>rfl;rw [show (pl.map bsD)=pl.map λs=>bsD s from rfl,qim];have al:∀ i s,pl[i]?=some s->i<ff d.bank pl p->okb d.bank (s++[p])=false:=λi s e hi=>by
  have:=List.not_of_lt_findIdx hi;have hl:=(za4 e).1;rw [v0 hl] at e;cases e;simpa using this
 by_cases z:ff d.bank pl p=pl.length
 ·refine qa0 (Q:=λo=>WH false o=some (.int ((ff d.bank pl p:Nat):Int))) (g:=λx:List PP×Nat=>PyData.tuple [PyData.int (x.2:Int),bsD x.1]) pl.zipIdx (λ_ ρ=>∃ s3 s4,ρ=[.sh (dlD d),.sh (plD pl),.sh (pD p),s3,s4]) ⟨_,_,rfl⟩ ?_ ?_
  ·rintro i ⟨s,j⟩ ρ hx ⟨s3,s4,rfl⟩;obtain ⟨hs,rfl,hl⟩:=EC hx;have hm:=v9 hs
   try simp only [Pu.pwA,ct s hm,is s hm,al _ s hs (by omega)]
   exact ⟨_,_,rfl⟩
  ·rintro ρ ⟨s3,s4,rfl⟩
   try simp only [Pu.pwA,plD,length_map,z]
 ·have lt:ff d.bank pl p<pl.length:=by
   have:ff d.bank pl p<=pl.length:=List.findIdx_le_length;omega
  have hs:=v0 lt;have hm:=v9 hs;have yes:okb d.bank (pl[ff d.bank pl p]++[p])=true:=List.findIdx_getElem (w:=lt);refine qhu (Q:=λo=>WH false o=some (.int ((ff d.bank pl p:Nat):Int))) (g:=λx:List PP×Nat=>PyData.tuple [PyData.int (x.2:Int),bsD x.1]) pl.zipIdx (ff d.bank pl p) (pl[ff d.bank pl p],ff d.bank pl p) (.int ((ff d.bank pl p:Nat):Int)) false (by rw [List.getElem?_zipIdx,hs];simp) (λ_ ρ=>∃ s3 s4,ρ=[.sh (dlD d),.sh (plD pl),.sh (pD p),s3,s4]) ⟨_,_,rfl⟩ ?_ ?_ ?_
  ·rintro i ⟨s,j⟩ ρ hi hx ⟨s3,s4,rfl⟩;obtain ⟨hs,rfl,hl⟩:=EC hx;have hm:=v9 hs
   try simp only [Pu.pwA,ct s hm,is s hm,al _ s hs hi]
   exact ⟨_,_,rfl⟩
  ·rintro ρ ⟨s3,s4,rfl⟩
   try simp only [Pu.pwA,ct _ hm,is _ hm,yes]
  ·try simp only [Pu.pwA]
def onP (pl:List (List PP)):List (List PyData):=pl.map λs=>s.map pD
def qns {pl:List (List PP)}:PyData.list ((onP pl).map PyData.list)=plD pl:=by
 unfold onP plD;rw [map_map];rfl
def qo8 {dss:List (List PyData)}:Sl.d (.on dss)=some (.list (dss.map PyData.list)):=id rfl
def qgQ {s:Sl} {ρ:Rho} {i:Nat}:j9 (s::ρ) (i+1)=j9 ρ i:=id rfl
def qi5 {dss:List (List PyData)} {ρ:Rho}:j9 (.on dss::ρ) 0=some dss:=id rfl
def qiS {n k:Nat} (h:k<n):ixN n (k:Int)=some k:=by
 unfold ixN;rw [if_pos (by omega),if_pos (by omega)];simp
def qpa {b:Int->Int->Int} {pl:List (List PP)} {p:PP}:ff b pl p<=pl.length:=List.findIdx_le_length
def qgX {b:Int->Int->Int} {pl:List (List PP)} {p:PP} (h:ff b pl p=pl.length):onP (stp b pl p)=onP pl++[[pD p]]:=by
 unfold stp onP;rw [if_pos h,List.map_append];rfl
def qiy {b:Int->Int->Int} {pl:List (List PP)} {p:PP} (h:ff b pl p<pl.length):onP (stp b pl p)=(onP pl).set (ff b pl p) ((pl[ff b pl p]).map pD++[pD p]):=by
 unfold stp onP;rw [if_neg (by omega)];apply List.ext_getElem?;intro i;rw [getElem?_map,List.getElem?_modify,getElem?_set,length_map];by_cases e:ff b pl p=i
 ·rw [if_pos e,if_pos h,← e,v0 h];simp
 ·rw [if_neg e,getElem?_map];cases pl[i]?<;>simp [e]
def qjM {N k:Nat} {b:Int->Int->Int} {pl:List (List PP)} {p:PP} (h:Pl N pl k) (hp:Nn N p):Pl N (stp b pl p) (k+1):=by
 have hl:=h.l;unfold stp;split
 ·refine ⟨λs hs q hq=>?_,λs hs=>?_,by simp;omega⟩
  ·rcases List.mem_append.mp hs with hs|hs
   ·exact h.nn s hs q hq
   ·rw [List.mem_singleton.mp hs] at hq;rw [List.mem_singleton.mp hq];exact hp
  ·rcases List.mem_append.mp hs with hs|hs
   ·have:=h.ls s hs;omega
   ·rw [List.mem_singleton.mp hs];simp
 ·have mem:∀ s∈pl.modify (ff b pl p) (·++[p]),s∈pl\/∃ t∈pl,s=t++[p]:=λs hs=>by
   obtain ⟨i,hi,e⟩:=List.getElem_of_mem hs;rw [List.length_modify] at hi;rw [List.getElem_modify] at e;split at e
   ·exact .inr ⟨_,za0 hi,e.symm⟩
   ·exact .inl (e▸za0 hi)
  refine ⟨λs hs q hq=>?_,λs hs=>?_,by simp;omega⟩
  ·rcases mem s hs with hs|⟨t,ht,rfl⟩
   ·exact h.nn s hs q hq
   ·rcases List.mem_append.mp hq with hq|hq
    ·exact h.nn t ht q hq
    ·rw [List.mem_singleton.mp hq];exact hp
  ·rcases mem s hs with hs|⟨t,ht,rfl⟩
   ·have:=h.ls s hs;omega
   ·have:=h.ls t ht;simp;omega
def qge {α:Type} {xs:List α} {i:Nat} {x:α} (h:xs[i]?=some x):xs.take (i+1)=xs.take i++[x]:=by
 rw [List.take_add_one,h];rfl
def pln (b:Int->Int->Int) (ps:List PP):List (List PP):=ps.foldl (stp b) []
def qjv {b:Int->Int->Int} {ps:List PP} {i:Nat} {p:PP} (h:ps[i]?=some p):pln b (ps.take (i+1))=stp b (pln b (ps.take i)) p:=by
 unfold pln;rw [qge h,List.foldl_append];rfl
theorem qfB {N:Nat} {b:Int->Int->Int} {ps:List PP} (h:∀ p∈ps,Nn N p):∀ i,i<=ps.length->Pl N (pln b (ps.take i)) i
 |0,_=>⟨by simp [pln],by simp [pln],by simp [pln]⟩
 |i+1,hi=>by
  have e:=v0 (show i<ps.length by omega);rw [qjv e];exact qjM (qfB h i (by omega)) (h _ (v9 e))
def qss {d:Dl} {N:Nat} (h:Sq d N):qD [dlD d]=some .none:=by
 have e:=qd6 h.ok h.dp;rw [h.r,h.c,za2 rfl] at e;rw [QT]
 try simp only [Pu.pwA,zc,e,Bool.not_true]
def qrO {d:Dl} {N:Nat} (h:Sq d N):zk [dlD d]=some (.inr (onP (pln d.bank (prs N)))):=by
 have hl:=qnS N (by have:=h.n;omega);rw [DG]
 try simp only [Pu.pwA,ZG,qcM,qju,qbo,qss h,qq6 h]
 try simp only [Pu.pwA,bsD]
 refine R4 (Q:=λo=>(o.bind λo=>match o with|Ot.nx ρ'=>Option.map Sum.inr (j9 ρ' 1)|x=>none)=some (.inr (onP (pln d.bank (prs N))))) (g:=pD) (prs N) (λi ρ=>∃ s2 s3,ρ=[.sh (dlD d),.on (onP (pln d.bank ((prs N).take i))),s2,s3]) ⟨_,_,rfl⟩ ?_ ?_
 ·rintro i p ρ hx ⟨s2,s3,rfl⟩;have hi:=(za4 hx).1;have hp:=qfB (N:=N) (b:=d.bank) (ps:=prs N) (λp hp=>SX hp) i (by omega);have hn:=SX (v9 hx);rw [qjv hx];have fb:=qr7 h hp (by omega) hn;generalize pln d.bank ((prs N).take i)=pl at hp fb;have le:=qpa (b:=d.bank) (pl:=pl) (p:=p);have ll:((onP pl).map PyData.list).length=pl.length:=by simp [onP]
  have lo:(onP pl).length=pl.length:=by simp [onP]
  have hl2:=hp.l
  try simp only [Pu.pwA,qo8,qns,fb]
  try simp only [Pu.pwA,plD,length_map]
  by_cases z:ff d.bank pl p=pl.length
  ·have e:(((ff d.bank pl p:Nat):Int)=((pl.length:Nat):Int)):=by omega
   have g1:((onP pl)++[[]])[ff d.bank pl p]?=some []:=by rw [z,← lo];simp
   have g2:ixN ((onP pl)++[[]]).length ((ff d.bank pl p:Nat):Int)=some (ff d.bank pl p):=qiS (by simp [lo,z]);have g3:((onP pl)++[[]]).set (ff d.bank pl p) ([]++[pD p])=onP pl++[[pD p]]:=by rw [z,← lo,List.set_append_right _ _ (v5 _)];simp
   rw [qgX z]
   try simp only [Pu.pwA,e,decide_true,qdC,M0,MV,TY,qgQ,qi5,lo,if_pos (show pl.length<1000000 by omega),if_pos (show (0:Nat)<1000000 by decide)]
   rw [z] at g1 g2 g3;rw [g2,Option.bind_some,g1,Option.bind_some,if_pos (show ([]:List PyData).length<1000000 by decide),g3];exact ⟨_,_,rfl⟩
  ·have lt:ff d.bank pl p<pl.length:=by omega
   have e:¬ (((ff d.bank pl p:Nat):Int)=((pl.length:Nat):Int)):=by omega
   have g1:(onP pl)[ff d.bank pl p]?=some ((pl[ff d.bank pl p]).map pD):=by unfold onP;rw [getElem?_map,v0 lt];rfl
   have g2:ixN (onP pl).length ((ff d.bank pl p:Nat):Int)=some (ff d.bank pl p):=qiS (by rw [lo];exact lt);have g4:=hp.ls _ (za0 lt);rw [qiy lt]
   try simp only [Pu.pwA,e,decide_false,M0,TY,qgQ,qi5]
   rw [g2,Option.bind_some,g1,Option.bind_some,if_pos (by rw [length_map];omega)];exact ⟨_,_,rfl⟩
 ·rintro ρ ⟨s2,s3,rfl⟩;rw [List.take_of_length_le (v5 _)];rfl
def qsw {d:Dl} (ok:d.Ok) (dp:d.dep<=2) (n:d.R≠d.C) (p m:PyData):zk [dlD d]=none/\jV [dlD d]=some 51/\VU [dlD d,p,m]=some 51:=by
 have e:=qd6 ok dp;rw [za1 n] at e;have f:qD [dlD d]=none:=by
  rw [QT]
  try simp only [Pu.pwA,zc,e,qq9,WH]
 have x:qy [dlD d]=some 51:=by
  rw [YI]
  try simp only [Pu.pwA,zA,qpC,qd1,qbr,Option.map_some,Option.bind_some,e]
 refine ⟨?_,?_,?_⟩
 ·rw [DG]
  try simp only [Pu.pwA,ZG,qcM,f,Option.bind_none,Option.map_none]
 ·rw [RE]
  try simp only [Pu.pwA,YB,qfX,NA,qbr,Option.map_some,Option.bind_some,x]
 ·rw [qab]
  try simp only [Pu.pwA,WD,qfX,NA,qbr,Option.map_some,Option.bind_some,x]
def qpc:eqD false (.list [.bool true,.bool true]) (.list [.bool true,.bool true])=some (.bool true):=by
 have h:LU (.list [.bool true,.bool true]) (.list [.bool true,.bool true])=none:=rfl;unfold eqD;rw [h];simp only;rw [zB (by decide)];rfl
def qg3 {ds:List PyData} {r:PyData} (h:zi ds=some r):∃ d p m,ds=[d,p,m]/\jV [d]=some 51/\VU [d,p,m]=some 51/\r=.bool true:=by
 match ds with
 |[]=>exact nomatch h
 |[_]=>exact nomatch h
 |[_,_]=>exact nomatch h
 |[d,p,m]=>
  unfold zi at h;simp only at h;split at h
  ·cases h
  ·split at h
   ·rename_i hc;cases h;exact ⟨d,p,m,rfl,hc.1,hc.2,rfl⟩
   ·cases h
 |_::_::_::_::_=>exact nomatch h
def bEq:PuE (o3 (QK false) (v3 3) (jX (qc (c3 (.bl true)) (qc (c3 (.bl true)) qk)))):=bO (NY false) (bV 3) (X0 (qg (bBl true) (qg (bBl true) qC)) ⟨rfl⟩)
def X9:Rd (PSp zi false) 3 (Q2 (PNp zk) (PSp (λ_=>none) false) (PXp jV) (PXp VU)) QZ:=by
 rintro ts G q ⟨D,ds,r,hs,hd,hf,h⟩;obtain ⟨d,p,m,rfl,x1,x2,rfl⟩:=qg3 hf
 match ts,hs with
 |[t0,t1,t2],.cons h0 (.cons h1 (.cons h2 .nil))=>
 refine ⟨rfl,?_⟩;show Q2 _ _ _ _ _ [some t0,some t1,some t2,none,none,none,none] G;unfold Q2;simp only [qF,qN,jX,qk,gn3,set_cons_succ,set_cons_zero];refine ⟨Nat.zero_le _,λa ha=>?_⟩;have E0:Ex G (gu G a (.lst [])):=QI ha;have nD:¬ D a:=λz=>hd a z ha;have l1:List.lookup (some (51:Addr)) [(none,false),(some 51,true)]=some true:=rfl;simp only [C8,jy,qc,c3,qk];refine ⟨⟨by omega,by omega⟩,?_⟩;rw [show qaK 0 ((2:Int)).toNat=[T.int 0,T.int 1] from rfl];have z0:QX (.int 0) (.int 0)=some true:=rfl;have z1:QX (.int 1) (.int 0)=some false:=rfl;refine ⟨trivial,?_⟩;simp only [gn3,qF,qN,c3,set_cons_succ,set_cons_zero];refine .inr ?_;simp only [xif,tb3,o3,v3,c3,QK,z0,qbG,qc,qk,x4,x3,if_true];refine ⟨D,[d],51,.cons (h0.up (jR E0)) .nil,hd.up E0,x1,λG1 E1=>⟨by decide,λex hex=>?_⟩⟩;have g1:gu G1 ex (.exn 51) ex=some (.exn 51):=qu;have E2:Ex (gu G a (.lst [])) (gu G1 ex (.exn 51)):=E1.trans (QI hex);have ga:gu G1 ex (.exn 51) a=some (.lst []):=E2 _ _ qu;simp only [qN,v3,gn3,q5,bm3,qc,qk,qow,exT,g1,l1,set_cons_succ,set_cons_zero,x4,x3];refine ⟨by rw [qO ga];rfl,?_⟩;simp only [JO,ga];refine ⟨by simp [y9],trivial,?_⟩;have E3:Ex G (gu (gu G1 ex (.exn 51)) a (.lst ([]++[T.bl true]))):=λb o z=>by
  rw [zu (by rintro rfl;rw [ha] at z;cases z)];exact E2 _ _ (E0 _ _ z)
 have ga2:gu (gu G1 ex (.exn 51)) a (.lst ([]++[T.bl true])) a=some (.lst ([]++[T.bl true])):=qu;generalize gu (gu G1 ex (.exn 51)) a (.lst ([]++[T.bl true]))=G3 at *;simp only [gn3,qF,qN,c3,set_cons_succ,set_cons_zero];refine .inr ?_;simp only [xif,tb3,o3,v3,c3,QK,z1,qbG,qc,qk,x4,x3];refine ⟨D,[d,p,m],51,.cons (h0.up (jR E3)) (.cons (h1.up (jR E3)) (.cons (h2.up (jR E3)) .nil)),hd.up E3,x2,λG4 E4=>⟨by decide,λex2 hex2=>?_⟩⟩;have g2:gu G4 ex2 (.exn 51) ex2=some (.exn 51):=qu;have E5:Ex G3 (gu G4 ex2 (.exn 51)):=E4.trans (QI hex2);have ga3:=E5 _ _ ga2;simp only [qN,v3,gn3,q5,bm3,qc,qk,qow,exT,g2,l1,set_cons_succ,set_cons_zero,x4,x3];refine ⟨by rw [qO ga3];rfl,?_⟩;simp only [JO,ga3];refine ⟨by simp [y9],trivial,?_⟩;have E6:Ex G (gu (gu G4 ex2 (.exn 51)) a (.lst ([]++[T.bl true]++[T.bl true]))):=λb o z=>by
  rw [zu (by rintro rfl;rw [ha] at z;cases z)];exact E5 _ _ (E3 _ _ z)
 have ga4:gu (gu G4 ex2 (.exn 51)) a (.lst ([]++[T.bl true]++[T.bl true])) a=some (.lst ([]++[T.bl true]++[T.bl true])):=qu;generalize gu (gu G4 ex2 (.exn 51)) a (.lst ([]++[T.bl true]++[T.bl true]))=G5 at *;simp only [zm];refine bEq.ok (D:=D) (ρ:=[.un,.un,.un,.sh (.list [.bool true,.bool true])]) (d:=.bool true) ?_ (hd.up E6) ?_ λx G6 E7 D7 _=>?_
 ·intro i hi d' hd';have:i=3:=by simpa [bEq,bO,bV,X0,qg,bBl,qC] using hi
  subst this;cases hd';exact ⟨_,rfl,.lst (by rw [jO nD];exact ga4) (.cons (.bl _) (.cons (.bl _) .nil))⟩
 ·try simp only [Pu.pwA,bEq,qpc]
 ·cases D7;exact h _ _ (E6.trans E7) (.bl _) λz=>by cases z
def inT (d:Dl) (p:Int×Int):Prop:=Inn d p.1 p.2
def qoZ (r c:Nat):(qaM r c).length=r*c:=by
 induction r with
 |zero=>simp [qaM]
 |succ r ih=>
  unfold qaM at ih ⊢;rw [List.range_succ,List.flatMap_append,length_append,ih,Nat.succ_mul];simp
def qr4 {d:Dl} (hp:d.dep<=2) (ok:d.Ok) (hR:d.R<=1000) (hC:d.C<=1000):jU [dlD d]=some (.list ((qaM d.R.toNat d.C.toNat).map pD)):=by
 have l:=Dl.lims ok;have:=l.r1;have:=l.c1;rw [KO]
 try simp only [Pu.pwA,JW,qdR,qai (n:=2) hp ok,siz]
 rw [RK (ds:=(jg 0 d.R.toNat).map PyData.int) (fs:=(qaM d.R.toNat d.C.toNat).map pD)]
 ·try simp only [Pu.pwA]
 ·try simp (disch:=omega) only [Pu.pwA,LC]
 ·have:(qaM d.R.toNat d.C.toNat).map pD=(jg 0 d.R.toNat).flatMap λi=>(jg 0 d.C.toNat).map λj=>pD (i,j):=by
   unfold qaM jg;simp only [List.map_flatMap,map_map,List.flatMap_map,Function.comp_def,Int.zero_add]
  rw [this];refine WE λi hi=>?_
  try simp (disch:=omega) only [Pu.pwA,NU,LC]
  rw [zM (k:=λq=>pD (i,q)) λq hq=>?_]
  ·try simp only [Pu.pwA]
  ·try simp only [Pu.pwA,JT,pD]
 ·rw [length_map];have:=qoZ d.R.toNat d.C.toNat;have:=Nat.mul_le_mul (show d.R.toNat<=1000 by omega) (show d.C.toNat<=1000 by omega);omega
def sp2 (ps:List (Int×Int)):PyData:=.list (ps.map pD)
def qsb {s:Str} {r c b p:Int}:slD (.tuple [.str s,.int r,.int c,.int b,.int p]) (some 1) none=some (.tuple [.int r,.int c,.int b,.int p]):=qbT (by simp [HT.sIx])
def qa6 {d:Dl} {p:Int×Int} (h:p∈qaM d.R.toNat d.C.toNat):inT d p:=by
 unfold qaM at h;obtain ⟨i,hi,h⟩:=List.mem_flatMap.mp h;obtain ⟨j,hj,rfl⟩:=mem_map.mp h;have:=mem_range.mp hi;have:=mem_range.mp hj;exact ⟨by simp only;omega,by simp only;omega,by simp only;omega,by simp only;omega⟩
def qij {i j:Nat} {k:Int} {d:PyData} {ρ:Rho} {kvs:List (Int×PyData)} (h:SA ρ j=some kvs) (hs:K1 d=true):qoU i j (.int k) d ρ=some (.nx (ρ.set i (.sh ((VY kvs k).getD d)))):=by
 show (SA ρ j).bind _=_;rw [h];show (if K1 d then _ else _)=_;rw [hs];rfl
def qdD {i:Nat} {k:Int} {d:PyData} {ρ:Rho} {kvs:List (Int×PyData)} (h:SA ρ i=some kvs) (hl:kvs.length<16777216):qel i (.int k) d ρ=some (.nx (ρ.set i (.dc (DJ kvs k d)))):=by
 show (SA ρ i).bind _=_;rw [h];exact zB hl
def qiK {tk te:TE3} {i j:Nat} {a:PuE tk} {b:PuE te}:(qlY i j a b).f=λ_ ρ=>(a.f ρ).bind λk=>(b.f ρ).bind λd=>qoU i j k d ρ:=id rfl
def qiJ {t ti:TE3} {a:PuE t} {i:Nat} {b:PuE ti} {m:List Bool} {hm:Tru (a.fv.all (mkb m))}:(qmT a i b m hm).f=λ_ ρ=>(a.f ρ).bind λd=>(b.f ρ).bind λk=>qel i k d (dmS m d ρ):=id rfl
def qhl {d:Dl} (h:∀ r c b p,d≠.rests r c b p):∃ (s:Str) (xs:List PyData),dlD d=.tuple (.str s::xs)/\¬ s=Str.ofString "rests" := by
 cases d with
 |skew r c b x y=>exact ⟨"skew",_,rfl,by decide⟩
 |rests r c b p=>exact absurd rfl (h r c b p)
 |bits hh l ms=>exact ⟨"bits",_,rfl,by decide⟩
 |table b cells=>exact ⟨"table",_,rfl,by decide⟩
 |joined d e=>exact ⟨"joined",_,rfl,by decide⟩
def cnt (ns:List Int) (b:Int):Int:=((ns.filter λn=>decide (n=b)).length:Nat)
def qpR {ns:List Int} {n b:Int}:cnt (ns++[n]) b=cnt ns b+if n=b then 1 else 0:=by
 unfold cnt;rw [List.filter_append,length_append];by_cases z:n=b<;>simp [z]
def qpr (ns:List Int) (b:Int):0<=cnt ns b/\cnt ns b<=ns.length:=by
 unfold cnt;have:=List.length_filter_le (λn=>decide (n=b)) ns;omega
def qjT {k b:Int} {v:PyData} (kvs:List (Int×PyData)):VY (DJ kvs k v) b=if k=b then some v else VY kvs b:=by
 have app:∀ kvs:List (Int×PyData),MY kvs k=false->VY (kvs++[(k,v)]) b=if k=b then some v else VY kvs b:=by
  intro kvs;induction kvs with
  |nil=>intro _;rfl
  |cons q r ih=>
   intro h;simp only [MY,List.any_cons,Bool.or_eq_false_iff,decide_eq_false_iff_not] at h;rw [cons_append,VY,VY];by_cases c:q.1=b
   ·rw [if_pos c,if_neg (by omega),if_pos c]
   ·rw [if_neg c,if_neg c];exact ih h.2
 have rpl:∀ kvs:List (Int×PyData),MY kvs k=true->VY (qi3 kvs k v) b=if k=b then some v else VY kvs b:=by
  intro kvs;induction kvs with
  |nil=>intro h;simp [MY] at h
  |cons q r ih=>
   intro h;simp only [qi3,map_cons,VY];by_cases c:q.1=k
   ·rw [if_pos c];by_cases e:k=b
    ·rw [if_pos e];show (if q.1=b then some v else _)=some v;rw [if_pos (by omega)]
    ·rw [if_neg e];show (if q.1=b then some v else _)=if q.1=b then _ else _;rw [if_neg (show ¬ q.1=b by omega),if_neg (show ¬ q.1=b by omega)]
     by_cases hr:MY r k=true
     ·have:=ih hr;rw [if_neg e] at this;exact this
     ·have hr':∀ p∈r,¬ p.1=k:=λp hp z=>hr (List.any_eq_true.mpr ⟨p,hp,za2 z⟩);have:r.map (λp=>if p.1=k then (p.1,v) else p)=r:=by
       refine (List.map_congr_left λp hp=>?_).trans (List.map_id r);rw [if_neg (hr' p hp)];rfl
      rw [this]
   ·have h':MY r k=true:=by simpa [MY,c] using h
    rw [if_neg c];by_cases e:q.1=b
    ·rw [if_pos e,if_neg (by omega),if_pos e]
    ·rw [if_neg e,if_neg e];exact ih h'
 unfold DJ;cases h:MY kvs k with
 |true=>exact rpl kvs h
 |false=>exact app kvs h
def qie {k:Int} {v:PyData} {kvs:List (Int×PyData)}:(DJ kvs k v).length<=kvs.length+1:=by
 unfold DJ;cases MY kvs k<;>simp [qi3]
def csp (bs:List Int):List (Int×Int):=(bs.zipIdx).map λq=>(q.1,cnt (bs.take q.2) q.1)
def qm5 {bs:List Int} {i:Nat} {b:Int} (h:bs[i]?=some b):(csp bs)[i]?=some (b,cnt (bs.take i) b):=by
 unfold csp;rw [getElem?_map,List.getElem?_zipIdx,h];simp
def qdg (bs:List Int):(csp bs).length=bs.length:=by simp [csp]
def X4 (d:Dl):List Int:=(qaM d.R.toNat d.C.toNat).map λp=>d.bank p.1 p.2
def qsh {d:Dl} (hp:d.dep<=2) (ok:d.Ok) (hR:d.R<=1000) (hC:d.C<=1000):zp [dlD d]=some (sp2 (csp (X4 d))):=by
 have hl:=qoZ d.R.toNat d.C.toNat;have hm:=Nat.mul_le_mul (show d.R.toNat<=1000 by omega) (show d.C.toNat<=1000 by omega);have cl:(csp (X4 d)).length=(qaM d.R.toNat d.C.toNat).length:=by rw [qdg];simp [X4]
 rw [DS]
 try simp only [Pu.pwA,jH,qr4 hp ok hR hC,qeg]
 refine qa0 (Q:=λo=>WH true o=some (sp2 (csp (X4 d)))) (qaM d.R.toNat d.C.toNat) (λi ρ=>∃ (kvs:List (Int×PyData)) (s3 s4 s5:Sl),ρ=[.sh (dlD d),.dc kvs,.ow (((csp (X4 d)).take i).map pD),s3,s4,s5]/\(∀ b,(VY kvs b).getD (.int 0)=.int (cnt ((X4 d).take i) b))/\kvs.length<=i) ⟨[],_,_,_,rfl,λb=>rfl,v5 _⟩ ?_ ?_
 ·rintro i x ρ hx ⟨kvs,s3,s4,s5,rfl,hk,hkl⟩;have hi:=(za4 hx).1;have bk:=qiz (n:=2) hp ok (qa6 (v9 hx));have hb:(X4 d)[i]?=some (d.bank x.1 x.2):=by unfold X4;rw [getElem?_map,hx];rfl
  have hc:=qm5 hb;have e1:(csp (X4 d)).take (i+1)=(csp (X4 d)).take i++[(d.bank x.1 x.2,cnt ((X4 d).take i) (d.bank x.1 x.2))]:=by rw [List.take_add_one,hc];rfl
  have e2:(X4 d).take (i+1)=(X4 d).take i++[d.bank x.1 x.2]:=by rw [List.take_add_one,hb];rfl
  try simp only [Pu.pwA,pD,qlB,bk,qiK]
  rw [qij (kvs:=kvs) rfl rfl,hk]
  try simp only [Pu.pwA]
  rw [qiF (ds:=((csp (X4 d)).take i).map pD) rfl (by rw [length_map,List.length_take];omega)]
  try simp only [Pu.pwA,qiJ]
  rw [qdD (kvs:=kvs) rfl (by omega)]
  try simp only [Pu.pwA]
  have:=qie (k:=d.bank x.1 x.2) (v:=.int (cnt ((X4 d).take i) (d.bank x.1 x.2)+1)) (kvs:=kvs);refine ⟨_,_,_,_,by rw [e1,List.map_append];rfl,λb=>?_,by omega⟩;rw [qjT,e2,qpR];by_cases z:d.bank x.1 x.2=b
  ·rw [if_pos z,if_pos z,z];rfl
  ·rw [if_neg z,if_neg z,hk,Int.add_zero]
 ·rintro ρ ⟨kvs,s3,s4,s5,rfl,hk,hkl⟩;rw [← cl,List.take_length]
  try simp only [Pu.pwA,sp2]
def qrK {r c b p:Int} (ok:(Dl.rests r c b p).Ok):zY [dlD (.rests r c b p)]=some (sp2 ((jg 0 (r*c).toNat).map λn=>(n%b,n%p))):=by
 obtain ⟨h1,h2,h3,h4,h5,h6,h7,h8,_⟩:=ok;have rc:r*c<=60*60:=Int.mul_le_mul h2 h4 (by omega) (by omega);have rc0:0<=r*c:=Int.mul_nonneg (by omega) (by omega);rw [CG]
 try simp only [Pu.pwA,QY,dlD,qsb]
 rw [ZR (ds:=(jg 0 (r*c).toNat).map PyData.int) (fs:=((jg 0 (r*c).toNat).map λn=>(n%b,n%p)).map pD)]
 ·try simp only [Pu.pwA,sp2]
 ·try simp (disch:=omega) only [Pu.pwA,WT,LC]
 ·rw [map_map];refine zM λn hn=>?_
  try simp (disch:=omega) only [Pu.pwA,JT,pD,qnD,Function.comp_def]
 ·rw [length_map,length_map,zZ];omega
def spt:Dl->List (Int×Int)
 |.rests r c b p=>(jg 0 (r*c).toNat).map λn=>(n%b,n%p)
 |d=>csp (X4 d)
def qrX {d:Dl} (hp:d.dep<=2) (ok:d.Ok) (hR:d.R<=1000) (hC:d.C<=1000):Q4 [dlD d]=some (sp2 (spt d)):=by
 by_cases c:∃ r c b p,d=.rests r c b p
 ·obtain ⟨r,c,b,p,rfl⟩:=c;have h1:=qrK ok;rw [W0];simp only [dlD] at h1
  try simp only [Pu.pwA,JD,dlD,h1,eq_self,spt,sp2]
 ·have h1:=qsh hp ok hR hC;have e0:spt d=csp (X4 d):=by
   cases d with
   |rests r c' b p=>exact absurd ⟨r,c',b,p,rfl⟩ c
   |_=>rfl
  obtain ⟨s,xs,e,n⟩:=qhl (d:=d) λr c' b p z=>c ⟨r,c',b,p,z⟩;rw [W0,e0];rw [e] at h1 ⊢
  try simp only [Pu.pwA,JD,h1,n,sp2]
def stM (dss:List (List PyData)) (x:(Int×Int)×PyData):List (List PyData):=match dss[x.1.1.toNat]? with
 |some ds=>dss.set x.1.1.toNat (qaG ds x.1.2.toNat x.2)
 |none=>dss
def mem (B:Nat) (sw:List ((Int×Int)×PyData)):List (List PyData):=sw.foldl stM (List.replicate B [])
def qpZ {B:Nat} {sw:List ((Int×Int)×PyData)} {i:Nat} {x:(Int×Int)×PyData} (h:sw[i]?=some x):mem B (sw.take (i+1))=stM (mem B (sw.take i)) x:=by
 unfold mem;rw [qge h,List.foldl_append];rfl
def qiT {dss:List (List PyData)} {x:(Int×Int)×PyData}:(stM dss x).length=dss.length:=by
 unfold stM;split<;>simp
def qb5 {B:Nat} (sw:List ((Int×Int)×PyData)):(mem B sw).length=B:=by
 unfold mem;have:∀ (sw:List ((Int×Int)×PyData)) (dss:List (List PyData)),(sw.foldl stM dss).length=dss.length:=by
  intro sw;induction sw with
  |nil=>intro dss;rfl
  |cons x sw ih=>intro dss;rw [List.foldl_cons,ih,qiT]
 rw [this,List.length_replicate]
theorem qca:∀ n:Nat,fls (List.replicate n (PyData.list []))=some (List.replicate n [])
 |0=>rfl
 |n+1=>by rw [List.replicate_succ,fls,qca n,List.replicate_succ];rfl
def In2 (B:Nat) (sp:Int×Int):Prop:=(0<=sp.1/\sp.1<B)/\(0<=sp.2/\sp.2<10000)
def qp5 {d:Dl} (hp:d.dep<=2) (ok:d.Ok) (hR:d.R<=1000) (hC:d.C<=1000) {ws:List PyData} (hw:∀ w∈ws,K1 w=true) (hl:ws.length=(spt d).length) (hs:∀ s∈spt d,In2 d.B.toNat s):JU [dlD d,.list ws]=some (.inr (mem d.B.toNat ((spt d).zip ws))):=by
 have l:=Dl.lims ok;have b1:=l.b1;have b2:=l.b2;rw [qc9]
 try simp only [Pu.pwA,WJ,qcM,qlp,qbo,qdR,qai (n:=2) hp ok,siz]
 try simp (disch:=omega) only [Pu.pwA,LC,qoD]
 rw [zM (k:=λ_=>PyData.list []) λx hx=>by try simp only [Pu.pwA,JT]];rw [show (jg 0 d.B.toNat).map (λ_=>PyData.list [])=List.replicate d.B.toNat (PyData.list []) by rw [List.map_const',zZ]]
 try simp only [Pu.pwA,qca,List.length_replicate,if_pos (show d.B.toNat<=16777216 by omega),qrX hp ok hR hC,sp2]
 have zz:qhI ((spt d).map pD) ws=((spt d).zip ws).map λx=>PyData.tuple [pD x.1,x.2]:=by
  unfold qhI;rw [List.zip_map_left,map_map];rfl
 rw [zz];have zl:((spt d).zip ws).length=(spt d).length:=by rw [List.length_zip,hl,Nat.min_self]
 refine R4 (Q:=λo=>(o.bind λo=>match o with|Ot.nx ρ'=>Option.map Sum.inr (j9 ρ' 5)|x=>none)=some (.inr (mem d.B.toNat ((spt d).zip ws)))) ((spt d).zip ws) (λi ρ=>∃ s6 s7 s8 s9,ρ=[.sh (dlD d),.sh (.list ws),.sh (.int d.R),.sh (.int d.C),.sh (.int d.B),.on (mem d.B.toNat (((spt d).zip ws).take i)),s6,s7,s8,s9]) ⟨_,_,_,_,rfl⟩ ?_ ?_
 ·rintro i x ρ hx ⟨s6,s7,s8,s9,rfl⟩;have hm:=v9 hx;obtain ⟨h1,h2⟩:=hs _ (List.of_mem_zip (a:=x.1) (b:=x.2) hm).1;have h3:=hw _ (List.of_mem_zip (a:=x.1) (b:=x.2) hm).2;have ml:=qb5 (B:=d.B.toNat) (((spt d).zip ws).take i);have hb:x.1.1.toNat<(mem d.B.toNat (((spt d).zip ws).take i)).length:=by omega
  have ix:ixN (mem d.B.toNat (((spt d).zip ws).take i)).length x.1.1=some x.1.1.toNat:=by
   have:=qiS hb;rw [Int.toNat_of_nonneg h1.1] at this;exact this
  have gt:=v0 hb;rw [qpZ hx];generalize mem d.B.toNat (((spt d).zip ws).take i)=dss at *
  try simp only [Pu.pwA,pD,qdA,NR,qgQ,qi5,ix,gt,h3]
  rw [if_pos ⟨by omega,h2.1,by omega⟩];have e:stM dss x=dss.set x.1.1.toNat (qaG dss[x.1.1.toNat] x.1.2.toNat x.2):=by unfold stM;rw [gt]
  rw [e];exact ⟨_,_,_,_,rfl⟩
 ·rintro ρ ⟨s6,s7,s8,s9,rfl⟩;rw [List.take_length];rfl
def qhy {n:Bool} {ps:List (Int×Int)}:eqD n (.list (ps.map pD)) (.list (ps.map pD))=some (.bool (if n then false else true)):=by
 have dp:∀ ps:List (Int×Int),NX (ps.map pD)<=1:=λps=>by
  induction ps with
  |nil=>simp [NX]
  |cons p ps ih=>simp only [map_cons,NX,pD,dpt];omega
 have pe:∀ ps:List (Int×Int),ZO (ps.map pD) (ps.map pD)=some true:=λps=>by
  induction ps with
  |nil=>rfl
  |cons p ps ih=>simp [ZO,jq,pD,ih]
 have h:LU (.list (ps.map pD)) (.list (ps.map pD))=none:=rfl;unfold eqD;rw [h];simp only;rw [zB (by have:=dp ps;simp only [dpt];omega)];simp [jq,pe]
def s1:VB "int" "int" = true:=rfl
def s2:VB "int" "bool" = false:=rfl
def s3:VB "tuple" "tuple" = true:=rfl
def s4:VB "list" "list" = true:=rfl
def t2:((1+1:Nat):Int)=2:=rfl
def qpu {i:Int}:jk [.int i]=some (.bool true):=by
 rw [KH]
 try simp only [Pu.pwA,J2,s1,s2]
def qpp {p:Int×Int}:JF [pD p]=some (.bool true):=by
 rw [qam]
 try simp only [Pu.pwA,UZ,pD,s3,t2,qpu]
def qiQ (n:Nat):(List.replicate n true).all id=true:=by simp
def qqq {pl:List (List PP)} (h:pl.length<=1000):qR [plD pl]=some (.bool true):=by
 rw [UF]
 try simp only [Pu.pwA,zO,plD,s4]
 rw [ZR (ds:=pl.map bsD) (fs:=(List.replicate pl.length true).map PyData.bool)]
 ·try simp only [Pu.pwA,K5,qiQ]
 ·try simp only [Pu.pwA]
 ·rw [List.map_replicate,← List.map_const'];refine zM λs hs=>?_
  try simp only [Pu.pwA,JT,bsD,s4]
 ·simp;omega
def qqc:∀ N:Nat,N<6->((prs N).zip (prs N).tail).all (λx=>!Srt.plt x.2 x.1)=true:=by decide +kernel
def NM:∀ N:Nat,N<6->(prs N).length<=10:=by decide +kernel
def qiP {N:Nat} (h:N<6):Srt.Asc (prs N):=λi p q hp hq=>by
 have:=List.all_eq_true.mp (qqc N h) (p,q) (v9 (i:=i) (by
  rw [List.getElem?_zip_eq_some,List.getElem?_tail];exact ⟨hp,hq⟩))
 simpa using this
def qqR {d:Dl} {N:Nat} (h:Sq d N) (h6:N<6) {pl:List (List PP)} (hf:pl.flatten=prs N) (hl:pl.length<=100) (hs:∀ s∈pl,s.length<=1000) (hb:∀ s∈pl,okb d.bank s=true):qH [dlD d,plD pl]=some (.bool true):=by
 have sq:=qd6 h.ok h.dp;rw [h.r,h.c,za2 rfl] at sq;have il:=qqq (pl:=pl) (by omega);have ap:=qq6 h;have l6:=NM N h6;have sp:=qkT (ps:=prs N) (by omega) (qiP h6);rw [UY]
 try simp only [Pu.pwA,j5,sq,il,Bool.not_true]
 try simp only [Pu.pwA,plD]
 rw [RK (ds:=pl.map bsD) (fs:=(prs N).map pD)]
 rotate_left
 ·rfl
 ·rw [← hf,List.map_flatten,← List.flatMap_def];have:(pl.map bsD)=pl.map bsD:=rfl;rw [show (pl.flatMap (List.map pD))=pl.flatMap λs=>s.map pD from rfl];refine WE λs hs=>?_
  try simp only [Pu.pwA,NU,bsD]
  rw [zM (k:=λp=>pD p) λp hp=>by try simp only [Pu.pwA,JT]];rfl
 ·rw [length_map];omega
 try simp only [Pu.pwA]
 rw [ZR (ds:=(prs N).map pD) (fs:=(List.replicate (prs N).length true).map PyData.bool)]
 rotate_left
 ·rfl
 ·rw [List.map_replicate,← List.map_const'];refine zM λp hp=>?_
  try simp only [Pu.pwA,JT,qpp]
 ·simp;omega
 have e0:((prs N).map pD)=(prs N).map λp=>PyData.tuple [.int p.1,.int p.2]:=rfl;rw [← e0] at sp;have es:=qhy (n:=true) (ps:=prs N)
 try simp only [Pu.pwA,K5,qiQ,qh5,sp,ap,bsD,es,Bool.not_true]
 rw [ZR (ds:=pl.map bsD) (fs:=(List.replicate pl.length true).map PyData.bool)]
 ·try simp only [Pu.pwA,K5,qiQ]
 ·rfl
 ·rw [List.map_replicate,← List.map_const'];refine zM λs hs'=>?_;have nn:∀ p∈s,Nn N p:=λp hp=>SX (by rw [← hf];exact List.mem_flatten.mpr ⟨s,hs',hp⟩);have ib:=qkj h nn (hs s hs');rw [hb s hs'] at ib
  try simp only [Pu.pwA,JT,ib]
 ·simp;omega
def qq2 {d:Dl} (ok:d.Ok) (dp:d.dep<=2) (n:d.R≠d.C) (x:PyData):qH [dlD d,x]=some (.bool false):=by
 have sq:=qd6 ok dp;rw [za1 n] at sq;rw [UY]
 try simp only [Pu.pwA,j5,sq,Bool.not_false]
end K73
namespace K73
open PySem L2 L3 Pu Pv
open Bk (Dl Inn Un2)
def qew {b:Int->Int->Int}:∀ {ps:List PP},(∀ p∈ps,∀ q∈ps,okb b [p,q]=false)->pln b ps=ps.map λp=>[p]:=by
 have key:∀ (ps done:List PP),(∀ p∈done++ps,∀ q∈done++ps,okb b [p,q]=false)->ps.foldl (stp b) (done.map λp=>[p])=(done++ps).map λp=>[p]:=by
  intro ps;induction ps with
  |nil=>intro done _;simp
  |cons p ps ih=>
   intro done h;have ff1:ff b (done.map λp=>[p]) p=(done.map λp=>[p]).length:=by
    unfold ff;rw [List.findIdx_eq_length];intro s hs;obtain ⟨q,hq,rfl⟩:=mem_map.mp hs;exact h q (by simp [hq]) p (by simp)
   have st:stp b (done.map λp=>[p]) p=(done++[p]).map λp=>[p]:=by unfold stp;rw [if_pos ff1];simp
   rw [List.foldl_cons,st];have:=ih (done++[p]) (by simpa using h);simpa using this
 intro ps h;exact key ps [] (by simpa using h)
def qej {b:Int->Int->Int} {p:PP} {ps:List PP} (h:∀ i,okb b ((p::ps).take i)=true):pln b (p::ps)=[p::ps]:=by
 have key:∀ (r done:List PP),(∀ i,okb b ((done++r).take i)=true)->r.foldl (stp b) [done]=[done++r]:=by
  intro r;induction r with
  |nil=>intro done _;simp
  |cons q r ih=>
   intro done h;have o:=h (done.length+1);rw [List.take_append,List.take_of_length_le (by omega)] at o;simp only [Nat.add_sub_cancel_left] at o;have o':okb b (done++[q])=true:=by simpa using o
   have f1:ff b [done] q=0:=by unfold ff;rw [List.findIdx_cons,o'];rfl
   have st:stp b [done] q=[done++[q]]:=by unfold stp;rw [f1,if_neg (by simp)];rfl
   rw [List.foldl_cons,st];have:=ih (done++[q]) (by simpa using h);simpa using this
 have f0:stp b [] p=[[p]]:=by unfold stp ff;rfl
 show (p::ps).foldl (stp b) []=_;rw [List.foldl_cons,f0];exact key ps [p] (by simpa using h)
def qnE {b:Int->Int->Int} (p:PP):okb b [p]=true:=by simp [okb]
def MX {ns:List Int}:Un2 ns ns.length↔ns.Nodup:=by
 unfold Un2 List.Nodup;rw [List.pairwise_iff_getElem];constructor
 ·intro h i j hi hj hij e;exact h i j hi hij hj (by rw [v0 hi,v0 hj,e])
 ·intro h a b ha hab hb e;rw [v0 ha,v0 hb] at e;exact h a b ha hb hab (Option.some.inj e)
def qpV {b:Int->Int->Int} {ps:List PP} (h:(bb b ps).Nodup):okb b ps=true:=by
 unfold okb;rw [Bool.or_eq_true];refine .inr (za2 ?_);rw [Bk.CY.mpr (MX.mpr h)]
def qnh {b:Int->Int->Int} {p q:PP} (h:¬ (bb b [p,q]).Nodup):okb b [p,q]=false:=by
 unfold okb;rw [Bool.or_eq_false_iff];refine ⟨by simp,za1 λe=>h (MX.mp (Bk.CY.mp ?_))⟩;omega
def wds (ps:List PP):List PP:=ps.flatMap λp=>[p,(p.2,p.1)]
def qkB {b:Int->Int->Int} (ps:List PP):bb b ps=(wds ps).map λp=>b p.1 p.2:=by
 unfold bb wds wb;rw [List.map_flatMap];rfl
def qos:∀ N:Nat,N<6->(wds (prs N)).Nodup:=by decide +kernel
def qkF {N:Nat} {ps:List PP} (h:∀ p∈ps,Nn N p) {q:PP} (hq:q∈wds ps):Nn N q:=by
 obtain ⟨p,hp,hq⟩:=List.mem_flatMap.mp hq;have:=h p hp;simp only [mem_cons,not_mem_nil,or_false] at hq;rcases hq with rfl|rfl
 ·exact this
 ·exact ⟨this.2,this.1⟩
def qaV {N:Nat} (h6:N<6) {b:Int->Int->Int} (inj:∀ p q:PP,Nn N p->Nn N q->b p.1 p.2=b q.1 q.2->p=q) (i:Nat):okb b ((prs N).take i)=true:=by
 refine qpV ?_;rw [qkB];have sub:(wds ((prs N).take i)).Sublist (wds (prs N)):=by
  have e:wds (prs N)=wds ((prs N).take i)++wds ((prs N).drop i):=by unfold wds;rw [← List.flatMap_append,List.take_append_drop]
  rw [e];exact List.sublist_append_left _ _
 have nd:=(qos N h6).sublist sub;refine List.pairwise_map.mpr (nd.imp_of_mem λ{p q} hp hq n e=>n (inj p q ?_ ?_ e))
 ·exact qkF (λp hp=>SX (List.mem_of_mem_take hp)) hp
 ·exact qkF (λp hp=>SX (List.mem_of_mem_take hp)) hq
def qgS {b:Int->Int->Int} {p q:PP} (h:b p.1 p.2=b p.2 p.1\/b p.1 p.2=b q.1 q.2):okb b [p,q]=false:=by
 refine qnh λnd=>?_;simp only [bb,wb,List.flatMap_cons,List.flatMap_nil,cons_append,List.nil_append,List.nodup_cons,mem_cons,not_or] at nd;rcases h with h|h
 ·exact nd.1.1 h
 ·exact nd.1.2.1 h
theorem qdd:∀ ps:List PP,ZO (ps.map pD) (ps.map pD)=some true
 |[]=>by simp [ZO]
 |p::ps=>by simp [ZO,qdd ps,pD,jq]
theorem qc4:∀ pl:List (List PP),ZO (pl.map bsD) (pl.map bsD)=some true
 |[]=>by simp [ZO]
 |s::pl=>by simp [ZO,qc4 pl,bsD,jq,qdd s]
theorem qpK:∀ ps:List PP,NX (ps.map pD)<=1
 |[]=>by simp [NX]
 |p::ps=>by have:=qpK ps;simp only [map_cons,NX,pD,dpt];omega
theorem qrA:∀ pl:List (List PP),NX (pl.map bsD)<=2
 |[]=>by simp [NX]
 |s::pl=>by have:=qrA pl;have:=qpK s;simp only [map_cons,NX,bsD,dpt];omega
def qo4 {n:Bool} {pl:List (List PP)}:eqD n (plD pl) (plD pl)=some (.bool (if n then false else true)):=by
 have h:LU (plD pl) (plD pl)=none:=rfl;unfold eqD;rw [h];simp only;rw [zB (by have:=qrA pl;simp only [plD,dpt];omega)];simp only [plD,jq,qc4,Option.map_some];cases n<;>rfl
end K73
namespace K73
open PySem L2 L3 Pu Pv
open Bk (Dl Inn)
def nD (n:Nat):PyData:=.int (n:Int)
theorem qbN:∀ {R:List Nat} {k:Nat} {x:Nat},R[k]?=some x->(x::R.eraseIdx k).Perm R
 |[],k,x,h=>by simp at h
 |y::R,0,x,h=>by simp at h;subst h;exact .refl _
 |y::R,k+1,x,h=>by
  have ih:=qbN (R:=R) (k:=k) (x:=x) (by simpa using h);show (x::y::R.eraseIdx k).Perm (y::R);exact (List.Perm.swap y x _).trans (ih.cons y)
def qn6 {R:List Nat} {k:Nat}:(R.map nD).eraseIdx k=(R.eraseIdx k).map nD:=by
 rw [List.eraseIdx_eq_take_drop_succ,List.eraseIdx_eq_take_drop_succ,List.map_append,List.map_take,List.map_drop]
def qqB {ρ:Rho}:(qoC (QR 32)).f ρ=some (.list ((List.range 32).map nD)):=by
 show qii (.int 32)=_;unfold qii;simp only;rw [if_pos (by decide)];rfl
def qa1 {N n:Nat} {Q:QD} (hN:N<=32) (hn:n<900000) (h:∀ (L R:List Nat) (m:Nat),(L++R).Perm (List.range 32)->L.length=N->m<=n+32->Q (.list (L.map nD)) m):jn.W [.int (N:Int)] n Q:=by
 rw [TQ];refine ⟨rfl,?_⟩;unfold JL;refine Z8 λY1 h1=>?_;rw [qhS];refine ⟨[],(List.range 32).map nD,by try simp only [Pu.pwA],qqB,?_⟩;rw [h1];refine Z8 λY2 h2=>?_
 try simp (disch:=omega) only [Pu.pwA,LC,dmS]
 refine WP (jg 0 ((N:Int)).toNat) Z3.mn (λi ρ n'=>∃ (F R:List Nat) (s4:Sl),(F++R).Perm (List.range 32)/\F.length=i/\n'<=n+i/\ρ=[.un,.sh (.int (N:Int)),.ow (F.map nD),.ow (R.map nD),s4]) ⟨[],List.range 32,_,by simp,rfl,by omega,rfl⟩ ?_ ?_
 ·rintro i x ρ n' hx ⟨F,R,s4,hp,hl,hn',rfl⟩;have hi:i<N:=by
   have:=(za4 hx).1;rw [zZ] at this;omega
  have hr:F.length+R.length=32:=by rw [← length_append,hp.length_eq,length_range]
  refine ⟨_,rfl,?_⟩;unfold Z3;rw [qc8];refine ⟨by decide,F.map nD,R.map nD,rfl,rfl,by rw [length_map];omega,?_⟩
  try simp only [Pu.pwA]
  refine ⟨by rw [length_map];omega,by omega,λd d0 d1=>?_⟩;rw [length_map] at d1;obtain ⟨k,rfl⟩:∃ k:Nat,d=(k:Int):=⟨d.toNat,by omega⟩
  have hk:k<R.length:=by omega
  refine ⟨k,nD R[k],rfl,by rw [getElem?_map,v0 hk];rfl,F++[R[k]],R.eraseIdx k,.sh (.int x),?_,by simp [hl],by omega,?_⟩
  ·refine .trans ?_ hp;rw [List.append_assoc];exact (qbN (v0 hk)).append_left F
  ·rw [qn6,List.map_append];rfl
 ·rintro ρ n' ⟨F,R,s4,hp,hl,hn',rfl⟩;rw [zZ] at hl hn';rw [qbb,h2]
  try simp only [Pu.pwA]
  exact ⟨n',v5 _,h F R n' hp (by omega) (by omega)⟩
def sqr (n:Nat) (f:Int->Int->Int):List (List Int):=(jg 0 n).map λi=>(jg 0 n).map λj=>f i j
def tbl (n:Nat) (f:Int->Int->Int):Dl:=.table 32 (sqr n f)
def XN {n k:Nat} (h:k<n):(jg 0 n)[k]?=some (k:Int):=by
 unfold jg;rw [getElem?_map,List.getElem?_range h];simp
def qlZ {n:Nat} {f:Int->Int->Int} (h1:1<=n) (h5:n<=5) (hf:∀ i j:Int,0<=i->i<n->0<=j->j<n->0<=f i j/\f i j<32):Sq (tbl n f) n:=by
 have e0:(sqr n f)[0]?=some ((jg 0 n).map λj=>f 0 j):=by
  unfold sqr;rw [getElem?_map,XN (by omega)];rfl
 refine ⟨⟨by omega,by omega,by simp [sqr,zZ];omega,by simp [sqr,zZ];omega,n,by omega,by omega,λrow hr=>?_⟩,by simp [tbl,Dl.dep],by simp [tbl,Dl.R,sqr,zZ],by simp [tbl,Dl.C,e0,zZ],by omega⟩;obtain ⟨i,hi,rfl⟩:=mem_map.mp hr;have ri:=jF hi;refine ⟨by simp [zZ],λx hx=>?_⟩;obtain ⟨j,hj,rfl⟩:=mem_map.mp hx;have rj:=jF hj;exact hf i j (by omega) (by omega) (by omega) (by omega)
def S7 {n:Nat} {f:Int->Int->Int} {i j:Int} (h:Nn n (i,j)):(tbl n f).bank i j=f i j:=by
 obtain ⟨⟨a,b⟩,c,e⟩:=h;simp only at a b c e;obtain ⟨x,rfl⟩:=Int.eq_ofNat_of_zero_le a;obtain ⟨y,rfl⟩:=Int.eq_ofNat_of_zero_le c;have e1:(sqr n f)[x]?=some ((jg 0 n).map λj=>f x j):=by
  unfold sqr;rw [getElem?_map,XN (by omega)];rfl
 simp only [tbl,Dl.bank,Int.toNat_natCast,e1,Option.getD_some,getElem?_map,XN (show y<n by omega),Option.map_some]
structure Kn (n:Nat) (d:Dl) (N:Nat) (o:Bool):Prop where
 sq:Sq d N
 l:N<6
 once:o=true->∀ p q:PP,Nn N p->Nn N q->d.bank p.1 p.2=d.bank q.1 q.2->p=q
 each:o=false->∀ p q:PP,p∈prs N->q∈prs N->d.bank p.1 p.2=d.bank p.2 p.1\/d.bank p.1 p.2=d.bank q.1 q.2
 kd:(∃ s xs,dlD d=.tuple (.str s::xs)/\¬ s=Str.ofString "bits"/\N=n)\/(d=.bits (n/2) (n/2) []/\N=2 ^ (n/2))
def dO (x:Dl×Bool):PyData:=.tuple [dlD x.1,.bool x.2]
def ng (ns:List Nat) (k:Int):Int:=((ns.getD k.toNat 0:Nat):Int)
def qec {ns:List Nat} {k:Int} (h0:0<=k) (h1:k<(ns.length:Int)):L2.atI (ns.map nD) k=some (.int (ng ns k)):=by
 obtain ⟨i,rfl⟩:=Int.eq_ofNat_of_zero_le h0;have hi:i<ns.length:=by omega
 unfold ng;rw [atN (by simpa using hi),getElem?_map,v0 hi,Int.toNat_natCast,getD_eq_getElem?_getD,v0 hi];rfl
def qoz {L R:List Nat} {k:Int} (hp:(L++R).Perm (List.range 32)) (h0:0<=k) (h1:k<(L.length:Int)):0<=ng L k/\ng L k<32:=by
 obtain ⟨i,rfl⟩:=Int.eq_ofNat_of_zero_le h0;have hi:i<L.length:=by omega
 unfold ng;rw [Int.toNat_natCast,getD_eq_getElem?_getD,v0 hi,Option.getD_some];have:=mem_range.mp (hp.mem_iff.mp (List.mem_append_left R (za0 hi)));omega
def qnc {L R:List Nat} {j k:Int} (hp:(L++R).Perm (List.range 32)) (h0:0<=j) (h1:j<(L.length:Int)) (h2:0<=k) (h3:k<(L.length:Int)) (e:ng L j=ng L k):j=k:=by
 obtain ⟨a,rfl⟩:=Int.eq_ofNat_of_zero_le h0;obtain ⟨b,rfl⟩:=Int.eq_ofNat_of_zero_le h2;have ha:a<L.length:=by omega
 have hb:b<L.length:=by omega
 have nd:L.Nodup:=(List.nodup_append.mp (hp.nodup_iff.mpr List.nodup_range)).1;unfold ng at e;rw [Int.toNat_natCast,Int.toNat_natCast,getD_eq_getElem?_getD,getD_eq_getElem?_getD,v0 ha,v0 hb,Option.getD_some,Option.getD_some] at e;have:=(List.getElem?_inj ha nd (j:=b)).mp (by rw [v0 ha,v0 hb];congr 1;omega);omega
def qgz {N:Nat} {p:PP} (h:p∈prs N):p.1<p.2:=by
 obtain ⟨i,hi,h⟩:=List.mem_flatMap.mp h;obtain ⟨j,hj,rfl⟩:=mem_map.mp h;have:=jF hj;simp only;omega
def b2 (b:Bool):Int:=if b then 1 else 0
def fSd (L:List Nat) (i j:Int):Int:=ng L (b2 (decide (j<i))+2*b2 (decide (i<j)))
def qot {n:Nat} {i j:Int} (h5:n<=5) (hi:0<=i/\i<n) (hj:0<=j/\j<n):(0<=i+j/\i+j<9)/\(0<=b2 (decide (j<i))+2*b2 (decide (i<j))/\b2 (decide (j<i))+2*b2 (decide (i<j))<9):=by
 refine ⟨by omega,?_⟩;unfold b2;cases decide (j<i)<;>cases decide (i<j)<;>simp
def qox {n:Nat} {i j:Int} (h5:n<=5) (hi:0<=i/\i<n) (hj:0<=j/\j<n):0<=i*n+j/\i*n+j<((n*n:Nat):Int):=by
 have m1:=Int.mul_nonneg hi.1 (show (0:Int)<=n by omega);have m2:(i+1)*n<=(n:Int)*n:=Int.mul_le_mul_of_nonneg_right (by omega) (by omega);rw [Int.add_mul,Int.one_mul] at m2;rw [Int.natCast_mul];omega
def M1 {n:Nat} {f:Int->Int->Int} {o:Bool} (h1:1<=n) (h5:n<=5) (hf:∀ i j:Int,0<=i->i<n->0<=j->j<n->0<=f i j/\f i j<32) (h2:o=true->∀ p q:PP,Nn n p->Nn n q->f p.1 p.2=f q.1 q.2->p=q) (h3:o=false->∀ p q:PP,p∈prs n->q∈prs n->f p.1 p.2=f p.2 p.1\/f p.1 p.2=f q.1 q.2):Kn n (tbl n f) n o:=by
 have sw:∀ {p:PP},Nn n p->Nn n (p.2,p.1):=λh=>⟨h.2,h.1⟩
 refine ⟨qlZ h1 h5 hf,by omega,λe p q hp hq z=>?_,λe p q hp hq=>?_,.inl ⟨"table",_,rfl,by decide,rfl⟩⟩
 ·rw [S7 (i:=p.1) (j:=p.2) hp,S7 (i:=q.1) (j:=q.2) hq] at z;exact h2 e p q hp hq z
 ·rw [S7 (i:=p.1) (j:=p.2) (SX hp),S7 (sw (SX hp)),S7 (i:=q.1) (j:=q.2) (SX hq)];exact h3 e p q hp hq
def qfv {n:Nat} {d:Dl} (sq:Sq d n) (h5:n<=5) (h:∀ i j:Int,d.bank i j=d.bank j i) (k:∃ s xs,dlD d=.tuple (.str s::xs)/\¬ s=Str.ofString "bits"):Kn n d n false:=by
 obtain ⟨s,xs,e,z⟩:=k;exact ⟨sq,by omega,λe=>(by cases e),λ_ p q hp hq=>.inl (h _ _),.inl ⟨s,xs,e,z,rfl⟩⟩
def qix {n:Nat} (h5:n<=5):Kn n (.bits (n/2) (n/2) []) (2 ^ (n/2)) false:=by
 have:n/2=0\/n/2=1\/n/2=2:=by omega
 refine ⟨⟨⟨by omega,by omega,by simp,by simp⟩,by simp [Dl.dep],by simp [Dl.R],by simp [Dl.C],?_⟩,?_,λe=>(by cases e),λ_ p q _ _=>.inl rfl,.inr ⟨rfl,rfl⟩⟩
 ·rcases this with h|h|h<;>rw [h]<;>decide
 ·rcases this with h|h|h<;>rw [h]<;>decide
def kns (n:Nat) (L M:List Nat):List (Dl×Bool):=[(tbl n λ_ _=>ng L 0,false),(tbl n λi j=>ng L (i*n+j),true),(tbl n λi j=>ng M (i+j),false),(tbl n (fSd M),false),(.skew n n 32 3 3,false),(.skew n n 1 5 9,false),(.bits (n/2) (n/2) [],false)]
def YT {n:Nat} {f:Int->Int->Int}:(sqr n f).map qb8=(jg 0 n).map λi=>PyData.tuple ((jg 0 n).map λj=>.int (f i j)):=by
 unfold sqr;rw [map_map];refine List.map_congr_left λi _=>?_;simp only [Function.comp_def,qb8,map_map]
def qep {n c:Nat} {Q:QD} (h1:1<=n) (h5:n<=5) (hn:c<800000) (h:∀ (L M R S:List Nat) (m:Nat),(L++R).Perm (List.range 32)->(M++S).Perm (List.range 32)->L.length=n*n->M.length=9->m<=c+64->Q (.list ((kns n L M).map dO)) m):jp.W [.int (n:Int)] c Q:=by
 have nn:n*n<=5*5:=Nat.mul_le_mul h5 h5;have n1:1<=n*n:=Nat.mul_le_mul h1 h1;have rl:=λf:Int->PyData=>show ((jg 0 n).map f).length<=16777216 by rw [length_map,zZ];omega
 rw [RU];refine ⟨rfl,?_⟩;unfold ZZ;refine Z8 λY1 g1=>?_
 try simp (disch:=omega) only [Pu.pwA,WT]
 rw [← Int.natCast_mul];refine qa1 (by omega) (by omega) λL R m1 hL lL hm1=>?_
 try simp only [Pu.pwA]
 rw [g1];refine Z8 λY2 g2=>?_
 try simp only [Pu.pwA]
 rw [ZR (ds:=(jg 0 n).map PyData.int) (fs:=(sqr n λ_ _=>ng L 0).map qb8)]
 rotate_left
 ·try simp (disch:=omega) only [Pu.pwA,LC,Int.toNat_natCast]
 ·rw [YT (f:=λ_ _=>ng L 0)];refine zM λi hi=>?_
  try simp only [Pu.pwA,JT]
  rw [ZR (ds:=(jg 0 n).map PyData.int) (fs:=(jg 0 n).map λj=>PyData.int (ng L 0)) (by try simp (disch:=omega) only [Pu.pwA,LC,Int.toNat_natCast]) (zM λj hj=>by
   try simp only [Pu.pwA,JT,qec (ns:=L) (k:=0) (by omega) (by omega)]) (rl _)]
  try simp only [Pu.pwA]
 ·rw [YT (f:=λ_ _=>ng L 0)];exact rl _
 try simp only [Pu.pwA]
 rw [g2];refine Z8 λY3 g3=>?_
 try simp only [Pu.pwA]
 rw [ZR (ds:=(jg 0 n).map PyData.int) (fs:=(sqr n λi j=>ng L (i*n+j)).map qb8)]
 rotate_left
 ·try simp (disch:=omega) only [Pu.pwA,LC,Int.toNat_natCast]
 ·rw [YT (f:=λi j=>ng L (i*n+j))];refine zM λi hi=>?_;have ri:=jF hi
  try simp only [Pu.pwA,JT]
  rw [ZR (ds:=(jg 0 n).map PyData.int) (fs:=(jg 0 n).map λj=>PyData.int (ng L (i*n+j))) (by try simp (disch:=omega) only [Pu.pwA,LC,Int.toNat_natCast]) (zM λj hj=>by
   have rj:=jF hj;have ix:=qox h5 (show 0<=i/\i<n by omega) (show 0<=j/\j<n by omega)
   try simp (disch:=omega) only [Pu.pwA,JT,WT,qec (ns:=L) ix.1 (by rw [lL];exact ix.2)]) (rl _)]
  try simp only [Pu.pwA]
 ·rw [YT (f:=λi j=>ng L (i*n+j))];exact rl _
 try simp only [Pu.pwA]
 rw [g3];refine Z8 λY4 g4=>?_
 try simp only [Pu.pwA]
 refine qa1 (N:=9) (by omega) (by omega) λM S m2 hM lM hm2=>?_
 try simp only [Pu.pwA]
 rw [g4];refine Z8 λY5 g5=>?_
 try simp only [Pu.pwA]
 rw [ZR (ds:=(jg 0 n).map PyData.int) (fs:=(sqr n λi j=>ng M (i+j)).map qb8)]
 rotate_left
 ·try simp (disch:=omega) only [Pu.pwA,LC,Int.toNat_natCast]
 ·rw [YT (f:=λi j=>ng M (i+j))];refine zM λi hi=>?_;have ri:=jF hi
  try simp only [Pu.pwA,JT]
  rw [ZR (ds:=(jg 0 n).map PyData.int) (fs:=(jg 0 n).map λj=>PyData.int (ng M (i+j))) (by try simp (disch:=omega) only [Pu.pwA,LC,Int.toNat_natCast]) (zM λj hj=>by
   have rj:=jF hj;have ix:=(qot h5 (show 0<=i/\i<n by omega) (show 0<=j/\j<n by omega)).1
   try simp only [Pu.pwA,JT,qec (ns:=M) ix.1 (by rw [lM];exact ix.2)]) (rl _)]
  try simp only [Pu.pwA]
 ·rw [YT (f:=λi j=>ng M (i+j))];exact rl _
 try simp only [Pu.pwA]
 rw [g5];refine Z8 λY6 g6=>?_
 try simp only [Pu.pwA]
 rw [ZR (ds:=(jg 0 n).map PyData.int) (fs:=(sqr n (fSd M)).map qb8)]
 rotate_left
 ·try simp (disch:=omega) only [Pu.pwA,LC,Int.toNat_natCast]
 ·rw [YT (f:=fSd M)];refine zM λi hi=>?_;have ri:=jF hi
  try simp only [Pu.pwA,JT]
  rw [ZR (ds:=(jg 0 n).map PyData.int) (fs:=(jg 0 n).map λj=>PyData.int (fSd M i j)) (by try simp (disch:=omega) only [Pu.pwA,LC,Int.toNat_natCast]) (zM λj hj=>by
   have rj:=jF hj;have ix:=(qot h5 (show 0<=i/\i<n by omega) (show 0<=j/\j<n by omega)).2;have ib:∀ b:Bool,qjH.f [.bool b]=some (.int (b2 b)):=λb=>by cases b<;>rfl
   have at9:=qec (ns:=M) ix.1 (by rw [lM];exact ix.2);unfold b2 at at9
   try simp (disch:=omega) only [Pu.pwA,JT,ib,WT,at9,fSd,b2]) (rl _)]
  try simp only [Pu.pwA]
 ·rw [YT (f:=fSd M)];exact rl _
 try simp only [Pu.pwA]
 rw [g6];refine Z8 λY7 g7=>?_
 try simp only [Pu.pwA]
 rw [g7];refine Z8 λY8 g8=>?_
 try simp only [Pu.pwA]
 rw [qcE (by simp)]
 try simp only [Pu.pwA,cons_append,List.nil_append]
 rw [g8]
 try simp (disch:=omega) only [Pu.pwA,qfV]
 rw [qcE (by simp)];refine ⟨_,rfl,_,v5 _,?_⟩;have:=h L M R S m2 hL hM lL lM (by omega);have e:((n/2:Nat):Int)=(n:Int)/2:=by omega
 simp only [kns,dO,dlD,map_cons,List.map_nil,e,tbl] at this;exact this
def qlV {n:Nat} (h1:1<=n) (h5:n<=5) {L M R S:List Nat} (hL:(L++R).Perm (List.range 32)) (hM:(M++S).Perm (List.range 32)) (lL:L.length=n*n) (lM:M.length=9):∀ x∈kns n L M,∃ N,Kn n x.1 N x.2:=by
 have n1:1<=n*n:=Nat.mul_le_mul h1 h1;have sk:∀ {b x y:Int},(1<=b/\b<=1000)->(0<=x/\x<=1000)->(0<=y/\y<=1000)->Sq (.skew n n b x y) n:=λhb hx hy=>⟨⟨by omega,by omega,by omega,by omega,hb.1,hb.2,hx.1,hx.2,hy.1,hy.2⟩,by simp [Dl.dep],rfl,rfl,by omega⟩
 intro x hx;simp only [kns,mem_cons,not_mem_nil,or_false] at hx;rcases hx with rfl|rfl|rfl|rfl|rfl|rfl|rfl
 ·exact ⟨n,M1 h1 h5 (λi j a b c d=>qoz hL (by omega) (by omega)) (λe=>by cases e) λ_ p q _ _=>.inl rfl⟩
 ·refine ⟨n,M1 h1 h5 (λi j a b c d=>?_) (λ_ p q hp hq e=>?_) λe=>by cases e⟩
  ·have ix:=qox h5 ⟨a,b⟩ ⟨c,d⟩;exact qoz hL ix.1 (by rw [lL];exact ix.2)
  ·have i1:=qox h5 hp.1 hp.2;have i2:=qox h5 hq.1 hq.2;have z:=qnc hL i1.1 (by rw [lL];exact i1.2) i2.1 (by rw [lL];exact i2.2) e;have key:∀ {x y:Int},0<=y->y<n->(x*n+y)/n=x:=λ{x y} h1 h2=>by rw [Int.add_comm,Int.add_mul_ediv_right _ _ (by omega),Int.ediv_eq_zero_of_lt h1 h2];omega
   have k1:=key (x:=p.1) hp.2.1 hp.2.2;have k2:=key (x:=q.1) hq.2.1 hq.2.2;rw [z,k2] at k1;exact Prod.ext k1.symm (by rw [k1] at z;omega)
 ·refine ⟨n,M1 h1 h5 (λi j a b c d=>?_) (λe=>by cases e) λ_ p q _ _=>.inl (by rw [Int.add_comm])⟩;have ix:=(qot h5 ⟨a,b⟩ ⟨c,d⟩).1;exact qoz hM ix.1 (by rw [lM];exact ix.2)
 ·refine ⟨n,M1 h1 h5 (λi j a b c d=>?_) (λe=>by cases e) λ_ p q hp hq=>.inr ?_⟩
  ·have ix:=(qot h5 ⟨a,b⟩ ⟨c,d⟩).2;exact qoz hM ix.1 (by rw [lM];exact ix.2)
  ·have a:=qgz hp;have b:=qgz hq;unfold fSd;rw [za2 a,za2 b,za1 (by omega),za1 (by omega)]
 ·exact ⟨n,qfv (sk (by omega) (by omega) (by omega)) h5 (λi j=>by simp only [Dl.bank];rw [Int.add_comm]) ⟨"skew",_,rfl,by decide⟩⟩
 ·exact ⟨n,qfv (sk (by omega) (by omega) (by omega)) h5 (λi j=>by simp only [Dl.bank];omega) ⟨"skew",_,rfl,by decide⟩⟩
 ·exact ⟨_,qix h5⟩
end K73
namespace K73
open PySem L2 L3 Pu Pv
open Bk (Dl Inn SD SDs RD qbA qcJ XE)
theorem qbd:∀ (d:Dl) {i j:Int},d.Ok->Bk.Inn d i j->0<=d.bank i j/\d.bank i j<d.B
 |.skew r c b x y,i,j,ok,_=>by
  have:=ok.2.2.2.2.1;exact ⟨Int.emod_nonneg _ (by omega),Int.emod_lt_of_pos _ (by omega)⟩
 |.rests r c b p,i,j,ok,_=>by
  have:=ok.2.2.2.2.1;exact ⟨Int.emod_nonneg _ (by omega),Int.emod_lt_of_pos _ (by omega)⟩
 |.bits h l ms,i,j,ok,_=>M3 _ ms
 |.table b cells,i,j,ok,h=>by
  obtain ⟨a1,a2,a3,a4,c,c1,c2,hr⟩:=ok;have hi:i.toNat<cells.length:=by have:=h.i1;have:=h.i2;simp only [Dl.R] at this;omega
  have hm:=za0 hi;obtain ⟨l1,hx⟩:=hr _ hm;have hj:j.toNat<(cells[i.toNat]).length:=by
   have h1:=h.j1;have h2:=h.j2;have e:(Dl.table b cells).C=c:=by
    have:cells≠[]:=by intro z;rw [z] at a3;simp at a3
    obtain ⟨r0,rs,rfl⟩:=List.exists_cons_of_ne_nil this;have:=(hr r0 (by simp)).1;simp [Dl.C,this]
   rw [e] at h2;omega
  simp only [Dl.bank,v0 hi,Option.getD_some,v0 hj,Dl.B];exact hx _ (za0 hj)
 |.joined d e,i,j,ok,h=>by
  have ld:=Dl.lims ok.1;have le:=Dl.lims ok.2.1;obtain ⟨h1,h2,h3,h4⟩:=h;simp only [Dl.R] at h2;simp only [Dl.C] at h4;have er:=le.r1;have ec:=le.c1;have q1:=qbd d (i:=i/e.R) (j:=j/e.C) ok.1 ⟨Int.ediv_nonneg h1 (by omega),Int.ediv_lt_of_lt_mul (by omega) h2,Int.ediv_nonneg h3 (by omega),Int.ediv_lt_of_lt_mul (by omega) h4⟩;have q2:=qbd e (i:=i%e.R) (j:=j%e.C) ok.2.1 ⟨Int.emod_nonneg _ (by omega),Int.emod_lt_of_pos _ (by omega),Int.emod_nonneg _ (by omega),Int.emod_lt_of_pos _ (by omega)⟩;have m1:=Int.mul_nonneg q1.1 (show 0<=e.B by omega);have m2:(d.bank (i/e.R) (j/e.C)+1)*e.B<=d.B*e.B:=Int.mul_le_mul_of_nonneg_right (by omega) (by omega);rw [Int.add_mul,Int.one_mul] at m2;simp only [Dl.bank,Dl.B];omega
def qmr {bs:List Int} {B:Int} (hb:∀ b∈bs,0<=b/\b<B) (hl:bs.length<=9999):∀ s∈csp bs,In2 B.toNat s:=λs hs=>by
 obtain ⟨q,hq,rfl⟩:=mem_map.mp hs;obtain ⟨i,hi⟩:=List.mem_iff_getElem?.mp hq;obtain ⟨e1,e2,e3⟩:=EC (x:=q.1) (n:=q.2) hi;have:=hb q.1 (v9 e1);have c:=qpr (bs.take q.2) q.1;have:(bs.take q.2).length<=bs.length:=by rw [List.length_take];omega
 exact ⟨by simp only;omega,by simp only;omega⟩
def qn4 {d:Dl} (ok:d.Ok) (h:d.R.toNat * d.C.toNat<=9999):(spt d).length=d.R.toNat * d.C.toNat/\∀ s∈spt d,In2 d.B.toNat s:=by
 have lb:(X4 d).length=d.R.toNat * d.C.toNat:=by simp [X4,qoZ]
 have lm:=Dl.lims ok;have b1:=lm.b1;have gen:(csp (X4 d)).length=d.R.toNat * d.C.toNat/\∀ s∈csp (X4 d),In2 d.B.toNat s:=⟨by rw [qdg,lb],qmr (B:=d.B) (λb hb=>by
  obtain ⟨p,hp,rfl⟩:=mem_map.mp hb;exact qbd d ok (qa6 hp)) (by omega)⟩
 cases d with
 |rests r c b p=>
  obtain ⟨h1,h2,h3,h4,h5,h6,h7,h8,_⟩:=ok;refine ⟨?_,λs hs=>?_⟩
  ·show ((jg 0 (r*c).toNat).map _).length=r.toNat * c.toNat;rw [length_map,zZ];have a:((r.toNat * c.toNat:Nat):Int)=r*c:=by rw [Int.natCast_mul,Int.toNat_of_nonneg (by omega),Int.toNat_of_nonneg (by omega)]
   omega
  ·obtain ⟨n,hn,rfl⟩:=mem_map.mp hs;have e1:=Int.emod_nonneg n (show b≠0 by omega);have e2:=Int.emod_lt_of_pos n (show 0<b by omega);have e3:=Int.emod_nonneg n (show p≠0 by omega);have e4:=Int.emod_lt_of_pos n (show 0<p by omega);exact ⟨⟨e1,by simp only [Dl.B];omega⟩,e3,by simp only;omega⟩
 |_=>exact gen
def qeI {P:PyData->Prop} {ds:List PyData} {p:Nat} {w:PyData} (hd:∀ d∈ds,P d) (hn:P .none) (hw:P w) (hl:ds.length<=10000) (hp:p<10000):(∀ d∈qaG ds p w,P d)/\(qaG ds p w).length<=10000:=by
 unfold qaG;refine ⟨λd h=>?_,by simp;omega⟩;rcases List.mem_or_eq_of_mem_set h with h|rfl
 ·rcases List.mem_append.mp h with h|h
  ·exact hd d h
  ·rw [(List.mem_replicate.mp h).2];exact hn
 ·exact hw
theorem qe6 {P:PyData->Prop} (hn:P .none) {B:Nat}:∀ (sw:List ((Int×Int)×PyData)) (dss:List (List PyData)),(∀ x∈sw,In2 B x.1/\P x.2)->(∀ ds∈dss,(∀ d∈ds,P d)/\ds.length<=10000)->∀ ds∈sw.foldl stM dss,(∀ d∈ds,P d)/\ds.length<=10000
 |[],_,_,h=>h
 |x::sw,dss,hx,h=>by
  rw [List.foldl_cons];refine qe6 hn sw _ (λy hy=>hx y (by simp [hy])) λds hds=>?_;unfold stM at hds;split at hds
  ·rename_i es e;rcases List.mem_or_eq_of_mem_set hds with hds|rfl
   ·exact h ds hds
   ·have a:=h es (v9 e);obtain ⟨⟨_,p0,p1⟩,pw⟩:=hx x (by simp);exact qeI a.1 hn pw a.2 (by omega)
  ·exact h ds hds
def qea {d:Dl} (hB:d.B.toNat<=7) {ws:List Int} (hw:∀ w∈ws,-1000000<=w/\w<=1000000) (hs:∀ s∈spt d,In2 d.B.toNat s):∃ t:Str,qeN true [.list ((mem d.B.toNat ((spt d).zip (ws.map PyData.int))).map PyData.list)]=some (.str t):=by
 have all:=qe6 (P:=λx=>SD 0 0 x) (qbA 0 0) (B:=d.B.toNat) ((spt d).zip (ws.map PyData.int)) (List.replicate d.B.toNat []) (λx hx=>by
  obtain ⟨h1,h2⟩:=List.of_mem_zip (a:=x.1) (b:=x.2) hx;obtain ⟨w,hw',e⟩:=mem_map.mp h2;exact ⟨hs _ h1,by rw [← e];exact qcJ 0 0 (hw w hw')⟩) (λds hds=>by rw [(List.mem_replicate.mp hds).2];exact ⟨λd hd=>(nomatch hd),by simp⟩)
 have inner:∀ x∈(mem d.B.toNat ((spt d).zip (ws.map PyData.int))).map PyData.list,SD 1 10000 x:=λx hx=>by
  obtain ⟨ds,hds,rfl⟩:=mem_map.mp hx;obtain ⟨a,b⟩:=all ds hds;exact (RD (XE a)).mono (v5 _) (by omega)
 have o:=RD (XE inner);have ml:=qb5 (B:=d.B.toNat) ((spt d).zip (ws.map PyData.int));exact ⟨_,zB (o.w (by omega) (by
  rw [length_map,ml];have:=Nat.mul_le_mul hB (v5 10001);omega))⟩
end K73
namespace K73
open PySem L2 L3 Pu Pv
open Bk (Dl Inn)
def qpb {d:Dl} (ok:d.Ok) (dp:d.dep<=2) (n:d.R≠d.C) (p m:PyData):zi [dlD d,p,m]=some (.bool true):=by
 obtain ⟨a,b,c⟩:=qsw ok dp n p m;unfold zi;simp only [a,b,c,and_self,if_true]
def qr0 {k:Nat} (h:k<=1000000):qii (.int (k:Int))=some (.list ((jg 0 k).map PyData.int)):=by
 unfold qii;simp only;rw [if_pos (by omega),Int.toNat_natCast];unfold jg;rw [map_map];simp [Function.comp_def]
structure Lg (d:Dl):Prop where
 ok:d.Ok
 dp:d.dep<=2
 r:1<=d.R/\d.R<=10
 c:1<=d.C/\d.C<=10
 n:d.R≠d.C
 b:d.B=7
def qr5 {d:Dl} (K:Lg d):∃ (x:List (List PyData)) (t:Str),JU [dlD d,.list ((jg 0 (d.R.toNat * d.C.toNat)).map PyData.int)]=some (.inr x)/\qeN true [.list (x.map PyData.list)]=some (.str t):=by
 have r:=K.r;have c:=K.c;have b:=K.b;have m:=Nat.mul_le_mul (show d.R.toNat<=10 by omega) (show d.C.toNat<=10 by omega);obtain ⟨sl,si⟩:=qn4 K.ok (by omega);have f:=qp5 K.dp K.ok (by omega) (by omega) (ws:=(jg 0 (d.R.toNat * d.C.toNat)).map PyData.int) (λw hw=>by obtain ⟨i,_,rfl⟩:=mem_map.mp hw;rfl) (by rw [length_map,zZ,sl]) si;obtain ⟨t,ht⟩:=qea (d:=d) (by omega) (ws:=jg 0 (d.R.toNat * d.C.toNat)) (λw hw=>by have:=jF hw;omega) si;exact ⟨_,t,f,ht⟩
def qnH {n:Nat} {Q:QD} (hn:n<900000) (h:∀ m,m<=n+10->Q (.bool true) m):zf.W [] n Q:=by
 rw [EW];refine ⟨rfl,?_⟩;unfold jf;refine Z8 λY1 g1=>?_
 try simp only [Pu.pwA]
 refine ⟨by omega,by omega,λp p0 p1=>⟨by omega,by omega,λq q0 q1=>?_⟩⟩
 try simp only [Pu.pwA]
 rw [g1];refine qiw (λρ m=>m<=n+3/\∃ a b:Int,(1<=a/\a<=10)/\(1<=b/\b<=10)/\a≠b/\ρ=[.un,.sh (.int a),.sh (.int b),.un,.un,.un,.un]) ?_ ?_
 ·try simp only [Pu.pwA]
  refine ⟨by omega,by omega,λk k0 k1=>?_⟩;by_cases c:k=0
  ·try simp only [Pu.pwA,c,decide_true]
   exact ⟨by omega,_,_,by omega,by omega,by omega,rfl⟩
  ·try simp only [Pu.pwA,c,decide_false]
   exact ⟨by omega,_,_,by omega,by omega,by omega,rfl⟩
 clear g1 Y1;rintro ρ m ⟨hm,a,b,ha,hb,ab,rfl⟩;refine Z8 λY2 g2=>?_
 try simp only [Pu.pwA]
 refine ⟨by omega,by omega,λk k0 k1=>?_⟩;have kn:∃ d:Dl,Lg d/\d.R=a/\d.C=b/\L2.atI [PyData.tuple [.str "skew",.int a,.int b,.int 7,.int 1,.int 2],.tuple [.str "rests",.int a,.int b,.int 7,.int 16]] k=some (dlD d):=by
  have ab:a*b<=10*10:=Int.mul_le_mul ha.2 hb.2 (by omega) (by omega);have:k=0\/k=1:=by omega
  rcases this with rfl|rfl
  ·exact ⟨.skew a b 7 1 2,⟨⟨by omega,by omega,by omega,by omega,by omega,by omega,by omega,by omega,by omega,by omega⟩,by simp [Dl.dep],ha,hb,by assumption,rfl⟩,rfl,rfl,rfl⟩
  ·exact ⟨.rests a b 7 16,⟨⟨by omega,by omega,by omega,by omega,by omega,by omega,by omega,by omega,by decide,by omega⟩,by simp [Dl.dep],ha,hb,by assumption,rfl⟩,rfl,rfl,rfl⟩
 obtain ⟨d,K,rfl,rfl,ek⟩:=kn;refine ⟨_,ek,?_⟩
 try simp only [Pu.pwA]
 rw [g2];obtain ⟨x,t,f,ht⟩:=qr5 K;have r:=K.r;have c:=K.c;have em:d.R*d.C=((d.R.toNat * d.C.toNat:Nat):Int):=by rw [Int.natCast_mul,Int.toNat_of_nonneg (by omega),Int.toNat_of_nonneg (by omega)]
 have m2:=Nat.mul_le_mul (show d.R.toNat<=10 by omega) (show d.C.toNat<=10 by omega);have lr:=qr0 (k:=d.R.toNat * d.C.toNat) (by omega);rw [← em] at lr;refine Z8 λY3 g3=>?_
 try simp (disch:=omega) only [Pu.pwA,WT,qn0,lr,qki,qle,f,nrD]
 rw [g3];refine Z8 λY4 g4=>?_
 try simp only [Pu.pwA,qbm,ht]
 rw [g4];refine Z8 λY5 g5=>?_
 try simp (disch:=omega) only [Pu.pwA,LC]
 have rf:=qpb K.ok K.dp K.n (.list []) (.list (x.map PyData.list));have sn:=qq2 K.ok K.dp K.n;refine WP (f:=PyData.int) (jg 0 (2:Int).toNat) jm.mn (λ_ ρ k=>k=m+1/\∃ s6,ρ=[.un,.sh (.int d.R),.sh (.int d.C),.sh (dlD d),.sh (.list (x.map PyData.list)),.sh (.str t),s6]) ⟨rfl,_,rfl⟩ ?_ ?_
 ·rintro i y ρ k hx ⟨rfl,s6,rfl⟩;refine ⟨_,rfl,?_⟩;unfold jm
  try simp only [Pu.pwA,rf,qbm,ht,eq_self,Bool.not_true]
  exact ⟨_,rfl⟩
 ·rintro ρ k ⟨rfl,s6,rfl⟩
  try simp only [Pu.pwA]
  rw [g5]
  try simp only [Pu.pwA,sn]
  exact ⟨_,rfl,_,v5 _,h _ (by omega)⟩
def qhY {N:Nat} {i:Int} (h:0<=i/\i<N) (h6:N<6):(row N i).length<=6:=by
 unfold row;rw [length_map,zZ];omega
def qhd {n:Bool} {ps:List PP}:eqD n (.list (ps.map pD)) (.list [])=some (.bool (if n then !decide (ps=[]) else decide (ps=[]))):=by
 have h:LU (.list (ps.map pD)) (.list [])=none:=rfl;unfold eqD;rw [h];simp only;rw [zB (by have:=qpK ps;simp only [dpt];omega)];cases ps<;>simp [jq,ZO]
def MN (N:Nat) (o:Bool):List (List PP):=match o with
 |true=>if prs N=[] then [] else [prs N]
 |false=>(prs N).map λp=>[p]
def qhg {n N:Nat} {d:Dl} {o:Bool} (K:Kn n d N o):pln d.bank (prs N)=MN N o:=by
 cases o with
 |true=>
  unfold MN;simp only;cases e:prs N with
  |nil=>rfl
  |cons p ps=>
   rw [if_neg (by simp)];refine qej λi=>?_;rw [← e];exact qaV K.l (K.once rfl) i
 |false=>exact qew λp hp q hq=>qgS (K.each rfl p q hp hq)
def qnQ {n N:Nat} {d:Dl} {o:Bool} (K:Kn n d N o):(MN N o).flatten=prs N/\(MN N o).length<=100/\(∀ s∈MN N o,s.length<=1000)/\∀ s∈MN N o,okb d.bank s=true:=by
 have l:=NM N K.l;cases o with
 |true=>
  unfold MN;simp only;by_cases e:prs N=[]
  ·rw [if_pos e,e];exact ⟨rfl,by simp,λs hs=>(nomatch hs),λs hs=>(nomatch hs)⟩
  ·rw [if_neg e];refine ⟨by simp,by simp,λs hs=>?_,λs hs=>?_⟩
   ·rw [List.mem_singleton.mp hs];omega
   ·rw [List.mem_singleton.mp hs];have:=qaV K.l (K.once rfl) (prs N).length;rw [List.take_length] at this;exact this
 |false=>
  refine ⟨?_,by simp [MN];omega,λs hs=>?_,λs hs=>?_⟩
  ·unfold MN;simp only;rw [← List.flatMap_def];induction prs N with
   |nil=>rfl
   |cons p ps ih=>rw [List.flatMap_cons,ih];rfl
  ·obtain ⟨p,_,rfl⟩:=mem_map.mp hs;simp
  ·obtain ⟨p,_,rfl⟩:=mem_map.mp hs;exact qnE p
def qrT {N:Nat} {i:Int}:(row N i).map pD=(jg (i+1) ((N:Int)-(i+1)).toNat).map λj=>PyData.tuple [.int i,.int j]:=by
 unfold row;rw [map_map];rfl
def qrE {N:Nat}:prs N=(jg 0 N).flatMap (row N):=by
 unfold prs;rw [Int.toNat_natCast]
def qdY {N n m:Nat} {k:Int} {s4 s5 s9:Sl} {Q:QO} (hN:N<6) (h:∀ s8,Q (.nx [.un,.sh (.int k),.un,.sh (.int n),s4,s5,.sh (.int N),.ow ((prs N).map pD),s8,s9]) m):∀ s8,qdm (gN 8).f WN.w ((jg 0 N).map PyData.int) [.un,.sh (.int k),.un,.sh (.int n),s4,s5,.sh (.int N),.ow [],s8,s9] m Q:=by
 intro s8;refine WP (f:=PyData.int) (jg 0 N) WN.mn (λi ρ k'=>k'=m/\∃ s8,ρ=[.un,.sh (.int k),.un,.sh (.int n),s4,s5,.sh (.int N),.ow ((((jg 0 N).take i).flatMap (row N)).map pD),s8,s9]) ⟨rfl,_,rfl⟩ ?_ ?_
 ·rintro i x ρ k' hx ⟨rfl,s8,rfl⟩;refine ⟨_,rfl,?_⟩;have ri:=jF (v9 hx);have e:((jg 0 N).take (i+1)).flatMap (row N)=((jg 0 N).take i).flatMap (row N)++row N x:=by
   rw [List.take_add_one,hx];simp
  have l:=NM N hN;have l2:(((jg 0 N).take (i+1)).flatMap (row N)).length<=10:=by
   have z:prs N=((jg 0 N).take (i+1)).flatMap (row N)++((jg 0 N).drop (i+1)).flatMap (row N):=by
    rw [qrE,← List.flatMap_append,List.take_append_drop]
   rw [z,length_append] at l;omega
  have l3:=qhY (N:=N) (i:=x) (by omega) hN;unfold WN
  try simp only [Pu.pwA]
  rw [ZR (ds:=(jg (x+1) ((N:Int)-(x+1)).toNat).map PyData.int) (fs:=(row N x).map pD)]
  rotate_left
  ·try simp (disch:=omega) only [Pu.pwA,qru]
  ·rw [qrT];refine zM λj hj=>?_
   try simp only [Pu.pwA,JT]
  ·rw [length_map];omega
  try simp only [Pu.pwA]
  rw [e,length_append] at l2;refine ⟨by rw [length_map,length_map];omega,.sh (.int x),?_⟩;rw [e,List.map_append]
 ·rintro ρ k' ⟨rfl,s8,rfl⟩;rw [List.take_length,← qrE];exact h _
def qai {n N:Nat} {d:Dl} {o:Bool} (h5:n<=5) (K:Kn n d N o):((((ixD (dlD d) (PyData.int 0)).bind λx=>eqD true x (PyData.str (Str.ofString "bits"))).bind asB).bind λk=>if k=true then some (PyData.int (n:Int)) else (cI LG (λx1 x2=>x1/x2) (PyData.int (n:Int)) (PyData.int 2)).bind λy=>ixD (PyData.list [PyData.int 1,PyData.int 2,PyData.int 4]) y)=some (.int (N:Int)):=by
 rcases K.kd with ⟨s,xs,e,z,e2⟩|⟨e,e2⟩
 ·rw [e]
  try simp only [Pu.pwA,z,decide_false,e2]
  try simp [z,e2]
  done
 ·rw [e,e2];have h0:ixD (dlD (Dl.bits (n/2) (n/2) [])) (.int 0)=some (.str (Str.ofString "bits")):=rfl;have h1:((n:Int)/2=0/\n/2=0)\/((n:Int)/2=1/\n/2=1)\/((n:Int)/2=2/\n/2=2):=by omega
  try simp (disch:=omega) only [Pu.pwA,h0,qfV,decide_true]
  rcases h1 with ⟨h,h'⟩|⟨h,h'⟩|⟨h,h'⟩<;>rw [h,h']<;>rfl
def qkR {N:Nat} {o:Bool} (h6:N<6) {r:Rho} (hr:vw r 7=some (.list ((prs N).map pD))):(if o=true then (((eqD true (PyData.list (List.map pD (prs N))) (PyData.list [])).bind λx=>some [x]).bind qnL).bind λy=>qhw.f (PyData.list [PyData.list (List.map pD (prs N))]) y else lcF (λρ=>(vw ρ 7).bind LI) (lcH (λd=>some [(0,d)]) (λx=>some true) λρ=>Option.map PyData.list ((vw ρ 0).bind λx=>some [x])) [none] r)=some (plD (MN N o)):=by
 have l:=NM N h6;cases o with
 |true=>
  rw [if_pos rfl,qhd];unfold MN plD;simp only [if_true,Option.bind_some];by_cases e:prs N=[]
  ·rw [if_pos e,za2 e];simp only [Bool.not_true,M9,Option.bind_some,qbD];rw [qri (by simp)];rfl
  ·rw [if_neg e,za1 e];simp only [Bool.not_false,M9,Option.bind_some,qbD];rw [qri (by simp)];rfl
 |false=>
  rw [if_neg (by simp)];rw [ZR (ds:=(prs N).map pD) (fs:=(prs N).map λp=>PyData.list [pD p]) (by try simp only [Pu.pwA,hr]) (zM λp hp=>by try simp only [Pu.pwA,JT]) (by rw [length_map];omega)];unfold MN plD;simp only [map_map];rfl
def qkK:∀ k:Nat,k<=60->qez.w [.un,.sh (.int k),.un,.un,.un,.un,.un,.un,.un,.un] 0 okW:=by
 intro k hk;unfold qez;refine Z8 λY1 g1=>?_
 try simp only [Pu.pwA]
 refine ⟨by omega,by omega,λa a0 a1=>?_⟩
 try simp only [Pu.pwA]
 obtain ⟨n,hn⟩:∃ n:Nat,1+a=(n:Int):=⟨(1+a).toNat,by omega⟩
 rw [g1,hn];refine Z8 λY2 g2=>?_
 try simp only [Pu.pwA]
 refine qep (by omega) (by omega) (by omega) λL M R S m hL hM lL lM hm=>?_
 try simp only [Pu.pwA]
 have ok:=qlV (by omega) (by omega) hL hM lL lM;generalize kns n L M=xs at ok;refine WP (f:=dO) xs SN.mn (λ_ ρ k'=>k'=m/\∃ s4 s5 s6 s7 s8 s9,ρ=[.un,.sh (.int k),.un,.sh (.int n),s4,s5,s6,s7,s8,s9]) ⟨rfl,_,_,_,_,_,_,rfl⟩ ?_ ?_
 ·rintro i ⟨d,o⟩ ρ k' hx ⟨rfl,s4,s5,s6,s7,s8,s9,rfl⟩;obtain ⟨N,K⟩:=ok _ (v9 hx);have hN:N<6:=K.l;refine ⟨_,rfl,?_⟩;unfold SN;refine Z8 λY3 g3=>?_
  try simp only [Pu.pwA]
  refine ⟨_,qai (by omega) K,?_⟩
  try simp only [Pu.pwA]
  rw [g3];refine Z8 λY4 g4=>?_
  try simp only [Pu.pwA]
  rw [g4];refine Z8 λY5 g5=>?_
  try simp (disch:=omega) only [Pu.pwA,LC,Int.toNat_natCast]
  refine qdY hN (λs8=>?_) _
  try simp only [Pu.pwA]
  rw [g5];refine Z8 λY6 g6=>?_
  try simp only [Pu.pwA]
  refine ⟨_,qkR hN rfl,?_⟩;obtain ⟨du1,du2,du3,du4⟩:=qnQ K;rw [g6];unfold plD
  try simp only [Pu.pwA]
  rw [← plD];have tp:zk [dlD d]=some (.inr (onP (pln d.bank (prs N)))):=qrO K.sq;have dl:pln d.bank (prs N)=MN N o:=qhg K;have sh:qH [dlD d,plD (MN N o)]=some (.bool true):=qqR K.sq hN du1 du2 du3 du4;rw [dl] at tp
  try simp only [Pu.pwA,qki,tp,nrD,qns,qo4,sh]
  exact ⟨_,_,_,_,_,_,rfl⟩
 ·rintro ρ k' ⟨rfl,s4,s5,s6,s7,s8,s9,rfl⟩
  try simp only [Pu.pwA]
  rw [g2]
  try simp only [Pu.pwA]
  refine qnH (n:=k') (by omega) λm' hm'=>?_
  try simp only [Pu.pwA]
end K73
namespace K73
open PySem L2 L3 Bk
abbrev qkZ : Env := { scope := PySem.Challenge.pw_bankwalk_k73_known_plans.main.scope,locals := mainNs,globals := mainNs,cells := [],code := .ref 13,frame := some 14 }
abbrev qbC : List Stmt := PySem.W.behindTheImports PySem.Challenge.pw_bankwalk_k73_known_plans
abbrev R0:Code:=.body qbC qkZ
abbrev qly:List Frame:=[PySem.W.topFrame ⟨0,0,0,0⟩]
def zr:Obj:=Hd.oT []
def Q5:Obj:=⟨.none,none,.fields #[],#[]⟩
def qoT:Obj:=Hd.oC [.str "<module>" 182,.str "<module>" 183,.str "/claim/cut.py" 184,.int (1) 0,.int (0) 0,.int (0) 0,.int (0) 0,.int (0) 0,.ref 11,.bool false,.int (181) 0,.ref 12,.none,.none,.none,.none,.int (185) 0,.int (1) 0,.str "/claim/cut.py" 186]
def qoO:Obj:=⟨.type "frame",none,.plain,#[some (.ref 13),some (.ref 3),some (.ref 3),none,some (.str "__main__" 164),none,some (.ref 0)]⟩
def ql3 (P:Params):Heap:=⟨Array.mk [PySem.W.boot_o_0 P,PySem.W.boot_o_1 P,PySem.W.boot_o_2 P,PySem.W.boot_o_3 P,PySem.W.boot_o_4 P,PySem.W.boot_o_5 P,PySem.W.boot_o_6 P,PySem.W.boot_o_7 P,PySem.W.boot_o_8 P,PySem.W.boot_o_9 P,PySem.W.boot_o_10 P,zr,Q5,qoT,qoO],{ }⟩
def qjX (P:Params):PySem.W.BT:=(Hd.nd (PySem.W.boot_o_0 P) (Hd.nd (PySem.W.boot_o_1 P) (Hd.nd (PySem.W.boot_o_3 P) (Hd.lf (PySem.W.boot_o_7 P)) (Hd.lf zr)) (Hd.nd (PySem.W.boot_o_5 P) (Hd.lf (PySem.W.boot_o_9 P)) (Hd.lf qoT))) (Hd.nd (PySem.W.boot_o_2 P) (Hd.nd (PySem.W.boot_o_4 P) (Hd.lf (PySem.W.boot_o_8 P)) (Hd.lf Q5)) (Hd.nd (PySem.W.boot_o_6 P) (Hd.lf (PySem.W.boot_o_10 P)) (Hd.lf qoO))))
set_option maxRecDepth 100000 in
set_option maxHeartbeats 0 in
def qm1 (w : World) (os : OsState) : PySem.W.topGo treeTable PySem.Challenge.pw_bankwalk_k73_known_plans w 11 (some (Value.ref 6)) 12 ⟨PySem.W.boot_heap w.params,Array.mk [],PySem.W.boot_drawn,PySem.W.boot_toks,os⟩ (PySem.W.topStub PySem.Challenge.pw_bankwalk_k73_known_plans) = some (⟨ql3 w.params,#[],{ },187,os⟩,⟨denote treeTable R0,R0,⟨0,0,0,0⟩,qly⟩) := by kernel_rfl
set_option maxRecDepth 100000 in
set_option maxHeartbeats 0 in
def qlz (w : World) (os : OsState) : PySem.W.segRun treeTable PySem.Challenge.pw_bankwalk_k73_known_plans w 11 (some (Value.ref 6)) 1 1 ⟨ql3 w.params,#[],{ },187,os⟩ (PySem.W.blockOf qbC qkZ R0 ⟨0,0,0,0⟩ qly) = some (.next,(⟨qjX w.params,15,{ },#[],{ },187,os⟩ : PySem.W.SharedT).abs,R0,⟨0,0,0,0⟩) := by kernel_rfl
def qsn (P:Params):Obj:=Hd.oM P 21 "bankwalk.dealings" 239 [(.str "is_number" 195,.ref 21),(.str "is_pair" 202,.ref 28),(.str "BankError" 222,.ref 38),(.str "NotSquare" 238,.ref 51),(.str "size_of" 254,.ref 60),(.str "number_of" 265,.ref 67),(.str "all_words" 271,.ref 72),(.str "odd_in_common" 281,.ref 79),(.str "bits_bank" 287,.ref 84),(.str "parted" 298,.ref 91),(.str "joined_bank" 312,.ref 98),(.str "bank_in" 321,.ref 105)]
def qso:Obj:=⟨.none,none,.fields #[.int (2) 0,.int (0) 0,.ref 20,.int (4) 0,.int (0) 0,.ref 27,.int (7) 0,.int (0) 0,.ref 34,.int (9) 0,.int (0) 0,.ref 47,.int (12) 0,.int (0) 0,.ref 59,.int (23) 0,.int (0) 0,.ref 66,.int (26) 0,.int (0) 0,.ref 71,.int (29) 0,.int (0) 0,.ref 78,.int (36) 0,.int (0) 0,.ref 83,.int (38) 0,.int (0) 0,.ref 90,.int (41) 0,.int (0) 0,.ref 97,.int (45) 0,.int (0) 0,.ref 104],#[]⟩
def qrG:Obj:=Hd.oN qP 192
def qrw:Obj:=Hd.oG "is_number" jZ
def qpM:Obj:=Hd.oK "is_number" 189 2 1 181 15 16 .none (.ref 17) (.ref 18) 19 193 194
def qhQ:Obj:=Hd.oF "is_number" jZ zb0 (.ref 20)
def qjQ:Obj:=Hd.oN qP 199
def qm7:Obj:=Hd.oG "is_pair" JI
def qip:Obj:=Hd.oK "is_pair" 196 4 1 181 22 23 .none (.ref 24) (.ref 25) 26 200 201
def qhe:Obj:=Hd.oF "is_pair" JI zb0 (.ref 27)
def qm3:Obj:=Hd.oT [.type "ValueError"]
def qdI:Obj:=⟨.type "builtin_function_or_method",none,.fields #[.builtin "type.__prepare__",.type "type"],#[]⟩
def qk9 (P:Params):Obj:=Hd.oD P 4 [(.str "__module__" 212,.str zb1 203),(.str "__qualname__" 214,.str "BankError" 213),(.str "__firstlineno__" 216,.int (7) 215),(.str "__static_attributes__" 217,.ref 36)]
def qj9:Obj:=Hd.oC [.str "BankError" 207,.str "BankError" 208,.str "/claim/cut.py" 209,.int (7) 0,.int (0) 0,.int (0) 0,.int (0) 0,.int (0) 0,.ref 32,.bool false,.int (181) 0,.ref 33,.none,.none,.none,.none,.int (210) 0,.int (7) 0,.str "/claim/cut.py" 211]
def qnR:Obj:=⟨.type "frame",none,.plain,#[some (.ref 34),some (.ref 3),some (.ref 31),none,some (.str zb1 203),none,some (.ref 0)]⟩
def qhr (P:Params):Obj:=Hd.oD P 3 [(.str "__module__" 212,.str zb1 203),(.str "__firstlineno__" 216,.int (7) 215),(.str "__static_attributes__" 217,.ref 36),(.str "__weakref__" 219,.ref 39),(.str "__doc__" 220,.none)]
def qi6:Obj:=⟨.type "type",none,.cls ({ name:=Str.ofString "BankError",bases:=[Value.type "ValueError"],  mro:=    [Value.ref 38,Value.type "ValueError",Value.type "Exception",Value.type "BaseException",Value.type "object"],  ns:=37,qualname:=Str.ofString "BankError",subclasses:=[Value.ref 51] }),#[some (.ref 29),none,some (.str "BankError" 205),some (.str "BankError" 213),some (.builtin "ValueError.__new__"),some (.bool true)]⟩
def qk1:Obj:=⟨.type "getset_descriptor",none,.fields #[.str "__weakref__" 218,.ref 38,.builtin "ExceptionGroup.__weakref__",.none],#[]⟩
def qmn:Obj:=Hd.c6 38
def qmC:Obj:=Hd.c7 38
def qjO:Obj:=Hd.oT [.ref 38]
def qm4 (P:Params):Obj:=Hd.c1 P zb1 203 "NotSquare" 223 9 42
def qlG:Obj:=Hd.c2 "NotSquare" 223 9 42
def qko:Obj:=Hd.c3 zb1 203 42
def qg4 (P:Params):Obj:=Hd.c4 P zb1 203 223 9 42
def qhH:Obj:=Hd.c5 "NotSquare" 38 223 42
def qkG:Obj:=Hd.c6 51
def ql0:Obj:=Hd.c7 51
def qkV:Obj:=Hd.oN XO 244
def qli:Obj:=Hd.oG "size_of" JJ
def qiI:Obj:=Hd.oK "size_of" 241 12 1 181 54 55 .none (.ref 56) (.ref 57) 58 252 253
def qiD:Obj:=Hd.oF "size_of" JJ za7 (.ref 59)
def qmw:Obj:=Hd.oN V7 258
def qnP:Obj:=Hd.oG "number_of" j7
def qhW:Obj:=Hd.oK "number_of" 255 23 2 181 61 62 .none (.ref 63) (.ref 64) 65 263 264
def qio:Obj:=Hd.oF "number_of" j7 za7 (.ref 66)
def qms:Obj:=Hd.oG "all_words" QG
def qhx:Obj:=Hd.oK "all_words" 266 26 1 181 68 69 .none .none .none 70 269 270
def qhi:Obj:=Hd.oF "all_words" QG za7 (.ref 71)
def qmR:Obj:=Hd.oN ZH 275
def qks:Obj:=Hd.oG "odd_in_common" zE
def qho:Obj:=Hd.oK "odd_in_common" 272 29 2 181 73 74 .none (.ref 75) (.ref 76) 77 279 280
def qhE:Obj:=Hd.oF "odd_in_common" zE za7 (.ref 78)
def qol:Obj:=Hd.oG "bits_bank" j3
def qi4:Obj:=Hd.oK "bits_bank" 282 36 2 181 80 81 .none .none .none 82 285 286
def qil:Obj:=Hd.oF "bits_bank" j3 za7 (.ref 83)
def qjw:Obj:=Hd.oN RV 291
def qjC:Obj:=Hd.oG "parted" YW
def qiX:Obj:=Hd.oK "parted" 288 38 3 181 85 86 .none (.ref 87) (.ref 88) 89 296 297
def qit:Obj:=Hd.oF "parted" YW za7 (.ref 90)
def qkP:Obj:=Hd.oN JP 302
def qnV:Obj:=Hd.oG "joined_bank" jb
def qhh:Obj:=Hd.oK "joined_bank" 299 41 3 181 92 93 .none (.ref 94) (.ref 95) 96 310 311
def qiM:Obj:=Hd.oF "joined_bank" jb za7 (.ref 97)
def qmy:Obj:=Hd.oN XV 316
def qkU:Obj:=Hd.oG "bank_in" JH
def qik:Obj:=Hd.oK "bank_in" 313 45 2 181 99 100 .none (.ref 101) (.ref 102) 103 319 320
def qhV:Obj:=Hd.oF "bank_in" JH za7 (.ref 104)
def qkc (P:Params):PySem.W.BT:=(Hd.nd (PySem.W.boot_o_0 P) (Hd.nd (PySem.W.boot_o_1 P) (Hd.nd (qsn P) (Hd.nd (PySem.W.boot_o_7 P) (Hd.nd zr (Hd.nd (qk9 P) (Hd.lf qmw) (Hd.lf zr)) (Hd.nd qlG (Hd.lf qhE) .nil)) (Hd.nd Q5 (Hd.nd qk1 (Hd.lf qhx) (Hd.lf qkU)) (Hd.nd Q5 (Hd.lf qjw) .nil))) (Hd.nd zr (Hd.nd qrw (Hd.nd qnR (Hd.lf qio) (Hd.lf zr)) (Hd.nd qhH (Hd.lf qi4) .nil)) (Hd.nd qip (Hd.nd qdI (Hd.lf qmR) .nil) (Hd.nd qiI (Hd.lf qit) .nil)))) (Hd.nd (PySem.W.boot_o_5 P) (Hd.nd (PySem.W.boot_o_9 P) (Hd.nd qrG (Hd.nd Q5 (Hd.lf qnP) (Hd.lf qhh)) (Hd.nd zr (Hd.lf Q5) .nil)) (Hd.nd zr (Hd.nd qmC (Hd.lf zr) (Hd.lf qhV)) (Hd.nd zr (Hd.lf qjC) .nil))) (Hd.nd qoT (Hd.nd qhQ (Hd.nd (qhr P) (Hd.lf Q5) (Hd.lf qmy)) (Hd.nd ql0 (Hd.lf zr) .nil)) (Hd.nd qm3 (Hd.nd zr (Hd.lf qks) .nil) (Hd.nd zr (Hd.lf Q5) .nil))))) (Hd.nd (PySem.W.boot_o_2 P) (Hd.nd (PySem.W.boot_o_4 P) (Hd.nd (PySem.W.boot_o_8 P) (Hd.nd Q5 (Hd.nd zr (Hd.lf zr) (Hd.lf qnV)) (Hd.nd qko (Hd.lf zr) .nil)) (Hd.nd qjQ (Hd.nd qmn (Hd.lf qhi) (Hd.lf qik)) (Hd.nd qkV (Hd.lf zr) .nil))) (Hd.nd qso (Hd.nd qpM (Hd.nd zr (Hd.lf zr) (Hd.lf Q5)) (Hd.nd qkG (Hd.lf qil) .nil)) (Hd.nd qhe (Hd.nd (qm4 P) (Hd.lf zr) .nil) (Hd.nd qiD (Hd.lf zr) .nil)))) (Hd.nd (PySem.W.boot_o_6 P) (Hd.nd (PySem.W.boot_o_10 P) (Hd.nd zr (Hd.nd qj9 (Hd.lf qhW) (Hd.lf qiM)) (Hd.nd (qg4 P) (Hd.lf qol) .nil)) (Hd.nd qm7 (Hd.nd qjO (Hd.lf Q5) .nil) (Hd.nd qli (Hd.lf qiX) .nil))) (Hd.nd qoO (Hd.nd zr (Hd.nd qi6 (Hd.lf qms) (Hd.lf zr)) (Hd.nd zr (Hd.lf Q5) .nil)) (Hd.nd qdI (Hd.nd Q5 (Hd.lf qho) .nil) (Hd.nd Q5 (Hd.lf qkP) .nil))))))
abbrev qgq:List Stmt:=(qbC.drop 0).take 15
set_option maxRecDepth 100000 in
set_option maxHeartbeats 0 in
def qlf (w : World) (os : OsState) : PySem.W.segRunT treeTable PySem.Challenge.pw_bankwalk_k73_known_plans w 11 (some (Value.ref 6)) 1 738 (⟨qjX w.params,15,{ },#[],{ },187,os⟩ : PySem.W.SharedT) (PySem.W.piecesOf qgq qkZ R0 ⟨0,0,0,0⟩ qly) = some (.next,(⟨qkc w.params,106,{ },#[],{ },322,os⟩ : PySem.W.SharedT),R0,⟨45,0,55,52⟩) := by kernel_rfl
def qj5 (P:Params):Obj:=Hd.oM P 43 "law_bankwalk_k73_known_plans" 436 [(.str "is_number" 195,.ref 21),(.str "is_pair" 202,.ref 28),(.str "BankError" 222,.ref 38),(.str "NotSquare" 238,.ref 51),(.str "size_of" 254,.ref 60),(.str "number_of" 265,.ref 67),(.str "all_words" 271,.ref 72),(.str "odd_in_common" 281,.ref 79),(.str "bits_bank" 287,.ref 84),(.str "parted" 298,.ref 91),(.str "joined_bank" 312,.ref 98),(.str "bank_in" 321,.ref 105),(.str "rests_spots" 329,.ref 110),(.str "counted_spots" 341,.ref 117),(.str "spots_of" 348,.ref 124),(.str "filled" 354,.ref 129),(.str "is_square" 366,.ref 136),(.str "refuse_not_square" 373,.ref 143),(.str "all_pairs" 379,.ref 148),(.str "beat_banks" 385,.ref 153),(.str "is_beat" 394,.ref 160),(.str "first_beat" 405,.ref 167),(.str "turn_plan" 415,.ref 174),(.str "turned" 421,.ref 179),(.str "is_list_of_lists" 429,.ref 184),(.str "shows_plan" 435,.ref 189),(.str "_law_mix" 446,.ref 196),(.str "_law_left" 456,.ref 203),(.str "_law_pick" 465,.ref 210),(.str "_law_names" 476,.ref 217),(.str "_law_tables" 482,.ref 222),(.str "_law_refused" 495,.ref 229),(.str "_law_long_right" 508,.ref 236),(.str "law" 514,.ref 241)]
def qpe:Obj:=⟨.none,none,.fields #[.int (2) 0,.int (0) 0,.ref 20,.int (4) 0,.int (0) 0,.ref 27,.int (7) 0,.int (0) 0,.ref 34,.int (9) 0,.int (0) 0,.ref 47,.int (12) 0,.int (0) 0,.ref 59,.int (23) 0,.int (0) 0,.ref 66,.int (26) 0,.int (0) 0,.ref 71,.int (29) 0,.int (0) 0,.ref 78,.int (36) 0,.int (0) 0,.ref 83,.int (38) 0,.int (0) 0,.ref 90,.int (41) 0,.int (0) 0,.ref 97,.int (45) 0,.int (0) 0,.ref 104,.int (57) 0,.int (0) 0,.ref 109,.int (60) 0,.int (0) 0,.ref 116,.int (69) 0,.int (0) 0,.ref 123,.int (73) 0,.int (0) 0,.ref 128,.int (83) 0,.int (0) 0,.ref 135,.int (86) 0,.int (0) 0,.ref 142,.int (89) 0,.int (0) 0,.ref 147,.int (92) 0,.int (0) 0,.ref 152,.int (94) 0,.int (0) 0,.ref 159,.int (97) 0,.int (0) 0,.ref 166,.int (102) 0,.int (0) 0,.ref 173,.int (111) 0,.int (0) 0,.ref 178,.int (124) 0,.int (0) 0,.ref 183,.int (126) 0,.int (0) 0,.ref 188,.int (134) 0,.int (0) 0,.ref 195,.int (137) 0,.int (0) 0,.ref 202,.int (141) 0,.int (0) 0,.ref 209,.int (148) 0,.int (0) 0,.ref 216,.int (153) 0,.int (0) 0,.ref 221,.int (163) 0,.int (0) 0,.ref 228,.int (176) 0,.int (0) 0,.ref 235,.int (187) 0,.int (0) 0,.ref 240],#[]⟩
def qpX:Obj:=Hd.oG "rests_spots" jc
def qnb:Obj:=Hd.oK "rests_spots" 324 57 1 181 106 107 .none .none .none 108 327 328
def qlI:Obj:=Hd.oF "rests_spots" jc za9 (.ref 109)
def qqb:Obj:=Hd.oN zV 333
def qo5:Obj:=Hd.oG "counted_spots" zD
def qlJ:Obj:=Hd.oK "counted_spots" 330 60 1 181 111 112 .none (.ref 113) (.ref 114) 115 339 340
def qmb:Obj:=Hd.oF "counted_spots" zD za9 (.ref 116)
def qpU:Obj:=Hd.oN qx 345
def qpd:Obj:=Hd.oG "spots_of" Q7
def qmt:Obj:=Hd.oK "spots_of" 342 69 1 181 118 119 .none (.ref 120) (.ref 121) 122 346 347
def qmo:Obj:=Hd.oF "spots_of" Q7 za9 (.ref 123)
def qqf:Obj:=Hd.oG "filled" YV
def qof:Obj:=Hd.oK "filled" 349 73 2 181 125 126 .none .none .none 127 352 353
def qnq:Obj:=Hd.oF "filled" YV za9 (.ref 128)
def qpD:Obj:=Hd.oN ZM 360
def qpv:Obj:=Hd.oG "is_square" QH
def qmX:Obj:=Hd.oK "is_square" 357 83 1 181 130 131 .none (.ref 132) (.ref 133) 134 364 365
def qkb:Obj:=Hd.oF "is_square" QH za8 (.ref 135)
def qpz:Obj:=Hd.oN qx 370
def qqv:Obj:=Hd.oG "refuse_not_square" qG
def qlN:Obj:=Hd.oK "refuse_not_square" 367 86 1 181 137 138 .none (.ref 139) (.ref 140) 141 371 372
def qob:Obj:=Hd.oF "refuse_not_square" qG za8 (.ref 142)
def qo1:Obj:=Hd.oG "all_pairs" QF
def qkg:Obj:=Hd.oK "all_pairs" 374 89 1 181 144 145 .none .none .none 146 377 378
def qmZ:Obj:=Hd.oF "all_pairs" QF za8 (.ref 147)
def qqu:Obj:=Hd.oG "beat_banks" jQ
def qm8:Obj:=Hd.oK "beat_banks" 380 92 2 181 149 150 .none .none .none 151 383 384
def qn8:Obj:=Hd.oF "beat_banks" jQ za8 (.ref 152)
def qqi:Obj:=Hd.oN YY 389
def qpo:Obj:=Hd.oG "is_beat" JG
def qnn:Obj:=Hd.oK "is_beat" 386 94 2 181 154 155 .none (.ref 156) (.ref 157) 158 392 393
def qnZ:Obj:=Hd.oF "is_beat" JG za8 (.ref 159)
def qpg:Obj:=Hd.oN j4 398
def qpf:Obj:=Hd.oG "first_beat" jL
def qlx:Obj:=Hd.oK "first_beat" 395 97 3 181 161 162 .none (.ref 163) (.ref 164) 165 403 404
def qft:Obj:=Hd.oF "first_beat" jL za8 (.ref 166)
def qnA:Obj:=Hd.oN zS 409
def qnO:Obj:=Hd.oG "turn_plan" jw
def qfm:Obj:=Hd.oK "turn_plan" 406 102 1 181 168 169 .none (.ref 170) (.ref 171) 172 413 414
def qfR:Obj:=Hd.oF "turn_plan" jw za8 (.ref 173)
def qkL:Obj:=Hd.oG "turned" VC
def qe9:Obj:=Hd.oK "turned" 416 111 3 181 175 176 .none .none .none 177 419 420
def qfF:Obj:=Hd.oF "turned" VC za8 (.ref 178)
def qmf:Obj:=Hd.oG "is_list_of_lists" zb
def qe4:Obj:=Hd.oK "is_list_of_lists" 424 124 1 181 180 181 .none .none .none 182 427 428
def qeZ:Obj:=Hd.oF "is_list_of_lists" zb za6 (.ref 183)
def qlg:Obj:=Hd.oG "shows_plan" jI
def qf4:Obj:=Hd.oK "shows_plan" 430 126 2 181 185 186 .none .none .none 187 433 434
def qe3:Obj:=Hd.oF "shows_plan" jI za6 (.ref 188)
def qlQ:Obj:=Hd.oN XW 441
def qnY:Obj:=Hd.oG "_law_mix" JC
def qeV:Obj:=Hd.oK "_law_mix" 438 134 2 181 190 191 .none (.ref 192) (.ref 193) 194 444 445
def qgH:Obj:=Hd.oF "_law_mix" JC za5 (.ref 195)
def qls:Obj:=Hd.oN EF 450
def qlD:Obj:=Hd.oG "_law_left" ZD
def qf1:Obj:=Hd.oK "_law_left" 447 137 2 181 197 198 .none (.ref 199) (.ref 200) 201 454 455
def qgv:Obj:=Hd.oF "_law_left" ZD za5 (.ref 202)
def qla:Obj:=Hd.oN ET 460
def qm0:Obj:=Hd.oG "_law_pick" ZK
def qga:Obj:=Hd.oK "_law_pick" 457 141 2 181 204 205 .none (.ref 206) (.ref 207) 208 463 464
def qfA:Obj:=Hd.oF "_law_pick" ZK za5 (.ref 209)
def qjI:Obj:=Hd.oN ZL 469
def qmN:Obj:=Hd.oG "_law_names" QJ
def qgk:Obj:=Hd.oK "_law_names" 466 148 2 181 211 212 .none (.ref 213) (.ref 214) 215 474 475
def qgi:Obj:=Hd.oF "_law_names" QJ za5 (.ref 216)
def qno:Obj:=Hd.oG "_law_tables" jz
def qf2:Obj:=Hd.oK "_law_tables" 477 153 2 181 218 219 .none .none .none 220 480 481
def qgs:Obj:=Hd.oF "_law_tables" jz za5 (.ref 221)
def qlm:Obj:=Hd.oN QZ 486
def qmx:Obj:=Hd.oG "_law_refused" jd
def qfg:Obj:=Hd.oK "_law_refused" 483 163 3 181 223 224 .none (.ref 225) (.ref 226) 227 493 494
def qfG:Obj:=Hd.oF "_law_refused" jd za5 (.ref 228)
def qn2:Obj:=Hd.oN zF 499
def qnG:Obj:=Hd.oG "_law_long_right" zo
def qgF:Obj:=Hd.oK "_law_long_right" 496 176 1 181 230 231 .none (.ref 232) (.ref 233) 234 506 507
def qfS:Obj:=Hd.oF "_law_long_right" zo za5 (.ref 235)
def qn7:Obj:=Hd.oG "law" VG
def qfo:Obj:=Hd.oK "law" 509 187 1 181 237 238 .none .none .none 239 512 513
def qeO:Obj:=Hd.oF "law" VG za5 (.ref 240)
def qgO (P:Params):PySem.W.BT:=(Hd.nd (PySem.W.boot_o_0 P) (Hd.nd (PySem.W.boot_o_1 P) (Hd.nd (qj5 P) (Hd.nd (PySem.W.boot_o_7 P) (Hd.nd zr (Hd.nd (qk9 P) (Hd.nd qmw (Hd.lf qqf) (Hd.lf Q5)) (Hd.nd zr (Hd.lf qnn) (Hd.lf zr))) (Hd.nd qlG (Hd.nd qhE (Hd.lf qob) (Hd.lf zr)) (Hd.nd zr (Hd.lf zr) (Hd.lf qn7)))) (Hd.nd Q5 (Hd.nd qk1 (Hd.nd qhx (Hd.lf qmX) (Hd.lf qls)) (Hd.nd qkU (Hd.lf qft) (Hd.lf Q5))) (Hd.nd Q5 (Hd.nd qjw (Hd.lf qqu) (Hd.lf qmN)) (Hd.nd Q5 (Hd.lf qe4) .nil)))) (Hd.nd zr (Hd.nd qrw (Hd.nd qnR (Hd.nd qio (Hd.lf Q5) (Hd.lf qeV)) (Hd.nd zr (Hd.lf qpg) (Hd.lf qmx))) (Hd.nd qhH (Hd.nd qi4 (Hd.lf qkg) (Hd.lf zr)) (Hd.nd qo5 (Hd.lf qfF) .nil))) (Hd.nd qip (Hd.nd qdI (Hd.nd qmR (Hd.lf qpz) (Hd.lf qgv)) (Hd.nd Q5 (Hd.lf zr) (Hd.lf qgF))) (Hd.nd qiI (Hd.nd qit (Hd.lf Q5) (Hd.lf Q5)) (Hd.nd qmt (Hd.lf qlg) .nil))))) (Hd.nd (PySem.W.boot_o_5 P) (Hd.nd (PySem.W.boot_o_9 P) (Hd.nd qrG (Hd.nd Q5 (Hd.nd qnP (Hd.lf qnq) (Hd.lf zr)) (Hd.nd qhh (Hd.lf zr) (Hd.lf qlm))) (Hd.nd zr (Hd.nd Q5 (Hd.lf Q5) (Hd.lf qga)) (Hd.nd qqb (Hd.lf qkL) (Hd.lf qeO)))) (Hd.nd zr (Hd.nd qmC (Hd.nd zr (Hd.lf zr) (Hd.lf qlD)) (Hd.nd qhV (Hd.lf Q5) (Hd.lf zr))) (Hd.nd zr (Hd.nd qjC (Hd.lf qn8) (Hd.lf qgi)) (Hd.nd zr (Hd.lf zr) .nil)))) (Hd.nd qoT (Hd.nd qhQ (Hd.nd (qhr P) (Hd.nd Q5 (Hd.lf zr) (Hd.lf zr)) (Hd.nd qmy (Hd.lf qpf) (Hd.lf qfG))) (Hd.nd ql0 (Hd.nd zr (Hd.lf zr) (Hd.lf qjI)) (Hd.nd qmb (Hd.lf Q5) .nil))) (Hd.nd qm3 (Hd.nd zr (Hd.nd qks (Hd.lf qqv) (Hd.lf Q5)) (Hd.nd qnb (Hd.lf qfm) (Hd.lf zr))) (Hd.nd zr (Hd.nd Q5 (Hd.lf zr) (Hd.lf qf2)) (Hd.nd zr (Hd.lf qe3) .nil)))))) (Hd.nd (PySem.W.boot_o_2 P) (Hd.nd (PySem.W.boot_o_4 P) (Hd.nd (PySem.W.boot_o_8 P) (Hd.nd Q5 (Hd.nd zr (Hd.nd zr (Hd.lf qof) (Hd.lf qlQ)) (Hd.nd qnV (Hd.lf qnZ) (Hd.lf Q5))) (Hd.nd qko (Hd.nd zr (Hd.lf zr) (Hd.lf qm0)) (Hd.nd Q5 (Hd.lf Q5) (Hd.lf qfo)))) (Hd.nd qjQ (Hd.nd qmn (Hd.nd qhi (Hd.lf qkb) (Hd.lf zr)) (Hd.nd qik (Hd.lf zr) (Hd.lf qn2))) (Hd.nd qkV (Hd.nd zr (Hd.lf qm8) (Hd.lf qgk)) (Hd.nd qpU (Hd.lf qeZ) .nil)))) (Hd.nd qpe (Hd.nd qpM (Hd.nd zr (Hd.nd zr (Hd.lf qpD) (Hd.lf qgH)) (Hd.nd Q5 (Hd.lf zr) (Hd.lf qfg))) (Hd.nd qkG (Hd.nd qil (Hd.lf qmZ) (Hd.lf Q5)) (Hd.nd qlJ (Hd.lf zr) .nil))) (Hd.nd qhe (Hd.nd (qm4 P) (Hd.nd zr (Hd.lf zr) (Hd.lf zr)) (Hd.nd qpX (Hd.lf qnO) (Hd.lf qfS))) (Hd.nd qiD (Hd.nd zr (Hd.lf qqi) (Hd.lf qno)) (Hd.nd qmo (Hd.lf qf4) .nil))))) (Hd.nd (PySem.W.boot_o_6 P) (Hd.nd (PySem.W.boot_o_10 P) (Hd.nd zr (Hd.nd qj9 (Hd.nd qhW (Hd.lf zr) (Hd.lf qnY)) (Hd.nd qiM (Hd.lf Q5) (Hd.lf zr))) (Hd.nd (qg4 P) (Hd.nd qol (Hd.lf qo1) (Hd.lf qfA)) (Hd.nd zr (Hd.lf qe9) .nil))) (Hd.nd qm7 (Hd.nd qjO (Hd.nd Q5 (Hd.lf Q5) (Hd.lf qf1)) (Hd.nd zr (Hd.lf qnA) (Hd.lf qnG))) (Hd.nd qli (Hd.nd qiX (Hd.lf zr) (Hd.lf zr)) (Hd.nd qpd (Hd.lf Q5) .nil)))) (Hd.nd qoO (Hd.nd zr (Hd.nd qi6 (Hd.nd qms (Hd.lf qpv) (Hd.lf Q5)) (Hd.nd zr (Hd.lf qlx) (Hd.lf zr))) (Hd.nd zr (Hd.nd Q5 (Hd.lf Q5) (Hd.lf zr)) (Hd.nd zr (Hd.lf qmf) .nil))) (Hd.nd qdI (Hd.nd Q5 (Hd.nd qho (Hd.lf qlN) (Hd.lf qla)) (Hd.nd qlI (Hd.lf qfR) (Hd.lf Q5))) (Hd.nd Q5 (Hd.nd qkP (Hd.lf qpo) (Hd.lf qgs)) (Hd.nd Q5 (Hd.lf zr) .nil)))))))
abbrev qgy:List Stmt:=(qbC.drop 15).take 26
set_option maxRecDepth 100000 in
set_option maxHeartbeats 0 in
def qlh (w : World) (os : OsState) : PySem.W.segRunT treeTable PySem.Challenge.pw_bankwalk_k73_known_plans w 11 (some (Value.ref 6)) 1 688 (⟨qkc w.params,106,{ },#[],{ },322,os⟩ : PySem.W.SharedT) (PySem.W.piecesOf qgy qkZ R0 ⟨45,0,55,52⟩ qly) = some (.next,(⟨qgO w.params,242,{ },#[],{ },515,os⟩ : PySem.W.SharedT),R0,⟨187,0,201,15⟩) := by kernel_rfl
abbrev qhC (P:Params):Heap:=PySem.W.absHeap (qgO P) 242 { }
def Kf (P:Params):PySem.W.Frag:=[(3,qj5 P),(20,qpM),(21,qhQ),(27,qip),(28,qhe),(37,qhr P),(38,qi6),(50,qg4 P),(51,qhH),(59,qiI),(60,qiD),(66,qhW),(67,qio),(71,qhx),(72,qhi),(78,qho),(79,qhE),(83,qi4),(84,qil),(90,qiX),(91,qit),(97,qhh),(98,qiM),(104,qik),(105,qhV),(109,qnb),(110,qlI),(116,qlJ),(117,qmb),(123,qmt),(124,qmo),(128,qof),(129,qnq),(135,qmX),(136,qkb),(142,qlN),(143,qob),(147,qkg),(148,qmZ),(152,qm8),(153,qn8),(159,qnn),(160,qnZ),(166,qlx),(167,qft),(173,qfm),(174,qfR),(178,qe9),(179,qfF),(183,qe4),(184,qeZ),(188,qf4),(189,qe3),(195,qeV),(196,qgH),(202,qf1),(203,qgv),(209,qga),(210,qfA),(216,qgk),(217,qgi),(221,qf2),(222,qgs),(228,qfg),(229,qfG),(235,qgF),(236,qfS),(240,qfo),(241,qeO)]
def qnx {l:PySem.W.OpenLaw} {w:World} {h:Heap} {mg:Str->Option Value} {fa:Addr} (X:(Kf w.params).In h) (G:h.Ns mainGlobals mg) (hfa:mg "law" = some (.ref fa)) :
  ∃ fd:FuncData,(∀ (s:Shared) (v:Value),BindsTo s fd ⟨[v],[]⟩ [("_law_script",v)])/\∀ base:Heap,(Kf w.params).In base->base.Ns mainGlobals mg->FnOk l.prog w (Kf w.params) mg base CX0 14 fa fd ["_law_script"] (lSp (Kf w.params) CW):=by
 have e:=hfa.symm.trans (Hd.qeL X G "law" (.ref 241) (by kernel_rfl));cases e;have E0:=Hd.e X G "is_number" jZ UH 21 zb0 (.ref 20);have E1:=Hd.e X G "is_pair" JI WQ 28 zb0 (.ref 27);have E2:=Hd.e X G "size_of" JJ WW 60 za7 (.ref 59);have E3:=Hd.e X G "number_of" j7 UK 67 za7 (.ref 66);have E4:=Hd.e X G "all_words" QG UQ 72 za7 (.ref 71);have E5:=Hd.e X G "odd_in_common" zE Q6 79 za7 (.ref 78);have E6:=Hd.e X G "bits_bank" j3 UU 84 za7 (.ref 83);have E7:=Hd.e X G "parted" YW SF 91 za7 (.ref 90);have E8:=Hd.e X G "joined_bank" jb J8 98 za7 (.ref 97);have E9:=Hd.e X G "bank_in" JH XI 105 za7 (.ref 104);have E10:=Hd.e X G "rests_spots" jc JN 110 za9 (.ref 109);have E11:=Hd.e X G "counted_spots" zD ZB 117 za9 (.ref 116);have E12:=Hd.e X G "spots_of" Q7 EQ 124 za9 (.ref 123);have E13:=Hd.e X G "filled" YV R5 129 za9 (.ref 128);have E14:=Hd.e X G "is_square" QH UM 136 za8 (.ref 135);have E15:=Hd.e X G "refuse_not_square" qG zy 143 za8 (.ref 142);have E16:=Hd.e X G "all_pairs" QF UO 148 za8 (.ref 147);have E17:=Hd.e X G "beat_banks" jQ YG 153 za8 (.ref 152);have E18:=Hd.e X G "is_beat" JG W2 160 za8 (.ref 159);have E19:=Hd.e X G "first_beat" jL YM 167 za8 (.ref 166);have E20:=Hd.e X G "turn_plan" jw J4 174 za8 (.ref 173);have E21:=Hd.e X G "turned" VC SC 179 za8 (.ref 178);have E22:=Hd.e X G "is_list_of_lists" zb jG 184 za6 (.ref 183);have E23:=Hd.e X G "shows_plan" jI YO 189 za6 (.ref 188);have E24:=Hd.e X G "_law_mix" JC XY 196 za5 (.ref 195);have E25:=Hd.e X G "_law_left" ZD EI 203 za5 (.ref 202);have E26:=Hd.e X G "_law_pick" ZK EZ 210 za5 (.ref 209);have E27:=Hd.e X G "_law_names" QJ UG 217 za5 (.ref 216);have E28:=Hd.e X G "_law_tables" jz YK 222 za5 (.ref 221);have E29:=Hd.e X G "_law_refused" jd JM 229 za5 (.ref 228);have E30:=Hd.e X G "_law_long_right" zo QN 236 za5 (.ref 235);have F31:=Hd.qpk (K:=Kf w.params) "law" VG 241 za5 (.ref 240) (by kernel_rfl) (by kernel_rfl) (by kernel_rfl);have k_51:ExK (Kf w.params) 51:=⟨by kernel_rfl,by kernel_rfl,by kernel_rfl,by kernel_rfl,by kernel_rfl,by kernel_rfl⟩
 have g0:=Hd.no X G "isinstance";have g1:=Hd.no X G "bool";have g2:=Hd.no X G "int";have g3:=Hd.no X G "len";have g4:=Hd.no X G "tuple";have g5:=Hd.no X G "range";have g6:=Hd.no X G "enumerate";have g7:=Hd.no X G "sum";have g8:=Hd.no X G "zip";have g9:=Hd.no X G "set";have g10:=Hd.no X G "list";have g11:=Hd.no X G "all";have g12:=Hd.no X G "sorted";have g13:=Hd.no X G "abs";have g14:=Hd.qeL X G "BankError" (.ref 38) (by kernel_rfl);have g15:=Hd.qeL X G "NotSquare" (.ref 51) (by kernel_rfl);have g16:XD (Kf w.params) [.ref 51] [(none,false),(some 51,true)]:=XD.cons (λ_ z=>nomatch z) (by kernel_rfl) (XD.cons (λ_ z=>by cases z;exact k_51) (by kernel_rfl) XD.nil);have g17:=Hd.no X G "str";have g18:=Hd.no X G "min";refine ⟨PySem.W.fnOf "law" "law" (qS VG) (qz VG) (qf VG) .none .none .none za5 none (.ref 240) .none,λs v=>.of_eq rfl,λbase Xb _=>?_⟩;have g19:ExC base 38 [.ref 38,.type "ValueError",.type "Exception",.type "BaseException",.type "object"]:=Hd.qor Xb (by kernel_rfl);have g20:∀ C∈[51],Ct base 38 C:=Hd.qhc (Hd.qor (K:=Kf w.params) (C:=51) (mro:=[.ref 51,.ref 38,.type "ValueError",.type "Exception",.type "BaseException",.type "object"]) Xb (by kernel_rfl)) (by kernel_rfl) (λ_ z=>nomatch z);have g21:RaX mg base "NotSquare" 51:=Hd.qp7 (nm:="NotSquare") (N:=50) (bs:=[.ref 38]) (bm:=[.ref 38,.type "ValueError",.type "Exception",.type "BaseException",.type "object"]) (sub:=[]) (tb:=42) (t1:=223) (t2:=231) Xb (Hd.qeL X G "NotSquare" (.ref 51) (by kernel_rfl)) (by kernel_rfl) (by kernel_rfl) (by kernel_rfl) (by kernel_rfl);have O22:=S9 (P:=l.prog) (w:=w) (base:=base) (k:=0) g0 g1 g2 E0 SU;have O23:=qaf g0 O22 g3 g4 E1 qay;have O24:=D8 (P:=l.prog) (w:=w) (base:=base) (k:=0)  E5 DW;have O25:=KJ O24 g6 g7 E6 S5;have O26:=qda (P:=l.prog) (w:=w) (base:=base) (k:=0)  E7 qc2;have O27:=X5 (P:=l.prog) (w:=w) (base:=base) (k:=0) g5 E10 CF;have O28:=UB (P:=l.prog) (w:=w) (base:=base) (k:=0) g0 g10 g11 E22 UR;have O29:=N4 (P:=l.prog) (w:=w) (base:=base) (k:=0)  E24 qac;have O30:=MD (P:=l.prog) (w:=w) (base:=base) (k:=0) g3 g13 E25 MC;have O31:=LZ O29 E26 LQ;have O32:=KP g3 g5 g10 O31 E27 KC;have O33:=SQ g2 g4 g5 O32 E28 SK;have O34:=RM (P:=l.prog) (w:=w) (base:=base) E2.F E2.b E2.m;have O35:=ES g3 O34 E2 (EJ 0);have O36:=ES g3 O35 E2 (EJ 1);have O37:=ES g3 O36 E2 (EJ 2);have O38:=S4 O37 g5 E4 K8;have O39:=K0 O37 E14 TL;have O40:=VV O39 E15 VW;have O41:=KA O37 g5 E16 K3;have O42:=YN O35 E3 (YX 0);have O43:=YN O36 E3 (YX 1);have O44:=YN O37 E3 (YX 2);have O45:=RM (P:=l.prog) (w:=w) (base:=base) E9.F E9.b E9.m;have O46:=Z6 O35 O26 (O45.mono (by decide)) E8 (Z7 0);have O47:=U9 O42 O25 O46 E9 (EK 0);have O48:=Z6 (O36.mono (by decide)) (O26.mono (by decide)) O47 E8 (Z7 1);have O49:=U9 (O43.mono (by decide)) (O25.mono (by decide)) O48 E9 (EK 1);have O50:=Z6 (O37.mono (by decide)) (O26.mono (by decide)) O49 E8 (Z7 2);have O51:=U9 (O44.mono (by decide)) (O25.mono (by decide)) O50 E9 (EK 2);have O52:=DY O51 (O38.mono (by decide)) E11 DQ;have O53:=ML (O27.mono (by decide)) O52 E12 LW;have O54:=qcF g3 (O37.mono (by decide)) g5 O53 g8 E13 qbj;have O55:=SL O51 E17 SM;have O56:=qat g3 O55 g9 E18 qav;have O57:=RH g3 g6 O56 E19 SB;have O58:=T1 g3 (O40.mono (by decide)) (O41.mono (by decide)) O57 E20 KM;have O59:=Pu.Fn3.pz (RM (P:=l.prog) (w:=w) (base:=base) E21.F E21.b E21.m) false;have O60:=SI (O39.mono (by decide)) O56 (O41.mono (by decide)) g11 (O28.mono (by decide)) (O23.mono (by decide)) g12 E23 RZ;have O61:=YR O39 g21 E15 VX;have O62:=C9 O61 E20 KL;have O63:=qaw O61 E21 qb1;have O64:=X8 g0 g5 O58 (O59.mono (by decide)) (O62.mono (by decide)) (O63.mono (by decide)) g14 g19 g20 g15 g16 E29 X9;have O65:=DC g5 g10 (O31.mono (by decide)) (O54.mono (by decide)) O64 (O60.mono (by decide)) g17 E30 EL;exact qnk (k:=13) g2 g3 g5 (O31.mono (by decide)) (O58.mono (by decide)) (O60.mono (by decide)) (O30.mono (by decide)) (O33.mono (by decide)) O65 g18 F31 (qlu qkK)
set_option maxRecDepth 100000 in
set_option maxHeartbeats 0 in
def qnI (w : World) (os : OsState) : PySem.W.topRun treeTable PySem.Challenge.pw_bankwalk_k73_known_plans w 11 (some (Value.ref 6)) 2 (⟨qgO w.params,242,{ },#[],{ },515,os⟩ : PySem.W.SharedT).abs (PySem.W.restOf [] qkZ R0 ⟨187,0,201,15⟩ qly) = some ⟨qhC w.params,#[],{ },515,os⟩ := by kernel_rfl
def qo7:(qgq++(qgy++[]))=qbC:=by kernel_rfl
set_option maxRecDepth 100000 in
set_option maxHeartbeats 0 in
def qh1 (w : World) (os : OsState) : PySem.W.topRun treeTable PySem.Challenge.pw_bankwalk_k73_known_plans w 11 (some (Value.ref 6)) (12 + (1 + (738 + (688 + 2)))) ⟨PySem.W.boot_heap w.params,Array.mk [],PySem.W.boot_drawn,PySem.W.boot_toks,os⟩ (PySem.W.topStub PySem.Challenge.pw_bankwalk_k73_known_plans) = some ⟨qhC w.params,#[],{ },515,os⟩ := by
 have h:=(PySem.W.piece_app (PySem.W.segRun_of (qlf w os)) (PySem.W.piece_app (PySem.W.segRun_of (qlh w os)) (qnI w os)))
 rw [qo7] at h;exact PySem.W.go_top (qm1 w os) (PySem.W.piece_block (qlz w os) h)
abbrev Q : Program := PySem.W.view PySem.Challenge.pw_bankwalk_k73_known_plans [1,2,4,5,7,8,9,10,11,12,13,14,16,17,18,19,21,22,23,24,25,26,27,28,30,31,33,34,35,36,37,38,39,40]
set_option maxRecDepth 100000 in
set_option maxHeartbeats 0 in
def left : PySem.W.LeftO PySem.Challenge.pw_bankwalk_k73_known_plans Q [] (λs => PySem.W.xlAt Q [] s && PySem.W.recOk [] s) (λs => ([3,20,21,27,28,37,38,50,51,59,60,66,67,71,72,78,79,83,84,90,91,97,98,104,105,109,110,116,117,123,124,128,129,135,136,142,143,147,148,152,153,159,160,166,167,173,174,178,179,183,184,188,189,195,196,202,203,209,210,216,217,221,222,228,229,235,236,240,241] : List Addr).map s.heap.get?) (λw => (Kf w.params).map λp => some p.2) 2974 :=
 PySem.W.LeftO.of_pieces (H₀:=PySem.W.boot_heap) (H₁:=qhC) (gs₀:=Array.mk []) (gs₁:=#[]) (d₀:=PySem.W.boot_drawn) (d₁:={ }) (k₀:=PySem.W.boot_toks) (k₁:=515) (m₀:=11) (ann:=some (Value.ref 6)) (M:=(12+(1+(738+(688+2)))))
  (PySem.W.boot_open (by kernel_rfl) (by kernel_rfl) (λs=>by kernel_rfl)) (λw=>by kernel_rfl) qh1 (by kernel_rfl) (λw=>by kernel_rfl)
end K73
open PySem PySem.W PyProof.Rows
set_option maxRecDepth 100000 in
set_option maxHeartbeats 0 in
def qsi : PySem.Challenge.rw_bankwalk_k73_known_plans.row.wellSaid = true := by kernel_rfl
set_option maxRecDepth 100000 in
set_option maxHeartbeats 0 in
def qr2 : PySem.Challenge.rw_bankwalk_k73_known_plans.wellSaid = true := by
 unfold PySem.W.OpenLaw.wellSaid;rw [qsi]
 kernel_rfl
set_option maxRecDepth 100000 in
set_option maxHeartbeats 0 in
theorem PySem.Challenge.cw_bankwalk_k73_known_plans_holds : PySem.Challenge.rw_bankwalk_k73_known_plans.Holds :=
 Hd.head (l := PySem.Challenge.rw_bankwalk_k73_known_plans) (q := K73.Q) (loose := []) (K := K73.Kf) (as := [3,20,21,27,28,37,38,50,51,59,60,66,67,71,72,78,79,83,84,90,91,97,98,104,105,109,110,116,117,123,124,128,129,135,136,142,143,147,148,152,153,159,160,166,167,173,174,178,179,183,184,188,189,195,196,202,203,209,210,216,217,221,222,228,229,235,236,240,241]) (N := 2974) (k := 14) (x := "_law_script")
  (d:=⟨"law",L2.qS K73.VG,L2.qz K73.VG,L2.qf K73.VG,⟨187,0,201,15⟩⟩) (λ_=>by kernel_rfl) qr2 K73.left (by kernel_rfl) (by kernel_rfl) (by kernel_rfl) (by kernel_rfl) (by kernel_rfl)
  ⟨rfl,rfl,rfl,rfl,rfl,by decide +kernel⟩ (by w_witness2) rfl (by kernel_rfl) ⟨rfl,by decide,by decide,rfl⟩ (λw=>by kernel_rfl) λw mg fa h KX G hmg=>K73.qnx KX G hmg
