import PyProof.Rows.All
import Wide.All
import OpenK.AllK
import Wide.FinOn
import Lean
import PyProof.EqAt
import PyProof.EqKinds
import PyProof.TupleCall
import KE.KLam
import PyProof.NeKinds
import KE.KNestM
import KE.KRevSl
import PyProof.FactsAll.bool_2
import PyProof.Rows.EqBoolInt
import PyProof.Rows.IntBool
import KE.KDictSum
import PySem.Challenge.RW_bankwalk_k47_papers_of_no_image
-- CHANGE: your row's module here,as the last of these rows
set_option Elab.async false
set_option genSizeOf false
set_option genInjectivity false
noncomputable section
theorem x5:type_of% @List.getElem_cons_zero.{0}:=@List.getElem_cons_zero.{0}
theorem x6:type_of% @List.getElem_cons_succ.{0}:=@List.getElem_cons_succ.{0}
theorem x8:type_of% @PySem.wpAny_bind:=@PySem.wpAny_bind
theorem x9:type_of% @PySem.wpAny_pure:=@PySem.wpAny_pure
theorem y0:type_of% @PySem.wpAny_mono:=@PySem.wpAny_mono
theorem y2:type_of% @PySem.Heap.get?_push_of_some:=@PySem.Heap.get?_push_of_some
theorem y3:type_of% @PySem.Heap.get?_push_size:=@PySem.Heap.get?_push_size
theorem y4:type_of% @PySem.Heap.lt_size:=@PySem.Heap.lt_size
theorem y6:type_of% @Bool.false_ne_true:=@Bool.false_ne_true
theorem y8:type_of% @PySem.sizeLine_eq:=@PySem.sizeLine_eq
theorem y9:type_of% @List.getElem?_eq_getElem.{0}:=@List.getElem?_eq_getElem.{0}
theorem v4:type_of% @Nat.zero_lt_succ:=@Nat.zero_lt_succ
theorem v5:type_of% @Nat.le_refl:=@Nat.le_refl
theorem v6:type_of% @List.mem_cons_of_mem.{0}:=@List.mem_cons_of_mem.{0}
theorem v7:type_of% @List.mem_append_right.{0}:=@List.mem_append_right.{0}
theorem v8:type_of% @Nat.lt_of_lt_of_le:=@Nat.lt_of_lt_of_le
theorem v9:type_of% @List.mem_of_getElem?.{0}:=@List.mem_of_getElem?.{0}
theorem u3:type_of% @Nat.le_trans:=@Nat.le_trans
theorem u4:type_of% @Nat.ne_of_lt:=@Nat.ne_of_lt
theorem u5:type_of% @Nat.lt_add_one:=@Nat.lt_add_one
theorem u6:type_of% @List.mem_cons_self.{0}:=@List.mem_cons_self.{0}
theorem u7:type_of% @decide_eq_false:=@decide_eq_false
theorem u8:type_of% @decide_eq_true:=@decide_eq_true
def u9{α β:Type}{b:β}{f:α->β}{o:Option α}(h:o.map f=some b):=Option.map_eq_some_iff.mp h
def za0{α:Type}{l:List α}{i:Nat}{a:α}(h:l[i]?=some a):=List.getElem?_eq_some_iff.mp h
abbrev za1:PySem.Value:=.str "law_bankwalk_k47_papers_of_no_image" 318
abbrev za2:PySem.Value:=.str "bankwalk.maskcheck" 295
abbrev za3:PySem.Value:=.str "bankwalk.masks" 221
abbrev Frg:=PySem.W.Frag
open List (length_cons getElem?_cons_succ getElem?_cons_zero length_nil set_cons_zero set_cons_succ length_map not_mem_nil map_cons mem_cons getElem?_set getElem?_map cons_append size_toArray map_map mem_map length_append getD_eq_getElem?_getD mem_range length_range)
def obb{α β:Type _}{o:Option α}{f:α->Option β}{b:β}(h:o.bind f=some b):∃a,o=some a/\f a=some b:=Option.bind_eq_some_iff.mp h
set_option linter.all false
set_option maxRecDepth 100000
namespace L2
open PySem PySem.Spec PyProof.Rows
abbrev Key:=Sum Int Str
def qit:Key->Value->Bool
 |.inl k,v=>Value.isInt k v
 |.inr x,v=>Value.isStrOf x v
def qm5 (w:World):Key->Int
 |.inl k=>hashInt k
 |.inr x=>hashStr w x
def qL:∀ {k:Key} {v:Value},qit k v=true->(∃ i t,k=Sum.inl i/\v=Value.int i t)\/(∃ x t,k=Sum.inr x/\v=Value.str x t)
 |.inl i,v,h=>by
  obtain ⟨t,e⟩:=Value.isInt_shape (k:=i) (v:=v) h;exact .inl ⟨i,t,rfl,e⟩
 |.inr x,v,h=>by
  obtain ⟨t,e⟩:=Value.isStrOf_shape (x:=x) (v:=v) h;exact .inr ⟨x,t,rfl,e⟩
def qiI (a b:Int):decide ((Sum.inl a:Key)=Sum.inl b)=(a==b):=by
 by_cases e:a=b
 ·subst e;simp
 ·have h:¬ (Sum.inl a:Key)=Sum.inl b:=λq=>e (Sum.inl.inj q);rw [u7 h];exact (beq_eq_false_iff_ne.mpr e).symm
def qhy (a b:Str):decide ((Sum.inr a:Key)=Sum.inr b)=decide (a=b):=by
 by_cases e:a=b
 ·subst e;simp
 ·have h:¬ (Sum.inr a:Key)=Sum.inr b:=λq=>e (Sum.inr.inj q);rw [u7 h,u7 e]
def qhm (a:Int) (b:Str):decide ((Sum.inl a:Key)=Sum.inr b)=false:=u7 (λq=>nomatch q)
def qiJ (a:Str) (b:Int):decide ((Sum.inr a:Key)=Sum.inl b)=false:=u7 (λq=>nomatch q)
def qaK (prog:Program) (w:World):PySem.KeyKind prog w Key where
 is:=qit
 hash:=qm5 w
 inj:=λv a b ha hb=>by
  rcases qL ha with ⟨i,t,rfl,rfl⟩|⟨x,t,rfl,rfl⟩
  ·rcases qL hb with ⟨j,u,rfl,e⟩|⟨y,u,rfl,e⟩
   ·injection e with e1 _;rw [e1]
   ·exact nomatch e
  ·rcases qL hb with ⟨j,u,rfl,e⟩|⟨y,u,rfl,e⟩
   ·exact nomatch e
   ·injection e with e1 _;rw [e1]
 byValue:=λk v h=>by
  rcases qL h with ⟨i,t,rfl,rfl⟩|⟨x,t,rfl,rfl⟩<;>rfl
 pyHash:=λhv h=>by
  rcases qL hv with ⟨i,t,rfl,rfl⟩|⟨x,t,rfl,rfl⟩
  ·exact wpAny_pyHash_int h
  ·exact wpAny_pyHash_str h
 eqBool:=λhu hv h=>by
  rcases qL hu with ⟨i,t,rfl,rfl⟩|⟨x,t,rfl,rfl⟩
  ·rcases qL hv with ⟨j,u,rfl,rfl⟩|⟨y,u,rfl,rfl⟩
   ·rw [qiI] at h;exact wpAny_eqBool_int h
   ·rw [qhm] at h;exact SeqAt.EqAt.int_str i t y u _ _ _ _ h
  ·rcases qL hv with ⟨j,u,rfl,rfl⟩|⟨y,u,rfl,rfl⟩
   ·rw [qiJ] at h;exact SeqAt.EqAt.str_int x t j u _ _ _ _ h
   ·rw [qhy] at h;exact wpAny_eqBool_str h
 «strs»:=λk x t v h=>by
  rcases qL h with ⟨i,u,rfl,e⟩|⟨y,u,rfl,e⟩
  ·exact nomatch e
  ·injection e with e1 _;subst e1;cases v<;>rfl
set_option genInjectivity true in
inductive V where
 |non|bl (b:Bool)|int (i:Int)|str (x:Str)|byt (b:Array UInt8)|flt (b:UInt64)|ref (a:Addr)|ty (n:String)
 deriving DecidableEq
def zT:V->Value->Prop
 |.non,u=>u=Value.none
 |.bl b,u=>u=Value.bool b
 |.int i,u=>∃ t,u=Value.int i t
 |.str x,u=>∃ t,u=Value.str x t
 |.byt b,u=>∃ t,u=Value.bytes b t
 |.flt b,u=>∃ t,u=Value.float b t
 |.ref a,u=>u=Value.ref a
 |.ty n,u=>u=Value.type n
abbrev qQ:List V->List Value->Prop:=Paired zT
theorem qQ.length {xs:List V} {us:List Value} (r:qQ xs us):xs.length=us.length:=Paired.length r
theorem qQ.get:∀ {xs:List V} {us:List Value} {i:Nat} {x:V},qQ xs us->xs[i]?=some x->∃ u,us[i]?=some u/\zT x u
 |_,_,_,_,.nil,e=>by simp at e
 |_,_,0,_,.cons r _,e=>by simp at e;subst e;exact ⟨_,rfl,r⟩
 |_,_,i+1,x,.cons _ t,e=>by
  obtain ⟨u,h1,h2⟩:=qQ.get (i:=i) (x:=x) t (by simpa using e);exact ⟨u,by simpa using h1,h2⟩
theorem qQ.set {x:V} {u:Value} (r:zT x u):∀ {xs:List V} {us:List Value} (i:Nat),qQ xs us->qQ (xs.set i x) (us.set i u)
 |_,_,_,.nil=>.nil
 |_,_,0,.cons _ t=>.cons r t
 |_,_,i+1,.cons q t=>.cons q (qQ.set r i t)
theorem qQ.append:∀ {xs ys:List V} {us ws:List Value},qQ xs us->qQ ys ws->qQ (xs++ys) (us++ws)
 |_,_,_,_,.nil,s=>s
 |_,_,_,_,.cons r t,s=>.cons r (qQ.append t s)
theorem qQ.take:∀ {xs:List V} {us:List Value} (n:Nat),qQ xs us->qQ (xs.take n) (us.take n)
 |_,_,0,_=>.nil
 |_,_,_+1,.nil=>.nil
 |_,_,n+1,.cons r t=>.cons r (qQ.take n t)
theorem qQ.drop:∀ {xs:List V} {us:List Value} (n:Nat),qQ xs us->qQ (xs.drop n) (us.drop n)
 |_,_,0,r=>r
 |_,_,_+1,.nil=>.nil
 |_,_,n+1,.cons _ t=>qQ.drop n t
def ql3:Option V->Option Value->Prop
 |some v,some u=>zT v u
 |none,none=>True
 |_,_=>False
def KV {κ:Type}:List (κ×V)->List (κ×Value)->Prop:=Paired λ(p:κ×V) (q:κ×Value)=>p.1=q.1/\zT p.2 q.2
def kV:Key->V
 |.inl i=>.int i
 |.inr x=>.str x
inductive HO where
 /-- a list -/
 |lst (xs:List V)
 /-- a tuple (never changes) -/
 |tup (xs:List V)
 /-- a dict whose keys are ints and texts;one whose keys are tuples of ints and texts (the empty one is both) -/
 |dK (kvs:List (Key×V))|dT (kvs:List (List Key×V))
 /-- a set of ints: its members,its size -/
 |set (S:Int->Bool) (n:Nat)
 /-- an instance of the class at C,its dict at dx,its attributes -/
 |ins (C dx:Addr) (fs:List (Str×V))
 /-- the dict of the instance at x -/
 |own (x:Addr)
 /-- the dict of an exception -/
 |xd (fs:List (Str×V))
 /-- a bound method,f of x -/
 |met (f x:Addr)
 /-- a range object lo,lo+1,.. below hi -/
 |rng (lo hi:Int)
 /-- a thing that is known to the object (the script;a dict while a loop walks it): read,never written while it is so -/
 |frz (o:Obj) (u:HO)
 /-- a code object's table -/
 |tbl (ps:Array Value)
 /-- any other thing,by what is true of its one object (a def of one's own: SetO a S n:=HO.ext λh=>..) -/
 |ext (φ:Heap->Prop)
abbrev Hp:=Addr->Option HO
def upd (H:Hp) (a:Addr) (o:HO):Hp:=λb=>if b=a then some o else H b
def qG {H:Hp} {a:Addr} {o:HO}:upd H a o a=some o:=by unfold upd;rw [if_pos rfl]
def qm {H:Hp} {a b:Addr} {o:HO} (h:b≠a):upd H a o b=H b:=by unfold upd;rw [if_neg h]
def qr {H:Hp} {a b:Addr} {o:HO} (h:H a=some o) (h':H b=none):a≠b:=by
 intro e;subst e;rw [h] at h';cases h'
def YR (h:Heap) (a:Addr) (items:Array Value):Prop:=∃ o,h.get? a=some o/\o.cls=.type "tuple"/\∃ n,o.data=.seq items n/\o.dict=none
def YR.tup {h:Heap} {a:Addr} {items:Array Value} (x:YR h a items):IsTup h a items:=let ⟨o,a,b,n,d,_⟩:=x;⟨o,a,b,n,d⟩
def YR.new (h:Heap) (items:Array Value):YR (h.push { cls:=.type "tuple",data:=.seq items }) h.objs.size items:=⟨_,y3 _ rfl,rfl,_,rfl,rfl⟩
section
variable (P:Program) (w:World)
def ZZ (H:Hp) (h:Heap) (a:Addr):HO->Prop
 |.lst xs=>xs.length<=sizeLine/\∃ (its:List Value) (n:Nat),qQ xs its/\h.get? a=some { cls:=.type "list",data:=.seq its.toArray n }
 |.tup xs=>xs.length<=sizeLine/\∃ its:List Value,qQ xs its/\YR h a its.toArray
 |.dK kvs=>kvs.length<=sizeLine/\(a==sysModules)=false/\∃ vs,KV kvs vs/\h.DictOf (qaK P w) a vs
 |.dT kvs=>kvs.length<=sizeLine/\(a==sysModules)=false/\∃ xs:List (List Key×Addr×Value),
   Paired (λ(p:List Key×V) (q:List Key×Addr×Value)=>p.1=q.1/\H q.2.1=some (.tup (p.1.map kV))/\zT p.2 q.2.2) kvs xs /\
   ∃ o es ep,h.get? a=some o/\o.ExactDict/\o.data=.dict es ep/\es.toList=xs.map (entryOfKey (tupleKind (qaK P w)))/\(xs.map (·.1)).Nodup
 |.set S n=>h.SetOf (intKind P w) a S n
 |.ins C dx fs=>H dx=some (.own a)/\fs.length<=1000/\dx≠a/\h.get? a=some (PySem.W.instObj C dx) /\
   ∃ mA,h.Ns1 dx mA/\(∀ f,ql3 (fs.lookup f) (mA f))/\PySem.Within mA (fs.map (·.1))
 |.own _=>∃ o,h.get? a=some o
 |.xd fs=>∃ mA,h.Ns1 a mA/\∀ f,ql3 (fs.lookup f) (mA f)
 |.rng lo hi=>∃ t u v,h.get? a=some { cls:=.type "range",data:=.fields #[.int lo t,.int hi u,.int 1 v] }
 |.frz o u=>h.get? a=some o/\ZZ H h a u
 |.tbl ps=>h.get? a=some { cls:=.none,data:=.fields ps }
 |.met f x=>h.get? a=some (PySem.W.methodObj (.ref f) (.ref x))
 |.ext φ=>φ h/\(∃ o,h.get? a=some o)/\∀ h1 h2:Heap,φ h1->(∀ o,h1.get? a=some o->h2.get? a=some o)->φ h2
def HOk (H:Hp) (h:Heap):Prop:=∀ a o,H a=some o->ZZ P w H h a o
end
section
variable {P:Program} {w:World} {H H':Hp} {h h':Heap} {a:Addr} {o:HO}
theorem ZZ.lt (x:ZZ P w H h a o):a<h.objs.size:=by
 cases o with
 |lst xs=>obtain ⟨_,_,_,_,e⟩:=x;exact y4 e
 |tup xs=>obtain ⟨_,_,_,p⟩:=x;exact p.tup.lt
 |dK kvs=>obtain ⟨_,_,_,_,o,_,_,e,_⟩:=x;exact y4 e
 |dT kvs=>obtain ⟨_,_,_,_,o,_,_,e,_⟩:=x;exact y4 e
 |set S n=>obtain ⟨o,_,_,_,e,_⟩:=x;exact y4 e
 |ins C dx fs=>obtain ⟨_,_,_,e,_⟩:=x;exact y4 e
 |own y=>obtain ⟨_,e⟩:=x;exact y4 e
 |xd fs=>obtain ⟨_,⟨_,_,_,e,_⟩,_⟩:=x;exact y4 e
 |rng lo hi=>obtain ⟨_,_,_,e⟩:=x;exact y4 e
 |frz ob u=>obtain ⟨e,_⟩:=x;exact y4 e
 |tbl ps=>exact y4 (show h.get? a=some _ from x)
 |met f y=>exact y4 (show h.get? a=some _ from x)
 |ext φ=>obtain ⟨_,⟨_,e⟩,_⟩:=x;exact y4 e
theorem Paired.mapP {α β:Type} {F G:α->β->Prop}:∀ {l₁:List α} {l₂:List β},Paired F l₁ l₂->(∀ a b,F a b->G a b)->Paired G l₁ l₂
 |_,_,.nil,_=>.nil
 |_,_,.cons r t,f=>.cons (f _ _ r) (Paired.mapP t f)
def ZZ.stay (x:ZZ P w H h a o) (k:∀ b u,(b=a\/H b=some (.own a))->h.get? b=some u->h'.get? b=some u)
  (ho:∀ b,H b=some (.own a)->H' b=some (.own a)) (ht:∀ b xs,H b=some (.tup xs)->H' b=some (.tup xs)):ZZ P w H' h' a o:=by
 induction o with
 |lst xs=>obtain ⟨z,its,n,r,e⟩:=x;exact ⟨z,its,n,r,k _ _ (.inl rfl) e⟩
 |tup xs=>obtain ⟨z,its,r,ob,e,c⟩:=x;exact ⟨z,its,r,ob,k _ _ (.inl rfl) e,c⟩
 |dK kvs=>obtain ⟨z,y,vs,r,ob,es,ep,e,c⟩:=x;exact ⟨z,y,vs,r,ob,es,ep,k _ _ (.inl rfl) e,c⟩
 |dT kvs=>
  obtain ⟨z,y,xs,r,ob,es,ep,e,c⟩:=x;exact ⟨z,y,xs,Paired.mapP r λp q z=>⟨z.1,ht _ _ z.2.1,z.2.2⟩,ob,es,ep,k _ _ (.inl rfl) e,c⟩
 |set S n=>obtain ⟨ob,es,ep,t,e,c⟩:=x;exact ⟨ob,es,ep,t,k _ _ (.inl rfl) e,c⟩
 |ins C dx fs=>
  obtain ⟨d,z,ne,e,mA,⟨od,es,ep,e2,c⟩,r⟩:=x;exact ⟨ho _ d,z,ne,k _ _ (.inl rfl) e,mA,⟨od,es,ep,k _ _ (.inr d) e2,c⟩,r⟩
 |own y=>obtain ⟨ob,e⟩:=x;exact ⟨ob,k _ _ (.inl rfl) e⟩
 |xd fs=>obtain ⟨mA,⟨od,es,ep,e,c⟩,r⟩:=x;exact ⟨mA,⟨od,es,ep,k _ _ (.inl rfl) e,c⟩,r⟩
 |rng lo hi=>obtain ⟨t,u,v,e⟩:=x;exact ⟨t,u,v,k _ _ (.inl rfl) e⟩
 |frz ob u ih=>obtain ⟨e,q⟩:=x;exact ⟨k _ _ (.inl rfl) e,ih q⟩
 |tbl ps=>
  have e:h.get? a=some { cls:=.none,data:=.fields ps }:=x;show h'.get? a=some { cls:=.none,data:=.fields ps };exact k a _ (.inl rfl) e
 |met f y=>
  have e:h.get? a=some (PySem.W.methodObj (.ref f) (.ref y)):=x;show h'.get? a=some (PySem.W.methodObj (.ref f) (.ref y));exact k a _ (.inl rfl) e
 |ext φ=>obtain ⟨p,⟨o,e⟩,st⟩:=x;exact ⟨st _ _ p λo q=>k _ _ (.inl rfl) q,⟨o,k _ _ (.inl rfl) e⟩,st⟩
theorem HOk.lt (x:HOk P w H h) (e:H a=some o):a<h.objs.size:=(x a o e).lt
def HOk.fresh (x:HOk P w H h) (e:h.objs.size<=a):H a=none:=by
 cases q:H a with
 |none=>rfl
 |some u=>exact absurd (v8 (x.lt q) e) (Nat.lt_irrefl _)
def HOk.kept (x:HOk P w H h) (k:∀ b u,h.get? b=some u->h'.get? b=some u):HOk P w H h':=λa o e=>
 (x a o e).stay (λb u _ q=>k b u q) (λ_ q=>q) λ_ _ q=>q
def HOk.laid (x:HOk P w H h) (k:∀ b u,h.get? b=some u->h'.get? b=some u) (hp:h.objs.size<=a) (new:ZZ P w (upd H a o) h' a o):HOk P w (upd H a o) h':=λb u e=>by
 have hn:=x.fresh hp;by_cases hb:b=a
 ·subst hb;rw [qG] at e;cases e;exact new
 ·rw [qm hb] at e;exact (x b u e).stay (λc v _ q=>k c v q) (λc q=>by rw [qm (qr q hn)];exact q) λc xs q=>by rw [qm (qr q hn)];exact q
end
def Rd (H:Hp) (a:Addr) (u:HO):Prop:=H a=some u\/∃ o,H a=some (.frz o u)
def Rd.ok {P:Program} {w:World} {H:Hp} {h:Heap} {a:Addr} {u:HO} (r:Rd H a u) (x:HOk P w H h):ZZ P w H h a u:=by
 rcases r with r|⟨o,r⟩
 ·exact x a u r
 ·obtain ⟨_,q⟩:=x a _ r;exact q
def Mut:Option HO->Prop
 |some (.lst _)=>True
 |some (.dK _)=>True
 |some (.dT _)=>True
 |some (.set _ _)=>True
 |some (.ins _ _ _)=>True
 |some (.ext _)=>True
 |_=>False
section
variable {P:Program} {w:World} {H:Hp} {h h':Heap} {x e:Addr} {o':HO}
def HOk.write (ok:HOk P w H h) (mu:Mut (H x)) (he:e=x\/H e=some (.own x)) (k:∀ b u,b≠e->h.get? b=some u->h'.get? b=some u) (heo:∃ u,h'.get? e=some u)
  (new:ZZ P w (upd H x o') h' x o'):HOk P w (upd H x o') h':=λb u q=>by
 have nown:∀ c y,H c=some (.own y)->c≠x:=λc y r z=>by subst z;rw [r] at mu;exact mu
 have ntup:∀ c xs,H c=some (.tup xs)->c≠x:=λc xs r z=>by subst z;rw [r] at mu;exact mu
 by_cases hb:b=x
 ·subst hb;rw [qG] at q;cases q;exact new
 ·rw [qm hb] at q;by_cases hbe:b=e
  ·have q':H b=some (.own x):=by
    rcases he with z|z
    ·exact absurd (hbe.trans z) hb
    ·rw [hbe];exact z
   rw [q] at q';cases q';obtain ⟨v,hv⟩:=heo;exact ⟨v,by rw [hbe];exact hv⟩
  ·refine (ok b u q).stay (λc v hc r=>k c v ?_ r) (λc r=>by rw [qm (nown c b r)];exact r) λc xs r=>by rw [qm (ntup c xs r)];exact r
   rcases hc with rfl|hc
   ·exact hbe
   ·rintro rfl;rcases he with z|z
    ·exact nown c b hc z
    ·rw [hc] at z;cases z;exact hb rfl
end
structure Un (fs ex:List Addr) (H H':Hp) (h h':Heap):Prop where
 keep:∀ b o,h.get? b=some o->H b=none->b∉fs->b∉ex->h'.get? b=some o
 slot:∀ b o,h.get? b=some o->H b=none->b∈fs->b∉ex->∃ sl,h'.get? b=some { o with slots:=sl }
 free:∀ b o,h.get? b=some o->H b=none->b∉ex->H' b=none
 there:∀ b o,h.get? b=some o->b∉ex->∃ o',h'.get? b=some o'
 tups:∀ b xs,H b=some (.tup xs)->H' b=some (.tup xs)
 frzs:∀ b o u,H b=some (.frz o u)->H' b=some (.frz o u)
 tbls:∀ b ps,H b=some (.tbl ps)->∃ more,H' b=some (.tbl (ps++more))
section
variable {fs fs' ex ex':List Addr} {H H1 H2:Hp} {h h1 h2 h':Heap} {a x e:Addr} {o:HO}
def Un.any (u:Un fs ex H H1 h h1) {b:Addr} {ob:Obj} (q:h.get? b=some ob) (n:H b=none) (hx:b∉ex):∃ sl,h1.get? b=some { ob with slots:=sl }:=by
 by_cases hb:b∈fs
 ·exact u.slot b ob q n hb hx
 ·exact ⟨ob.slots,u.keep b ob q n hb hx⟩
def Un.kept (k:∀ b u,h.get? b=some u->h'.get? b=some u):Un fs ex H H h h':=
 ⟨λb ob q _ _ _=>k b ob q,λb ob q _ _ _=>⟨ob.slots,k b ob q⟩,λ_ _ _ n _=>n,λb ob q _=>⟨ob,k b ob q⟩,λ_ _ q=>q,λ_ _ _ q=>q,λ_ ps q=>⟨#[],by rw [q];simp⟩⟩
def Un.refl:Un fs ex H H h h:=Un.kept λ_ _ q=>q
def Un.laid (k:∀ b u,h.get? b=some u->h'.get? b=some u) (hp:h.objs.size<=a) (hn:H a=none):Un fs ex H (upd H a o) h h' where
 keep:=λb u q _ _ _=>k b u q
 slot:=λb u q _ _ _=>⟨u.slots,k b u q⟩
 free:=λb u q n _=>by rw [qm (u4 (v8 (y4 q) hp))];exact n
 there:=λb u q _=>⟨u,k b u q⟩
 tups:=λb xs q=>by rw [qm (qr q hn)];exact q
 frzs:=λb u xs q=>by rw [qm (qr q hn)];exact q
 tbls:=λb ps q=>⟨#[],by rw [qm (qr q hn),q];simp⟩
def Un.write (mu:Mut (H x)) (he:e=x\/H e=some (.own x)) (k:∀ b u,b≠e->h.get? b=some u->h'.get? b=some u) (heo:∃ u,h'.get? e=some u):Un fs ex H (upd H x o) h h':=by
 have hx:∀ b,H b=none->b≠x:=λb n z=>by subst z;rw [n] at mu;exact mu
 have hb:∀ b,H b=none->b≠e:=λb n z=>by
  subst z;rcases he with r|r
  ·exact hx b n r
  ·rw [n] at r;cases r
 have hm:∀ b u,H b=some u->¬ Mut (some u)->b≠x:=λb u q nm z=>by subst z;rw [q] at mu;exact nm mu
 refine ⟨λb u q n _ _=>k b u (hb b n) q,λb u q n _ _=>⟨u.slots,k b u (hb b n) q⟩,λb u q n _=>by rw [qm (hx b n)];exact n,λb u q _=>?_,
  λb xs q=>by rw [qm (hm b _ q λz=>z)];exact q,λb u xs q=>by rw [qm (hm b _ q λz=>z)];exact q,λb ps q=>⟨#[],by rw [qm (hm b _ q λz=>z),q];simp⟩⟩
 by_cases hbe:b=e
 ·subst hbe;exact heo
 ·exact ⟨u,k b u hbe q⟩
end
def trk (h:Heap) (H:Hp):List Addr:=(List.range h.objs.size).filter λa=>(H a).isSome
def qa1 (h:Heap) (H:Hp):Heap:=PySem.W.hideAll h (trk h H)
def qaG (h:Heap) (H:Hp):(qa1 h H).objs.size=h.objs.size:=PySem.W.hideAll_size _ _
def qbA {h:Heap} {H:Hp} {b:Addr} {o:Obj} (e:h.get? b=some o) (n:H b=none):(qa1 h H).get? b=some o:=
 PySem.W.hideAll_get _ e λhm=>by
  have q:(H b).isSome=true:=(List.mem_filter.mp hm).2;rw [n] at q;simp at q
def qea {h:Heap} {H:Hp} {b:Addr} {o:Obj} (e:(qa1 h H).get? b=some o):h.get? b=some o/\H b=none:=by
 have e':h.get? b=some o:=PySem.W.of_hideAll (trk h H) e;refine ⟨e',?_⟩;cases q:H b with
 |none=>rfl
 |some x=>
  have hm:b∈trk h H:=List.mem_filter.mpr ⟨mem_range.mpr (y4 e'),by simp [q]⟩;have z:(qa1 h H).get? b=none:=PySem.W.hideAll_none (trk h H) hm;rw [z] at e;cases e
def qed (g h:Heap) (L:Addr):List (Addr×Obj):=(List.range h.objs.size).filterMap λa=>if a=L\/(g.get? a).isSome=true then none else (h.get? a).map λo=>(a,o)
def jC (g h:Heap) (L d:Addr):List (Addr×Obj):=(qed g h L).filter λp=>decide (p.1≠d)
structure Mod (K:Frg) (mg:Str->Option Value) (base:Heap):Prop where
 kin:K.In base
 glob:base.Ns mainGlobals mg
 blt:∃ mb,base.Ns builtinsNs mb/\∀ x:Str,x≠"__name__" -> mb x=bootBuiltins x
 nolimit:base.NoLimit
structure Cx where
 prog:Program
 w:World
 K:PySem.W.Frag
 mg:Str->Option Value
 base:Heap
 A:Around
 N:List Str
 s₀:Shared
 H₀:Hp
 env:Env
 outer:List Env
 stack:List Env
 ex:List Addr
 fn:Str->Bool
 calm:Bool
 pn:List (Addr×Obj)
 xe:Value->Shared->Prop
def frs (l:List Env):List Addr:=l.filterMap (·.frame)
abbrev Cx.fs (X:Cx):List Addr:=frs X.outer
def Vis (sc:Scope) (x:Str):Prop:=sc.names.lookup x=some .local\/sc.names.lookup x=some .cell\/sc.names.lookup x=some .free
def Loc (sc:Scope) (x:Str):Prop:=sc.names.lookup x=some .local\/sc.names.lookup x=some .cell
def qnk (env:Env) (h:Heap) (m:Str->Option Value) (x:Str) (u:Value):Prop:=
 (env.kindOf x=some .local/\m x=some u)\/((env.kindOf x=some .cell\/env.kindOf x=some .free)/\∃ c,env.cells.lookup x=some c/\h.IsCell c (some u))
structure Cx.Ok (X:Cx):Prop where
 mod:Mod X.K X.mg X.base
 kind:X.env.scope.kind=.function
 glob:X.env.globals=mainGlobals
 blt:X.env.builtins=builtinsNs
 above:X.s₀.heap.objs.size<=X.env.locals
 inj:∀ x y c,X.env.cells.lookup x=some c->X.env.cells.lookup y=some c->x=y
 has:∀ x,(X.env.kindOf x=some .cell\/X.env.kindOf x=some .free)->∃ c,X.env.cells.lookup x=some c
 cab:∀ x c,X.fn x=true->X.env.cells.lookup x=some c->X.s₀.heap.objs.size<=c
 hd:X.calm=true->X.A.handled=none
 frames:X.A.frames=some X.stack
 stk:X.stack=X.outer\/(X.stack=X.env::X.outer/\X.env.frame=some X.env.locals)
 exf:∀ b∈X.ex,b≠X.env.locals/\∀ x c,X.env.cells.lookup x=some c->c≠b
 bs:∀ b o,X.base.get? b=some o->X.s₀.heap.get? b=some o/\X.H₀ b=none
 bsz:X.base.objs.size<=X.s₀.heap.objs.size
 noex:∀ b o,X.base.get? b=some o->b∉X.ex
 exfs:∀ b∈X.ex,b∉X.fs
 funs:X.s₀.heap.FunFrames X.base X.outer
 frf:∀ b∈X.fs,X.H₀ b=none
structure Inv (X:Cx) (pins:List (Addr×Obj)) (σ:List (Option V)) (H:Hp) (s:Shared):Prop where
 ok:X.Ok
 os:s.os=X.s₀.os
 bare:AllBare s.gens
 base:Un X.fs X.ex X.H₀ H X.s₀.heap s.heap
 loc:∃ m,s.heap.Ns X.env.locals m/\∀ (i:Nat) (x:Str) (v:V),X.N[i]?=some x->σ[i]?=some (some v)->Vis X.env.scope x->∃ u,zT v u/\qnk X.env s.heap m x u
 cell:∀ x c,X.env.cells.lookup x=some c->∃ v,s.heap.IsCell c v
 free:H X.env.locals=none
 freeC:∀ x c,X.env.cells.lookup x=some c->H c=none
 pin:∀ p∈X.pn++pins,s.heap.get? p.1=some p.2/\H p.1=none/\p.1≠X.env.locals/\p.1∉X.fs/\∀ v,p.2.data≠.cell v
 hok:HOk X.prog X.w H s.heap
 len:σ.length=X.N.length
section
variable {X:Cx} {pins:List (Addr×Obj)} {σ:List (Option V)} {H H':Hp} {s:Shared} {h':Heap}
def Cx.Ok.nofr (ok:X.Ok) {b:Addr} {o:Obj} (e:X.base.get? b=some o):b∉X.fs:=λhb=>by
 have:=(ok.funs.mem hb).1;rw [e] at this;cases this
theorem Inv.bs (I:Inv X pins σ H s):∀ b o,X.base.get? b=some o->s.heap.get? b=some o/\H b=none:=λb o e=>
 ⟨I.base.keep b o (I.ok.bs b o e).1 (I.ok.bs b o e).2 (I.ok.nofr e) (I.ok.noex b o e),I.base.free b o (I.ok.bs b o e).1 (I.ok.bs b o e).2 (I.ok.noex b o e)⟩
def Inv.bk (I:Inv X pins σ H s):∀ b o,X.base.get? b=some o->s.heap.get? b=some o:=λb o e=>(I.bs b o e).1
theorem Inv.mod (I:Inv X pins σ H s):Mod X.K X.mg X.base:=I.ok.mod
def Inv.kIn (I:Inv X pins σ H s):X.K.In s.heap:=I.ok.mod.kin.keeps I.bk
theorem Inv.nolimit (I:Inv X pins σ H s):s.heap.NoLimit:=I.ok.mod.nolimit.keeps I.bk
def Inv.fr (I:Inv X pins σ H s):∃ m,Fr X.base X.env.locals s.heap m:=
 let ⟨m,hn,_⟩:=I.loc
 ⟨m,hn,I.bk,u3 I.ok.bsz I.ok.above⟩
theorem Inv.lt (I:Inv X pins σ H s):X.env.locals<s.heap.objs.size:=let ⟨_,hn,_⟩:=I.loc;hn.lt
def Inv.sz (I:Inv X pins σ H s):X.s₀.heap.objs.size<=s.heap.objs.size:=u3 I.ok.above (Nat.le_of_lt I.lt)
def Inv.nofs (I:Inv X pins σ H s) {a:Addr} (h:s.heap.objs.size<=a):a∉X.fs:=λhb=>by
 obtain ⟨_,o,ho,_⟩:=I.ok.funs.mem hb;exact absurd (v8 (y4 ho) (u3 I.sz h)) (Nat.lt_irrefl _)
def Inv.cne (I:Inv X pins σ H s):∀ x c,X.env.cells.lookup x=some c->c≠X.env.locals:=λx c e z=>by
 obtain ⟨v,o,ho,hd⟩:=I.cell x c e;obtain ⟨m,⟨o',es,ep,ho',hd',_⟩,_⟩:=I.loc;rw [z,ho'] at ho;cases ho;rw [hd'] at hd;cases hd
theorem Inv.funs (I:Inv X pins σ H s):s.heap.FunFrames X.base X.outer:=by
 have all:∀ (l:List Env),(∀ b∈frs l,b∈X.fs)->X.s₀.heap.FunFrames X.base l->s.heap.FunFrames X.base l:=by
  intro l;induction l with
  |nil=>intro _ _;trivial
  |cons env r ih=>
   intro hs hl;obtain ⟨hk,⟨L,o,hf,hn,ho,hd⟩,hr⟩:=hl;have hL:L∈X.fs:=hs L (by unfold frs;rw [List.filterMap_cons,hf];exact u6);obtain ⟨sl,e⟩:=I.base.slot L o ho (I.ok.frf L hL) hL λz=>I.ok.exfs L z hL;exact ⟨hk,⟨L,_,hf,hn,e,hd⟩,ih (λb hb=>hs b (by unfold frs;rw [List.filterMap_cons,hf];exact v6 _ hb)) hr⟩
 exact all X.outer (λ_ hb=>hb) I.ok.funs
theorem Inv.stack (I:Inv X pins σ H s):s.heap.FunFrames X.base X.stack:=by
 rcases I.ok.stk with e|⟨e,hf⟩
 ·rw [e];exact I.funs
 ·rw [e];obtain ⟨m,hn,_⟩:=I.loc;refine .cons (by rw [I.ok.kind];decide) hf hn ?_ I.funs;exact Heap.get?_none_of_le (u3 I.ok.bsz I.ok.above)
def Inv.stkSub (I:Inv X pins σ H s):∀ b∈frs X.stack,b∈X.env.locals::X.fs:=λb hb=>by
 rcases I.ok.stk with e|⟨e,hf⟩
 ·rw [e] at hb;exact v6 _ hb
 ·rw [e] at hb;unfold frs at hb;rw [List.filterMap_cons,hf] at hb;exact hb
def Inv.stkFree (I:Inv X pins σ H s):∀ b∈frs X.stack,H b=none:=λb hb=>by
 rcases mem_cons.mp (I.stkSub b hb) with e|hb
 ·rw [e];exact I.free
 ·obtain ⟨_,o,ho,_⟩:=I.ok.funs.mem hb;exact I.base.free b o ho (I.ok.frf b hb) λz=>I.ok.exfs b z hb
def Inv.step {g':Array GenState} {t':Nat} {d':Drawn} {ch:List Addr} (I:Inv X pins σ H s)
  (hch:∀ b∈ch,(b∈X.ex\/X.s₀.heap.objs.size<=b)/\b≠X.env.locals/\(∀ x c,X.env.cells.lookup x=some c->c≠b)/\∀ p∈X.pn++pins,p.1≠b)
  (keep:∀ b o,b≠X.env.locals->b∉X.fs->b∉ch->s.heap.get? b=some o->H b=none->h'.get? b=some o)
  (slot:∀ b o,b≠X.env.locals->b∈X.fs->b∉ch->s.heap.get? b=some o->H b=none->∃ sl,h'.get? b=some { o with slots:=sl }) (free:∀ b o,b∉ch->s.heap.get? b=some o->H b=none->H' b=none)
  (there:∀ b o,b∉ch->s.heap.get? b=some o->∃ o',h'.get? b=some o')
  (tups:∀ b xs,H b=some (.tup xs)->H' b=some (.tup xs)) (frzs:∀ b o u,H b=some (.frz o u)->H' b=some (.frz o u)) (tbls:∀ b ps,H b=some (.tbl ps)->∃ more,H' b=some (.tbl (ps++more)))
  (ns:∀ m,s.heap.Ns X.env.locals m->h'.Ns X.env.locals m) (hok:HOk X.prog X.w H' h') (hg:AllBare g') :
  Inv X pins σ H' { s with heap:=h',gens:=g',drawn:=d',toks:=t' }:=by
 have neL:∀ b o,X.s₀.heap.get? b=some o->b≠X.env.locals:=λb o e=>u4 (v8 (y4 e) I.ok.above);have neC:∀ b o,X.s₀.heap.get? b=some o->b∉X.ex->b∉ch:=λb o e hx hb=>by
  rcases (hch b hb).1 with z|z
  ·exact hx z
  ·exact absurd (v8 (y4 e) z) (Nat.lt_irrefl _)
 have cellK:∀ x c,X.env.cells.lookup x=some c->∀ v,s.heap.IsCell c v->h'.IsCell c v:=λx c e v ⟨o,ho,hd⟩=>by
  have nch:c∉ch:=λz=>(hch c z).2.2.1 x c e rfl;by_cases hc:c∈X.fs
  ·obtain ⟨sl,q⟩:=slot c o (I.cne x c e) hc nch ho (I.freeC x c e);exact ⟨_,q,hd⟩
  ·exact ⟨o,keep c o (I.cne x c e) hc nch ho (I.freeC x c e),hd⟩
 refine ⟨I.ok,I.os,hg,⟨λb o e n hb hx=>?_,λb o e n hb hx=>?_,λb o e n hx=>?_,λb o e hx=>?_,λb xs e=>tups b xs (I.base.tups b xs e),λb o xs e=>frzs b o xs (I.base.frzs b o xs e),λb ps e=>?_⟩,?_,λx c e=>?_,?_,λx c e=>?_,λp hp=>?_,hok,I.len⟩
 ·exact keep b o (neL b o e) hb (neC b o e hx) (I.base.keep b o e n hb hx) (I.base.free b o e n hx)
 ·obtain ⟨sl,e1⟩:=I.base.slot b o e n hb hx;obtain ⟨sl',e2⟩:=slot b _ (neL b o e) hb (neC b o e hx) e1 (I.base.free b o e n hx);exact ⟨sl',e2⟩
 ·obtain ⟨o',e1⟩:=I.base.there b o e hx;exact free b o' (neC b o e hx) e1 (I.base.free b o e n hx)
 ·obtain ⟨o',e1⟩:=I.base.there b o e hx;exact there b o' (neC b o e hx) e1
 ·obtain ⟨m1,e1⟩:=I.base.tbls b ps e;obtain ⟨m2,e2⟩:=tbls b _ e1;exact ⟨m1++m2,by rw [e2,Array.append_assoc]⟩
 ·obtain ⟨m,hn,hl⟩:=I.loc;refine ⟨m,ns m hn,λi x v e1 e2 e3=>?_⟩;obtain ⟨u,r,l⟩:=hl i x v e1 e2 e3;refine ⟨u,r,?_⟩;rcases l with l|⟨k,c,e,z⟩
  ·exact .inl l
  ·exact .inr ⟨k,c,e,cellK x c e _ z⟩
 ·obtain ⟨v,z⟩:=I.cell x c e;exact ⟨v,cellK x c e v z⟩
 ·obtain ⟨m,⟨o,_,_,ho,_⟩,_⟩:=I.loc;exact free _ o (λz=>(hch _ z).2.1 rfl) ho I.free
 ·obtain ⟨v,o,ho,hd⟩:=I.cell x c e;exact free c o (λz=>(hch c z).2.2.1 x c e rfl) ho (I.freeC x c e)
 ·obtain ⟨e,n,ne,nf,d⟩:=I.pin p hp;have nch:p.1∉ch:=λz=>(hch p.1 z).2.2.2 p hp rfl;exact ⟨keep p.1 p.2 ne nf nch e n,free p.1 p.2 nch e n,ne,nf,d⟩
def Inv.un {t':Nat} (I:Inv X pins σ H s) (u:Un X.fs [] H H' s.heap h') (hok:HOk X.prog X.w H' h'):Inv X pins σ H' { s with heap:=h',toks:=t' }:=by
 obtain ⟨m,⟨o,es,ep,ho,r⟩,_⟩:=id I.loc;obtain ⟨sl,hL⟩:=u.any ho I.free (by simp);exact I.step (g':=s.gens) (d':=s.drawn) (ch:=[]) (λ_ z=>nomatch z) (λb o _ hb _ e n=>u.keep b o e n hb (by simp)) (λb o _ hb _ e n=>u.slot b o e n hb (by simp)) (λb o _ e n=>u.free b o e n (by simp)) (λb o _ e=>u.there b o e (by simp)) u.tups u.frzs u.tbls (λm' hm=>by
  obtain ⟨o',es',ep',ho',r'⟩:=hm;rw [ho] at ho';cases ho';exact ⟨_,es',ep',hL,r'⟩) hok I.bare
def Inv.call {g':Array GenState} {t':Nat} {d':Drawn} {ch:List Addr} (I:Inv X pins σ H s) (u:Un (frs X.stack) ch H H' s.heap h') (hok:HOk X.prog X.w H' h') (hg:AllBare g')
  (hch:∀ b∈ch,(b∈X.ex\/X.s₀.heap.objs.size<=b)/\b≠X.env.locals/\(∀ x c,X.env.cells.lookup x=some c->c≠b)/\∀ p∈X.pn++pins,p.1≠b) :
  Inv X pins σ H' { s with heap:=h',gens:=g',drawn:=d',toks:=t' }:=by
 obtain ⟨m,⟨o,es,ep,ho,r⟩,_⟩:=id I.loc;obtain ⟨sl,hL⟩:=u.any ho I.free λz=>(hch _ z).2.1 rfl;exact I.step (ch:=ch) hch (λb o hL hb hc e n=>u.keep b o e n (λz=>(mem_cons.mp (I.stkSub b z)).elim hL hb) hc) (λb o _ _ hc e n=>u.any e n hc) (λb o hc e n=>u.free b o e n hc) (λb o hc e=>u.there b o e hc) u.tups u.frzs u.tbls (λm' hm=>by
  obtain ⟨o',es',ep',ho',r'⟩:=hm;rw [ho] at ho';cases ho';exact ⟨_,es',ep',hL,r'⟩) hok hg
def Inv.turned {t':Nat} {it:Addr} (I:Inv X pins σ H s) (k:∀ b o,b≠it->s.heap.get? b=some o->h'.get? b=some o) (hn:H it=none) (hL:it≠X.env.locals)
  (h1:it∈X.ex\/X.s₀.heap.objs.size<=it) (h2:∀ x c,X.env.cells.lookup x=some c->c≠it) (h3:∀ p∈X.pn++pins,p.1≠it):Inv X pins σ H { s with heap:=h',toks:=t' }:=by
 have nit:∀ b u,H b=some u->b≠it:=λb u e z=>by rw [z,hn] at e;cases e
 refine I.step (g':=s.gens) (d':=s.drawn) (ch:=[it]) (λb hb=>?_) (λb o _ _ hc e _=>k b o (λz=>hc (by simp [z])) e) (λb o _ _ hc e _=>⟨o.slots,k b o (λz=>hc (by simp [z])) e⟩) (λ_ _ _ _ n=>n)
  (λb o hc e=>⟨o,k b o (λz=>hc (by simp [z])) e⟩) (λ_ _ e=>e) (λ_ _ _ e=>e) (λb ps e=>⟨#[],by rw [e];simp⟩) (λm hm=>?_) (λb u e=>?_) I.bare
 ·have e:b=it:=by simpa using hb
  subst e;exact ⟨h1,hL,h2,h3⟩
 ·obtain ⟨o,es,ep,ho,r⟩:=hm;exact ⟨o,es,ep,k _ o (Ne.symm hL) ho,r⟩
 ·refine (I.hok b u e).stay (λc v hc q=>k c v ?_ q) (λ_ q=>q) λ_ _ q=>q;rcases hc with z|z
  ·rw [z];exact nit b u e
  ·exact nit c _ z
def Inv.tok (I:Inv X pins σ H s) (t:Nat):Inv X pins σ H { s with toks:=t }:=I.un (h':=s.heap) (t':=t) Un.refl I.hok
theorem Inv.kept {t':Nat} (I:Inv X pins σ H s) (k:∀ b u,s.heap.get? b=some u->h'.get? b=some u):Inv X pins σ H { s with heap:=h',toks:=t' }:=I.un (Un.kept k) (I.hok.kept k)
theorem Inv.laid {a:Addr} {o:HO} {t':Nat} (I:Inv X pins σ H s) (k:∀ b u,s.heap.get? b=some u->h'.get? b=some u) (hp:s.heap.objs.size<=a) (new:ZZ X.prog X.w (upd H a o) h' a o) :
  Inv X pins σ (upd H a o) { s with heap:=h',toks:=t' }:=I.un (Un.laid k hp (I.hok.fresh hp)) (I.hok.laid k hp new)
theorem Inv.write {x e:Addr} {o:HO} {t':Nat} (I:Inv X pins σ H s) (mu:Mut (H x)) (he:e=x\/H e=some (.own x)) (k:∀ b u,b≠e->s.heap.get? b=some u->h'.get? b=some u) (heo:∃ u,h'.get? e=some u)
  (new:ZZ X.prog X.w (upd H x o) h' x o):Inv X pins σ (upd H x o) { s with heap:=h',toks:=t' }:=I.un (Un.write mu he k heo) (I.hok.write mu he k heo new)
def Inv.pins_of {pins':List (Addr×Obj)} (I:Inv X pins σ H s) (h:∀ p∈pins',s.heap.get? p.1=some p.2/\H p.1=none/\p.1≠X.env.locals/\p.1∉X.fs/\∀ v,p.2.data≠.cell v):Inv X pins' σ H s:=
 ⟨I.ok,I.os,I.bare,I.base,I.loc,I.cell,I.free,I.freeC,λp hp=>(List.mem_append.mp hp).elim (λz=>I.pin p (List.mem_append_left _ z)) (h p),I.hok,I.len⟩
def R9 {N:List Str} (hN:N.Nodup) {i j:Nat} {x:Str} (a:N[i]?=some x) (b:N[j]?=some x):i=j:=by
 obtain ⟨h1,e1⟩:=za0 a;obtain ⟨h2,e2⟩:=za0 b;exact (List.getElem_inj hN).mp (e1.trans e2.symm)
def qaw {M:Model} {A:Around} {E:Value->Shared->Prop} {i:Nat} {x:Str} {v:V} {u:Value} {Q:Unit->Shared->Prop} (I:Inv X pins σ H s) (hN:X.N.Nodup) (hi:X.N[i]?=some x) (hx:Loc X.env.scope x) (r:zT v u)
  (h:∀ s',Inv X pins (σ.set i (some v)) H s'->(∃ a,Heap.SameBut a s.heap s'.heap/\(a=X.env.locals\/X.env.cells.lookup x=some a))->Q () s') (hf:X.fn x=true\/X.env.scope.names.lookup x=some .local:=by first|exact .inl rfl|exact .inr rfl|assumption):wpAny M A (storeName X.env x u) Q E s:=by
 obtain ⟨m,hn,hl⟩:=id I.loc;have hcls:(X.env.scope.kind==.class||(X.env.scope.kind==.module&&X.env.locals != X.env.globals))=false:=by rw [I.ok.kind];rfl
 have hiσ:i<σ.length:=by rw [I.len];exact (za0 hi).1
 have cne:=I.cne;have tracked:∀ {a:Addr} {h':Heap},(∃ o,s.heap.get? a=some o/\H a=none)->Heap.SameBut a s.heap h'->HOk X.prog X.w H h':=λ{a h'} ha hs b ob e=>by
  obtain ⟨_,_,hfree⟩:=ha;refine (I.hok b ob e).stay (λc w' hc q=>(hs.2 c ?_).trans q) (λ_ q=>q) λ_ _ q=>q;rintro rfl;rcases hc with rfl|hc
  ·rw [hfree] at e;cases e
  ·rw [hfree] at hc;cases hc
 rcases hx with hk|hk
 ·refine wpAny_storeName_local hk hn (λh' hn' hs=>?_) hcls;obtain ⟨oL,_,_,hoL,_⟩:=id hn;refine h _ ⟨I.ok,I.os,I.bare,⟨λb o e n hb hx=>?_,λb o e n hb hx=>?_,I.base.free,λb o e hx=>?_,I.base.tups,I.base.frzs,I.base.tbls⟩,⟨_,hn',λj y v' e1 e2 e3=>?_⟩,λy c e=>?_,I.free,I.freeC,λp hp=>?_,tracked ⟨oL,hoL,I.free⟩ hs,by simpa using I.len⟩ ⟨_,hs,.inl rfl⟩
  ·exact (hs.2 b (u4 (v8 (y4 e) I.ok.above))).trans (I.base.keep b o e n hb hx)
  ·obtain ⟨sl,e1⟩:=I.base.slot b o e n hb hx;exact ⟨sl,(hs.2 b (u4 (v8 (y4 e) I.ok.above))).trans e1⟩
  ·obtain ⟨o',e1⟩:=I.base.there b o e hx;exact ⟨o',(hs.2 b (u4 (v8 (y4 e) I.ok.above))).trans e1⟩
  ·by_cases hj:j=i
   ·subst hj;rw [hi] at e1;cases e1;rw [List.getElem?_set_self hiσ] at e2;cases e2;exact ⟨u,r,.inl ⟨hk,by simp⟩⟩
   ·rw [List.getElem?_set_ne (Ne.symm hj)] at e2;obtain ⟨u',r',q⟩:=hl j y v' e1 e2 e3;refine ⟨u',r',?_⟩;rcases q with ⟨k,e⟩|⟨k,c,e,z⟩
    ·refine .inl ⟨k,?_⟩;have:y≠x:=λe=>hj (R9 hN e1 (e▸hi));simp [this,e]
    ·exact .inr ⟨k,c,e,z.sameBut hs (cne y c e)⟩
  ·obtain ⟨w',z⟩:=I.cell y c e;exact ⟨w',z.sameBut hs (cne y c e)⟩
  ·obtain ⟨e,n,ne,nf,d⟩:=I.pin p hp;exact ⟨(hs.2 p.1 ne).trans e,n,ne,nf,d⟩
 ·have hfn:X.fn x=true:=by
   rcases hf with z|z
   ·exact z
   ·rw [z] at hk;cases hk
  obtain ⟨c,hc⟩:=I.ok.has x (.inl hk);obtain ⟨w',z⟩:=I.cell x c hc;refine wpAny_storeName_cell I.ok.kind hk hc z (λh' hc' hs=>?_);obtain ⟨oc,hoc,hocd⟩:=id z;refine h { s with heap:=h' } ⟨I.ok,I.os,I.bare,⟨λb o e n hb hx=>?_,λb o e n hb hx=>?_,I.base.free,λb o e hx=>?_,I.base.tups,I.base.frzs,I.base.tbls⟩,⟨m,hn.sameBut hs (Ne.symm (cne x c hc)),λj y v' e1 e2 e3=>?_⟩,λy c' e=>?_,I.free,I.freeC,λp hp=>?_,tracked ⟨oc,hoc,I.freeC x c hc⟩ hs,by simpa using I.len⟩ ⟨c,hs,.inr hc⟩
  ·exact (hs.2 b (u4 (v8 (y4 e) (I.ok.cab x c hfn hc)))).trans (I.base.keep b o e n hb hx)
  ·obtain ⟨sl,e1⟩:=I.base.slot b o e n hb hx;exact ⟨sl,(hs.2 b (u4 (v8 (y4 e) (I.ok.cab x c hfn hc)))).trans e1⟩
  ·obtain ⟨o',e1⟩:=I.base.there b o e hx;exact ⟨o',(hs.2 b (u4 (v8 (y4 e) (I.ok.cab x c hfn hc)))).trans e1⟩
  ·by_cases hj:j=i
   ·subst hj;rw [hi] at e1;cases e1;rw [List.getElem?_set_self hiσ] at e2;cases e2;exact ⟨u,r,.inr ⟨.inl hk,c,hc,hc'⟩⟩
   ·rw [List.getElem?_set_ne (Ne.symm hj)] at e2;obtain ⟨u',r',q⟩:=hl j y v' e1 e2 e3;refine ⟨u',r',?_⟩;rcases q with q|⟨k,c',e,z'⟩
    ·exact .inl q
    ·refine .inr ⟨k,c',e,z'.sameBut hs ?_⟩;rintro rfl;exact hj (R9 hN e1 (I.ok.inj _ _ _ e hc▸hi))
  ·by_cases hcc:c'=c
   ·subst hcc;exact ⟨_,hc'⟩
   ·obtain ⟨w2,z2⟩:=I.cell y c' e;exact ⟨w2,z2.sameBut hs hcc⟩
  ·obtain ⟨e,n,ne,nf,d⟩:=I.pin p hp;refine ⟨(hs.2 p.1 ?_).trans e,n,ne,nf,d⟩;intro q;rw [q,hoc] at e;have q':oc=p.2:=Option.some.inj e;exact d w' (by rw [← q'];exact hocd)
def VM {M:Model} {A:Around} {E:Value->Shared->Prop} {i:Nat} {x:Str} {v:V} {u:Value} {Q:Unit->Shared->Prop} (I:Inv X pins σ H s) (hN:X.N.Nodup) (hi:X.N[i]?=some x) (hx:Loc X.env.scope x) (r:zT v u)
  (h:∀ s',Inv X pins (σ.set i (some v)) H s'->Q () s') (hf:X.fn x=true\/X.env.scope.names.lookup x=some .local:=by first|exact .inl rfl|exact .inr rfl|assumption):wpAny M A (storeName X.env x u) Q E s:=
 qaw I hN hi hx r (λs' I' _=>h s' I') hf
def Inv.call' {s':Shared} {ch:List Addr} (I:Inv X pins σ H s) (ho:s'.os=s.os) (u:Un (frs X.stack) ch H H' s.heap s'.heap) (hok:HOk X.prog X.w H' s'.heap) (hg:AllBare s'.gens)
  (hch:∀ b∈ch,(b∈X.ex\/X.s₀.heap.objs.size<=b)/\b≠X.env.locals/\(∀ x c,X.env.cells.lookup x=some c->c≠b)/\∀ p∈X.pn++pins,p.1≠b):Inv X pins σ H' s':=by
 obtain ⟨h',g',d',t',o'⟩:=s';have e:o'=s.os:=ho;subst e;exact I.call (g':=g') (t':=t') (d':=d') u hok hg hch
end
abbrev XK:=Value->Option Addr->Hp->Prop
abbrev St:=List (Option V)
abbrev VK:=V->Hp->Prop
abbrev TE:=St->Hp->VK->Prop
abbrev TT:=St->Hp->(Bool->Hp->Prop)->Prop
abbrev TA:=St->Hp->(List V->Hp->Prop)->Prop
structure Ends where
 nx:St->Hp->Prop
 rt:VK
 bk:St->Hp->Prop:=λ_ _=>False
 ct:St->Hp->Prop:=λ_ _=>False
abbrev TS:=Ends->St->Hp->Prop
def EP (X:Cx) (pins:List (Addr×Obj)) (σ:St) (Q:VK) (u:Value) (s':Shared):Prop:=∃ v H',Inv X pins σ H' s'/\zT v u/\Q v H'
def TP (X:Cx) (pins:List (Addr×Obj)) (σ:St) (Q:Bool->Hp->Prop) (b:Bool) (s':Shared):Prop:=∃ H',Inv X pins σ H' s'/\Q b H'
def AP (X:Cx) (pins:List (Addr×Obj)) (σ:St) (Q:List V->Hp->Prop) (us:List Value) (s':Shared):Prop:=∃ vs H',Inv X pins σ H' s'/\qQ vs us/\Q vs H'
def SP (X:Cx) (pins:List (Addr×Obj)) (D:Ends) (f:Flow) (s':Shared):Prop:=
 match f with
 |.next=>∃ σ' H',Inv X pins σ' H' s'/\D.nx σ' H'
 |.brk=>∃ σ' H',Inv X pins σ' H' s'/\D.bk σ' H'
 |.cont=>∃ σ' H',Inv X pins σ' H' s'/\D.ct σ' H'
 |.ret u=>∃ v σ' H',Inv X pins σ' H' s'/\zT v u/\D.rt v H'
def PE (X:Cx) (e:Expr) (t:TE):Prop:=
 ∀ (pins:List (Addr×Obj)) (s:Shared) (σ:St) (H:Hp) (Q:VK),Inv X pins σ H s->t σ H Q->wpAny (model X.prog X.w) X.A (eval e X.env) (EP X pins σ Q) X.xe s
def PT (X:Cx) (e:Expr) (t:TT):Prop:=
 ∀ (pins:List (Addr×Obj)) (s:Shared) (σ:St) (H:Hp) (Q:Bool->Hp->Prop),Inv X pins σ H s->t σ H Q->wpAny (model X.prog X.w) X.A (isTrue e X.env (eval e X.env)) (TP X pins σ Q) X.xe s
def PW (X:Cx) (e:Expr) (t:TT):Prop:=
 ∀ (whole:Sem Value) (pins:List (Addr×Obj)) (s:Shared) (σ:St) (H:Hp) (Q:Bool->Hp->Prop),Inv X pins σ H s->t σ H Q->wpAny (model X.prog X.w) X.A (isTrue e X.env whole) (TP X pins σ Q) X.xe s
def PW.pt {X:Cx} {e:Expr} {t:TT} (h:PW X e t):PT X e t:=h _
def PA (X:Cx) (es:List Expr) (t:TA):Prop:=
 ∀ (pos:Pos) (pins:List (Addr×Obj)) (s:Shared) (σ:St) (H:Hp) (Q:List V->Hp->Prop),Inv X pins σ H s->t σ H Q->wpAny (model X.prog X.w) X.A (spliced (backTo pos (starEach es X.env))) (AP X pins σ Q) X.xe s
def PS (X:Cx) (st:Stmt) (t:TS):Prop:=
 ∀ (pins:List (Addr×Obj)) (s:Shared) (σ:St) (H:Hp) (D:Ends),Inv X pins σ H s->t D σ H->wpAny (model X.prog X.w) X.A (exec st X.env) (SP X pins D) X.xe s
def PSs (X:Cx) (st:List Stmt) (t:TS):Prop:=
 ∀ (pins:List (Addr×Obj)) (s:Shared) (σ:St) (H:Hp) (D:Ends),Inv X pins σ H s->t D σ H->wpAny (model X.prog X.w) X.A (execs st X.env) (SP X pins D) X.xe s
def thn {α:Type} {t:Sem α} {Q Q':α->Shared->Prop} {M:Model} {A:Around} {E:Value->Shared->Prop} {s:Shared} (h:wpAny M A t Q E s) (hQ:∀ a s,Q a s->Q' a s):wpAny M A t Q' E s:=y0 h hQ λ_ _ x=>x
section
variable {X:Cx}
def qm1 (i:Nat):TE:=λσ H Q=>∃ v,σ[i]?=some (some v)/\Q v H
def tC (v:V):TE:=λ_ H Q=>Q v H
def qiL {i:Nat} {x:Str} {pos:Pos} (hN:X.N[i]?=some x) (hv:Vis X.env.scope x) (hd:(x==("__debug__" : Str))=false:=by decide) (hcd:(x==("__classdict__" : Str))=false:=by decide):PE X (.Name x pos) (qm1 i):=by
 intro pins s σ H Q I h;obtain ⟨v,e,h⟩:=h;obtain ⟨m,hn,hl⟩:=I.loc;obtain ⟨u,r,l⟩:=hl i x v hN e hv;have fin:EP X pins σ Q u s:=⟨v,H,I,r,h⟩
 rcases l with ⟨hk,hm⟩|⟨hk,c,hc,hcell⟩
 ·exact wpAny_Name (wpAny_loadName_local I.ok.kind hk hn hm fin) hd
 ·rcases hk with hk|hk
  ·exact wpAny_Name (wpAny_loadName_cell I.ok.kind hk hc hcell fin) hd
  ·exact wpAny_Name (wpAny_loadName_free I.ok.kind hk hc hcell fin hcd) hd
def qhJ {i j pos}:PE X (.Constant (.int i) j pos) (tC (.int i)):=λ_ _ _ H _ I h=>wpAny_Constant_int ⟨.int i,H,I.tok _,⟨_,rfl⟩,h⟩
def qly {b j pos}:PE X (.Constant (.bool b) j pos) (tC (.bl b)):=λ_ _ _ H _ I h=>Constant_bool ⟨.bl b,H,I,rfl,h⟩
def qho {j pos}:PE X (.Constant .none j pos) (tC .non):=λ_ _ _ H _ I h=>Constant_none ⟨.non,H,I,rfl,h⟩
def qiv {x j pos}:PE X (.Constant (.str x) j pos) (tC (.str x)):=λ_ _ _ H _ I h=>Calls.Constant_str ⟨.str x,H,I.tok _,⟨_,rfl⟩,h⟩
def Gl (X:Cx) (x:Str):Prop:=X.env.kindOf x=some .globalImplicit
def L5 {E:Value->Shared->Prop} {pins:List (Addr×Obj)} {s:Shared} {σ:St} {H:Hp} {x:Str} {u:Value} {pos:Pos} {Q:Value->Shared->Prop} (I:Inv X pins σ H s) (hg:Gl X x) (hm:X.mg x=some u) (h:Q u s)
  (hd:(x==("__debug__" : Str))=false:=by decide):wpAny (model X.prog X.w) X.A (eval (.Name x pos) X.env) Q E s:=
 Calls.Name_function_global I.ok.kind hg (Calls.loadGlobal_global (by rw [I.ok.glob];exact I.mod.glob.keeps I.bk) hm h) hd
def YW {E:Value->Shared->Prop} {pins:List (Addr×Obj)} {s:Shared} {σ:St} {H:Hp} {x:Str} {u:Value} {pos:Pos} {Q:Value->Shared->Prop} (I:Inv X pins σ H s) (hg:Gl X x) (hm:X.mg x=none) (hv:bootBuiltins x=some u) (h:Q u s)
  (hn:x≠"__name__" := by decide) (hd:(x==("__debug__" : Str))=false:=by decide):wpAny (model X.prog X.w) X.A (eval (.Name x pos) X.env) Q E s:=by
 obtain ⟨mb,h1,h2⟩:=I.mod.blt;exact Calls.Name_function_global I.ok.kind hg (Calls.loadGlobal_builtin (by rw [I.ok.glob];exact I.mod.glob.keeps I.bk) hm (by rw [I.ok.blt];exact h1.keeps I.bk) ((h2 x hn).trans hv) h) hd
def qe9 {x:Str} {v:V} {u:Value} {pos:Pos} (hg:Gl X x) (hm:X.mg x=none) (hv:bootBuiltins x=some u) (r:zT v u) (hn:x≠"__name__" := by decide) (hd:(x==("__debug__" : Str))=false:=by decide):PE X (.Name x pos) (tC v):=
 λ_ _ _ H _ I h=>YW I hg hm hv ⟨v,H,I,r,h⟩ hn hd
variable {a b:Expr} {ta tb:TE} {pos:Pos}
def tB (t:TE):TT:=λσ H Q=>t σ H λx H1=>∃ c,x=.bl c/\Q c H1
def qi8 {e:Expr} {t:TE} (h:PE X e t) (he:∀ whole,isTrue e X.env whole=(do let v←whole;standAt e.pos;holding [v] (truthy v)):=by intro _;rfl):PT X e (tB t):=by
 intro pins s σ H Q I hw;refine isTrue_plain (thn (h pins s σ H _ I hw) λv s1 ⟨x,H1,I1,r1,q1⟩=>?_) (he _);obtain ⟨d,rfl,q⟩:=q1;cases r1;exact wpAny_truthy_bool ⟨H1,I1,q⟩
variable {tA tB':TT} {jC:List Expr}
def qm4 (t u:TT):TT:=λσ H Q=>t σ H λc H1=>if c=true then u σ H1 Q else Q false H1
def tOr (t u:TT):TT:=λσ H Q=>t σ H λc H1=>if c=true then Q true H1 else u σ H1 Q
def qmT (t:TT):TT:=λσ H Q=>t σ H λc H1=>Q (!c) H1
def qeg (ha:PT X a tA):PW X (.BoolOp .And [a] pos) tA:=by
 intro wh pins s σ H Q I h;refine isTrue_and (thn (ha pins s σ H Q I h) λc s1 e=>?_);cases c with
 |true=>exact isTrue_and_nil e
 |false=>exact e
def qgG (ha:PT X a tA):PW X (.BoolOp .Or [a] pos) tA:=by
 intro wh pins s σ H Q I h;refine isTrue_or (thn (ha pins s σ H Q I h) λc s1 e=>?_);cases c with
 |false=>exact isTrue_or_nil e
 |true=>exact e
def qgR (ha:PT X a tA) (hb:PW X (.BoolOp .And (b::jC) pos) tB'):PW X (.BoolOp .And (a::b::jC) pos) (qm4 tA tB'):=by
 intro wh pins s σ H Q I h;refine isTrue_and (thn (ha pins s σ H _ I h) λc s1 ⟨H1,I1,q1⟩=>?_);cases c with
 |true=>exact hb wh pins s1 σ H1 Q I1 q1
 |false=>exact ⟨H1,I1,q1⟩
def qkg (ha:PT X a tA) (hb:PW X (.BoolOp .Or (b::jC) pos) tB'):PW X (.BoolOp .Or (a::b::jC) pos) (tOr tA tB'):=by
 intro wh pins s σ H Q I h;refine isTrue_or (thn (ha pins s σ H _ I h) λc s1 ⟨H1,I1,q1⟩=>?_);cases c with
 |true=>exact ⟨H1,I1,q1⟩
 |false=>exact hb wh pins s1 σ H1 Q I1 q1
def qjh (ha:PT X a tA):PT X (.UnaryOp .Not a pos) (qmT tA):=by
 intro pins s σ H Q I h;exact isTrue_not (ha pins s σ H (λc H1=>Q (!c) H1) I h)
def qlk (ta tb:TE):TE:=λσ H Q=>ta σ H λx H1=>∃ c,x=.bl c/\if c=true then tb σ H1 Q else Q (.bl false) H1
def qkd (ta:TE):TE:=λσ H Q=>ta σ H λx H1=>∃ c,x=.bl c/\Q (.bl (!c)) H1
def qh7 {op} {t:TE} (h:PE X a t):PE X (.BoolOp op [a] pos) t:=λpins s σ H Q I hw=>BoolOp_one (h pins s σ H Q I hw)
def qgy (ha:PE X a ta) (hb:PE X (.BoolOp .And (b::jC) pos) tb):PE X (.BoolOp .And (a::b::jC) pos) (qlk ta tb):=by
 intro pins s σ H Q I h;refine BoolOp_and (thn (ha pins s σ H _ I h) λv s1 ⟨x,H1,I1,r1,q1⟩=>?_);obtain ⟨c,rfl,q1⟩:=q1;cases r1;refine wpAny_truthy_bool ?_;cases c with
 |true=>exact hb pins s1 σ H1 Q I1 q1
 |false=>exact ⟨.bl false,H1,I1,rfl,q1⟩
def qhs (ha:PE X a ta):PE X (.UnaryOp .Not a pos) (qkd ta):=by
 intro pins s σ H Q I h;refine UnaryOp_ (thn (ha pins s σ H _ I h) λv s1 ⟨x,H1,I1,r1,q1⟩=>?_);obtain ⟨c,rfl,q1⟩:=q1;cases r1;exact not_of (wpAny_truthy_bool ⟨.bl (!c),H1,I1,rfl,q1⟩)
def tIf (t:TT) (ta tb:TE):TE:=λσ H Q=>t σ H λc H1=>if c=true then ta σ H1 Q else tb σ H1 Q
def qb2 {c:Expr} (hc:PT X c tA) (ha:PE X a ta) (hb:PE X b tb):PE X (.IfExp c a b pos) (tIf tA ta tb):=by
 intro pins s σ H Q I h;refine wpAny_IfExp (thn (hc pins s σ H _ I h) λd s1 ⟨H1,I1,q1⟩=>?_);cases d with
 |true=>exact ha pins s1 σ H1 Q I1 q1
 |false=>exact hb pins s1 σ H1 Q I1 q1
end
def SqL (K:Frg) (H:Hp) (a:Addr) (xs:List V):Prop:=
 Rd H a (.lst xs) ∨
  ∃ (o:Obj) (its:Array Value) (n:Nat),K.lookup a=some o/\o.cls=.type "list"/\o.dict=none/\o.data=.seq its n/\its.size<=sizeLine/\qQ xs its.toList
def SqT (K:Frg) (H:Hp) (a:Addr) (xs:List V):Prop:=
 Rd H a (.tup xs) ∨
  ∃ (o:Obj) (its:Array Value) (n:Nat),K.lookup a=some o/\o.cls=.type "tuple"/\o.data=.seq its n/\its.size<=sizeLine/\qQ xs its.toList/\o.dict=none
def qmQ:Value->Option V
 |.none=>some .non
 |.bool b=>some (.bl b)
 |.int i _=>some (.int i)
 |.str x _=>some (.str x)
 |.bytes b _=>some (.byt b)
 |.float b _=>some (.flt b)
 |.ref a=>some (.ref a)
 |.type n=>some (.ty n)
 |_=>none
def zT.abs {x:V} {u:Value} (r:zT x u):qmQ u=some x:=by
 cases x with
 |non=>cases r;rfl
 |bl _=>cases r;rfl
 |int _=>obtain ⟨t,rfl⟩:=r;rfl
 |str _=>obtain ⟨t,rfl⟩:=r;rfl
 |byt _=>obtain ⟨t,rfl⟩:=r;rfl
 |flt _=>obtain ⟨t,rfl⟩:=r;rfl
 |ref _=>cases r;rfl
 |ty _=>cases r;rfl
theorem zT.inj {x y:V} {u:Value} (r:zT x u) (q:zT y u):x=y:=Option.some.inj (r.abs.symm.trans q.abs)
theorem qQ.inj:∀ {xs ys:List V} {us:List Value},qQ xs us->qQ ys us->xs=ys
 |_,_,_,.nil,.nil=>rfl
 |_,_,_,.cons r t,.cons r' t'=>by rw [r.inj r',qQ.inj t t']
section
variable {X:Cx} {pins:List (Addr×Obj)} {σ:St} {H:Hp} {s:Shared} {a:Addr} {xs ys:List V}
def SqL.of {K:Frg} (h:H a=some (.lst xs)):SqL K H a xs:=.inl (.inl h)
def SqT.of {K:Frg} (h:H a=some (.tup xs)):SqT K H a xs:=.inl (.inl h)
def Inv.list (I:Inv X pins σ H s) (h:SqL X.K H a xs):∃ its:List Value,qQ xs its/\PlainL s.heap a its.toArray/\xs.length<=sizeLine:=by
 rcases h with h|⟨o,its,n,hk,hc,hd,hs,hz,r⟩
 ·obtain ⟨z,its,n,r,e⟩:=h.ok I.hok;exact ⟨its,r,⟨_,n,e,rfl,rfl,rfl⟩,z⟩
 ·refine ⟨its.toList,r,⟨o,n,I.kIn a o hk,hc,hd,by simpa using hs⟩,?_⟩;have e:=r.length;simp only [Array.length_toList] at e;omega
def Inv.tuple (I:Inv X pins σ H s) (h:SqT X.K H a xs):∃ its:List Value,qQ xs its/\IsTup s.heap a its.toArray/\xs.length<=sizeLine:=by
 rcases h with h|⟨o,its,n,hk,hc,hs,hz,r,_⟩
 ·obtain ⟨z,its,r,p⟩:=h.ok I.hok;exact ⟨its,r,p.tup,z⟩
 ·refine ⟨its.toList,r,⟨o,I.kIn a o hk,hc,n,by simpa using hs⟩,?_⟩;have e:=r.length;simp only [Array.length_toList] at e;omega
def Inv.list_inj (I:Inv X pins σ H s) (h:SqL X.K H a xs) (h':SqL X.K H a ys):xs=ys:=by
 obtain ⟨its,r,⟨o,n,e,_,_,d⟩,_⟩:=I.list h;obtain ⟨its',r',⟨o',n',e',_,_,d'⟩,_⟩:=I.list h';rw [e] at e';cases e';rw [d] at d';injection d' with d1 _;have:its=its':=by simpa using congrArg Array.toList d1
 subst this;exact r.inj r'
def Inv.tuple_inj (I:Inv X pins σ H s) (h:SqT X.K H a xs) (h':SqT X.K H a ys):xs=ys:=by
 obtain ⟨its,r,⟨o,e,_,n,d⟩,_⟩:=I.tuple h;obtain ⟨its',r',⟨o',e',_,n',d'⟩,_⟩:=I.tuple h';rw [e] at e';cases e';rw [d] at d';injection d' with d1 _;have:its=its':=by simpa using congrArg Array.toList d1
 subst this;exact r.inj r'
end
abbrev Cx.wish (X:Cx) (E:Value->Shared->Prop):Cx:={ X with xe:=E }
abbrev Cx.nox (X:Cx):Cx:=X.wish λ_ _=>False
theorem Cx.Ok.wish {X:Cx} (ok:X.Ok) (E:Value->Shared->Prop):(X.wish E).Ok:=
 ⟨ok.mod,ok.kind,ok.glob,ok.blt,ok.above,ok.inj,ok.has,ok.cab,ok.hd,ok.frames,ok.stk,ok.exf,ok.bs,ok.bsz,ok.noex,ok.exfs,ok.funs,ok.frf⟩
def Cx.Ok.unwish {X:Cx} {E:Value->Shared->Prop} (ok:(X.wish E).Ok):X.Ok:=
 ⟨ok.mod,ok.kind,ok.glob,ok.blt,ok.above,ok.inj,ok.has,ok.cab,ok.hd,ok.frames,ok.stk,ok.exf,ok.bs,ok.bsz,ok.noex,ok.exfs,ok.funs,ok.frf⟩
section
variable {X:Cx} {pins:List (Addr×Obj)} {σ:St} {H:Hp} {s:Shared} {E:Value->Shared->Prop}
theorem Inv.wish (I:Inv X pins σ H s) (E:Value->Shared->Prop):Inv (X.wish E) pins σ H s:=⟨I.ok.wish E,I.os,I.bare,I.base,I.loc,I.cell,I.free,I.freeC,I.pin,I.hok,I.len⟩
theorem Inv.unwish (I:Inv (X.wish E) pins σ H s):Inv X pins σ H s:=⟨I.ok.unwish,I.os,I.bare,I.base,I.loc,I.cell,I.free,I.freeC,I.pin,I.hok,I.len⟩
theorem SP.unwish {D:Ends} {f:Flow} {s':Shared} (h:SP (X.wish E) pins D f s'):SP X pins D f s':=by
 cases f with
 |next=>obtain ⟨σ',H',I,q⟩:=h;exact ⟨σ',H',I.unwish,q⟩
 |brk=>obtain ⟨σ',H',I,q⟩:=h;exact ⟨σ',H',I.unwish,q⟩
 |cont=>obtain ⟨σ',H',I,q⟩:=h;exact ⟨σ',H',I.unwish,q⟩
 |ret u=>obtain ⟨v,σ',H',I,r,q⟩:=h;exact ⟨v,σ',H',I.unwish,r,q⟩
theorem PSs.nox {st:List Stmt} {t:TS} (h:PSs X.nox st t):PSs X st t:=λpins s σ H D I hw=>
 y0 (h pins s σ H D (I.wish _) hw) (λ_ _ q=>q.unwish) λ_ _ z=>False.elim z
end
section
variable {X:Cx} {st:Stmt} {jC:List Stmt} {t u:TS} {e:Expr} {te:TE} {pos:Pos}
def qku:TS:=λD σ H=>D.nx σ H
def qmR (t u:TS):TS:=λD σ H=>t { D with nx:=u D } σ H
def qfv:PSs X [] qku:=λ_ _ σ H _ I h=>wpAny_execs_nil ⟨σ,H,I,h⟩
def qb9 (h1:PS X st t) (h2:PSs X jC u):PSs X (st::jC) (qmR t u):=by
 intro pins s σ H D I h;refine wpAny_execs_cons (thn (h1 pins s σ H { D with nx:=u D } I h) λf s1 q=>?_);cases f with
 |next=>
  obtain ⟨σ',H',I',q⟩:=q;exact h2 pins s1 σ' H' D I' q
 |ret v=>exact q
 |brk=>exact q
 |cont=>exact q
def qeQ (h1:PS X st t):PSs X [st] t:=by
 intro pins s σ H D I h;refine wpAny_execs_cons (thn (h1 pins s σ H D I h) λf s1 q=>?_);cases f with
 |next=>exact wpAny_execs_nil q
 |ret v=>exact q
 |brk=>exact q
 |cont=>exact q
def Inv.quiet {pins:List (Addr×Obj)} {σ:St} {H:Hp} {s:Shared} (I:Inv X pins σ H s):interactive X.env=false:=by simp [interactive,I.ok.kind]
def qkn (te:TE):TS:=λD σ H=>te σ H λ_ H1=>D.nx σ H1
def qeD (he:PE X e te) (hs:swapsWith e none pos.line X.env=pure false:=by rfl):PS X (.Expr e pos) (qkn te):=by
 intro pins s σ H D I h;exact wpAny_Expr_any (thn (he pins s σ H _ I h) λv s1 ⟨x,H1,I1,r1,q1⟩=>⟨σ,H1,I1,q1⟩) I.quiet hs
def qm9 (te:TE):TS:=λD σ H=>te σ H D.rt
def qiE (he:PE X e te):PS X (.Return (some e) pos) (qm9 te):=by
 intro pins s σ H D I h;exact wpAny_Return_some (thn (he pins s σ H _ I h) λv s1 ⟨x,H1,I1,r1,q1⟩=>⟨x,σ,H1,I1,r1,q1⟩)
def qnj (c:TT) (t u:TS):TS:=λD σ H=>c σ H λb H1=>if b=true then t D σ H1 else u D σ H1
def qkt {c:Expr} {a b:List Stmt} {tc:TT} (hc:PT X c tc) (ha:PSs X a t) (hb:PSs X b u):PS X (.If c a b pos) (qnj tc t u):=by
 intro pins s σ H D I h;refine wpAny_If (thn (hc pins s σ H _ I h) λd s1 ⟨H1,I1,q1⟩=>?_);cases d with
 |true=>exact ha pins s1 σ H1 D I1 q1
 |false=>exact hb pins s1 σ H1 D I1 q1
end
abbrev TG:=V->St->Hp->(St->Hp->Prop)->Prop
abbrev TGs:=List V->St->Hp->(St->Hp->Prop)->Prop
def PG (X:Cx) (target:Expr) (t:TG):Prop:=
 ∀ (pins:List (Addr×Obj)) (s:Shared) (σ:St) (H:Hp) (v:V) (u:Value) (Q:St->Hp->Prop),Inv X pins σ H s->zT v u->t v σ H Q ->
  wpAny (model X.prog X.w) X.A (assign target X.env u) (λ_ s'=>∃ σ' H',Inv X pins σ' H' s'/\Q σ' H') X.xe s
def PGs (X:Cx) (ts:List Expr) (t:TGs):Prop:=
 ∀ (pins:List (Addr×Obj)) (s:Shared) (σ:St) (H:Hp) (vs:List V) (us:List Value) (Q:St->Hp->Prop),Inv X pins σ H s->qQ vs us->t vs σ H Q ->
  wpAny (model X.prog X.w) X.A (assignInOrder ((assignEach ts X.env).map (·.2)) us) (λ_ s'=>∃ σ' H',Inv X pins σ' H' s'/\Q σ' H') X.xe s
abbrev qlr:=V->V->V->Hp->(Hp->Prop)->Prop
def qmk (X:Cx) (t:qlr):Prop:=
 ∀ (pins:List (Addr×Obj)) (s:Shared) (σ:St) (H:Hp) (o i v:V) (ov iv u:Value) (Q:Hp->Prop),Inv X pins σ H s->zT o ov->zT i iv->zT v u->t o i v H Q ->
  wpAny (model X.prog X.w) X.A (setItem ov iv u) (λ_ s'=>∃ H',Inv X pins σ H' s'/\Q H') X.xe s
section
variable {X:Cx} {pos:Pos}
def qjr (i:Nat):TG:=λv σ H Q=>Q (σ.set i (some v)) H
def qd5 {i:Nat} {x:Str} (hN:X.N.Nodup) (hi:X.N[i]?=some x) (hx:Loc X.env.scope x) (hf:X.fn x=true\/X.env.scope.names.lookup x=some .local:=by first|exact .inl rfl|exact .inr rfl|assumption):PG X (.Name x pos) (qjr i):=by
 intro pins s σ H v u Q I r h;exact wpAny_assign_Name (VM I hN hi hx r (λs' I'=>⟨_,H,I',h⟩) hf)
def M0:TGs:=λvs σ H Q=>vs=[]/\Q σ H
def jE (t:TG) (u:TGs):TGs:=λvs σ H Q=>∃ v r,vs=v::r/\t v σ H λσ' H'=>u r σ' H' Q
def qeJ:PGs X [] M0:=by
 intro pins s σ H vs us Q I r h;obtain ⟨e,h⟩:=h;subst e;cases r;exact assignInOrder_nil ⟨σ,H,I,h⟩
def qbC {e:Expr} {es:List Expr} {t:TG} {u:TGs} (h1:PG X e t) (h2:PGs X es u)
  (hs:(assignEach (e::es) X.env).map (·.2)=assign e X.env::(assignEach es X.env).map (·.2):=by rfl):PGs X (e::es) (jE t u):=by
 intro pins s σ H vs us Q I r h;obtain ⟨v,vr,e1,h⟩:=h;subst e1;cases r with
 |cons r rr=>
  rw [hs];refine assignInOrder_cons (thn (h1 pins s σ H _ _ _ I r h) λ_ s1 ⟨σ1,H1,I1,q1⟩=>?_);exact h2 pins s1 σ1 H1 _ _ Q I1 rr q1
def MQ (K:Frg) (n:Nat) (t:TGs):TG:=λv σ H Q=>∃ a xs,v=.ref a/\SqT K H a xs/\xs.length=n/\t xs σ H Q
def qiC {es:List Expr} {k:Nat} {t:TGs} {n:Nat} (hc:X.calm=true) (h:PGs X es t)
  (hn:(assignEach es X.env).length=n:=by rfl) (hst:(assignEach es X.env).findIdx? (·.1)=none:=by rfl):PG X (.Tuple es k pos) (MQ X.K n t):=by
 intro pins s σ H v u Q I r hw;obtain ⟨a,xs,e1,hq,hl,hw⟩:=hw;subst e1;cases r;obtain ⟨its,rv,ht,hz⟩:=I.tuple hq;refine assign_Tuple_tuple (I.ok.hd hc) ht (by simp [hn,← hl,rv.length]) hst λh' hx=>?_;have I1:Inv X pins σ H { s with heap:=h' }:=I.kept (t':=s.toks) λb o e=>hx b o (u4 (y4 e)) e;exact h pins _ σ H xs _ Q I1 (by simpa using rv) hw
def qm3 (to ti:TE) (t:qlr):TG:=λv σ H Q=>to σ H λo H1=>ti σ H1 λi H2=>t o i v H2 λH3=>Q σ H3
def qiD {o i:Expr} {to ti:TE} {t:qlr} (ho:PE X o to) (hi:PE X i ti) (hs:qmk X t)
  (ha:∀ v,assign (.Subscript o i pos) X.env v=(do
   let ov←holding [v] (eval o X.env)
   let iv←holding [v,ov] (eval i X.env)
   standAt pos
   holding [v,ov,iv] (setItem ov iv v)
   release [v,ov,iv] []):=by intro _;rfl):PG X (.Subscript o i pos) (qm3 to ti t):=by
 intro pins s σ H v u Q I r h;rw [ha];refine x8 (wpAny_holding (thn (ho pins s σ H _ I h) λov s1 ⟨x,H1,I1,r1,q1⟩=>?_));refine x8 (wpAny_holding (thn (hi pins s1 σ H1 _ I1 q1) λiv s2 ⟨y,H2,I2,r2,q2⟩=>?_));refine x8 (wpAny_standAt (x8 (wpAny_holding (thn (hs pins s2 σ H2 x y v ov iv u _ I2 r1 r2 r q2) λ_ s3 ⟨H3,I3,q3⟩=>?_))));exact wpAny_release ⟨σ,H3,I3,q3⟩
def qmG (te:TE) (g:TG):TS:=λD σ H=>te σ H λx H1=>g x σ H1 D.nx
def qiG {tg e:Expr} {te:TE} {g:TG} (he:PE X e te) (hg:PG X tg g) (hs:swapsWithSole [tg] e pos.line X.env=pure false:=by rfl) (hw:swappedStores [tg] e X.env=pure none:=by rfl)
  (h1:(assignEach [tg] X.env).map (·.2)=[assign tg X.env]:=by rfl):PS X (.Assign [tg] e pos) (qmG te g):=by
 intro pins s σ H D I h;refine wpAny_Assign_stores (thn (he pins s σ H _ I h) λv s1 ⟨x,H1,I1,r1,q1⟩=>?_) hs hw;rw [h1];exact thn (hg pins s1 σ H1 x v _ I1 r1 q1) λ_ s2 q=>q
def qgr {i:Nat} {x:Str} {e:Expr} {te:TE} {pos':Pos} (hN:X.N.Nodup) (hi:X.N[i]?=some x) (hx:Loc X.env.scope x) (he:PE X e te) (hs:swapsWith e (some (.Name x pos')) pos.line X.env=pure false:=by rfl) (hf:X.fn x=true\/X.env.scope.names.lookup x=some .local:=by first|exact .inl rfl|exact .inr rfl|assumption) :
  PS X (.Assign [.Name x pos'] e pos) (qmG te (qjr i)):=by
 intro pins s σ H D I h;refine wpAny_Assign_Name (thn (he pins s σ H _ I h) λv s1 ⟨y,H1,I1,r1,q1⟩=>?_) hs;exact VM I1 hN hi hx r1 (λs2 I2=>⟨_,H1,I2,q1⟩) hf
def qnp (i j:Nat) (ta:TA):TS:=λD σ H=>ta σ H λvs H1=>∃ v w,vs=[v,w]/\D.nx ((σ.set i (some v)).set j (some w)) H1
def qhO {i j:Nat} {x y:Str} {a b:Expr} {ta:TA} {px py pt:Pos} {kt k2 pt2} (hc:X.calm=true) (hN:X.N.Nodup) (hi:X.N[i]?=some x) (hj:X.N[j]?=some y) (hij:i≠j)
  (hx:X.env.scope.names.lookup x=some .local) (hy:X.env.scope.names.lookup y=some .local) (ha:PA X [a,b] ta)
  (hw:swappedStores [.Tuple [.Name x px,.Name y py] kt pt] (.Tuple [a,b] k2 pt2) X.env=pure (some [x,y]))
  (hs:swapsWithSole [.Tuple [.Name x px,.Name y py] kt pt] (.Tuple [a,b] k2 pt2) pos.line X.env=pure false:=by rfl) :
  PS X (.Assign [.Tuple [.Name x px,.Name y py] kt pt] (.Tuple [a,b] k2 pt2) pos) (qnp i j ta):=by
 intro pins s σ H D I h;rw [exec_Assign_arm];refine x8 (wpAny_standAt ?_);rw [hs];refine x8 (x9 ?_);rw [if_neg (by decide)];refine x8 (Tuple_ (thn (ha _ pins s σ H _ I h) λus s1 ⟨vs,H1,I1,r1,q1⟩=>?_));obtain ⟨v,w,e1,q1⟩:=q1;subst e1;obtain ⟨u1,u2,rfl,rv,rw'⟩:∃ u1 u2,us=[u1,u2]/\zT v u1/\zT w u2:=by
  cases r1 with
  |cons p q=>
   cases q with
   |cons p' q'=>
    cases q';exact ⟨_,_,rfl,p,p'⟩
 refine wpAny_newObj_type ?_ (by show 2<=sizeLine;decide);have I2:Inv X pins σ H1 { s1 with heap:=s1.heap.push { cls:=.type "tuple",data:=.seq [u1,u2].toArray } }:=I1.kept (t':=s1.toks) λb o e=>y2 _ e;rw [hw];refine x8 (x9 ?_);show wpAny (model X.prog X.w) X.A (do rule "assign.swapped-stores";let items←unpackItems (.ref s1.heap.objs.size) 2 none;assignInOrder [λv=>bindName X.env y v,λv=>bindName X.env x v] items.reverse;pure Flow.next) _ _ _;refine x8 (wpAny_rule (x8 (unpackItems_tuple (items:=#[u1,u2]) (I.ok.hd hc) (IsTup.new s1.heap _) λh' hx'=>?_)));have I3:=I2.kept (h':=h') (t':=s1.toks) λb o e=>hx' b o (u4 (y4 e)) e;show wpAny _ _ (assignInOrder [λv=>bindName X.env y v,λv=>bindName X.env x v] [u2,u1] >>= λ_=>pure Flow.next) _ _ _;refine x8 (assignInOrder_cons (wpAny_bindName (VM I3 hN hj (.inl hy) rw' (λs2 I4=>?_) (.inr hy))));refine assignInOrder_cons (wpAny_bindName (VM I4 hN hi (.inl hx) rv (λs3 I5=>assignInOrder_nil (x9 ?_)) (.inr hx)));rw [List.set_comm _ _ (Ne.symm hij)] at I5;exact ⟨_,H1,I5,q1⟩
end
section
variable {X:Cx} {pos:Pos}
end
structure It where
 go:Nat->Hp->Prop
 yld:Nat->Hp->V->Hp->Prop
 stop:Nat->Hp->Prop
def LB (X:Cx) (pins:List (Addr×Obj)) (H:Hp) (b:Addr):Prop:=
 H b=none/\b≠X.env.locals/\b∉X.fs/\(b∈X.ex\/X.s₀.heap.objs.size<=b)/\(∀ x c,X.env.cells.lookup x=some c->c≠b)/\∀ p∈X.pn++pins,p.1≠b
def Inv.fpOk {X:Cx} {pins:List (Addr×Obj)} {σ:St} {H H':Hp} {s:Shared} {b:Addr} (I:Inv X pins σ H s) (hb:s.heap.objs.size<=b) (hn:H' b=none):LB X pins H' b:=by
 refine ⟨hn,Nat.ne_of_gt (v8 I.lt hb),I.nofs hb,.inr (u3 I.sz hb),λx c e z=>?_,λp hp z=>?_⟩
 ·obtain ⟨v,q⟩:=I.cell x c e;exact absurd (v8 q.lt (by rw [z];exact hb)) (Nat.lt_irrefl _)
 ·exact absurd (v8 (y4 (I.pin p hp).1) (by rw [z];exact hb)) (Nat.lt_irrefl _)
structure Turn (P:Program) (w:World) (K:Frg) (tg:Expr) (J:It) (fp:List Addr) (it:Addr) (tn:Nat->Heap->Prop):Prop where
 mem:it∈fp
 obj:∀ i h,tn i h->∀ b∈fp,∃ o,h.get? b=some o/\∀ v,o.data≠.cell v
 keep:∀ i h h',tn i h->(∀ b∈fp,∀ o,h.get? b=some o->h'.get? b=some o)->tn i h'
 item:∀ (X:Cx),X.prog=P->X.w=w->X.K=K->X.calm=true->∀ (i:Nat) (pins:List (Addr×Obj)) (s:Shared) (σ:St) (H:Hp) (E:Value->Shared->Prop),Inv X pins σ H s->(∀ b∈fp,LB X pins H b)->tn i s.heap->J.go i H ->
  wpAny (model P w) X.A (pyNext (.ref it)) (λr s1=>∃ u,r=some u /\
   wpAny (model P w) X.A (letOwnedTupleGo tg (.ref it) u) (λ_ s2=>∃ x H',Inv X pins σ H' s2/\zT x u/\J.yld i H x H'/\tn (i+1) s2.heap/\∀ b∈fp,H' b=none) E s1) E s
 done:∀ (X:Cx),X.prog=P->X.w=w->X.K=K->X.calm=true->∀ (i:Nat) (pins:List (Addr×Obj)) (s:Shared) (σ:St) (H:Hp) (E:Value->Shared->Prop),Inv X pins σ H s->(∀ b∈fp,LB X pins H b)->tn i s.heap->J.stop i H ->
  wpAny (model P w) X.A (pyNext (.ref it)) (λr s1=>r=none/\Inv X pins σ H s1) E s
 self:∀ (A:Around) (i:Nat) (s:Shared) (Q:Value->Shared->Prop) (E:Value->Shared->Prop),tn i s.heap->Q (.ref it) s->wpAny (model P w) A (pyIter (.ref it)) Q E s
abbrev TI:=St->Hp->(It->Hp->Prop)->Prop
def PIE (X:Cx) (pins:List (Addr×Obj)) (σ:St) (tg:Expr) (R:It->Hp->Prop) (itv:Value) (s2:Shared):Prop:=
 ∃ (it:Addr) (fp:List Addr) (tn:Nat->Heap->Prop) (J:It) (H':Hp),itv=.ref it/\Inv X pins σ H' s2/\Turn X.prog X.w X.K tg J fp it tn/\tn 0 s2.heap/\(∀ b∈fp,LB X pins H' b)/\R J H'
def PI (X:Cx) (tg iter:Expr) (wi:TI):Prop:=
 ∀ (pins:List (Addr×Obj)) (s:Shared) (σ:St) (H:Hp) (R:It->Hp->Prop),Inv X pins σ H s->wi σ H R ->
  wpAny (model X.prog X.w) X.A (eval iter X.env) (λv s1=>wpAny (model X.prog X.w) X.A (pyIter v) (PIE X pins σ tg R) X.xe s1) X.xe s
def qe7 {M:Model} {A:Around} {E:Value->Shared->Prop} {s:Shared} {tg:Expr} {it:Addr} {u:Value} {o:Obj} {n:String} {vs:Array Value} {Q:Unit->Shared->Prop} (ho:s.heap.get? it=some o) (hc:o.cls=.type n) (hd:o.data=.fields vs)
    (hn:["enumerate","zip","dict_itemiterator","dict_reverseitemiterator","odict_iterator","itertools.zip_longest","itertools.pairwise"].contains n=false) (hQ:Q () s):wpAny M A (letOwnedTupleGo tg (.ref it) u) Q E s:=by
  unfold letOwnedTupleGo;cases tg<;>first
    |exact x9 hQ
    | (cases u<;>first
        |exact x9 hQ
        | (refine x8 (wpAny_load ho ?_)
           rw [hc,hd];show wpAny M A (if (["enumerate","zip","dict_itemiterator","dict_reverseitemiterator","odict_iterator","itertools.zip_longest","itertools.pairwise"].contains n&&vs[0]?==some (rawInt _))=true then _ else _) Q E s;rw [if_neg (by intro h;rw [hn,Bool.false_and] at h;cases h)];exact x9 hQ))
def Itl (K:Frg) (a:Addr):It:=
 ⟨λi H=>∃ xs x,SqL K H a xs/\xs[i]?=some x,λi H x H'=>H'=H/\∀ xs,SqL K H a xs->xs[i]?=some x,λi H=>∃ xs,SqL K H a xs/\xs.length<=i⟩
def Itt (K:Frg) (a:Addr):It:=
 ⟨λi H=>∃ xs x,SqT K H a xs/\xs[i]?=some x,λi H x H'=>H'=H/\∀ xs,SqT K H a xs->xs[i]?=some x,λi H=>∃ xs,SqT K H a xs/\xs.length<=i⟩
def Itr (lo:Int) (n:Nat):It:=⟨λi _=>i<n,λi H x H'=>H'=H/\x=.int (lo+i),λi _=>n<=i⟩
def M6 {P:Program} {w:World} {K:Frg} {tg:Expr} (a it:Addr):Turn P w K tg (Itl K a) [it] it (λi h=>h.IsListIter it a i) where
 mem:=by simp
 obj:=λi h st b hb=>by
  have e:b=it:=by simpa using hb
  subst e;obtain ⟨o,e,c,d⟩:=st;exact ⟨o,e,λv z=>by rw [d] at z;cases z⟩
 keep:=λi h h' st k=>st.at λo e=>k it (by simp) o e
 item:=by
  intro X hP hw hK hc i pins s σ H E I hf st hg;subst hP hw hK;obtain ⟨xs,x,hq,hx⟩:=hg;obtain ⟨its,rv,p,hz⟩:=I.list hq;obtain ⟨u,hu,ru⟩:=rv.get hx;obtain ⟨f0,f1,f2,f3,f4,f5⟩:=hf it (by simp);refine wpAny_pyNext_list_item st p.isList (x:=u) (by simpa using hu) λh' st' sb=>?_;have I1:Inv X pins σ H { s with heap:=h' }:=I.turned (t':=s.toks) (λb o hb e=>(sb.2 b hb).trans e) f0 f1 f3 f4 f5;obtain ⟨o,e,c,d⟩:=id st';exact ⟨u,rfl,qe7 (s:={ s with heap:=h' }) e c d (by decide) ⟨x,H,I1,ru,⟨rfl,λys hy=>by rw [I.list_inj hy hq];exact hx⟩,st',λb hb=>(hf b hb).1⟩⟩
 done:=by
  intro X hP hw hK hc i pins s σ H E I hf st hg;subst hP hw hK;obtain ⟨xs,hq,hx⟩:=hg;obtain ⟨its,rv,p,hz⟩:=I.list hq;obtain ⟨f0,f1,f2,f3,f4,f5⟩:=hf it (by simp);have hl:=rv.length;exact wpAny_pyNext_list_end (I.ok.hd hc) st p.isList (by simp;omega) λh' eb=>⟨rfl,I.turned (t':=s.toks) (λb o hb e=>eb b o hb e) f0 f1 f3 f4 f5⟩
 self:=λ_ _ _ _ _ st h=>wpAny_pyIter_listiter st h
def LA {P:Program} {w:World} {K:Frg} {tg:Expr} (a it:Addr):Turn P w K tg (Itt K a) [it] it (λi h=>h.IsTupleIter it a i) where
 mem:=by simp
 obj:=λi h st b hb=>by
  have e:b=it:=by simpa using hb
  subst e;obtain ⟨o,e,c,d⟩:=st;exact ⟨o,e,λv z=>by rw [d] at z;cases z⟩
 keep:=λi h h' st k=>st.at λo e=>k it (by simp) o e
 item:=by
  intro X hP hw hK hc i pins s σ H E I hf st hg;subst hP hw hK;obtain ⟨xs,x,hq,hx⟩:=hg;obtain ⟨its,rv,p,hz⟩:=I.tuple hq;obtain ⟨u,hu,ru⟩:=rv.get hx;obtain ⟨f0,f1,f2,f3,f4,f5⟩:=hf it (by simp);refine wpAny_pyNext_tuple_item st (show s.heap.IsTuple a its.toArray from p) (x:=u) (by simpa using hu) λh' st' sb=>?_;have I1:Inv X pins σ H { s with heap:=h' }:=I.turned (t':=s.toks) (λb o hb e=>(sb.2 b hb).trans e) f0 f1 f3 f4 f5;obtain ⟨o,e,c,d⟩:=id st';exact ⟨u,rfl,qe7 (s:={ s with heap:=h' }) e c d (by decide) ⟨x,H,I1,ru,⟨rfl,λys hy=>by rw [I.tuple_inj hy hq];exact hx⟩,st',λb hb=>(hf b hb).1⟩⟩
 done:=by
  intro X hP hw hK hc i pins s σ H E I hf st hg;subst hP hw hK;obtain ⟨xs,hq,hx⟩:=hg;obtain ⟨its,rv,p,hz⟩:=I.tuple hq;obtain ⟨f0,f1,f2,f3,f4,f5⟩:=hf it (by simp);have hl:=rv.length;exact wpAny_pyNext_tuple_end (I.ok.hd hc) st (show s.heap.IsTuple a its.toArray from p) (by simp;omega) λh' eb=>⟨rfl,I.turned (t':=s.toks) (λb o hb e=>eb b o hb e) f0 f1 f3 f4 f5⟩
 self:=λ_ _ _ _ _ st h=>wpAny_pyIter_tupleiter st h
def T5 {P:Program} {w:World} {K:Frg} {tg:Expr} (it:Addr) (lo:Int) (n:Nat):Turn P w K tg (Itr lo n) [it] it (λi h=>IsRangeIter h it (lo+(i:Nat)*1) ((n:Int)-(i:Nat)) 1) where
 mem:=by simp
 obj:=λi h st b hb=>by
  have e:b=it:=by simpa using hb
  subst e;exact ⟨_,st,λv z=>by
   have z':Data.fields _=Data.cell v:=z;cases z'⟩
 keep:=λi h h' st k=>k it (by simp) _ st
 item:=by
  intro X hP hw hK hc i pins s σ H E I hf st hg;subst hP hw hK;obtain ⟨f0,f1,f2,f3,f4,f5⟩:=hf it (by simp);have W:=Walks.range (prog:=X.prog) (w:=X.w) (I.ok.hd hc) it lo 1 n;refine W.item i s _ _ hg st λv h' tk hv st' kk=>?_;obtain ⟨t,rfl⟩:=hv;have I1:Inv X pins σ H { s with heap:=h',toks:=tk }:=I.turned (λb o hb e=>kk b o (by simpa using hb) e) f0 f1 f3 f4 f5;refine ⟨_,rfl,qe7 (s:={ s with heap:=h',toks:=tk }) (n:="range_iterator") st' rfl rfl (by decide) ⟨.int (lo+i),H,I1,⟨t,?_⟩,⟨rfl,rfl⟩,st',λb hb=>(hf b hb).1⟩⟩;rw [Int.mul_one]
 done:=by
  intro X hP hw hK hc i pins s σ H E I hf st hg;subst hP hw hK;obtain ⟨f0,f1,f2,f3,f4,f5⟩:=hf it (by simp);exact wpAny_pyNext_range_end (I.ok.hd hc) st (by have:n<=i:=hg;omega) λh' eb=>⟨rfl,I.turned (t':=s.toks) (λb o hb e=>eb b o hb e) f0 f1 f3 f4 f5⟩
 self:=λ_ _ _ _ _ st h=>wpAny_pyIter_rangeiter st h
section
variable {X:Cx} {tg:Expr}
def qbK {pins:List (Addr×Obj)} {σ:St} {H:Hp} {s:Shared} {R:It->Hp->Prop} {E:Value->Shared->Prop} {lo hi:Int} {t u v:Tok} {tk:Nat} (I:Inv X pins σ H s) (h1:-(2 ^ 62)<=lo) (h2:lo<2 ^ 62) (h3:-(2 ^ 62)<=hi) (h4:hi<2 ^ 62)
  (q:R (Itr lo (hi-lo).toNat) H):wpAny (model X.prog X.w) X.A (pyIter (.ref s.heap.objs.size)) (PIE X pins σ tg R) E { s with heap:=s.heap.push { cls:=.type "range",data:=.fields #[.int lo t,.int hi u,.int 1 v] },toks:=tk }:=by
 refine wpAny_pyIter_range (IsRange.new ..) (small_one h1 h2 h3 h4) ?_;have I1:Inv X pins σ H { s with heap:=s.heap.push { cls:=.type "range",data:=.fields #[.int lo t,.int hi u,.int 1 v] },toks:=tk }:=I.kept λb o e=>y2 _ e;refine ⟨(s.heap.push { cls:=.type "range",data:=.fields #[.int lo t,.int hi u,.int 1 v] }).objs.size,[(s.heap.push { cls:=.type "range",data:=.fields #[.int lo t,.int hi u,.int 1 v] }).objs.size],_,_,H,rfl,
  I1.kept (t':=tk) λb o e=>y2 _ e,T5 _ lo (hi-lo).toNat,?_,λb hb=>?_,q⟩
 ·have e1:lo+((0:Nat):Int)*1=lo:=by simp
  have e2:(((hi-lo).toNat:Nat):Int)-((0:Nat):Int)=Builtin.Range.rangeSize lo hi 1:=by rw [rangeSize_one];split<;>omega
  show IsRangeIter _ _ (lo+((0:Nat):Int)*1) ((((hi-lo).toNat:Nat):Int)-((0:Nat):Int)) 1;rw [e1,e2];exact y3 _ rfl
 ·have e:b=(s.heap.push { cls:=.type "range",data:=.fields #[.int lo t,.int hi u,.int 1 v] }).objs.size:=by simpa using hb
  subst e;exact I1.fpOk (v5 _) (I1.hok.fresh (v5 _))
def qj0 (ta:TA):TI:=λσ H R=>ta σ H λvs H1=>∃ j:Int,vs=[.int j]/\-(2 ^ 62)<=j/\j<2 ^ 62/\R (Itr 0 j.toNat) H1
def MD {a:Expr} {ta:TA} {p pos:Pos} (hg:Gl X "range") (hm:X.mg "range" = none) (ha:PA X [a] ta) (hs:starEach [a] X.env=[(false,eval a X.env)]:=by rfl):PI X tg (.Call (.Name "range" p) [a] [] pos) (qj0 ta):=by
 intro pins s σ H R I h;refine Call_ (YW I hg hm boot_range (PyProof.Rows.callWith_type1 (thn (ha pos pins s σ H _ I h) λus s1 ⟨vs,H1,I1,r1,q1⟩=>?_) hs rfl));obtain ⟨j,e,q1,q2,q⟩:=q1;subst e;cases r1 with
 |cons r rr=>
  cases rr;obtain ⟨t,rfl⟩:=r;exact call_range_1 (qbK I1 (by omega) (by omega) q1 q2 (by simpa using q))
def qna (wi:TI) (g:TG) (tb:TS):TS:=λD σ H=>wi σ H λJ H1=>∃ W:Nat->Nat->St->Hp->Prop,(∃ m,W 0 m σ H1)/\∀ i m σ H,W i m σ H ->
 (J.stop i H/\D.nx σ H)\/(J.go i H/\∃ N:St->Hp->Prop,(∀ σ' H',N σ' H'->∃ m',m'<m/\W (i+1) m' σ' H')/\∀ x H',J.yld i H x H'->g x σ H' λσ2 H2=>tb { D with nx:=N,ct:=N,bk:=D.nx } σ2 H2)
def UW (fp:List Addr) (h:Heap):List (Addr×Obj):=fp.filterMap λb=>(h.get? b).map λo=>(b,o)
def zA {fp:List Addr} {h:Heap} {b:Addr} {o:Obj} (hb:b∈fp) (e:h.get? b=some o):(b,o)∈UW fp h:=List.mem_filterMap.mpr ⟨b,hb,by rw [e];rfl⟩
def qaW {fp:List Addr} {h:Heap} {p:Addr×Obj} (hp:p∈UW fp h):p.1∈fp/\h.get? p.1=some p.2:=by
 obtain ⟨b,hb,e⟩:=List.mem_filterMap.mp hp;cases q:h.get? b with
 |none=>rw [q] at e;cases e
 |some o=>
  rw [q] at e;have e':(b,o)=p:=Option.some.inj e;subst e';exact ⟨hb,q⟩
def Inv.pinned {pins:List (Addr×Obj)} {σ:St} {H:Hp} {s:Shared} {fp:List Addr} (I:Inv X pins σ H s) (hf:∀ b∈fp,LB X pins H b) (ho:∀ b∈fp,∃ o,s.heap.get? b=some o/\∀ v,o.data≠.cell v):Inv X (pins++UW fp s.heap) σ H s:=
 I.pins_of λp hp=>(List.mem_append.mp hp).elim (λz=>I.pin p (v7 _ z)) λz=>by
  obtain ⟨hb,e⟩:=qaW z;obtain ⟨f0,f1,f2,_⟩:=hf p.1 hb;obtain ⟨o,e',d⟩:=ho p.1 hb;rw [e] at e';cases e';exact ⟨e,f0,f1,f2,d⟩
def Inv.unpinned {pins pl:List (Addr×Obj)} {σ:St} {H:Hp} {s:Shared} (I:Inv X (pins++pl) σ H s):Inv X pins σ H s:=I.pins_of λp hp=>I.pin p (v7 _ (List.mem_append_left _ hp))
def qgQ {iter:Expr} {body:List Stmt} {wi:TI} {g:TG} {tb:TS} {pos:Pos} (hp:PassesOwn (model X.prog X.w) X.A X.env X.xe) (hc:X.calm=true) (hi:PI X tg iter wi) (hg:PG X tg g) (hb:PSs X body tb)
  (hs:∀ x,foldedSetIterable iter X.env x=pure x:=by intro _;rfl):PS X (.For tg iter body [] pos) (qna wi g tb):=by
 intro pins s σ H D I h;refine wpAny_For (thn (hi pins s σ H _ I h) λv s1 h1=>thn h1 λitv s2 h2=>?_) hs;obtain ⟨it,fp,tn,J,H2,e,I2,T,st2,f2,W,⟨m0,w0⟩,turn⟩:=h2;subst e
 -- what stays true of the iterator's objects through the loop
 have stat:∀ {H':Hp},(∀ b∈fp,H' b=none)->∀ b∈fp,LB X pins H' b:=λhn b hb=>⟨hn b hb,(f2 b hb).2⟩
 refine codeAny_forLoop_any (λn s'=>∃ i σ' H',Inv X pins σ' H' s'/\tn i s'.heap/\(∀ b∈fp,H' b=none)/\W i n σ' H') ?_ m0 ⟨0,σ,H2,I2,st2,λb hb=>(f2 b hb).1,w0⟩;rintro n s3 ⟨i,σ3,H3,I3,st3,fr3,w3⟩;rcases turn i n σ3 H3 w3 with ⟨stop,qn⟩|⟨go,N,hN,step⟩
 ·refine wpAny_passesOwn hp (thn (T.done X rfl rfl rfl hc i pins s3 σ3 H3 X.xe I3 (stat fr3) st3 stop) λr s4 ⟨hr,I4⟩=>?_);subst hr;exact wpAny_execs_nil ⟨σ3,H3,I4,qn⟩
 ·refine wpAny_passesOwn hp (thn (T.item X rfl rfl rfl hc i pins s3 σ3 H3 X.xe I3 (stat fr3) st3 go) λr s4 ⟨u,hr,h4⟩=>?_);subst hr;refine wpAny_passesOwn hp (thn h4 λ_ s5 ⟨x,H5,I5,r5,y5,st5,fr5⟩=>?_);have I5':=I5.pinned (stat fr5) (T.obj _ _ st5);refine wpAny_passesOwn hp (thn (hg _ s5 σ3 H5 x u _ I5' r5 (step x H5 y5)) λ_ s6 ⟨σ6,H6,I6,q6⟩=>?_);refine wpAny_passesOwn hp (thn (hb _ s6 σ6 H6 _ I6 q6) λf s7 q7=>?_);have again:∀ {σ7:St} {H7:Hp},Inv X (pins++UW fp s5.heap) σ7 H7 s7->N σ7 H7->∃ m,m<n/\∃ i σ' H',Inv X pins σ' H' s7/\tn i s7.heap/\(∀ b∈fp,H' b=none)/\W i m σ' H':=λ{σ7 H7} I7 n7=>by
   obtain ⟨m',hm,w7⟩:=hN σ7 H7 n7;refine ⟨m',hm,i+1,σ7,H7,I7.unpinned,T.keep _ _ _ st5 λb hb o e=>(I7.pin (b,o) (v7 _ (v7 _ (zA hb e)))).1,λb hb=>?_,w7⟩;obtain ⟨o,e,d⟩:=T.obj _ _ st5 b hb;exact (I7.pin (b,o) (v7 _ (v7 _ (zA hb e)))).2.1
  cases f with
  |next=>obtain ⟨σ7,H7,I7,n7⟩:=q7;exact again I7 n7
  |cont=>obtain ⟨σ7,H7,I7,n7⟩:=q7;exact again I7 n7
  |brk=>obtain ⟨σ7,H7,I7,q7⟩:=q7;exact ⟨σ7,H7,I7.unpinned,q7⟩
  |ret v=>obtain ⟨x7,σ7,H7,I7,r7,q7⟩:=q7;exact ⟨x7,σ7,H7,I7.unpinned,r7,q7⟩
end
abbrev R2:=V->V->Hp->VK->Prop
def OpR (X:Cx) (f:Value->Value->Sem Value) (r:R2):Prop:=
 ∀ (pins:List (Addr×Obj)) (s:Shared) (σ:St) (H:Hp) (x y:V) (v u:Value) (Q:VK),Inv X pins σ H s->zT x v->zT y u->r x y H Q ->
  wpAny (model X.prog X.w) X.A (f v u) (EP X pins σ Q) X.xe s
def ZD (X:Cx) (f:Value) (r:List V->Hp->VK->Prop):Prop:=
 ∀ (pins:List (Addr×Obj)) (s:Shared) (σ:St) (H:Hp) (xs:List V) (us:List Value) (Q:VK),Inv X pins σ H s->qQ xs us->r xs H Q ->
  wpAny (model X.prog X.w) X.A (call f us) (EP X pins σ Q) X.xe s
def tOp (r:R2) (ta tb:TE):TE:=λσ H Q=>ta σ H λx H1=>tb σ H1 λy H2=>r x y H2 Q
def rI (C:Int->Int->Prop) (g:Int->Int->V):R2:=λx y H Q=>∃ i j,x=.int i/\y=.int j/\C i j/\Q (g i j) H
def rI0 (g:Int->Int->V):R2:=λx y H Q=>∃ i j,x=.int i/\y=.int j/\Q (g i j) H
section
variable {X:Cx} {a b c:Expr} {ta tb tc:TE} {pos:Pos}
def qla (ha:PE X a ta) (hb:PE X b tb) {pins:List (Addr×Obj)} {s:Shared} {σ:St} {H:Hp} {R:V->V->Hp->Prop} (I:Inv X pins σ H s)
  (h:ta σ H λx H1=>tb σ H1 λy H2=>R x y H2) {Q:Value->Shared->Prop} {f:Value->Value->Sem Value}
  (hf:∀ v u s2 x y H2,Inv X pins σ H2 s2->zT x v->zT y u->R x y H2->wpAny (model X.prog X.w) X.A (f v u) Q X.xe s2) :
  wpAny (model X.prog X.w) X.A (eval a X.env) (λv s₁=>wpAny (model X.prog X.w) X.A (eval b X.env) (λu s₂=>wpAny (model X.prog X.w) X.A (f v u) Q X.xe s₂) X.xe s₁) X.xe s:=by
 refine thn (ha pins s σ H _ I h) λv s1 ⟨x,H1,I1,r1,q1⟩=>?_;refine thn (hb pins s1 σ H1 _ I1 q1) λu s2 ⟨y,H2,I2,r2,q2⟩=>?_;exact hf v u s2 x y H2 I2 r1 r2 q2
def qkC {op:Operator} {r:R2} (ho:OpR X (binaryOp op) r) (ha:PE X a ta) (hb:PE X b tb):PE X (.BinOp a op b pos) (tOp r ta tb):=by
 intro pins s σ H Q I h;exact wpAny_BinOp (qla ha hb I h λv u s2 x y H2 I2 rx ry q=>ho pins s2 σ H2 x y v u Q I2 rx ry q)
def opI {f:Value->Value->Sem Value} {C:Int->Int->Prop} {g:Int->Int->Int}
  (rule:∀ (i j:Int) (t u:Tok) (s:Shared) (Q:Value->Shared->Prop) (E:Value->Shared->Prop),C i j->Q (.int (g i j) s.toks) { s with toks:=s.toks+1 }->wpAny (model X.prog X.w) X.A (f (.int i t) (.int j u)) Q E s) :
  OpR X f (rI C λi j=>.int (g i j)):=by
 intro pins s σ H x y v u Q I rx ry h;obtain ⟨i,j,rfl,rfl,hc,q⟩:=h;obtain ⟨t,rfl⟩:=rx;obtain ⟨t',rfl⟩:=ry;exact rule i j t t' s _ _ hc ⟨.int (g i j),H,I.tok _,⟨_,rfl⟩,q⟩
def qjQ {f:Value->Value->Sem Value} {g:Int->Int->Int}
  (rule:∀ (i j:Int) (t u:Tok) (s:Shared) (Q:Value->Shared->Prop) (E:Value->Shared->Prop),Q (.int (g i j) s.toks) { s with toks:=s.toks+1 }->wpAny (model X.prog X.w) X.A (f (.int i t) (.int j u)) Q E s) :
  OpR X f (rI0 λi j=>.int (g i j)):=by
 intro pins s σ H x y v u Q I rx ry h;obtain ⟨i,j,rfl,rfl,q⟩:=h;obtain ⟨t,rfl⟩:=rx;obtain ⟨t',rfl⟩:=ry;exact rule i j t t' s _ _ ⟨.int (g i j),H,I.tok _,⟨_,rfl⟩,q⟩
def qjH {f:Value->Value->Sem Value} {g:Int->Int->Bool}
  (rule:∀ (i j:Int) (t u:Tok) (s:Shared) (Q:Value->Shared->Prop) (E:Value->Shared->Prop),Q (.bool (g i j)) s->wpAny (model X.prog X.w) X.A (f (.int i t) (.int j u)) Q E s) :
  OpR X f (rI0 λi j=>.bl (g i j)):=by
 intro pins s σ H x y v u Q I rx ry h;obtain ⟨i,j,rfl,rfl,q⟩:=h;obtain ⟨t,rfl⟩:=rx;obtain ⟨t',rfl⟩:=ry;exact rule i j t t' s _ _ ⟨.bl (g i j),H,I,rfl,q⟩
def qa5 (i j:Int):Prop:=0<j/\j<1073741824
def T9 (i j:Int):Prop:=0<=j/\j<=1000000/\i.natAbs<2 ^ 64
def VC (i j:Int):Prop:=(-(2 ^ 64)<i/\i<2 ^ 64)\/(-(2 ^ 64)<j/\j<2 ^ 64)
def VC.ok {i j:Int} (h:VC i j):IntMulOk i j:=by
 rcases h with ⟨h1,h2⟩|⟨h1,h2⟩
 ·exact .of_left (intBits_le_64 h1 h2)
 ·exact .of_right (intBits_le_64 h1 h2)
def KL (k:Nat):(0:Int)<=2 ^ k:=by
 rw [two_pow_cast];exact Int.natCast_nonneg _
def qhp:OpR X (binaryOp .Add) (rI0 λi j=>.int (i+j)):=qjQ λ_ _ _ _ _ _ _ q=>add_int q
def qgI:OpR X (binaryOp .Sub) (rI0 λi j=>.int (i-j)):=qjQ λ_ _ _ _ _ _ _ q=>sub_int q
def qfO:OpR X (binaryOp .Mult) (rI VC λi j=>.int (i*j)):=opI λ_ _ _ _ _ _ _ hc q=>mul_int q hc.ok
def qeq:OpR X (binaryOp .FloorDiv) (rI qa5 λi j=>.int (i/j)):=opI λi j _ _ _ _ _ hc q=>by
 have h1:(0:Int)<j:=hc.1;have h2:j<1073741824:=hc.2;exact floordiv_int (by omega) (by rw [Int.fdiv_eq_ediv_of_nonneg i (by omega)];exact q) (.inl (PyProof.noPylong_small (by omega)))
def qh5:OpR X (binaryOp .Mod) (rI (λ_ j=>0<j) λi j=>.int (i%j)):=opI λi j _ _ _ _ _ hc q=>by
 have h1:(0:Int)<j:=hc;exact mod_int' (by omega) (by rw [Int.fmod_eq_emod_of_nonneg i (by omega)];exact q)
def qf3:OpR X (binaryOp .Pow) (rI T9 λi j=>.int (i ^ j.toNat)):=opI λ_ _ _ _ _ _ _ hc q=>pow_int_small hc.1 hc.2.1 hc.2.2 q
def qhc:OpR X (binaryOp .LShift) (rI T9 λi j=>.int (i*2 ^ j.toNat)):=opI λ_ _ _ _ _ _ _ hc q=>lshift_int_small hc.1 hc.2.1 hc.2.2 q
def qip:OpR X (binaryOp .RShift) (rI (λ_ j=>0<=j) λi j=>.int (i/2 ^ j.toNat)):=opI λi j _ _ _ _ _ hc q=>
 rshift_int hc (by rw [Int.fdiv_eq_ediv_of_nonneg i (KL _)];exact q)
def qgv:OpR X (binaryOp .BitAnd) (rI0 λi j=>.int (Builtin.bitAnd i j)):=qjQ λ_ _ _ _ _ _ _ q=>and_int q
def qfT:OpR X (binaryOp .BitXor) (rI0 λi j=>.int (Builtin.bitXor i j)):=qjQ λ_ _ _ _ _ _ _ q=>xor_int q
end
def qky:V->V->Bool
 |.non,.non=>true|.non,.int _=>true|.int _,.non=>true|.non,.bl _=>true|.bl _,.non=>true|.non,.str _=>true|.str _,.non=>true
 |.int _,.int _=>true|.bl _,.bl _=>true|.str _,.str _=>true|.byt _,.byt _=>true
 |.int _,.str _=>true|.str _,.int _=>true|.bl _,.str _=>true|.str _,.bl _=>true
 |_,_=>false
def rEq:R2:=λx y H Q=>qky x y=true/\Q (.bl (decide (x=y))) H
def rNe:R2:=λx y H Q=>qky x y=true/\Q (.bl (!decide (x=y))) H
def MA {i j:Int}:decide (V.int i=V.int j)=(i==j):=by
 rw [Bool.eq_iff_iff];simp
def qdr {i j:Bool}:decide (V.bl i=V.bl j)=(i==j):=by
 rw [Bool.eq_iff_iff];simp
def MR {i j:Str}:decide (V.str i=V.str j)=(i==j):=by
 rw [Bool.eq_iff_iff];simp
def M8 {i j:Array UInt8}:decide (V.byt i=V.byt j)=(i.toList==j.toList):=by
 rw [Bool.eq_iff_iff];cases i;cases j;simp
section
variable {X:Cx} {a b c:Expr} {ta tb tc:TE} {pos:Pos}
def qF {pins:List (Addr×Obj)} {σ:St} {H:Hp} {s:Shared} {Q:VK} {k k':Bool} (I:Inv X pins σ H s) (q:Q (.bl k) H) (e:k=k'):EP X pins σ Q (.bool k') s:=by
 subst e;exact ⟨.bl k,H,I,rfl,q⟩
def qkS:OpR X (compareOp .Eq) rEq:=by
 intro pins s σ H x y v u Q I rx ry h;obtain ⟨hs,q⟩:=h;cases x with
 |non=>
  cases rx;cases y with
  |non=>cases ry;exact PySem.EqNone.eq_none_none (qF I q (by simp))
  |bl j=>cases ry;exact PySem.EqNone.eq_none_bool (qF I q (by simp))
  |int j=>obtain ⟨t',rfl⟩:=ry;exact PySem.EqNone.eq_none_int (qF I q (by simp))
  |str j=>obtain ⟨t',rfl⟩:=ry;exact PySem.EqNone.eq_none_str (qF I q (by simp))
  |_=>exact absurd (show false=true from hs) y6
 |bl i=>
  cases rx;cases y with
  |non=>cases ry;exact PySem.EqNone.eq_bool_none (qF I q (by simp))
  |bl j=>cases ry;exact eq_bool (qF I q qdr)
  |str j=>obtain ⟨t',rfl⟩:=ry;exact PySem.EqMixed.eq_bool_str (qF I q (by simp))
  |_=>exact absurd (show false=true from hs) y6
 |int i=>
  obtain ⟨t,rfl⟩:=rx;cases y with
  |non=>cases ry;exact PySem.EqNone.eq_int_none (qF I q (by simp))
  |int j=>obtain ⟨t',rfl⟩:=ry;exact eq_int (qF I q MA)
  |str j=>obtain ⟨t',rfl⟩:=ry;exact PySem.EqMixed.eq_int_str (qF I q (by simp))
  |_=>exact absurd (show false=true from hs) y6
 |str i=>
  obtain ⟨t,rfl⟩:=rx;cases y with
  |non=>cases ry;exact PySem.EqNone.eq_str_none (qF I q (by simp))
  |bl j=>cases ry;exact PySem.EqMixed.eq_str_bool (qF I q (by simp))
  |int j=>obtain ⟨t',rfl⟩:=ry;exact PySem.EqMixed.eq_str_int (qF I q (by simp))
  |str j=>obtain ⟨t',rfl⟩:=ry;exact eq_str (qF I q MR)
  |_=>exact absurd (show false=true from hs) y6
 |byt i=>
  obtain ⟨t,rfl⟩:=rx;cases y with
  |byt j=>obtain ⟨t',rfl⟩:=ry;exact PySem.W.eq_bytes (qF I q M8)
  |_=>exact absurd (show false=true from hs) y6
 |_=>cases y<;>exact absurd (show false=true from hs) y6
def qlC:OpR X (compareOp .NotEq) rNe:=by
 intro pins s σ H x y v u Q I rx ry h;obtain ⟨hs,q⟩:=h;cases x with
 |non=>
  cases rx;cases y with
  |non=>cases ry;exact PySem.EqNone.ne_none_none (qF I q (by simp))
  |bl j=>cases ry;exact PySem.EqNone.ne_none_bool (qF I q (by simp))
  |int j=>obtain ⟨t',rfl⟩:=ry;exact PySem.EqNone.ne_none_int (qF I q (by simp))
  |str j=>obtain ⟨t',rfl⟩:=ry;exact PySem.EqNone.ne_none_str (qF I q (by simp))
  |_=>exact absurd (show false=true from hs) y6
 |bl i=>
  cases rx;cases y with
  |non=>cases ry;exact PySem.EqNone.ne_bool_none (qF I q (by simp))
  |bl j=>cases ry;exact ne_bool (qF I q (congrArg not qdr))
  |str j=>obtain ⟨t',rfl⟩:=ry;exact PySem.EqMixed.ne_bool_str (qF I q (by simp))
  |_=>exact absurd (show false=true from hs) y6
 |int i=>
  obtain ⟨t,rfl⟩:=rx;cases y with
  |non=>cases ry;exact PySem.EqNone.ne_int_none (qF I q (by simp))
  |int j=>obtain ⟨t',rfl⟩:=ry;exact ne_int (qF I q (congrArg not MA))
  |str j=>obtain ⟨t',rfl⟩:=ry;exact PySem.EqMixed.ne_int_str (qF I q (by simp))
  |_=>exact absurd (show false=true from hs) y6
 |str i=>
  obtain ⟨t,rfl⟩:=rx;cases y with
  |non=>cases ry;exact PySem.EqNone.ne_str_none (qF I q (by simp))
  |bl j=>cases ry;exact PySem.EqMixed.ne_str_bool (qF I q (by simp))
  |int j=>obtain ⟨t',rfl⟩:=ry;exact PySem.EqMixed.ne_str_int (qF I q (by simp))
  |str j=>obtain ⟨t',rfl⟩:=ry;exact ne_str (qF I q (congrArg not MR))
  |_=>exact absurd (show false=true from hs) y6
 |byt i=>
  obtain ⟨t,rfl⟩:=rx;cases y with
  |byt j=>obtain ⟨t',rfl⟩:=ry;exact PySem.W.ne_bytes (qF I q (congrArg not M8))
  |_=>exact absurd (show false=true from hs) y6
 |_=>cases y<;>exact absurd (show false=true from hs) y6
def qfF:OpR X (compareOp .Lt) (rI0 λi j=>.bl (decide (i<j))):=qjH λ_ _ _ _ _ _ _ q=>lt_int q
def qjY:OpR X (compareOp .LtE) (rI0 λi j=>.bl (decide (i<=j))):=qjH λ_ _ _ _ _ _ _ q=>le_int q
def qkZ:OpR X (compareOp .Gt) (rI0 λi j=>.bl (decide (j<i))):=qjH λ_ _ _ _ _ _ _ q=>gt_int q
def qhR:OpR X (compareOp .GtE) (rI0 λi j=>.bl (decide (j<=i))):=qjH λ_ _ _ _ _ _ _ q=>ge_int q
def qf6:OpR X (compareOp .Is) (λx y H Q=>y=.non/\Q (.bl (decide (x=.non))) H):=by
 intro pins s σ H x y v u Q I rx ry h;obtain ⟨rfl,q⟩:=h;cases ry;refine is_none_gen (qF I q ?_);cases x<;>first
  | (cases rx;rfl)
  | (obtain ⟨t,rfl⟩:=rx;rfl)
def OpR.or {f:Value->Value->Sem Value} {r r':R2} (h:OpR X f r) (h':OpR X f r'):OpR X f (λx y H Q=>r x y H Q\/r' x y H Q):=by
 intro pins s σ H x y v u Q I rx ry q;rcases q with q|q
 ·exact h pins s σ H x y v u Q I rx ry q
 ·exact h' pins s σ H x y v u Q I rx ry q
def zb (b:Expr) {op:CmpOp} (h:op≠.In:=by decide) (h2:op≠.NotIn:=by decide):behindInMarks op b=false:=by
 have e1:(op==CmpOp.In)=false:=by cases op<;>first|rfl|exact absurd rfl h
 have e2:(op==CmpOp.NotIn)=false:=by cases op<;>first|rfl|exact absurd rfl h2
 cases b<;>simp [behindInMarks,e1,e2]
def qe6 {op:CmpOp} {r:R2} (ho:OpR X (compareOp op) r) (ha:PE X a ta) (hb:PE X b tb) (hm:behindInMarks op b=false):PE X (.Compare a [op] [b] pos) (tOp r ta tb):=by
 intro pins s σ H Q I h;exact wpAny_Compare1 (qla ha hb I h λv u s2 x y H2 I2 rx ry q=>ho pins s2 σ H2 x y v u Q I2 rx ry q) hm
def qe0 (t:TE):TT:=λσ H Q=>t σ H λx H'=>∃ k,x=.bl k/\Q k H'
def qfG {op:CmpOp} {r:R2} (ho:OpR X (compareOp op) r) (ha:PE X a ta) (hb:PE X b tb) (hm:behindInMarks op b=false):PT X (.Compare a [op] [b] pos) (qe0 (tOp r ta tb)):=by
 intro pins s σ H Q I h;refine wpAny_isTrue_Compare1 (thn (ha pins s σ H _ I h) λv s1 ⟨x,H1,I1,r1,q1⟩=>thn (hb pins s1 σ H1 _ I1 q1) λu s2 ⟨y,H2,I2,r2,q2⟩=>
  thn (ho pins s2 σ H2 x y v u _ I2 r1 r2 q2) λc s3 ⟨z,H3,I3,r3,k,e,q3⟩=>?_) hm
 subst e;cases r3;exact wpAny_truthy_bool ⟨H3,I3,q3⟩
def qd2 (r r':R2) (ta tb tc:TE):TE:=λσ H Q=>ta σ H λx H1=>tb σ H1 λy H2=>r x y H2 λz H3=>∃ k,z=.bl k /\
 (if k=true then tc σ H3 λw' H4=>r' y w' H4 Q else Q (.bl false) H3)
def qbi {op op':CmpOp} {r r':R2} (ho:OpR X (compareOp op) r) (ho':OpR X (compareOp op') r') (ha:PE X a ta) (hb:PE X b tb) (hc:PE X c tc)
  (hm:lastMarks [op,op'] [b,c]=false:=by with_unfolding_all rfl):PT X (.Compare a [op,op'] [b,c] pos) (qe0 (qd2 r r' ta tb tc)):=by
 intro pins s σ H Q I h;refine isTrue_chain (thn (ha pins s σ H _ I h) λv s1 ⟨x,H1,I1,r1,q1⟩=>test_link (thn (hb pins s1 σ H1 _ I1 q1) λu s2 ⟨y,H2,I2,r2,q2⟩=>
  thn (ho pins s2 σ H2 x y v u _ I2 r1 r2 q2) λd s3 ⟨z,H3,I3,r3,k,e,q3⟩=>?_)) hm
 subst e;cases r3;refine wpAny_truthy_bool ?_;cases k with
 |false=>
  obtain ⟨k',e',q'⟩:=q3;cases e';exact ite_ff ⟨H3,I3,q'⟩
 |true=>
  refine ite_tt (test_last (thn (hc pins s3 σ H3 _ I3 q3) λw' s4 ⟨z',H4,I4,r4,q4⟩=>thn (ho' pins s4 σ H4 y z' u w' _ I4 r2 r4 q4) λd' s5 ⟨z2,H5,I5,r5,k2,e2,q5⟩=>?_));subst e2;cases r5;exact wpAny_truthy_bool ⟨H5,I5,q5⟩
def CJ:(sizeLine:Nat)<2 ^ 63:=by rw [y8];decide
def WB {x:V} {us:List Value} (r:qQ [x] us):∃ u,us=[u]/\zT x u:=by
 cases r with
 |cons r1 r2=>cases r2;exact ⟨_,rfl,r1⟩
def qeH {x y:V} {us:List Value} (r:qQ [x,y] us):∃ u w',us=[u,w']/\zT x u/\zT y w':=by
 cases r with
 |cons r1 r2=>
  cases r2 with
  |cons r3 r4=>cases r4;exact ⟨_,_,rfl,r1,r3⟩
def TN:ZD X (.builtin "abs") (λxs H Q=>∃ i,xs=[.int i]/\Q (.int (if i<0 then -i else i)) H):=by
 intro pins s σ H xs us Q I r h;obtain ⟨i,rfl,q⟩:=h;obtain ⟨u,rfl,t,rfl⟩:=WB r;exact call_abs_int λu tk=>⟨.int (if i<0 then -i else i),H,I.tok _,⟨_,rfl⟩,q⟩
def qae (hc:X.calm=true):ZD X (.builtin "max") (λxs H Q=>∃ i j,xs=[.int i,.int j]/\Q (.int (if j > i then j else i)) H):=by
 intro pins s σ H xs us Q I r h;obtain ⟨i,j,rfl,q⟩:=h;obtain ⟨u,w',rfl,⟨t,rfl⟩,⟨t',rfl⟩⟩:=qeH r;refine max_two_ints (I.ok.hd hc) λh' tk k=>⟨_,H,I.kept k,?_,q⟩
 by_cases hj:j > i
 ·rw [if_pos hj,if_pos hj];exact ⟨_,rfl⟩
 ·rw [if_neg hj,if_neg hj];exact ⟨_,rfl⟩
def UQ (hc:X.calm=true):ZD X (.builtin "min") (λxs H Q=>∃ i j,xs=[.int i,.int j]/\Q (.int (if j<i then j else i)) H):=by
 intro pins s σ H xs us Q I r h;obtain ⟨i,j,rfl,q⟩:=h;obtain ⟨u,w',rfl,⟨t,rfl⟩,⟨t',rfl⟩⟩:=qeH r;refine min_two_ints (I.ok.hd hc) λh' tk k=>⟨_,H,I.kept k,?_,q⟩
 by_cases hj:j<i
 ·rw [if_pos hj,if_pos hj];exact ⟨_,rfl⟩
 ·rw [if_neg hj,if_neg hj];exact ⟨_,rfl⟩
def MU:ZD X (.type "int") (λxs H Q=>(∃ i,xs=[.int i]/\Q (.int i) H)\/∃ k,xs=[.bl k]/\Q (.int (if k then 1 else 0)) H):=by
 intro pins s σ H xs us Q I r h;rcases h with ⟨i,rfl,q⟩|⟨k,rfl,q⟩
 ·obtain ⟨u,rfl,t,rfl⟩:=WB r;exact call_int_int ⟨.int i,H,I,⟨_,rfl⟩,q⟩
 ·obtain ⟨u,rfl,r1⟩:=WB r;cases r1;exact call_int_bool ⟨.int (if k then 1 else 0),H,I.tok _,⟨_,rfl⟩,q⟩
def qmm (K:Frg) (x:V) (H:Hp) (n:Nat):Prop:=
 match x with
 |.str y=>y.length<=sizeLine/\n=y.length
 |.byt y=>y.size<=sizeLine/\n=y.size
 |.ref p=>(∃ xs,SqL K H p xs/\n=xs.length)\/∃ xs,SqT K H p xs/\n=xs.length
 |_=>False
def zH:ZD X (.builtin "len") (λxs H Q=>∃ x n,xs=[x]/\qmm X.K x H n/\Q (.int n) H):=by
 intro pins s σ H xs us Q I r h;obtain ⟨x,n,rfl,e,q⟩:=h;obtain ⟨u,rfl,rx⟩:=WB r;have hl:=CJ;have hs:sizeLine=16777216:=y8;cases x with
 |str y=>
  obtain ⟨t,rfl⟩:=rx;obtain ⟨hy,e'⟩:y.length<=sizeLine/\n=y.length:=e;subst e';exact len_str (by omega) ⟨.int _,H,I.tok _,⟨_,rfl⟩,q⟩
 |byt y=>
  obtain ⟨t,rfl⟩:=rx;obtain ⟨hy,e'⟩:y.size<=sizeLine/\n=y.size:=e;subst e';exact PySem.W.len_bytes (by omega) ⟨.int _,H,I.tok _,⟨_,rfl⟩,q⟩
 |ref p=>
  cases rx;have e':(∃ xs,SqL X.K H p xs/\n=xs.length)\/∃ xs,SqT X.K H p xs/\n=xs.length:=e;rcases e' with ⟨xs,hx,e'⟩|⟨xs,hx,e'⟩
  ·subst e';obtain ⟨its,r',pl,hz⟩:=I.list hx;have hlen:=r'.length;exact Calls.call_len_list pl.isList (by simp only [size_toArray];omega) ⟨.int xs.length,H,I.tok _,⟨_,by simp only [size_toArray];rw [hlen]⟩,q⟩
  ·subst e';obtain ⟨its,r',pl,hz⟩:=I.tuple hx;have hlen:=r'.length;exact len_tuple pl (by simp only [size_toArray];omega) ⟨.int xs.length,H,I.tok _,⟨_,by simp only [size_toArray];rw [hlen]⟩,q⟩
 |_=>exact (show False from e).elim
end
section
variable {prog:Program} {w:World} {A:Around} {E:Value->Shared->Prop} {s:Shared} {K:Frg} {x dx C f:Addr} {mA:Str->Option Value} {name:Str} {v:Value}
end
section
variable {P:Program} {w:World} {H H':Hp} {h h':Heap} {a C dx:Addr} {fs fs':List (Str×V)}
end
section
variable {X:Cx} {pins:List (Addr×Obj)} {σ:St} {H:Hp} {s:Shared} {a C dx:Addr} {fs:List (Str×V)} {f:Str} {v:V} {A:Around} {E:Value->Shared->Prop}
def Inv.made (I:Inv X pins σ H s):Inv X pins σ (upd (upd H s.heap.objs.size (.own (s.heap.objs.size+1))) (s.heap.objs.size+1) (.ins C s.heap.objs.size []))
  { s with heap:=(s.heap.push PySem.W.emptyDict).push (PySem.W.instObj C s.heap.objs.size) }:=by
 have e1:(s.heap.push PySem.W.emptyDict).get? s.heap.objs.size=some PySem.W.emptyDict:=y3 s.heap rfl;have e2:((s.heap.push PySem.W.emptyDict).push (PySem.W.instObj C s.heap.objs.size)).get? (s.heap.objs.size+1)=some (PySem.W.instObj C s.heap.objs.size):=by
  have:=y3 (s.heap.push PySem.W.emptyDict) (o:=PySem.W.instObj C s.heap.objs.size) rfl
  rwa [Heap.size_push] at this
 have e3:(s.heap.push PySem.W.emptyDict).Ns s.heap.objs.size (λ_=>none):=⟨PySem.W.emptyDict,#[],_,e1,rfl,(λe he=>absurd he (by simp)),λ_=>rfl⟩
 have I1:=I.laid (a:=s.heap.objs.size) (o:=.own (s.heap.objs.size+1)) (h':=s.heap.push PySem.W.emptyDict) (t':=s.toks) (λb u q=>y2 _ q) (v5 _) ⟨_,e1⟩;refine I1.laid (a:=s.heap.objs.size+1) (o:=.ins C s.heap.objs.size []) (t':=s.toks) (λb u q=>y2 _ q) (Nat.le_of_eq (Heap.size_push _ _)) ?_;have ne:s.heap.objs.size≠s.heap.objs.size+1:=u4 (Nat.lt_succ_self _);refine ⟨by rw [qm ne,qG],Nat.zero_le _,ne,e2,λ_=>none,(Heap.Ns1.of_empty e3).at λo q=>y2 _ q,λ_=>True.intro,λy hy=>absurd rfl hy⟩
end
section
variable {X:Cx} {o e value:Expr} {f:Str} {pos pos' tpos:Pos} {ta tv:TE}
end
section
variable {X:Cx} {pins:List (Addr×Obj)} {σ:St} {H:Hp} {s:Shared} {A:Around} {E:Value->Shared->Prop} {Q:Value->Shared->Prop} {c:Value} {b:Bool}
end
structure Room (k:Nat) (A:Around):Prop where
 hd:A.handled=none
 dp:A.depth+3*k+5<recursionLimit
 un:A.units+16*k+200<cLine
 gd:A.guards=some []
def Room.mono {j k:Nat} {A:Around} (r:Room k A) (h:j<=k):Room j A:=⟨r.hd,by have:=r.dp;omega,by have:=r.un;omega,r.gd⟩
theorem Room.deeper {k:Nat} {A:Around} (r:Room (k+1) A) (env:Env):Room k (A.deeper env):=
 ⟨r.hd,by have:=r.dp;show A.depth+1+3*k+5<_;omega,by have:=r.un;show A.units+3+16*k+200<_;omega,r.gd⟩
theorem Room.in1 {k:Nat} {A:Around} (r:Room (k+1) A):Room k A.in1:=
 ⟨r.hd,by have:=r.dp;show A.depth+3*k+5<_;omega,by have:=r.un;show A.units+1+16*k+200<_;omega,r.gd⟩
theorem Room.depth {k:Nat} {A:Around} (r:Room k A):A.depth<recursionLimit:=by have:=r.dp;omega
theorem Room.units {k:Nat} {A:Around} (r:Room k A):A.units+64<cLine:=by have:=r.un;omega
def qnq:TA:=λ_ H Q=>Q [] H
def qbs (ta:TE) (tr:TA):TA:=λσ H Q=>ta σ H λx H1=>tr σ H1 λxs H2=>Q (x::xs) H2
section
variable {X:Cx} {e:Expr} {es:List Expr} {te:TE} {t:TA} {pos:Pos}
def qcP:PA X [] qnq:=λ_ _ _ _ H Q I h=>Calls.spliced_nil ⟨[],H,I,.nil,h⟩
def YG (ha:PE X e te) (hr:PA X es t) (hs:starEach (e::es) X.env=(false,eval e X.env)::starEach es X.env:=by rfl):PA X (e::es) (qbs te t):=by
 intro pos pins s σ H Q I h;rw [hs];show wpAny _ _ (spliced ((false,eval e X.env)::backTo pos (starEach es X.env))) _ _ s;refine Calls.spliced_cons (thn (ha pins s σ H _ I h) λu s1 ⟨x,H1,I1,r1,q1⟩=>?_);exact thn (hr pos pins s1 σ H1 _ I1 q1) λus s2 ⟨xs,H2,I2,r2,q2⟩=>⟨x::xs,H2,I2,.cons r1 r2,q2⟩
def qmS (t:TA):TE:=λσ H Q=>t σ H λxs H1=>xs.length<=sizeLine/\∀ p,H1 p=none->Q (.ref p) (upd H1 p (.tup xs))
def qm0 (t:TA):TE:=λσ H Q=>t σ H λxs H1=>xs.length<=sizeLine/\∀ p,H1 p=none->Q (.ref p) (upd H1 p (.lst xs))
def qiq {x1} (h:PA X es t):PE X (.Tuple es x1 pos) (qmS t):=by
 intro pins s σ H Q I hq;refine wpAny_Tuple_spliced (thn (h pos pins s σ H _ I hq) λus s1 ⟨xs,H1,I1,r,z,q⟩=>⟨by rw [← r.length];exact z,?_⟩);have hf:H1 s1.heap.objs.size=none:=I1.hok.fresh (v5 _);refine ⟨.ref s1.heap.objs.size,upd H1 s1.heap.objs.size (.tup xs),I1.laid (t':=s1.toks) (λb u e=>y2 _ e) (v5 _) ?_,rfl,q _ hf⟩;exact ⟨z,us,r,⟨_,y3 _ rfl,rfl,_,rfl,rfl⟩⟩
def qfZ (h:PA X es t):PE X (.List es pos) (qm0 t):=by
 intro pins s σ H Q I hq;refine wpAny_List_spliced (thn (h pos pins s σ H _ I hq) λus s1 ⟨xs,H1,I1,r,z,q⟩=>⟨by rw [← r.length];exact z,?_⟩);have hf:H1 s1.heap.objs.size=none:=I1.hok.fresh (v5 _);refine ⟨.ref s1.heap.objs.size,upd H1 s1.heap.objs.size (.lst xs),I1.laid (t':=s1.toks) (λb u e=>y2 _ e) (v5 _) ?_,rfl,q _ hf⟩;exact ⟨z,us,0,r,y3 _ rfl⟩
end
abbrev Sp:=List V->Hp->VK->XK->Prop
abbrev CXT:=List Env->Hp->Shared->XK->Value->Shared->Prop
structure Env0 (P:Program) (w:World) (K:Frg) (mg:Str->Option Value) (base:Heap) (A:Around) (outer:List Env) (s:Shared) (H:Hp):Prop where
 frames:A.frames=some outer
 mod:Mod K mg base
 bs:∀ b o,base.get? b=some o->s.heap.get? b=some o/\H b=none
 bsz:base.objs.size<=s.heap.objs.size
 funs:s.heap.FunFrames base outer
 frf:∀ b∈frs outer,H b=none
 hok:HOk P w H s.heap
 bare:AllBare s.gens
def CE (outer:List Env) (P:Program) (w:World) (H:Hp) (s:Shared) (Q:VK) (u:Value) (s':Shared):Prop:=
 ∃ v H',s'.os=s.os/\AllBare s'.gens/\Un (frs outer) [] H H' s.heap s'.heap/\HOk P w H' s'.heap/\zT v u/\Q v H'
def CR (CX:CXT) (outer:List Env) (P:Program) (w:World) (H:Hp) (s:Shared) (Q:VK) (E:XK) (r:Result) (s':Shared):Prop:=
 match r with
 |.ok (.ret u)=>CE outer P w H s Q u s'
 |.ok _=>False
 |.error e=>CX outer H s E e s'
structure FnOk (P:Program) (w:World) (K:Frg) (mg:Str->Option Value) (base:Heap) (CX:CXT) (k:Nat) (f:Addr) (fd:FuncData) (ps:List Str) (sp:Sp):Prop where
 len:∀ vs H Q E,sp vs H Q E->vs.length=ps.length
 run:∀ (A:Around) (outer:List Env) (s:Shared) (H:Hp) (args:Args) (us:List Value) (vs:List V) (Q:VK) (E:XK),Room k A->Env0 P w K mg base A outer s H->BindsTo s fd args (ps.zip us)->qQ vs us->sp vs H Q E ->
  codeAny (model P w) A (.call (.ref f) args) (CR CX outer P w H s Q E) s
theorem FnOk.mono {P:Program} {w:World} {K:Frg} {mg:Str->Option Value} {base:Heap} {CX:CXT} {j k:Nat} {f:Addr} {fd:FuncData} {ps:List Str} {sp:Sp} (F:FnOk P w K mg base CX j f fd ps sp) (h:j<=k) :
  FnOk P w K mg base CX k f fd ps sp:=⟨F.len,λA outer s H args us vs Q E hr=>F.run A outer s H args us vs Q E (hr.mono h)⟩
def FnOk.imp {P:Program} {w:World} {K:Frg} {mg:Str->Option Value} {base:Heap} {CX:CXT} {k:Nat} {f:Addr} {fd:FuncData} {ps:List Str} {sp sp':Sp} (F:FnOk P w K mg base CX k f fd ps sp)
  (h:∀ vs H Q E,sp' vs H Q E->sp vs H Q E):FnOk P w K mg base CX k f fd ps sp':=
 ⟨λvs H Q E q=>F.len vs H Q E (h _ _ _ _ q),λA outer s H args us vs Q E hr he hb hv hs=>F.run A outer s H args us vs Q E hr he hb hv (h _ _ _ _ hs)⟩
theorem Env0.in1 {P:Program} {w:World} {K:Frg} {mg:Str->Option Value} {base:Heap} {A:Around} {outer:List Env} {s:Shared} {H:Hp} (e:Env0 P w K mg base A outer s H) :
  Env0 P w K mg base A.in1 outer s H:=⟨e.frames,e.mod,e.bs,e.bsz,e.funs,e.frf,e.hok,e.bare⟩
section
variable {X:Cx} {pins:List (Addr×Obj)} {σ:St} {H:Hp} {s s':Shared}
def Inv.env0 (I:Inv X pins σ H s):Env0 X.prog X.w X.K X.mg X.base X.A X.stack s H:=
 ⟨I.ok.frames,I.ok.mod,I.bs,u3 I.ok.bsz I.sz,I.stack,I.stkFree,I.hok,I.bare⟩
def Inv.after {Q:VK} {u:Value} (I:Inv X pins σ H s) (h:CE X.stack X.prog X.w H s Q u s'):EP X pins σ Q u s':=by
 obtain ⟨v,H',os,bare,un,hok,r,q⟩:=h;obtain ⟨hh,g,d,t,os'⟩:=s';obtain rfl:os'=s.os:=os;exact ⟨v,H',I.call (h':=hh) (g':=g) (d':=d) (t':=t) (ch:=[]) un hok bare (λb z=>absurd z (by simp)),r,q⟩
end
def qkv (sp:Sp) (dvs:List V) (E:XK) (t:TA):TE:=λσ H Q=>t σ H λvs H1=>sp (vs++dvs) H1 Q E
def U1 (K:Frg) (fd:FuncData) (ps:List Str) (ds:List Value):Prop:=
 ∀ (s:Shared) (us:List Value),K.In s.heap->(us++ds).length=ps.length->BindsTo s fd ⟨us,[]⟩ (ps.zip (us++ds))
def U1.all {K:Frg} {fd:FuncData} {ps:List Str} (h:∀ us:List Value,us.length=ps.length->bindArgs fd ⟨us,[]⟩=pure (ps.zip us)):U1 K fd ps []:=λs us _ hl=>by
 rw [List.append_nil] at hl ⊢;exact .of_eq (h us hl)
def qaF (CX:CXT) (X:Cx) (E:XK):Prop:=∀ (pins:List (Addr×Obj)) (σ:St) (H:Hp) (s:Shared) (e:Value) (s':Shared),Inv X pins σ H s->CX X.stack H s E e s'->X.xe e s'
section
variable {X:Cx} {CX:CXT} {k:Nat} {f C:Addr} {fd:FuncData} {ps:List Str} {sp:Sp} {dvs:List V} {ds:List Value} {E:XK} {x m:Str} {p pos apos:Pos} {e o:Expr} {es:List Expr} {ta:TE} {t:TA}
def qcI {pins:List (Addr×Obj)} {σ:St} {H:Hp} {s:Shared} {Q:VK} {us:List Value} {vs:List V} (F:FnOk X.prog X.w X.K X.mg X.base CX k f fd ps sp) (hr:Room k X.A) (hb:U1 X.K fd ps ds) (hd:qQ dvs ds) (hx:qaF CX X E)
  (I:Inv X pins σ H s) (r:qQ vs us) (h:sp (vs++dvs) H Q E):wpAny (model X.prog X.w) X.A (call (.ref f) us) (EP X pins σ Q) X.xe s:=by
 have r2:qQ (vs++dvs) (us++ds):=r.append hd;have hl:(us++ds).length=ps.length:=by rw [← r2.length];exact F.len _ _ _ _ h
 refine wpAny_call (codeAny_mono (F.run X.A X.stack s H ⟨us,[]⟩ (us++ds) (vs++dvs) Q E hr I.env0 (hb s us I.kIn hl) r2 h) λr s' hq=>?_);cases r with
 |error e=>exact hx pins σ H s e s' I hq
 |ok fl=>
  cases fl with
  |ret u=>exact I.after hq
  |next=>exact False.elim hq
  |brk=>exact False.elim hq
  |cont=>exact False.elim hq
def qe2 (F:FnOk X.prog X.w X.K X.mg X.base CX k f fd ps sp) (hr:Room k X.A) (hg:Gl X x) (hm:X.mg x=some (.ref f)) (hk:PySem.W.keepIn X.K (.ref f)=true) (hb:U1 X.K fd ps ds) (hd:qQ dvs ds) (hx:qaF CX X E)
  (ha:PA X (e::es) t) (hdb:(x==("__debug__" : Str))=false:=by decide) (he:starEach (e::es) X.env=(false,eval e X.env)::starEach es X.env:=by rfl) (hpl:(backTo pos (starEach es X.env)).any (·.1)=false:=by rfl) :
  PE X (.Call (.Name x p) (e::es) [] pos) (qkv sp dvs E t):=by
 intro pins s σ H Q I h;refine wpAny_Call_Name_kw (L5 I hg hm ?_ hdb);refine PySem.W.callWith_K (h₀:=X.base) I.ok.mod.kin hk (thn (ha pos pins s σ H _ I h) λus s1 ⟨vs,H1,I1,r,q⟩=>⟨I1.kIn,?_⟩) he hpl;exact qcI F hr hb hd hx I1 r q
end
section
variable {X:Cx} {CX:CXT} {k:Nat} {f C:Addr} {fd:FuncData} {ps ks:List Str} {sp:Sp} {E:XK} {x m:Str} {p pos apos kpos:Pos} {e o:Expr} {es:List Expr} {kws:List Keyword} {te ta:TE} {t tk:TA} {nm:Option Str}
variable {g:List Value->List Value->List Value} {gV:List V->List V->List V}
end
structure FnScope (N P:List Str) (sc:Scope):Prop where
 kind:sc.kind=.function
 co:sc.isCoroutine=false
 gen:sc.isGenerator=false
 nd:N.Nodup
 pre:N.take P.length=P
 par:∀ x∈P,sc.names.lookup x=some .local\/sc.names.lookup x=some .cell
 nofree:∀ y∈sc.names,y.2≠.free
theorem XY {kindOf:Str->Option NameKind} {x:Str}:∀ {binds:List (Str×Value)} {m:Str->Option Value},(∀ v,(x,v)∉binds)->bindL kindOf binds m x=m x
 |[],_,_=>rfl
 | (n,v)::r,m,h=>by
  unfold bindL;rw [XY λw hw=>h w (v6 _ hw)];split
  ·have:x≠n:=by rintro rfl;exact h v u6
   simp [this]
  ·rfl
theorem XI {kindOf:Str->Option NameKind} {x:Str}:∀ {binds:List (Str×Value)} {m:Str->Option Value},(∀ v,(x,v)∉binds)->bindC kindOf binds m x=m x
 |[],_,_=>rfl
 | (n,v)::r,m,h=>by
  unfold bindC;rw [XI λw hw=>h w (v6 _ hw)];split
  ·rfl
  ·have:x≠n:=by rintro rfl;exact h v u6
   simp [this]
theorem X7 {kindOf:Str->Option NameKind} {x:Str} {v:Value}:∀ {P:List Str} {vs:List Value} {i:Nat} {m:Str->Option Value},P.Nodup->P[i]?=some x->vs[i]?=some v->kindOf x=some .local ->
  bindL kindOf (P.zip vs) m x=some v
 |[],_,_,_,_,h,_,_=>by simp at h
 |_::_,[],_,_,_,_,h,_=>by simp at h
 |p::P,w::vs,0,m,nd,h1,h2,hk=>by
  simp at h1 h2;subst h1;subst h2;show bindL kindOf ((p,w)::P.zip vs) m p=_;unfold bindL;rw [XY λv hv=>(List.nodup_cons.mp nd).1 (List.of_mem_zip hv).1,if_pos hk];simp
 |p::P,w::vs,i+1,m,nd,h1,h2,hk=>by
  show bindL kindOf ((p,w)::P.zip vs) m x=_;unfold bindL;exact X7 (i:=i) (List.nodup_cons.mp nd).2 (by simpa using h1) (by simpa using h2) hk
theorem W9 {kindOf:Str->Option NameKind} {x:Str} {v:Value}:∀ {P:List Str} {vs:List Value} {i:Nat} {m:Str->Option Value},P.Nodup->P[i]?=some x->vs[i]?=some v->kindOf x≠some .local ->
  bindC kindOf (P.zip vs) m x=some v
 |[],_,_,_,_,h,_,_=>by simp at h
 |_::_,[],_,_,_,_,h,_=>by simp at h
 |p::P,w::vs,0,m,nd,h1,h2,hk=>by
  simp at h1 h2;subst h1;subst h2;show bindC kindOf ((p,w)::P.zip vs) m p=_;unfold bindC;rw [XI λv hv=>(List.nodup_cons.mp nd).1 (List.of_mem_zip hv).1,if_neg hk];simp
 |p::P,w::vs,i+1,m,nd,h1,h2,hk=>by
  show bindC kindOf ((p,w)::P.zip vs) m x=_;unfold bindC;exact W9 (i:=i) (List.nodup_cons.mp nd).2 (by simpa using h1) (by simpa using h2) hk
def start (N:List Str) (vs:List V):St:=vs.map some++List.replicate (N.length-vs.length) none
def LK (CX:CXT) (P:Program) (w:World) (K:Frg) (mg:Str->Option Value) (base:Heap) (N:List Str) (qual:Str) (scope:Scope) (f:Addr) (cd:Value) (A:Around) (outer:List Env) (s:Shared) (H:Hp) (E:XK):Cx where
 prog:=P
 w:=w
 K:=K
 mg:=mg
 base:=base
 A:=A.deeper (envOfC qual scope s.heap.objs.size f cd)
 N:=N
 s₀:=s
 H₀:=H
 env:=envOfC qual scope s.heap.objs.size f cd
 outer:=outer
 stack:=envOfC qual scope s.heap.objs.size f cd::outer
 ex:=[]
 calm:=true
 fn:=λ_=>true
 pn:=[]
 xe:=λe s'=>wpAny (model P w) (A.deeper (envOfC qual scope s.heap.objs.size f cd)) (leaving (envOfC qual scope s.heap.objs.size f cd) e) (λ_ s''=>CX outer H s E e s'') (λe' s''=>CX outer H s E e' s'') s'
def TX {sc:Scope} {n:Nat} {x:Str} (h:sc.names.lookup x=some .cell):∃ c,(cellsFrom n sc.names []).lookup x=some c:=by
 have q:=PySem.W.cellsFrom_some sc.names n [] (.inl h);exact Option.isSome_iff_exists.mp q
def MN {CX:CXT} {P:Program} {w:World} {K:Frg} {mg:Str->Option Value} {base:Heap} {N ps:List Str} {qual:Str} {scope:Scope} {f:Addr} {cd:Value} {A:Around} {outer:List Env} {s s1:Shared} {H:Hp} {E:XK} {us:List Value} {vs:List V}
  (S:FnScope N ps scope) (hd:A.handled=none) (e0:Env0 P w K mg base A outer s H) (hl:vs.length=ps.length) (r:qQ vs us)
  (x:InCallC s s.heap.objs.size (bindL (envOfC qual scope s.heap.objs.size f cd).kindOf (ps.zip us) λ_=>none) (cellsFrom (s.heap.objs.size+1) scope.names []) (bindC (envOfC qual scope s.heap.objs.size f cd).kindOf (ps.zip us) λ_=>none) s1) :
  Inv (LK CX P w K mg base N qual scope f cd A outer s H E) [] (start N vs) H s1:=by
 have hpl:ps.length<=N.length:=by have:=congrArg List.length S.pre;rw [List.length_take] at this;omega
 obtain ⟨h1,tk,rfl,hk⟩:=x.done;have noA:∀ b:Addr,b∉(LK CX P w K mg base N qual scope f cd A outer s H E).ex:=λb z=>absurd (show b∈([]:List Addr) from z) (by simp);refine ⟨⟨e0.mod,S.kind,rfl,rfl,v5 _,λy z c h1 h2=>?_,λy hy=>?_,λy c _ h=>?_,λ_=>hd,Around.frames_deeper e0.frames,.inr ⟨rfl,rfl⟩,λb z=>absurd z (noA b),e0.bs,e0.bsz,λb _ _=>noA b,λb z=>absurd z (noA b),e0.funs,e0.frf⟩,
  rfl,e0.bare,Un.kept hk,⟨_,x.toInCall.ns,λi y v h1 h2 h3=>?_⟩,λy c h=>⟨_,x.cell y c h⟩,e0.hok.fresh (v5 _),λy c h=>?_,λp hp=>absurd (show p∈([]:List (Addr×Obj)) from hp) (by simp),e0.hok.kept hk,?_⟩
 ·exact name_of_addr x.apart (PySem.mem_of_lookup h1) (PySem.mem_of_lookup h2)
 ·have hy:scope.names.lookup y=some .cell\/scope.names.lookup y=some .free:=hy;rcases hy with hy|hy
  ·exact TX hy
  ·exact absurd rfl (S.nofree _ (PySem.mem_of_lookup hy))
 ·exact Nat.le_of_lt (x.above y c (PySem.mem_of_lookup h))
 ·have hi:i<vs.length:=by
   unfold start at h2;by_cases hi:i<vs.length
   ·exact hi
   ·rw [List.getElem?_append_right (by simpa using hi)] at h2;rw [List.getElem?_replicate] at h2;split at h2<;>cases h2
  have ha:vs[i]?=some v:=by
   unfold start at h2;rw [List.getElem?_append_left (by simpa using hi),getElem?_map] at h2;cases e:vs[i]? with
   |none=>rw [e] at h2;cases h2
   |some a=>rw [e] at h2;cases h2;rfl
  obtain ⟨u,hu,rv⟩:=r.get ha;have hp:ps[i]?=some y:=by
   rw [← S.pre,List.getElem?_take_of_lt (by omega)];exact h1
  have ndP:ps.Nodup:=by rw [← S.pre];exact S.nd.sublist (List.take_sublist _ _)
  refine ⟨u,rv,?_⟩;rcases S.par y (v9 hp) with k|k
  ·exact .inl ⟨k,X7 ndP hp hu k⟩
  ·obtain ⟨c,e⟩:=TX (n:=s.heap.objs.size+1) k;refine .inr ⟨.inl k,c,e,?_⟩;have q:=x.cell y c e;rw [W9 ndP hp hu (by show scope.names.lookup y≠_;rw [k];decide)] at q;exact q
 ·exact e0.hok.fresh (Nat.le_of_lt (x.above y c (PySem.mem_of_lookup h)))
 ·unfold start;show _=N.length;rw [length_append,length_map,List.length_replicate];omega
def qhw {CX:CXT} {P:Program} {w:World} {K:Frg} {mg:Str->Option Value} {base:Heap} {k:Nat} {f:Addr} {name qual:Str} {params:Arguments} {body:List Stmt} {scope:Scope} {dV kV doc pm cdv ct oc:Value} {an od:Option Addr}
  {osl:Array (Option Value)} {N ps:List Str} {sp:Sp} (lk:K.lookup f=some ⟨oc,od,.func (PySem.W.fnOf name qual params body scope dV kV doc pm an cdv ct),osl⟩) (hcd:PySem.W.codeIn K cdv qual=true) (S:FnScope N ps scope)
  (len:∀ vs H Q E,sp vs H Q E->vs.length=ps.length)
  (hbody:∀ (A:Around) (outer:List Env) (s:Shared) (H:Hp) (vs:List V) (Q:VK) (E:XK),Room k (A.deeper (envOfC qual scope s.heap.objs.size f cdv))->sp vs H Q E ->
   ∃ t,PSs (LK CX P w K mg base N qual scope f cdv A outer s H E) body t/\t { nx:=λ_ H'=>Q .non H',rt:=Q } (start N vs) H) :
  FnOk P w K mg base CX (k+1) f (PySem.W.fnOf name qual params body scope dV kV doc pm an cdv ct) ps sp:=by
 refine ⟨len,λA outer s H args us vs Q E hr e0 hb r hsp=>?_⟩;have hl:=len _ _ _ _ hsp;have KX:K.In s.heap:=e0.mod.kin.keeps λb o e=>(e0.bs b o e).1;have lim:s.heap.NoLimit:=e0.mod.nolimit.keeps λb o e=>(e0.bs b o e).1;have hkind:∀ y∈ps.zip us,scope.names.lookup y.1=some .local\/(scope.names.lookup y.1=some .cell/\((cellsFrom (s.heap.objs.size+1) scope.names []).lookup y.1).isSome=true):=λ⟨n,v⟩ hy=>by
  rcases S.par n (List.of_mem_zip hy).1 with q|q
  ·exact .inl q
  ·exact .inr ⟨q,PySem.W.cellsFrom_some _ _ _ (.inl q)⟩
 refine codeAny_call_function hr.depth (KX _ _ lk) rfl S.co S.gen rfl (PySem.W.codeRec_of KX hcd) (hb _ _ _ _ ?_);refine wpAny_newFunctionEnv_cells S.kind hkind λenv he s1 x=>?_;subst he;refine ⟨lim.keeps x.toInCall.keep,codeAny_func ?_⟩;obtain ⟨t,ht,hq⟩:=hbody A outer s H vs Q E (hr.deeper _) hsp;have I:Inv (LK CX P w K mg base N qual scope f cdv A outer s H E) [] (start N vs) H s1:=MN S hr.hd e0 hl r x;refine y0 (ht [] s1 (start N vs) H _ I hq) (λfl s' hs=>?_) λe s' hs=>hs;have fin:∀ {σ':St} {H':Hp} {v:V} {u:Value},Inv (LK CX P w K mg base N qual scope f cdv A outer s H E) [] σ' H' s'->zT v u->Q v H'->CE outer P w H s Q u s':=
  λ{σ' H' v u} J rv q=>⟨v,H',J.os,J.bare,J.base,J.hok,rv,q⟩
 cases fl with
 |ret u=>
  obtain ⟨v,σ',H',J,rv,q⟩:=hs;exact fin J rv q
 |next=>
  obtain ⟨σ',H',J,q⟩:=hs;exact fin (v:=V.non) (u:=Value.none) J rfl q
 |brk=>
  obtain ⟨_,_,_,q⟩:=hs;exact False.elim q
 |cont=>
  obtain ⟨_,_,_,q⟩:=hs;exact False.elim q
section
variable {X:Cx} {x:Str} {p pos:Pos} {e:Expr} {es:List Expr} {t:TA} {id T:String} {r:List V->Hp->VK->Prop}
def tCB (r:List V->Hp->VK->Prop) (t:TA):TE:=λσ H Q=>t σ H λvs H1=>r vs H1 Q
def SY (hc:ZD X (.builtin id) r) (hg:Gl X x) (hm:X.mg x=none) (hv:bootBuiltins x=some (.builtin id)) (ha:PA X (e::es) t) (hn:x≠"__name__" := by decide) (hdb:(x==("__debug__" : Str))=false:=by decide)
  (he:starEach (e::es) X.env=(false,eval e X.env)::starEach es X.env:=by rfl) (hpl:(backTo pos (starEach es X.env)).any (·.1)=false:=by rfl):PE X (.Call (.Name x p) (e::es) [] pos) (tCB r t):=by
 intro pins s σ H Q I h;refine wpAny_Call_Name_kw (YW I hg hm hv ?_ hn hdb);exact PyProof.Rows.callWith_builtin1 (thn (ha pos pins s σ H _ I h) λus s1 ⟨vs,H1,I1,r1,q1⟩=>hc pins s1 σ H1 vs us Q I1 r1 q1) he hpl
def qap (hc:ZD X (.type T) r) (hg:Gl X x) (hm:X.mg x=none) (hv:bootBuiltins x=some (.type T)) (ha:PA X (e::es) t) (hn:x≠"__name__" := by decide) (hdb:(x==("__debug__" : Str))=false:=by decide)
  (he:starEach (e::es) X.env=(false,eval e X.env)::starEach es X.env:=by rfl) (hpl:(backTo pos (starEach es X.env)).any (·.1)=false:=by rfl):PE X (.Call (.Name x p) (e::es) [] pos) (tCB r t):=by
 intro pins s σ H Q I h;refine wpAny_Call_Name_kw (YW I hg hm hv ?_ hn hdb);exact PyProof.Rows.callWith_type1 (thn (ha pos pins s σ H _ I h) λus s1 ⟨vs,H1,I1,r1,q1⟩=>hc pins s1 σ H1 vs us Q I1 r1 q1) he hpl
end
end L2
namespace HT
open PySem PyProof.Rows
section
open PySem.SeqAt
open PySem.MeetsSeq PySem.MeetsSeq2 PySem.MeetsSeq3
end
section
variable {prog:Program} {w:World} {A:Around} {E:Value->Shared->Prop} {s:Shared}
def qeV {t b:Addr} {vs ws:List Value} {Q:Value->Shared->Prop} (ht:IsTup s.heap t vs.toArray) (hb:IsTup s.heap b ws.toArray) (hv:vs≠[])
  (h1:ws=[]->Q (.ref t) s) (h2:ws≠[]->Q (.ref s.heap.objs.size) { s with heap:=s.heap.push { cls:=.type "tuple",data:=.seq (vs++ws).toArray } })
  (hsz:vs.length+ws.length<=sizeLine):wpAny (model prog w) A (binaryOp .Add (.ref t) (.ref b)) Q E s:=by
 obtain ⟨⟨cls,dd,data,sl⟩,ho,hc,n,hd⟩:=id ht;obtain ⟨⟨cls2,dd2,data2,sl2⟩,ho2,hc2,n2,hd2⟩:=id hb;simp only at hc hd hc2 hd2;subst hc hd hc2 hd2;have e:vs.toArray++ws.toArray=(vs++ws).toArray:=by simp
 by_cases hw:ws=[]
 ·exact concat_meets ⟨_,ho,rfl⟩ ⟨_,ho2,rfl⟩ noFill_tuple_add seq_tuple_add PySem.F.slot_tuple_add PySem.F.entry_tuple_add (PySem.F.args_tuple_add_2 _ _)
   (tuple_addW1 t b vs.toArray ws.toArray n n2 dd dd2 sl sl2 (by simpa using hv) (by simp [hw])) ⟨ho,ho2,h1 hw⟩
 ·refine concat_meets ⟨_,ho,rfl⟩ ⟨_,ho2,rfl⟩ noFill_tuple_add seq_tuple_add PySem.F.slot_tuple_add PySem.F.entry_tuple_add (PySem.F.args_tuple_add_2 _ _)
   (tuple_addW2 t b vs.toArray ws.toArray n n2 dd dd2 sl sl2 (by simpa using hv) (by simpa using hw) (by rw [size_toArray,size_toArray];exact hsz)) ⟨ho,ho2,?_⟩
  rw [e];exact h2 hw
def sIx (n d:Nat):Option Int->Nat
 |none=>d
 |some v=>if v<0 then (v+(n:Int)).toNat else min v.toNat n
def qbL (n d:Nat):sIx n d none=d:=rfl
def qes (n d k:Nat):sIx n d (some (k:Int))=min k n:=by
 show (if (k:Int)<0 then ((k:Int)+(n:Int)).toNat else min (k:Int).toNat n)=min k n;rw [if_neg (by omega),Int.toNat_natCast]
def qgP (n d:Nat) (hd:d<=n) (o:Option Int):sIx n d o<=n:=by
 cases o with
 |none=>exact hd
 |some v=>
  show (if v<0 then (v+(n:Int)).toNat else min v.toNat n)<=n;by_cases hv:v<0
  ·rw [if_pos hv];omega
  ·rw [if_neg hv];exact Nat.min_le_right _ _
def NK (v:Int) (n d:Nat):(if v<0 then max (v+(n:Int)) 0 else min v (n:Int))=((sIx n d (some v):Nat):Int):=by
 show (if v<0 then max (v+(n:Int)) 0 else min v (n:Int))=(((if v<0 then (v+(n:Int)).toNat else min v.toNat n):Nat):Int);by_cases hv:v<0
 ·simp only [if_pos hv];omega
 ·simp only [if_neg hv];omega
def KF (lo hi:Option Int) (n:Nat):Builtin.Slice.sliceAdjust lo hi 1 (n:Int)=(((sIx n 0 lo:Nat):Int),((sIx n n hi:Nat):Int)):=by
 have h1:¬ ((1:Int)<0):=by omega
 unfold Builtin.Slice.sliceAdjust;simp only [h1,if_false];refine Prod.ext ?_ ?_
 ·cases lo with
  |none=>rfl
  |some v=>exact NK v n 0
 ·cases hi with
  |none=>rfl
  |some v=>exact NK v n n
def T0 (i j:Nat):Builtin.Slice.slicePlaces (i:Int) (j:Int) 1=j-i:=by
 unfold Builtin.Slice.slicePlaces;have h1:(1:Int) > 0:=by omega
 simp only [h1,if_true,Int.ediv_one];split<;>omega
def EW {v:Value} {o:Option Int} {Q:Option Int->Shared->Prop} (p:IsPart v o) (h:Q o s):wpAny (model prog w) A (Builtin.Slice.slicePartIndex v) Q E s:=by
 cases p with
 |none=>exact slicePart_none h
 |int i t=>exact slicePart_int h
def Y9 {sl:Addr} {vl vu:Value} {lo hi:Option Int} {n:Nat} {Q:Int×Int×Nat->Shared->Prop} (hs:s.heap.IsSliceOf sl vl vu .none) (pl:IsPart vl lo) (pu:IsPart vu hi)
  (h:Q (((sIx n 0 lo:Nat):Int),1,sIx n n hi-sIx n 0 lo) s):wpAny (model prog w) A (Builtin.Slice.sliceApplied (.ref sl) (pure (n:Int))) Q E s:=by
 obtain ⟨os,hos,hcs,hds⟩:=id hs;unfold Builtin.Slice.sliceApplied Builtin.Slice.sliceFields;refine x8 (x8 (wpAny_field hos hds (x:=vl) rfl (x8 (wpAny_field hos hds (x:=vu) rfl (x8 (wpAny_field hos hds (x:=.none) rfl (x9 ?_)))))));refine x8 (slicePart_none ?_);show wpAny _ _ (if ((1:Int)==0)=true then _ else _) _ _ s;rw [if_neg (by decide)];refine x8 (EW pl (x8 (EW pu (x8 (x9 ?_)))));show wpAny _ _ (match Builtin.Slice.sliceAdjust lo hi 1 (n:Int) with|(lo,hi)=>pure (lo,(1:Int),Builtin.Slice.slicePlaces lo hi 1)) _ _ s;rw [KF lo hi n];show wpAny _ _ (pure (((sIx n 0 lo:Nat):Int),(1:Int),Builtin.Slice.slicePlaces ((sIx n 0 lo:Nat):Int) ((sIx n n hi:Nat):Int) 1)) _ _ s;rw [T0];exact x9 h
def qbq (xs:Array Value) (i k:Nat):((List.range k).filterMap λ(m:Nat)=>xs[((i:Int)+(m:Int)*1).toNat]?).toArray=((xs.toList.drop i).take k).toArray:=by
 have e:(λ(m:Nat)=>xs[((i:Int)+(m:Int)*1).toNat]?)=λm=>xs[i+m]?:=by
  funext m;have:((i:Int)+(m:Int)*1).toNat=i+m:=by omega
  rw [this]
 rw [e];have:=pick_run xs i k;rw [List.filterMap_map] at this;have e2:((λx=>xs[x]?)∘λx=>i+x)=λm=>xs[i+m]?:=rfl;rw [e2] at this;rw [this]
def J1 {t sl:Addr} {items:Array Value} {vl vu:Value} {lo hi:Option Int} {Q:Value->Shared->Prop} (ht:IsTup s.heap t items) (hs:s.heap.IsSliceOf sl vl vu .none) (pl:IsPart vl lo) (pu:IsPart vu hi)
  (hw:¬ (sIx items.size 0 lo=0/\sIx items.size items.size hi=items.size))
  (h:Q (.ref s.heap.objs.size) { s with heap:=s.heap.push { cls:=.type "tuple",data:=.seq ((items.toList.drop (sIx items.size 0 lo)).take (sIx items.size items.size hi-sIx items.size 0 lo)).toArray } })
  (hsz:items.size<=sizeLine):wpAny (model prog w) A (getItem (.ref t) (.ref sl)) Q E s:=by
 have htake:sizeOk (.seq ((items.toList.drop (sIx items.size 0 lo)).take (sIx items.size items.size hi-sIx items.size 0 lo)).toArray):=by
  show ((items.toList.drop (sIx items.size 0 lo)).take (sIx items.size items.size hi-sIx items.size 0 lo)).toArray.size<=sizeLine;rw [size_toArray,List.length_take,List.length_drop,Array.length_toList];omega
 have hj:sIx items.size items.size hi<=items.size:=qgP _ _ (v5 _) hi;obtain ⟨os,hos,hcs,hds⟩:=id hs;have hTs:s.TypeIs (.ref sl) "slice" := ⟨os,hos,hcs⟩
 unfold getItem
 try with_reducible refine wpAny_holding ?_
 first|refine x8 (x9 ?_)|skip
 refine x8 (wpAny_sequenceKey ht.typeIs (by decide) ?_);refine x8 (wpAny_callSpecial?_slot (name:=Str.ofString "__getitem__") ht.typeIs PyProof.Rows.slot_tuple_getitem
  (wpAny_call_entry PyProof.Rows.slot_tuple_getitem ht.typeIs entry_tuple_getitem ?_ (args_tuple_getitem _ _)))
 show wpAny _ _ (Builtin.Tuple.tupleItemsOf (.ref t) >>= _) _ _ s;refine x8 (tupleItemsOf_ ht ?_);refine x8 (wpAny_typeOf hTs ?_);rw [if_pos (by decide)];refine x8 (Y9 hs pl pu ?_);have hno:¬ ((((sIx items.size 0 lo:Nat):Int)==0&&(1:Int)==1&&(sIx items.size items.size hi-sIx items.size 0 lo)==items.size)=true):=by
  intro q;rw [Bool.and_eq_true,Bool.and_eq_true] at q;have q1:((sIx items.size 0 lo:Nat):Int)=0:=eq_of_beq q.1.1;have q2:sIx items.size items.size hi-sIx items.size 0 lo=items.size:=eq_of_beq q.2;exact hw ⟨by omega,by omega⟩
 show wpAny _ _ (if (((sIx items.size 0 lo:Nat):Int)==0&&(1:Int)==1&&(sIx items.size items.size hi-sIx items.size 0 lo)==items.size)=true then _ else _) _ _ s;rw [if_neg hno,qbq]
 first
  |exact x8 (m:=Builtin.Tuple.tupleExact _) (wpAny_newObj_type (x9 ⟨_,rfl,x9 h⟩) htake)
  |exact x8 (m:=Builtin.Tuple.tupleExact _) (wpAny_newObj_type (x8 (x9 (x9 ⟨_,rfl,x9 h⟩))) htake)
  |exact x8 (x8 (m:=Builtin.Tuple.tupleExact _) (wpAny_newObj_type (x9 (x9 ⟨_,rfl,x9 h⟩)) htake))
  |exact x8 (x8 (m:=Builtin.Tuple.tupleExact _) (wpAny_newObj_type (x9 ⟨_,rfl,x9 h⟩) htake))
end
end HT
namespace L2
open PySem PySem.Spec PyProof.Rows
abbrev TO:=St->Hp->(Option Int->Hp->Prop)->Prop
def PO (X:Cx) (e:Option Expr) (t:TO):Prop:=
 ∀ (pins:List (Addr×Obj)) (s:Shared) (σ:St) (H:Hp) (Q:Option Int->Hp->Prop),Inv X pins σ H s->t σ H Q ->
  wpAny (model X.prog X.w) X.A (evalPart e X.env) (λu s'=>∃ o H',Inv X pins σ H' s'/\IsPart u o/\Q o H') X.xe s
def qfc:TO:=λ_ H Q=>Q none H
def qlf (t:TE):TO:=λσ H Q=>t σ H λx H1=>∃ i,x=.int i/\Q (some i) H1
section
variable {X:Cx} {e:Expr} {te:TE} {lo hi:Option Expr} {tl th:TO} {pos p2:Pos}
def qeo:PO X none qfc:=by
 intro pins s σ H Q I h;rw [evalPart_none];exact x9 ⟨none,H,I,.none,h⟩
def qef (h:PE X e te):PO X (some e) (qlf te):=by
 intro pins s σ H Q I hw;rw [evalPart_some];refine thn (h pins s σ H _ I hw) λu s1 ⟨x,H1,I1,r1,q1⟩=>?_;obtain ⟨i,rfl,q⟩:=q1;obtain ⟨t,rfl⟩:=r1;exact ⟨some i,H1,I1,.int i t,q⟩
def SlR (X:Cx) (r:V->Option Int->Option Int->Hp->VK->Prop):Prop:=
 ∀ (pins:List (Addr×Obj)) (s:Shared) (σ:St) (H:Hp) (x:V) (v vl vu:Value) (lo hi:Option Int) (sl:Addr) (Q:VK),Inv X pins σ H s->zT x v->s.heap.IsSliceOf sl vl vu .none->IsPart vl lo->IsPart vu hi->r x lo hi H Q ->
  ∃ T id,typeLookup (.type T) "__getitem__" = pure (some (.builtin id))/\s.TypeIs v T/\wpAny (model X.prog X.w) X.A (getItem v (.ref sl)) (EP X pins σ Q) X.xe s
def SlR.or {r r':V->Option Int->Option Int->Hp->VK->Prop} (h:SlR X r) (h':SlR X r'):SlR X (λx lo hi H Q=>r x lo hi H Q\/r' x lo hi H Q):=by
 intro pins s σ H x v vl vu lo hi sl Q I rx hs pl pu q;rcases q with q|q
 ·exact h pins s σ H x v vl vu lo hi sl Q I rx hs pl pu q
 ·exact h' pins s σ H x v vl vu lo hi sl Q I rx hs pl pu q
def tSl (r:V->Option Int->Option Int->Hp->VK->Prop) (te:TE) (tl th:TO):TE:=λσ H Q=>te σ H λx H1=>tl σ H1 λl H2=>th σ H2 λu H3=>r x l u H3 Q
def qbu {r:V->Option Int->Option Int->Hp->VK->Prop} (hr:SlR X r) (he:PE X e te) (hl:PO X lo tl) (hu:PO X hi th):PE X (.Subscript e (.Slice lo hi none p2) pos) (tSl r te tl th):=by
 intro pins s σ H Q I h;refine Subscript_ (thn (he pins s σ H _ I h) λv s1 ⟨x,H1,I1,r1,q1⟩=>?_);refine wpAny_Slice (thn (hl pins s1 σ H1 _ I1 q1) λvl s2 ⟨l,H2,I2,pl,q2⟩=>thn (hu pins s2 σ H2 _ I2 q2) λvu s3 ⟨u,H3,I3,pu,q3⟩=>?_);rw [evalPart_none];refine x9 ?_;have I4:Inv X pins σ H3 { s3 with heap:=s3.heap.push { cls:=.type "slice",data:=.fields #[vl,vu,.none] } }:=I3.kept (t':=s3.toks) λb ob q=>y2 _ q;obtain ⟨T,id,hT,ht,hg⟩:=hr pins { s3 with heap:=s3.heap.push { cls:=.type "slice",data:=.fields #[vl,vu,.none] } } σ H3 x v vl vu l u s3.heap.objs.size Q I4 r1 (Heap.IsSliceOf.new ..) pl pu q3;show wpAny (model X.prog X.w) X.A (subscriptTail e (.Slice lo hi none p2) v (.ref s3.heap.objs.size)) (EP X pins σ Q) X.xe { s3 with heap:=s3.heap.push { cls:=.type "slice",data:=.fields #[vl,vu,.none] } };exact tail_any (ops:=[.ref s3.heap.objs.size,v]) ht hT hg (by with_unfolding_all rfl)
def qdg (xs:List V) (lo hi:Option Int):List V:=(xs.drop (HT.sIx xs.length 0 lo)).take (HT.sIx xs.length xs.length hi-HT.sIx xs.length 0 lo)
def UC (xs:List V) (lo hi:Option Int):(qdg xs lo hi).length<=xs.length:=by
 unfold qdg;rw [List.length_take,List.length_drop];omega
def qns (K:Frg):V->Option Int->Option Int->Hp->VK->Prop:=λx lo hi H Q=>∃ a xs,x=.ref a/\SqT K H a xs /\
 ¬ (HT.sIx xs.length 0 lo=0/\HT.sIx xs.length xs.length hi=xs.length)/\∀ p,H p=none->Q (.ref p) (upd H p (.tup (qdg xs lo hi)))
def qiu:SlR X (qns X.K):=by
 intro pins s σ H x v vl vu lo hi sl Q I rx hs pl pu h;obtain ⟨a,xs,rfl,hx,hw,q⟩:=h;cases rx;obtain ⟨its,r,ht,hz⟩:=I.tuple hx;have hlen:its.toArray.size=xs.length:=by rw [size_toArray];exact r.length.symm
 refine ⟨"tuple",_,PyProof.Rows.slot_tuple_getitem.lookup,ht.typeIs,?_⟩;refine HT.J1 ht hs pl pu (by rw [hlen];exact hw) ?_ (by rw [hlen];exact hz);rw [hlen];refine ⟨.ref s.heap.objs.size,_,I.laid (t':=s.toks) (o:=.tup (qdg xs lo hi)) (λb ob q=>y2 _ q) (v5 _) ?_,rfl,q _ (I.hok.fresh (v5 _))⟩;exact ⟨u3 (UC xs lo hi) hz,_,(r.drop (HT.sIx xs.length 0 lo)).take (HT.sIx xs.length xs.length hi-HT.sIx xs.length 0 lo),YR.new _ _⟩
def qis (K:Frg):R2:=λx y H Q=>∃ a b xs ys,x=.ref a/\y=.ref b/\SqT K H a xs/\SqT K H b ys/\xs≠[]/\xs.length+ys.length<=sizeLine /\
 (ys=[]->Q (.ref a) H)/\(ys≠[]->∀ p,H p=none->Q (.ref p) (upd H p (.tup (xs++ys))))
def qQ.nil_iff {xs:List V} {us:List Value} (r:qQ xs us):us=[]↔xs=[]:=by
 cases r with
 |nil=>simp
 |cons _ _=>simp
def qfi:OpR X (binaryOp .Add) (qis X.K):=by
 intro pins s σ H x y v u Q I rx ry h;obtain ⟨a,b,xs,ys,rfl,rfl,ha,hb,hx,hz,q1,q2⟩:=h;cases rx;cases ry;obtain ⟨its,r1,p1,_⟩:=I.tuple ha;obtain ⟨its2,r2,p2,_⟩:=I.tuple hb;refine HT.qeV p1 p2 (λz=>hx (r1.nil_iff.mp z)) (λz=>⟨.ref a,H,I,rfl,q1 (r2.nil_iff.mp z)⟩) (λz=>?_) (by rw [← r1.length,← r2.length];exact hz);refine ⟨.ref s.heap.objs.size,_,I.laid (t':=s.toks) (o:=.tup (xs++ys)) (λb ob q=>y2 _ q) (v5 _) ?_,rfl,q2 (λw=>z (r2.nil_iff.mpr w)) _ (I.hok.fresh (v5 _))⟩;exact ⟨by rw [length_append];exact hz,_,r1.append r2,YR.new _ _⟩
end
def ixN (n:Nat) (i:Int):Option Nat:=if 0<=i then (if i<n then some i.toNat else none) else if -(n:Int)<=i then some (i+n).toNat else none
def atI {α:Type} (xs:List α) (i:Int):Option α:=(ixN xs.length i).bind λj=>xs[j]?
def MK {n:Nat} {i:Int} {j:Nat} (h:ixN n i=some j):seqIndex? i n=some j/\j<n/\-(n:Int)<=i/\i<n:=by
 unfold ixN at h;by_cases h0:0<=i
 ·rw [if_pos h0] at h;by_cases h1:i<n
  ·rw [if_pos h1] at h;have e:i.toNat=j:=Option.some.inj h;exact ⟨by rw [seqIndex_of h0 h1,e],by omega,by omega,h1⟩
  ·rw [if_neg h1] at h;cases h
 ·rw [if_neg h0] at h;by_cases h1:-(n:Int)<=i
  ·rw [if_pos h1] at h;have e:(i+n).toNat=j:=Option.some.inj h;exact ⟨by rw [seqIndex_neg (by omega) h1,e],by omega,h1,by omega⟩
  ·rw [if_neg h1] at h;cases h
def C7 {α:Type} {xs:List α} {i:Int} {v:α} (h:atI xs i=some v):∃ j,seqIndex? i xs.length=some j/\xs[j]?=some v/\j<xs.length/\-(xs.length:Int)<=i/\i<xs.length:=by
 unfold atI at h;cases e:ixN xs.length i with
 |none=>rw [e] at h;cases h
 |some j=>
  rw [e] at h;obtain ⟨h1,h2,h3,h4⟩:=MK e;exact ⟨j,h1,h,h2,h3,h4⟩
def RX (b:Expr):Prop:=∀ o i,subscripted b false o i=operate [o,i] (getItem o i)
def IxR (X:Cx) (r:R2):Prop:=
 ∀ (value slice:Expr) (pins:List (Addr×Obj)) (s:Shared) (σ:St) (H:Hp) (x y:V) (v u:Value) (Q:VK),Inv X pins σ H s->zT x v->zT y u->r x y H Q ->
  subscripted slice false v u=operate [v,u] (getItem v u)->wpAny (model X.prog X.w) X.A (subscriptTail value slice v u) (EP X pins σ Q) X.xe s
def MtR (X:Cx) (id:String) (r:V->List V->Hp->VK->Prop):Prop:=
 ∀ (pins:List (Addr×Obj)) (s:Shared) (σ:St) (H:Hp) (x:V) (xs:List V) (v:Value) (us:List Value) (Q:VK),Inv X pins σ H s->zT x v->qQ xs us->r x xs H Q ->
  wpAny (model X.prog X.w) X.A (call (.builtin id) (v::us)) (EP X pins σ Q) X.xe s
section
variable {X:Cx} {a b:Expr} {ta tb:TE} {pos:Pos}
def IxR.or {r r':R2} (h:IxR X r) (h':IxR X r'):IxR X (λx y H Q=>r x y H Q\/r' x y H Q):=by
 intro value slice pins s σ H x y v u Q I rx ry q hs;rcases q with q|q
 ·exact h value slice pins s σ H x y v u Q I rx ry q hs
 ·exact h' value slice pins s σ H x y v u Q I rx ry q hs
def ql1 {r:R2} (hr:IxR X r) (ha:PE X a ta) (hb:PE X b tb) (hs:RX b):PE X (.Subscript a b pos) (tOp r ta tb):=by
 intro pins s σ H Q I h;exact Subscript_ (qla ha hb I h λv u s2 x y H2 I2 rx ry q=>hr a b pins s2 σ H2 x y v u Q I2 rx ry q (hs _ _))
def qmF (K:Frg):R2:=λx y H Q=>∃ p xs i v,x=.ref p/\y=.int i/\SqL K H p xs/\atI xs i=some v/\Q v H
def qmJ (K:Frg):R2:=λx y H Q=>∃ p xs i v,x=.ref p/\y=.int i/\SqT K H p xs/\atI xs i=some v/\Q v H
def qmx:R2:=λx y H Q=>∃ z i c,x=.str z/\y=.int i/\z.length<=sizeLine/\atI z.cps.toList i=some c/\Q (.str ⟨#[c]⟩) H
def qfp:IxR X (qmF X.K):=by
 intro value slice pins s σ H x y v u Q I rx ry h hs;obtain ⟨p,xs,i,z,rfl,rfl,hq,he,q⟩:=h;cases rx;obtain ⟨t,rfl⟩:=ry;obtain ⟨its,r,pl,hz⟩:=I.list hq;obtain ⟨j,h1,h2,h3,h4,h5⟩:=C7 he;obtain ⟨w,ew,rw'⟩:=r.get h2;have hl:=r.length;have hn:=CJ;have fin:EP X pins σ Q w s:=⟨z,H,I,rw',q⟩
 by_cases h0:0<=i
 ·have hj:i.toNat=j:=by
   rw [seqIndex_of h0 h5] at h1;exact Option.some.inj h1
  exact item_listR pl.isList h0 (by omega) (by rw [hj];simpa using ew) fin hs
 ·have hj:(i+(its.toArray.size:Int)).toNat=j:=by
   rw [seqIndex_neg (by omega) h4] at h1;rw [size_toArray,← hl];exact Option.some.inj h1
  exact subscriptTail_builtinR (x:=w) pl.isList.typeIs slot_list_getitem.lookup
   (wpAny_getItem_list_neg (Q:=λr s'=>r=w/\EP X pins σ Q r s') pl.isList (by omega) (by rw [size_toArray]<;>omega) (by omega) (by rw [hj];simpa using ew) ⟨rfl,fin⟩) hs
def qgg:IxR X (qmJ X.K):=by
 intro value slice pins s σ H x y v u Q I rx ry h hs;obtain ⟨p,xs,i,z,rfl,rfl,hq,he,q⟩:=h;cases rx;obtain ⟨t,rfl⟩:=ry;obtain ⟨its,r,pl,hz⟩:=I.tuple hq;obtain ⟨j,h1,h2,h3,h4,h5⟩:=C7 he;obtain ⟨w,ew,rw'⟩:=r.get h2;have hl:=r.length;have hn:=CJ;have fin:EP X pins σ Q w s:=⟨z,H,I,rw',q⟩
 exact subscriptTail_builtinR (x:=w) pl.typeIs slot_tuple_getitem.lookup
  (getItem_tuple (j:=j) (Q:=λr s'=>r=w/\EP X pins σ Q r s') pl (by omega) (by omega) (by rw [size_toArray,← hl];exact h1) (by simpa using ew) ⟨rfl,fin⟩) hs
def qiH:IxR X qmx:=by
 intro value slice pins s σ H x y v u Q I rx ry h hs;obtain ⟨z,i,c,rfl,rfl,hz,he,q⟩:=h;obtain ⟨t,rfl⟩:=rx;obtain ⟨t',rfl⟩:=ry;obtain ⟨j,h1,h2,h3,h4,h5⟩:=C7 he;have hl:z.cps.toList.length=z.length:=by simp [Str.length]
 rw [hl] at h1 h4 h5;have hn:=CJ;exact tail_any (typeIs_str s z t) slot_str_getitem.lookup (getItem_str (c:=c) (by
  have e1:decide (i < -(2 ^ 63:Int))=false:=u7 (by omega);have e2:decide (i ≥ 2 ^ 63)=false:=u7 (by omega);rw [e1,e2,Bool.or_false]) (by rw [h1];simpa using h2) ⟨.str ⟨#[c]⟩,H,I.tok _,⟨_,rfl⟩,q⟩) hs
def rIx (K:Frg):R2:=λx y H Q=>qmF K x y H Q\/qmJ K x y H Q\/qmx x y H Q
def qf1:IxR X (rIx X.K):=qfp.or (qgg.or qiH)
def LH (its:List Value) (n j:Nat) (u:Value):Obj.mapSeq (·.setIfInBounds j u) { cls:=.type "list",data:=.seq its.toArray n }={ cls:=.type "list",data:=.seq (its.set j u).toArray n }:=by
 simp [Obj.mapSeq]
theorem Inv.lst {pins:List (Addr×Obj)} {σ:St} {H:Hp} {s:Shared} {p:Addr} {xs:List V} (I:Inv X pins σ H s) (h:H p=some (.lst xs)) :
  ∃ (its:List Value) (n:Nat),qQ xs its/\s.heap.get? p=some { cls:=.type "list",data:=.seq its.toArray n }/\xs.length<=sizeLine:=by
 obtain ⟨z,its,n,r,e⟩:=I.hok p _ h;exact ⟨its,n,r,e,z⟩
def Inv.lstUpd {pins:List (Addr×Obj)} {σ:St} {H:Hp} {s:Shared} {p:Addr} {xs ys:List V} {its its':List Value} {n n':Nat} {f:Obj->Obj} (I:Inv X pins σ H s) (h:H p=some (.lst xs))
  (ho:s.heap.get? p=some { cls:=.type "list",data:=.seq its.toArray n }) (hf:f { cls:=.type "list",data:=.seq its.toArray n }={ cls:=.type "list",data:=.seq its'.toArray n' }) (r:qQ ys its') (hz:ys.length<=sizeLine) (t:Nat) :
  Inv X pins σ (upd H p (.lst ys)) { s with heap:=s.heap.update p f,toks:=t }:=by
 have e:(s.heap.update p f).get? p=some { cls:=.type "list",data:=.seq its'.toArray n' }:=by
  rw [Heap.get?_update_self f ho (by rw [hf]<;>rfl),hf]
 refine I.write (x:=p) (e:=p) (by rw [h];trivial) (.inl rfl) (λb u hb q=>(Heap.get?_update_other _ _ (Ne.symm hb)).trans q) ⟨_,e⟩ ?_;exact ⟨hz,its',n',r,e⟩
def qlZ:V->V->V->Hp->(Hp->Prop)->Prop:=λo i v H Q=>∃ p xs k j,o=.ref p/\i=.int k/\H p=some (.lst xs)/\ixN xs.length k=some j/\Q (upd H p (.lst (xs.set j v)))
def qbY:qmk X qlZ:=by
 intro pins s σ H o i v ov iv u Q I ro ri rv h;obtain ⟨p,xs,k,j,rfl,rfl,hp,hj,q⟩:=h;cases ro;obtain ⟨t,rfl⟩:=ri;obtain ⟨its,n,r,ho,hz⟩:=I.lst hp;obtain ⟨h1,h2,h3,h4⟩:=MK hj;have hl:=r.length;have hn:=CJ;have I':Inv X pins σ (upd H p (.lst (xs.set j v))) { s with heap:=s.heap.update p (Obj.mapSeq (·.setIfInBounds j u)) }:=
  I.lstUpd hp ho (LH its n j u) (r.set rv j) (by rw [List.length_set];exact hz) s.toks
 by_cases h0:0<=k
 ·have hk:k.toNat=j:=by
   rw [seqIndex_of h0 h4] at h1;exact Option.some.inj h1
  exact PySem.W.ki_setAt ho h0 (by omega) (by rw [size_toArray,← hl];exact h4) (by rw [hk];exact ⟨_,I',q⟩)
 ·have hk:(k+(its.toArray.size:Int)).toNat=j:=by
   rw [seqIndex_neg (by omega) h3] at h1;rw [size_toArray,← hl];exact Option.some.inj h1
  exact PySem.W.ki_setBack ho (by omega) (by rw [size_toArray,← hl];exact h3) (by omega) (by rw [hk];exact ⟨_,I',q⟩)
def XU (lo hi:Option Int) (n:Nat):(sliceBounds lo hi none n).1=((HT.sIx n 0 lo:Nat):Int)/\(sliceBounds lo hi none n).2.1=((HT.sIx n n hi:Nat):Int)/\(sliceBounds lo hi none n).2.2=1:=by
 refine ⟨?_,?_,rfl⟩
 ·cases lo with
  |none=>simp [sliceBounds,HT.sIx]
  |some i=>
   simp only [sliceBounds,HT.sIx,Option.getD_none,show (1:Int) > 0 by decide,if_true];by_cases h:i<0
   ·simp only [h,if_true]<;>omega
   ·simp only [h,if_false]<;>omega
 ·cases hi with
  |none=>simp [sliceBounds,HT.sIx]
  |some i=>
   simp only [sliceBounds,HT.sIx,Option.getD_none,show (1:Int) > 0 by decide,if_true];by_cases h:i<0
   ·simp only [h,if_true]<;>omega
   ·simp only [h,if_false]<;>omega
def DY (its:List Value) (lo hi:Option Int):slicePick its.toArray lo hi none=((its.drop (HT.sIx its.length 0 lo)).take (HT.sIx its.length its.length hi-HT.sIx its.length 0 lo)).toArray:=by
 obtain ⟨h1,h2,h3⟩:=XU lo hi its.toArray.size;unfold slicePick;rw [h1,h2,h3];simp only [sliceRange_one,pick_run,size_toArray]<;>rfl
def qmU (K:Frg):V->Option Int->Option Int->Hp->VK->Prop:=λx lo hi H Q=>∃ a xs,x=.ref a/\SqL K H a xs/\∀ p,H p=none->Q (.ref p) (upd H p (.lst (qdg xs lo hi)))
def qeY:SlR X (qmU X.K):=by
 intro pins s σ H x v vl vu lo hi sl Q I rx hs pl pu h;obtain ⟨a,xs,rfl,hx,q⟩:=h;cases rx;obtain ⟨its,r,ht,hz⟩:=I.list hx;have hlen:=r.length;refine ⟨"list",_,slot_list_getitem.lookup,ht.isList.typeIs,?_⟩;refine wpAny_getItem_list_slice ht.isList hs pl pu .none (by simp) ?_ (by rw [size_toArray]<;>omega);rw [DY,← hlen];refine ⟨.ref s.heap.objs.size,_,I.laid (t':=s.toks) (o:=.lst (qdg xs lo hi)) (λb ob q=>y2 _ q) (v5 _) ?_,rfl,q _ (I.hok.fresh (v5 _))⟩;exact ⟨u3 (UC xs lo hi) hz,_,0,(r.drop (HT.sIx xs.length 0 lo)).take (HT.sIx xs.length xs.length hi-HT.sIx xs.length 0 lo),y3 _ rfl⟩
def EJ:V->Bool
 |.non=>true
 |.bl _=>true
 |.int _=>true
 |.str _=>true
 |_=>false
def eqV:V->V->Bool
 |.non,.non=>true
 |.bl a,.bl b=>a==b
 |.bl a,.int b=>(if a then 1 else 0)==b
 |.int a,.bl b=>a==(if b then 1 else 0)
 |.int a,.int b=>a==b
 |.str a,.str b=>a==b
 |_,_=>false
def qiY {A:Around} {s:Shared} {y x:V} {u v:Value} (ry:zT y u) (rx:zT x v) (fy:EJ y=true) (fx:EJ x=true):SeqAt.EqAt A s u v (eqV y x):=by
 cases y with
 |non=>
  cases ry;cases x with
  |non=>cases rx;exact SeqAt.EqAt.same _
  |bl b=>cases rx;exact SeqAt.EqAt.none_bool b
  |int b=>obtain ⟨t,rfl⟩:=rx;exact SeqAt.EqAt.none_int b t
  |str b=>obtain ⟨t,rfl⟩:=rx;exact SeqAt.EqAt.none_str b t
  |_=>exact absurd (show false=true from fx) y6
 |bl a=>
  cases ry;cases x with
  |non=>cases rx;exact SeqAt.EqAt.bool_none a
  |bl b=>cases rx;exact SeqAt.EqAt.bool_bool a b
  |int b=>obtain ⟨t,rfl⟩:=rx;exact SeqAt.EqAt.bool_int a b t
  |str b=>obtain ⟨t,rfl⟩:=rx;exact SeqAt.EqAt.bool_str a b t
  |_=>exact absurd (show false=true from fx) y6
 |int a=>
  obtain ⟨t',rfl⟩:=ry;cases x with
  |non=>cases rx;exact SeqAt.EqAt.int_none a t'
  |bl b=>cases rx;exact SeqAt.EqAt.int_bool a t' b
  |int b=>obtain ⟨t,rfl⟩:=rx;exact SeqAt.EqAt.int_int a t' b t
  |str b=>obtain ⟨t,rfl⟩:=rx;exact SeqAt.EqAt.int_str a t' b t
  |_=>exact absurd (show false=true from fx) y6
 |str a=>
  obtain ⟨t',rfl⟩:=ry;cases x with
  |non=>cases rx;exact SeqAt.EqAt.str_none a t'
  |bl b=>cases rx;exact SeqAt.EqAt.str_bool a t' b
  |int b=>obtain ⟨t,rfl⟩:=rx;exact SeqAt.EqAt.str_int a t' b t
  |str b=>obtain ⟨t,rfl⟩:=rx;exact SeqAt.EqAt.str_str a t' b t
  |_=>exact absurd (show false=true from fx) y6
 |_=>exact absurd (show false=true from fy) y6
def eqU (x:V) (u:Value):Bool:=match u with
 |.none=>eqV .non x
 |.bool b=>eqV (.bl b) x
 |.int i _=>eqV (.int i) x
 |.str z _=>eqV (.str z) x
 |_=>false
def qcs {x y:V} {u:Value} (r:zT y u) (f:EJ y=true):eqU x u=eqV y x:=by
 cases y with
 |non=>cases r;rfl
 |bl b=>cases r;rfl
 |int i=>obtain ⟨t,rfl⟩:=r;rfl
 |str z=>obtain ⟨t,rfl⟩:=r;rfl
 |_=>exact absurd (show false=true from f) y6
theorem VU {x:V}:∀ {xs:List V} {us:List Value},qQ xs us->xs.all EJ=true->us.any (eqU x)=xs.any λy=>eqV y x
 |_,_,.nil,_=>rfl
 |y::xs,u::us,.cons r t,f=>by
  rw [List.all_cons,Bool.and_eq_true] at f;rw [List.any_cons,List.any_cons,qcs r f.1,VU t f.2]
theorem JG {A:Around} {s:Shared} {x:V} {v:Value} (rx:zT x v) (fx:EJ x=true):∀ {xs:List V} {us:List Value},qQ xs us->xs.all EJ=true->∀ u∈us,SeqAt.EqAt A s u v (eqU x u)
 |_,_,.nil,_=>λu hu=>by cases hu
 |y::xs,u::us,.cons r t,f=>λu' hu=>by
  rw [List.all_cons,Bool.and_eq_true] at f;rcases mem_cons.mp hu with rfl|hu
  ·rw [qcs r f.1];exact qiY r rx f.1 fx
  ·exact JG rx fx t f.2 u' hu
def inV (x:V) (xs:List V):Bool:=xs.any λy=>eqV y x
def rIn (K:Frg) (neg:Bool):R2:=λx y H Q=>∃ p xs,y=.ref p/\(SqL K H p xs\/SqT K H p xs)/\EJ x=true/\xs.all EJ=true/\Q (.bl (if neg then !inV x xs else inV x xs)) H
def N5:OpR X (compareOp .In) (rIn X.K false):=by
 intro pins s σ H x y v u Q I rx ry h;obtain ⟨p,xs,rfl,hq,fx,fs,q⟩:=h;cases ry;rcases hq with hq|hq
 ·obtain ⟨its,r,pl,hz⟩:=I.list hq;refine SeqAt.in_listAt (eqU x) pl.isList (λw hw=>JG rx fx r fs w (by simpa using hw)) ⟨.bl _,H,I,rfl,?_⟩;rw [show its.toArray.any (eqU x)=its.any (eqU x) by simp,VU r fs];exact q
 ·obtain ⟨its,r,pl,hz⟩:=I.tuple hq;refine SeqAt.in_tupleAt (eqU x) pl (λw hw=>JG rx fx r fs w (by simpa using hw)) ⟨.bl _,H,I,rfl,?_⟩;rw [show its.toArray.any (eqU x)=its.any (eqU x) by simp,VU r fs];exact q
def Y0:OpR X (compareOp .NotIn) (rIn X.K true):=by
 intro pins s σ H x y v u Q I rx ry h;obtain ⟨p,xs,rfl,hq,fx,fs,q⟩:=h;cases ry;rcases hq with hq|hq
 ·obtain ⟨its,r,pl,hz⟩:=I.list hq;refine SeqAt.notIn_listAt (eqU x) pl.isList (λw hw=>JG rx fx r fs w (by simpa using hw)) ⟨.bl _,H,I,rfl,?_⟩;rw [show its.toArray.any (eqU x)=its.any (eqU x) by simp,VU r fs];exact q
 ·obtain ⟨its,r,pl,hz⟩:=I.tuple hq;refine SeqAt.notIn_tupleAt (eqU x) pl (λw hw=>JG rx fx r fs w (by simpa using hw)) ⟨.bl _,H,I,rfl,?_⟩;rw [show its.toArray.any (eqU x)=its.any (eqU x) by simp,VU r fs];exact q
def CP:ZD X (.type "list") (λxs H Q=>∃ p ys,xs=[.ref p]/\(SqL X.K H p ys\/SqT X.K H p ys)/\∀ l,H l=none->Q (.ref l) (upd H l (.lst ys))):=by
 intro pins s σ H xs us Q I r h;obtain ⟨p,ys,rfl,hq,q⟩:=h;obtain ⟨u,rfl,rx⟩:=WB r;cases rx;have fin:∀ (its:List Value),qQ ys its->ys.length<=sizeLine->∀ (h':Heap) (c':Nat),(∀ b o',s.heap.get? b=some o'->h'.get? b=some o') ->
   h'.get? s.heap.objs.size=some { cls:=.type "list",dict:=none,data:=.seq its.toArray c',slots:=#[] }->EP X pins σ Q (.ref s.heap.objs.size) { s with heap:=h' }:=λits r' hz h' c' kp e=>
  ⟨.ref s.heap.objs.size,_,I.laid (t':=s.toks) kp (v5 _) (show ZZ X.prog X.w _ h' _ (.lst ys) from ⟨hz,its,c',r',e⟩),rfl,q _ (I.hok.fresh (v5 _))⟩
 rcases hq with hq|hq
 ·obtain ⟨its,r',pl,hz⟩:=I.list hq;have hlen:=r'.length;obtain ⟨o,ho,hc,n,hd⟩:=pl.isList;exact call_list_seq p (.inl rfl) ho hc hd (λh' c' kp e=>fin its r' hz h' c' kp e) (by simp only [size_toArray]<;>omega)
 ·obtain ⟨its,r',pl,hz⟩:=I.tuple hq;have hlen:=r'.length;obtain ⟨o,ho,hc,n,hd⟩:=pl;exact call_list_seq p (.inr rfl) ho hc hd (λh' c' kp e=>fin its r' hz h' c' kp e) (by simp only [size_toArray]<;>omega)
def WC:ZD X (.type "tuple") (λxs H Q=>∃ p ys,xs=[.ref p]/\((SqL X.K H p ys/\∀ l,H l=none->Q (.ref l) (upd H l (.tup ys)))\/(SqT X.K H p ys/\Q (.ref p) H))):=by
 intro pins s σ H xs us Q I r h;obtain ⟨p,ys,rfl,h⟩:=h;obtain ⟨u,rfl,rx⟩:=WB r;cases rx;rcases h with ⟨hq,q⟩|⟨hq,q⟩
 ·obtain ⟨its,r',pl,hz⟩:=I.list hq;have hlen:=r'.length;refine call_tuple_list pl.isList (λh' kp=>?_) (by simp only [size_toArray]<;>omega);have I1:Inv X pins σ H { s with heap:=h' }:=I.kept (t':=s.toks) kp;have I2:Inv X pins σ (upd H h'.objs.size (.tup ys)) { s with heap:=h'.push { cls:=.type "tuple",data:=.seq its.toArray } }:=
   I1.laid (t':=s.toks) (λb o e=>y2 _ e) (v5 _) (show ZZ X.prog X.w _ _ _ (.tup ys) from ⟨hz,its,r',YR.new _ _⟩)
  exact ⟨.ref h'.objs.size,_,I2,rfl,q _ (I1.hok.fresh (v5 _))⟩
 ·obtain ⟨its,r',pl,hz⟩:=I.tuple hq;exact call_tuple_same pl ⟨.ref p,H,I,rfl,q⟩
def tyV (K:Frg) (T:String) (x:V) (H:Hp):Prop:=match x with
 |.str _=>T="str"
 |.int _=>T="int"
 |.ref p=>(T="list"/\∃ xs,SqL K H p xs)\/(T="tuple"/\∃ o,K.lookup p=some o/\o.cls=.type "tuple"/\o.dict=none) ∨
   (T="dict"/\((∃ kvs,H p=some (.dK kvs))\/∃ kvs,H p=some (.dT kvs)))\/(T="set"/\∃ S n,H p=some (.set S n))
 |_=>False
def qcO {pins:List (Addr×Obj)} {σ:St} {H:Hp} {s:Shared} {T:String} {x:V} {v:Value} (I:Inv X pins σ H s) (r:zT x v) (ty:tyV X.K T x H) :
  s.TypeIs v T/\∀ a,v=.ref a->∃ ob,s.heap.get? a=some ob/\ob.dict=none:=by
 cases x with
 |str z=>
  obtain ⟨t,rfl⟩:=r;cases (show T="str" from ty);exact ⟨typeIs_str s z t,λ_ e=>nomatch e⟩
 |int i=>
  obtain ⟨t,rfl⟩:=r;cases (show T="int" from ty);exact ⟨typeIs_int s i t,λ_ e=>nomatch e⟩
 |ref p=>
  cases r;rcases ty with ⟨rfl,xs,hq⟩|⟨rfl,o,hk,hc,hd⟩|⟨rfl,hk⟩|⟨rfl,S,n,hk⟩
  ·obtain ⟨its,_,pl,_⟩:=I.list hq;refine ⟨pl.isList.typeIs,λa e=>?_⟩;cases e;obtain ⟨o,n,e,c,hd,_⟩:=pl;exact ⟨o,e,hd⟩
  ·refine ⟨⟨o,I.kIn p o hk,hc⟩,λa e=>?_⟩;cases e;exact ⟨o,I.kIn _ o hk,hd⟩
  ·have z:∃ o,s.heap.get? p=some o/\o.ExactDict:=by
    rcases hk with ⟨kvs,hk⟩|⟨kvs,hk⟩
    ·obtain ⟨_,_,_,_,o,_,_,e,ex,_⟩:=I.hok p _ hk;exact ⟨o,e,ex⟩
    ·obtain ⟨_,_,_,_,o,_,_,e,ex,_⟩:=I.hok p _ hk;exact ⟨o,e,ex⟩
   obtain ⟨o,e,ex⟩:=z;refine ⟨⟨o,e,ex.1⟩,λa e2=>?_⟩;cases e2;exact ⟨o,e,ex.2.1⟩
  ·obtain ⟨o,_,_,_,e,ex,_⟩:=I.hok p _ hk;refine ⟨⟨o,e,ex.1⟩,λa e2=>?_⟩;cases e2;exact ⟨o,e,ex.2.1⟩
 |_=>exact False.elim ty
def qmY (K:Frg) (T:String) (r:V->List V->Hp->VK->Prop) (to:TE):TE:=λσ H Q=>to σ H λx H1=>tyV K T x H1/\r x [] H1 Q
def tBM (K:Frg) (T:String) (r:V->List V->Hp->VK->Prop) (to:TE) (t:TA):TE:=λσ H Q=>to σ H λx H1=>tyV K T x H1/\t σ H1 λxs H2=>r x xs H2 Q
variable {o e:Expr} {es:List Expr} {to:TE} {t:TA} {name:Str} {apos cpos:Pos} {T id:String} {r:V->List V->Hp->VK->Prop}
def qf8 (pa:PlainAttrs T) (slot:Slot T name id) (hty:typeOf (.builtin id)=pure (.type "method_descriptor")) (hm:MtR X id r) (ho:PE X o to)
  (hbase:attributeBase o name X.env (eval o X.env)=eval o X.env:=by rfl) (hline:(apos.endLine==cpos.line)=true:=by rfl):PE X (.Call (.Attribute o name apos) [] [] cpos) (qmY X.K T r to):=by
 intro pins s σ H Q I h;refine wpAny_Call_method0_late hbase hline (thn (ho pins s σ H _ I h) λv s1 ⟨x,H1,I1,r1,ty,q1⟩=>?_);obtain ⟨h1,h2⟩:=qcO I1 r1 ty;exact ⟨T,id,pa,slot,hty,h1,h2,Calls.callWith_builtin rfl (PySem.evalArgs_none (hm pins s1 σ H1 x [] v [] Q I1 r1 .nil q1))⟩
def qkH (pa:PlainAttrs T) (slot:Slot T name id) (hty:typeOf (.builtin id)=pure (.type "method_descriptor")) (hm:MtR X id r) (ho:PE X o to) (ha:PA X (e::es) t)
  (hbase:attributeBase o name X.env (eval o X.env)=eval o X.env:=by rfl)
  (hfew:((backTo cpos (starEach (e::es) X.env)).all (λx=>!x.1)&&(backToKw cpos (keywordEach [] X.env)).all (λx=>x.1.isSome)
   && decide ((e::es).length+([]:List Keyword).length+(if ([]:List Keyword).isEmpty then 0 else 1)<30))=true:=by rfl)
  (hline:(apos.endLine==cpos.line)=true:=by rfl) (hs:starEach (e::es) X.env=(false,eval e X.env)::starEach es X.env:=by rfl) (hplain:(backTo cpos (starEach es X.env)).any (·.1)=false:=by rfl) :
  PE X (.Call (.Attribute o name apos) (e::es) [] cpos) (tBM X.K T r to t):=by
 intro pins s σ H Q I h;refine wpAny_Call_method_late hbase hfew hline rfl (thn (ho pins s σ H _ I h) λv s1 ⟨x,H1,I1,r1,ty,q1⟩=>?_);obtain ⟨h1,h2⟩:=qcO I1 r1 ty;refine ⟨T,id,pa,slot,hty,h1,h2,?_⟩;have hA:=ha cpos pins s1 σ H1 _ I1 q1;rw [hs] at hA ⊢;refine Calls.callWith_builtin (by show (false||(backTo cpos (starEach es X.env)).any (·.1))=false;rw [hplain]<;>rfl) (Calls.evalArgs_plain ?_);exact thn hA λus s2 ⟨vs,H2,I2,r2,q2⟩=>hm pins s2 σ H2 x vs v us Q I2 r1 r2 q2
end
def MtM (X:Cx) (id:String) (r:V->List V->Hp->VK->Prop):Prop:=
 ∀ (pins:List (Addr×Obj)) (s:Shared) (σ:St) (H:Hp) (x:V) (xs:List V) (v:Value) (us:List Value) (Q:VK),Inv X pins σ H s->zT x v->qQ xs us->r x xs H Q ->
  wpAny (model X.prog X.w) X.A (call (.builtin id) (v::us)) (EP X pins σ Q) X.xe s
def qQ.one:∀ {x:V} {us:List Value},qQ [x] us->∃ u,us=[u]/\zT x u
 |_,_,.cons r .nil=>⟨_,rfl,r⟩
def qQ.zero:∀ {us:List Value},qQ [] us->us=[]
 |_,.nil=>rfl
theorem qQ.dropLast {xs:List V} {us:List Value} (h:qQ xs us):qQ xs.dropLast us.dropLast:=by
 induction h with
 |nil=>exact .nil
 |cons r t ih=>
  cases t with
  |nil=>exact .nil
  |cons q t'=>exact .cons r ih
theorem qQ.eraseIdx:∀ {xs:List V} {us:List Value} (i:Nat),qQ xs us->qQ (xs.eraseIdx i) (us.eraseIdx i)
 |_,_,_,.nil=>.nil
 |_,_,0,.cons _ t=>t
 |_,_,i+1,.cons r t=>.cons r (qQ.eraseIdx i t)
theorem qQ.reverse {xs:List V} {us:List Value} (h:qQ xs us):qQ xs.reverse us.reverse:=by
 induction h with
 |nil=>exact .nil
 |cons r t ih=>rw [List.reverse_cons,List.reverse_cons];exact qQ.append ih (.cons r .nil)
section
variable {X:Cx} {pins:List (Addr×Obj)} {σ:St} {H:Hp} {s:Shared} {l b:Addr} {xs ys zs:List V}
def Inv.lset {its its':List Value} {n:Nat} {f:Array Value->Array Value} {t':Nat} (I:Inv X pins σ H s) (hH:H l=some (.lst xs))
  (e:s.heap.get? l=some { cls:=.type "list",data:=.seq its.toArray n }) (hf:f its.toArray=its'.toArray) (hv:qQ ys its') (hz:ys.length<=sizeLine) :
  Inv X pins σ (upd H l (.lst ys)) { s with heap:=s.heap.update l (Obj.mapSeq f),toks:=t' }:=by
 have q:=PySem.IsL.update e f;rw [hf] at q;refine I.write (x:=l) (e:=l) (by rw [hH];exact trivial) (.inl rfl) (λb' u hb hu=>(Heap.get?_update_other s.heap (Obj.mapSeq f) (Ne.symm hb)).trans hu) ⟨_,q⟩ ?_;exact ⟨hz,its',_,hv,q⟩
def Inv.lnew {its:List Value} {t':Nat} (I:Inv X pins σ H s) (hv:qQ ys its) (hz:ys.length<=sizeLine) :
  Inv X pins σ (upd H s.heap.objs.size (.lst ys)) { s with heap:=s.heap.push { cls:=.type "list",data:=.seq its.toArray },toks:=t' }:=
 I.laid (λ_ _ q=>y2 _ q) (v5 _) ⟨hz,its,0,hv,y3 _ rfl⟩
theorem Inv.fresh (I:Inv X pins σ H s):H s.heap.objs.size=none:=I.hok.fresh (v5 _)
def Inv.lstM (I:Inv X pins σ H s) (hH:H l=some (.lst xs)):xs.length<=sizeLine/\∃ (its:List Value) (n:Nat),qQ xs its/\xs.length=its.length/\s.heap.get? l=some { cls:=.type "list",data:=.seq its.toArray n }:=by
 obtain ⟨z,its,n,r,e⟩:=I.hok l _ hH;exact ⟨z,its,n,r,r.length,e⟩
def qbn {n:Nat} (h:n<=sizeLine):Builtin.List.listTooLong n=false:=by
 unfold Builtin.List.listTooLong;exact u7 (by omega)
end
section
variable {X:Cx}
def MO:V->List V->Hp->VK->Prop:=λx vs H Q=>∃ l xs y,x=.ref l/\vs=[y]/\H l=some (.lst xs)/\xs.length<sizeLine/\Q .non (upd H l (.lst (xs++[y])))
def UR:MtM X "list.append" MO:=by
 intro pins s σ H x vs v us Q I rx rv h;obtain ⟨l,xs,y,rfl,rfl,hH,hz,q⟩:=h;cases rx;obtain ⟨u,rfl,ru⟩:=rv.one;obtain ⟨z,its,n,r,hl,e⟩:=I.lstM hH;refine call_meets F.slot_list_append ⟨_,e,rfl⟩ F.entry_list_append (F.args_list_append_2 _ _) (PySem.list_append l its.toArray n u (by rw [size_toArray];omega)) ⟨e,?_⟩;refine ⟨.non,_,I.lset (its':=its++[u]) hH e (by simp) (r.append (.cons ru .nil)) ?_,rfl,q⟩;rw [length_append,List.length_singleton];omega
def NL:V->List V->Hp->VK->Prop:=λx vs H Q=>∃ l b xs zs,x=.ref l/\vs=[.ref b]/\H l=some (.lst xs)/\H b=some (.lst zs)/\xs.length+zs.length<=sizeLine/\Q .non (upd H l (.lst (xs++zs)))
def NN:MtM X "list.extend" NL:=by
 intro pins s σ H x vs v us Q I rx rv h;obtain ⟨l,b,xs,zs,rfl,rfl,hH,hB,hz,q⟩:=h;cases rx;obtain ⟨u,rfl,ru⟩:=rv.one;cases ru;obtain ⟨z,its,n,r,hl,e⟩:=I.lstM hH;obtain ⟨z2,its2,n2,r2,hl2,e2⟩:=I.lstM hB;have hsz:its.toArray.size+its2.toArray.size<=sizeLine:=by rw [size_toArray,size_toArray];omega
 have hlong:¬ (!its.toArray.isEmpty&&Builtin.List.listTooLong (its.toArray.size+its2.toArray.size))=true:=by
  rw [qbn hsz,Bool.and_false];exact y6
 refine call_meets F.slot_list_extend ⟨_,e,rfl⟩ F.entry_list_extend (F.args_list_extend_2 _ _)
  (AutoSeq1.list_extend_list_list_0 l its.toArray n b its2.toArray n2 hlong (by rw [size_toArray];omega) (by omega)) ⟨e,e2,?_⟩
 refine ⟨.non,_,I.lset (its':=its++its2) hH e (by simp) (r.append r2) ?_,rfl,q⟩;rw [length_append];omega
def qmn:R2:=λx y H Q=>∃ l b xs zs,x=.ref l/\y=.ref b/\H l=some (.lst xs)/\H b=some (.lst zs)/\xs.length+zs.length<=sizeLine/\∀ p,H p=none->Q (.ref p) (upd H p (.lst (xs++zs)))
def qji:OpR X (binaryOp .Add) qmn:=by
 intro pins s σ H x y v u Q I rx ry h;obtain ⟨l,b,xs,zs,rfl,rfl,hH,hB,hz,q⟩:=h;cases rx;cases ry;obtain ⟨z,its,n,r,hl,e⟩:=I.lstM hH;obtain ⟨z2,its2,n2,r2,hl2,e2⟩:=I.lstM hB;refine PySem.P.add_list e e2 ?_ (by rw [size_toArray,size_toArray];omega);have ea:its.toArray++its2.toArray=(its++its2).toArray:=by simp
 rw [ea];exact ⟨.ref _,_,I.lnew (t':=s.toks) (r.append r2) (by rw [length_append];omega),rfl,q _ I.fresh⟩
end
section
variable {prog:Program} {w:World} {A:Around} {E:Value->Shared->Prop} {s:Shared}
end
section
variable {X:Cx}
end
end L2
namespace Att
open PySem PySem.W PySem.Calls PyProof.Rows
def UU {P:Params} {h:Heap}:∀ (ns:List Int) (vs:List Value),WellAll P h vs (ns.map WData.int)->IntsAre vs ns:=by
 intro ns;induction ns with
 |nil=>
  intro vs w;rw [List.map_nil] at w;cases w;exact .nil
 |cons n ns ih=>
  intro vs w;rw [map_cons] at w;cases w with
  |cons a b=>
   cases a;exact .cons _ _ (ih _ b)
def NA {l:OpenLaw} {n:Nat} (hn:l.most=some n) {P:Params} {h:Heap} {args:List WData} {vals:List Value}
  (hpre:l.row.toRowW.claim.pre args=true) (hwl:WellAll P h vals args) :
  ∃ a vs ns,vals=[Value.ref a]/\args=[WData.list (ns.map WData.int)]/\h.get? a=some { cls:=.type "list",data:=.seq vs.toArray }/\IntsAre vs ns/\ns.length<=n:=by
 have hsh:WShape.hasAll [] args [.list .int]=true:=(pre_splitW hpre).1;have hc:l.pre.holds [] { args:=args }=true:=(pre_splitW hpre).2;obtain ⟨d,r,rfl,h1,h2⟩:=hasAllW_cons hsh;obtain rfl:=hasAllW_nil h2;obtain ⟨xs,rfl,h3⟩:=hasW_list h1;obtain ⟨ns,rfl⟩:=items_int h3;have hlen:ns.length<=n:=by
  unfold OpenLaw.pre at hc;have h4:(WTm.not (.lt (.lit (.int (n:Int))) (.len (.arg 0)))).holds [] { args:=[.list (ns.map .int)] }=true:=by
   have h4:=(holds_andW hc).1;rw [hn] at h4;exact h4
  have h5:=condW_of h4 (w_not (w_lt w_lit (w_len_list (w_arg rfl))));rw [length_map] at h5;refine Nat.le_of_not_lt λq=>?_;have q':(n:Int)<((ns.length:Nat):Int):=by omega
  first
   | (rw [u8 q'] at h5;exact absurd h5 (by decide))
   | (simp at h5;omega)
 cases hwl with
 |cons w1 w2=>
  cases w2;cases w1 with
  |list ho hall=>exact ⟨_,_,ns,rfl,rfl,ho,UU ns _ hall,hlen⟩
def qar (l:OpenLaw) (args:List WData):l.row.toRowW.claim.post args (.bool true) args=true:=
 postW_of (r:=l.row.toRowW) (X:=(true==true))
  (show WShape.has [] (.bool true) .bool=true by first|rfl|decide|simp [WShape.has,WShape.arms,WShape.armsAll])
  (show (WTm.eq .res (.lit (.bool true))).value [] { args:=args,res:=some (.bool true),after:=args }=some (.bool (true==true)) from w_eq_bool (w_res rfl) w_lit) rfl
def RK {l:OpenLaw} {n:Nat} {q:Program} {loose:List Str} {XP:(Str->Option Value)->Heap->Prop} {YP:World->Heap->Prop} {d:DefRec}
  (hn:l.most=some n) (hdf:d.params.defaults=[])
  (call:∀ (w:World) (s₀ s₁:Shared) (mg mb:Str->Option Value) (fa:Addr) (o:Obj) (pm cd doc:Value) (a:Addr) (vs:List Value) (ns:List Int),
   Ground q loose [] XP w s₀ mg mb s₁.heap->YP w s₁.heap ->
   s₁.heap.get? fa=some o->o.data=.func (docDef d.name d.params d.body d.scope pm cd doc)->s₁.heap.CodeRec cd d.name->mg d.name=some (.ref fa) ->
   s₁.heap.get? a=some { cls:=.type "list",data:=.seq vs.toArray }->IntsAre vs ns->ns.length<=n->s₁.gens=#[] ->
   codeAny (model l.prog w) callerA (.call (.ref fa) ⟨[.ref a],[]⟩) (λr s'=>r=.ok (.ret (.bool true))/\OldK s₁.heap s'.heap/\s'.os=s₁.os/\AllBare s'.gens) s₁) :
  WalkO q loose XP YP l.row.toRowW d [] (λf vs=>PySem.call f vs):=by
 intro w s₀ s₁ mg mb G Y fa o pm cd doc dV kV ho hd hcd hD hmg hg args vals as hpre hlay hrd hwl hlo;obtain rfl:dV=.none:=Dflts.none hD hdf;obtain rfl:kV=.none:=Dflts.noKw hD;obtain ⟨a,vs,ns,rfl,rfl,hobj,hints,hlen⟩:=NA hn hpre hwl;refine enter_call (codeAny_mono (call w s₀ s₁ mg mb fa o pm cd doc a vs ns G Y ho (fd_plain hd) hcd hmg hobj hints hlen hg) λr s' hq=>?_);obtain ⟨rfl,h2,h3,h4⟩:=hq;exact ⟨.inl ⟨.bool true,.bool true,[],rfl,λ_=>rfl,.bool true,qar l _,λ_=>⟨List.Pairwise.nil,λ_ hm=>(nomatch hm)⟩⟩,h2,h3,h4⟩
section
variable {prog:Program} {w:World} {A:Around} {E:Value->Shared->Prop} {s:Shared} {K:Frag}
end
end Att
namespace L2
open PySem PySem.Spec PyProof.Rows
theorem XF:∀ {vs:List Value} {ns:List Int},IntsAre vs ns->qQ (ns.map V.int) vs
 |_,_,.nil=>.nil
 |_,_,.cons n t h=>.cons ⟨t,rfl⟩ (XF h)
def jA (s:Stmt):Arguments:=match s with
 |.FunctionDef _ a _ _ _ _ _ _ _ _=>a
 |_=>{ posonlyargs:=[],args:=[],vararg:=none,kwonlyargs:=[],kw_defaults:=[],kwarg:=none,defaults:=[] }
def qS (s:Stmt):List Stmt:=match s with
 |.FunctionDef _ _ b _ _ _ _ _ _ _=>b
 |_=>[]
def qf (s:Stmt):Scope:=match s with
 |.FunctionDef _ _ _ _ _ _ sc _ _ _=>sc
 |_=>{ kind:=.function,names:=[],isGenerator:=false,isCoroutine:=false }
abbrev CX0:CXT:=λ_ _ _ _ _ _=>False
abbrev E0:XK:=λ_ _ _=>False
def qjp {X:Cx}:qaF CX0 X E0:=λ_ _ _ _ _ _ _ h=>h.elim
structure Fun (K:Frg) (x qual:Str) (st:Stmt) (f:Addr) (fd:FuncData):Prop where
 ex:∃ (oc:Value) (od:Option Addr) (kV doc pm:Value) (an:Option Addr) (cdv ct:Value) (osl:Array (Option Value)),
  fd=PySem.W.fnOf x qual (jA st) (qS st) (qf st) .none kV doc pm an cdv ct/\K.lookup f=some ⟨oc,od,.func fd,osl⟩/\PySem.W.codeIn K cdv qual=true
 kp:PySem.W.keepIn K (.ref f)=true
section
variable {P:Program} {w:World} {K:Frg} {mg:Str->Option Value} {base:Heap}
def Fun.ok {x qual:Str} {st:Stmt} {f:Addr} {fd:FuncData} {N ps:List Str} {k:Nat} {sp:Sp} (F:Fun K x qual st f fd) (S:FnScope N ps (qf st)) (len:∀ vs H Q E,sp vs H Q E->vs.length=ps.length)
  (hbody:∀ (cdv:Value) (A:Around) (outer:List Env) (s:Shared) (H:Hp) (vs:List V) (Q:VK) (E:XK),Room k (A.deeper (envOfC qual (qf st) s.heap.objs.size f cdv))->sp vs H Q E ->
   ∃ t,PSs (LK CX0 P w K mg base N qual (qf st) f cdv A outer s H E).nox (qS st) t/\t { nx:=λ_ H'=>Q .non H',rt:=Q } (start N vs) H):FnOk P w K mg base CX0 (k+1) f fd ps sp:=by
 obtain ⟨oc,od,kV,doc,pm,an,cdv,ct,osl,rfl,lk,hcd⟩:=F.ex;refine qhw lk hcd S len λA outer s H vs Q E hr hsp=>?_;obtain ⟨t,h,q⟩:=hbody cdv A outer s H vs Q E hr hsp;exact ⟨t,h.nox,q⟩
def Fun.binds {x qual:Str} {st:Stmt} {f:Addr} {fd:FuncData} {ps:List Str} (F:Fun K x qual st f fd)
  (h:∀ (kV doc pm:Value) (an:Option Addr) (cdv ct:Value) (us:List Value),us.length=ps.length->bindArgs (PySem.W.fnOf x qual (jA st) (qS st) (qf st) .none kV doc pm an cdv ct) ⟨us,[]⟩=pure (ps.zip us)):U1 K fd ps []:=by
 obtain ⟨oc,od,kV,doc,pm,an,cdv,ct,osl,rfl,lk,hcd⟩:=F.ex;exact .all (h kV doc pm an cdv ct)
def LP {x qual:Str} {st:Stmt} {f:Addr} {oc:Value} {od an:Option Addr} {osl:Array (Option Value)} {kV doc pm cdv ct:Value} (l:K.lookup f=some ⟨oc,od,.func (PySem.W.fnOf x qual (jA st) (qS st) (qf st) .none kV doc pm an cdv ct),osl⟩)
  (c:PySem.W.codeIn K cdv qual=true) (k:PySem.W.keepIn K (.ref f)=true):Fun K x qual st f (PySem.W.fnOf x qual (jA st) (qS st) (qf st) .none kV doc pm an cdv ct):=⟨⟨oc,od,kV,doc,pm,an,cdv,ct,osl,rfl,l,c⟩,k⟩
end
section
variable {X:Cx}
end
def qlG {A B:Prop} (h:B):if false=true then A else B:=by
 rw [if_neg y6];exact h
def qkE {A B:Prop} (h:A):if true=true then A else B:=by
 rw [if_pos rfl];exact h
end L2
set_option maxHeartbeats 4000000
namespace L3
open PySem PySem.Spec PyProof.Rows L2
set_option genInjectivity true in
inductive T where
 |non|bl (b:Bool)|int (i:Int)|str (x:Str)|tup (xs:List T)|ref (a:Addr)
inductive O where
 |lst (xs:List T)
 |frz (xs:List T)
 |dct (kvs:List (Int×T))
 |exn (C:Addr)
 |tab (ks:List Str) (xs:List T)
 |clo (i:Nat) (ts:List T)
abbrev Gp:=Addr->Option O
def gu (G:Gp) (a:Addr) (o:O):Gp:=λb=>if b=a then some o else G b
def qy {G:Gp} {a:Addr} {o:O}:gu G a o a=some o:=by unfold gu;rw [if_pos rfl]
def zJ {G:Gp} {a b:Addr} {o:O} (h:b≠a):gu G a o b=G b:=by unfold gu;rw [if_neg h]
mutual
inductive Rp (K:Frg) (H:Hp):T->V->Prop
 |non:Rp K H .non .non
 |bl (b:Bool):Rp K H (.bl b) (.bl b)
 |int (i:Int):Rp K H (.int i) (.int i)
 |str (x:Str):Rp K H (.str x) (.str x)
 |ref (a:Addr):Rp K H (.ref a) (.ref a)
 |tup {xs:List T} {a:Addr} {vs:List V}:SqT K H a vs->Rps K H xs vs->Rp K H (.tup xs) (.ref a)
inductive Rps (K:Frg) (H:Hp):List T->List V->Prop
 |nil:Rps K H [] []
 |cons {x:T} {v:V} {xs:List T} {vs:List V}:Rp K H x v->Rps K H xs vs->Rps K H (x::xs) (v::vs)
end
def IsX (a C:Addr) (h:Heap):Prop:=∃ o vs,h.get? a=some o/\o.cls=.ref C/\o.data=.fields vs
def CdR (o:Obj) (q:Str):Prop:=∃ vs t,o.data=.fields vs/\vs[1]?=some (.str q t)
def RY (K:Frg) (i:Nat):Option FuncData:=(K.filterMap λp=>match p.2.cls,p.2.data with
 |.str _ _,.func fd=>some fd
 |_,_=>none)[i]?
def frN (sc:Scope):List Str:=(sc.names.filter λp=>p.2==.free).map λp=>p.1
def psN (sc:Scope):List Str:=(sc.names.filter λp=>p.2==.local).map λp=>p.1
structure CloOk (clos:List (Str×Addr)) (fr:List Str):Prop where
 inj:∀ x y a,clos.lookup x=some a->clos.lookup y=some a->x=y
 has:∀ x∈fr,∃ a,clos.lookup x=some a
 nd:(clos.map λp=>p.1).Nodup
def qj8 (H:Hp) (clos:List (Str×Addr)) (fr:List Str) (ws:List V):Prop:=ws.length=fr.length/\(∀ x c,clos.lookup x=some c->∃ o v,H c=some (.frz o (.own c))/\o.data=.cell v) /\
 ∀ (i:Nat) (x:Str) (v:V),fr[i]?=some x->ws[i]?=some v->∃ c o u,clos.lookup x=some c/\H c=some (.frz o (.own c))/\o.data=.cell (some u)/\zT v u
structure LamF (H:Hp) (f:Addr) (fd:FuncData) (body:Expr) (clos:List (Str×Addr)) (c:Addr) (ws:List V):Prop where
 bd:fd.body=.expr body
 fo:∃ pm ctv,H f=some (.frz (PySem.W.kla_obj "<lambda>" fd.qualname fd.params body fd.scope clos pm c ctv) (.own f))
 co:∃ oc,H c=some (.frz oc (.own c))/\CdR oc fd.qualname
 ok:CloOk clos (frN fd.scope)
 caps:qj8 H clos (frN fd.scope) ws
def WH (K:Frg):List (Addr×Addr×Str):=K.filterMap λp=>match p.2.cls,p.2.data with
 |.str _ _,.fields vs=>(match vs[0]?,vs[1]? with|some (Value.ref P),some (Value.str q _)=>some (p.1,P,q)|_,_=>none)
 |_,_=>none
def RG (H:Hp) (P:Addr) (q:Str):Prop:=∃ ps,H P=some (.tbl ps)/\TriplesOk ps.toList/\∀ pos cv,codeAmong pos ps.toList=some cv->∃ c oc,cv=.ref c/\H c=some (.frz oc (.own c))/\CdR oc q
def qfJ (K:Frg) (H:Hp):Prop:=∀ t∈WH K,RG H t.2.1 t.2.2
def OR (K:Frg) (H:Hp) (a:Addr):O->Prop
 |.lst xs=>∃ vs,H a=some (.lst vs)/\Rps K H xs vs
 |.frz xs=>∃ vs,(∃ o,H a=some (.frz o (.lst vs)))/\Rps K H xs vs
 |.dct kvs=>∃ vs,H a=some (.dK ((kvs.map λp=>(Sum.inl p.1:Key)).zip vs))/\Rps K H (kvs.map λp=>p.2) vs
 |.exn C=>H a=some (.ext (IsX a C))
 |.tab ks xs=>∃ vs,H a=some (.dK ((ks.map λk=>(Sum.inr k:Key)).zip vs))/\Rps K H xs vs
 |.clo i ts=>∃ fd body clos c ws,RY K i=some fd/\LamF H a fd body clos c ws/\Rps K H ts ws
structure HR (K:Frg) (G:Gp) (H:Hp):Prop where
 at':∀ a o,G a=some o->OR K H a o
 tabs:qfJ K H
instance {K:Frg} {G:Gp} {H:Hp}:CoeFun (HR K G H) λ_=>∀ a o,G a=some o->OR K H a o:=⟨HR.at'⟩
def C2:HO->Bool
 |.tbl _=>true
 |_=>false
def Kp (G:Gp) (H:Hp) (G':Gp) (H':Hp):Prop:=∀ a o,H a=some o->G a=none->C2 o=false->H' a=some o/\G' a=none
def Kp.refl {G:Gp} {H:Hp}:Kp G H G H:=λ_ _ h g _=>⟨h,g⟩
def Kp.trans {G G1 G2:Gp} {H H1 H2:Hp} (a:Kp G H G1 H1) (b:Kp G1 H1 G2 H2):Kp G H G2 H2:=λx o h g t=>
 let ⟨h1,g1⟩:=a x o h g t;b x o h1 g1 t
section
variable {K:Frg} {G G':Gp} {H H':Hp}
def HR.noneT (hr:HR K G H) {a:Addr} {vs:List V} (h:Rd H a (.tup vs)):G a=none:=by
 cases e:G a with
 |none=>rfl
 |some o=>
  have q:=hr a o e;cases o with
  |lst xs=>
   obtain ⟨us,q1,_⟩:=q;rcases h with h|⟨ob,h⟩<;>(rw [q1] at h;cases h)
  |frz xs=>
   obtain ⟨us,⟨o1,q1⟩,_⟩:=q;rcases h with h|⟨ob,h⟩<;>(rw [q1] at h;cases h)
  |dct kvs=>
   obtain ⟨us,q1,_⟩:=q;rcases h with h|⟨ob,h⟩<;>(rw [q1] at h;cases h)
  |exn C=>
   have q1:H a=some (.ext (IsX a C)):=q;rcases h with h|⟨ob,h⟩<;>(rw [q1] at h;cases h)
  |tab ks xs=>
   obtain ⟨us,q1,_⟩:=q;rcases h with h|⟨ob,h⟩<;>(rw [q1] at h;cases h)
  |clo i ts=>
   obtain ⟨_,_,_,_,_,_,⟨_,⟨_,_,q1⟩,_⟩,_⟩:=q;rcases h with h|⟨ob,h⟩<;>(rw [q1] at h;cases h)
def HR.noneC (hr:HR K G H) {c:Addr} {oc:Obj} (h:H c=some (.frz oc (.own c))) (r:∀ fd,oc.data≠.func fd):G c=none:=by
 cases e:G c with
 |none=>rfl
 |some o=>
  have q:=hr c o e;cases o with
  |lst xs=>obtain ⟨us,q1,_⟩:=q;rw [q1] at h;cases h
  |frz xs=>obtain ⟨us,⟨o1,q1⟩,_⟩:=q;rw [q1] at h;cases h
  |dct kvs=>obtain ⟨us,q1,_⟩:=q;rw [q1] at h;cases h
  |exn C=>have q1:H c=some (.ext (IsX c C)):=q;rw [q1] at h;cases h
  |tab ks xs=>obtain ⟨us,q1,_⟩:=q;rw [q1] at h;cases h
  |clo i ts=>
   obtain ⟨_,_,_,_,_,_,⟨_,⟨_,_,q1⟩,_⟩,_⟩:=q;rw [q1] at h;cases h;exact absurd rfl (r _)
def CdR.nf {o:Obj} {q:Str} (x:CdR o q) (fd:FuncData):o.data≠.func fd:=λz=>by
 obtain ⟨vs,t,e,_⟩:=x;rw [e] at z;cases z
def MS {o:Obj} {v:Option Value} (x:o.data=.cell v) (fd:FuncData):o.data≠.func fd:=λz=>by rw [x] at z;cases z
def LamF.keep {f:Addr} {fd:FuncData} {body:Expr} {clos:List (Str×Addr)} {c:Addr} {ws:List V} (x:LamF H f fd body clos c ws) (k:∀ a o,(a=f\/∀ fd,o.data≠.func fd)->H a=some (.frz o (.own a))->H' a=some (.frz o (.own a))):LamF H' f fd body clos c ws:=by
 obtain ⟨bd,⟨pm,ctv,fo⟩,⟨oc,co,cr⟩,ok,c1,c2,c3⟩:=x;refine ⟨bd,⟨pm,ctv,k _ _ (.inl rfl) fo⟩,⟨oc,k _ _ (.inr cr.nf) co,cr⟩,ok,c1,λy a e=>?_,λi y v e1 e2=>?_⟩
 ·obtain ⟨o,v,q,d⟩:=c2 y a e;exact ⟨o,v,k _ _ (.inr (MS d)) q,d⟩
 ·obtain ⟨a,o,u,l,q,d,r⟩:=c3 i y v e1 e2;exact ⟨a,o,u,l,k _ _ (.inr (MS d)) q,d,r⟩
def RG.keep {P:Addr} {q:Str} (x:RG H P q) (k:∀ ps,H P=some (.tbl ps)->H' P=some (.tbl ps)) (kc:∀ c oc,H c=some (.frz oc (.own c))->CdR oc q->H' c=some (.frz oc (.own c))):RG H' P q:=
 let ⟨ps,e,t,c⟩:=x
 ⟨ps,k ps e,t,λpos cv z=>let ⟨c',oc,a,b,r⟩:=c pos cv z;⟨c',oc,a,kc c' oc b r,r⟩⟩
theorem qfJ.upd {p:Addr} {ho:HO} (x:qfJ K H) (h1:∀ ps,H p≠some (.tbl ps)) (h2:∀ oc,H p≠some (.frz oc (.own p))):qfJ K (upd H p ho):=λt ht=>
 (x t ht).keep (λps e=>by rw [qm (λz=>h1 ps (by rw [← z];exact e))];exact e) λc oc e _=>by rw [qm (λz=>h2 oc (by rw [← z];exact e))];exact e
def HR.tabU (hr:HR K G H) {p:Addr} {o:O} {ho:HO} (g:G p=some o) (n:∀ i ts,o≠.clo i ts):qfJ K (upd H p ho):=by
 have q:=hr p o g;refine hr.tabs.upd (λps e=>?_) λoc e=>?_ <;>
 ·cases o with
  |lst xs=>obtain ⟨us,q1,_⟩:=q;rw [q1] at e;cases e
  |frz xs=>obtain ⟨us,⟨o1,q1⟩,_⟩:=q;rw [q1] at e;cases e
  |dct kvs=>obtain ⟨us,q1,_⟩:=q;rw [q1] at e;cases e
  |exn C=>have q1:H p=some (.ext (IsX p C)):=q;rw [q1] at e;cases e
  |tab ks xs=>obtain ⟨us,q1,_⟩:=q;rw [q1] at e;cases e
  |clo i ts=>exact n i ts rfl
def VR (hr:HR K G H) (k:Kp G H G' H') {a:Addr} {vs:List V} (h:SqT K H a vs):SqT K H' a vs:=by
 rcases h with h|h
 ·have g:=hr.noneT h;rcases h with h|⟨o,h⟩
  ·exact .inl (.inl (k a _ h g rfl).1)
  ·exact .inl (.inr ⟨o,(k a _ h g rfl).1⟩)
 ·exact .inr h
mutual
theorem Rp.keep (hr:HR K G H) (k:Kp G H G' H'):∀ {x:T} {v:V},Rp K H x v->Rp K H' x v
 |_,_,.non=>.non
 |_,_,.bl b=>.bl b
 |_,_,.int i=>.int i
 |_,_,.str x=>.str x
 |_,_,.ref a=>.ref a
 |_,_,.tup h hs=>.tup (VR hr k h) (Rps.keep hr k hs)
theorem Rps.keep (hr:HR K G H) (k:Kp G H G' H'):∀ {x:List T} {v:List V},Rps K H x v->Rps K H' x v
 |_,_,.nil=>.nil
 |_,_,.cons a b=>.cons (Rp.keep hr k a) (Rps.keep hr k b)
end
theorem Rps.length:∀ {xs:List T} {vs:List V},Rps K H xs vs->xs.length=vs.length
 |_,_,.nil=>rfl
 |_,_,.cons _ b=>by simp [Rps.length b]
theorem Rps.get:∀ {xs:List T} {vs:List V} {i:Nat} {x:T},Rps K H xs vs->xs[i]?=some x->∃ v,vs[i]?=some v/\Rp K H x v
 |_,_,_,_,.nil,e=>by simp at e
 |_,_,0,_,.cons r _,e=>by simp at e;subst e;exact ⟨_,rfl,r⟩
 |_,_,i+1,x,.cons _ t,e=>by
  obtain ⟨u,h1,h2⟩:=Rps.get (i:=i) (x:=x) t (by simpa using e);exact ⟨u,by simpa using h1,h2⟩
theorem Rps.append:∀ {xs ys:List T} {vs us:List V},Rps K H xs vs->Rps K H ys us->Rps K H (xs++ys) (vs++us)
 |_,_,_,_,.nil,s=>s
 |_,_,_,_,.cons r t,s=>.cons r (Rps.append t s)
theorem Rps.take:∀ {xs:List T} {vs:List V} (n:Nat),Rps K H xs vs->Rps K H (xs.take n) (vs.take n)
 |_,_,0,_=>.nil
 |_,_,_+1,.nil=>.nil
 |_,_,n+1,.cons r t=>.cons r (Rps.take n t)
theorem Rps.drop:∀ {xs:List T} {vs:List V} (n:Nat),Rps K H xs vs->Rps K H (xs.drop n) (vs.drop n)
 |_,_,0,r=>r
 |_,_,_+1,.nil=>.nil
 |_,_,n+1,.cons _ t=>Rps.drop n t
theorem Rps.set {x:T} {v:V} (r:Rp K H x v):∀ {xs:List T} {vs:List V} (i:Nat),Rps K H xs vs->Rps K H (xs.set i x) (vs.set i v)
 |_,_,_,.nil=>.nil
 |_,_,0,.cons _ t=>.cons r t
 |_,_,i+1,.cons q t=>.cons q (Rps.set r i t)
theorem Rps.ints:∀ (ns:List Int),Rps K H (ns.map T.int) (ns.map V.int)
 |[]=>.nil
 |n::r=>.cons (.int n) (Rps.ints r)
theorem Rps.reverse {xs:List T} {vs:List V} (h:Rps K H xs vs):Rps K H xs.reverse vs.reverse:=by
 induction xs generalizing vs with
 |nil=>cases h;exact .nil
 |cons x r ih=>
  cases h with
  |cons a b=>
   rw [List.reverse_cons,List.reverse_cons];exact (ih b).append (.cons a .nil)
def Kp.laid {p:Addr} {ho:HO} (hp:H p=none):Kp G H G (upd H p ho):=λa o h g _=>⟨by rw [qm (qr h hp)];exact h,g⟩
def HR.free (hr:HR K G H) {p:Addr} (hp:H p=none):G p=none:=by
 cases e:G p with
 |none=>rfl
 |some o=>
  have q:=hr p o e;cases o with
  |lst xs=>obtain ⟨us,q1,_⟩:=q;rw [hp] at q1;cases q1
  |frz xs=>obtain ⟨us,⟨o1,q1⟩,_⟩:=q;rw [hp] at q1;cases q1
  |dct kvs=>obtain ⟨us,q1,_⟩:=q;rw [hp] at q1;cases q1
  |exn C=>have q1:H p=some (.ext (IsX p C)):=q;rw [hp] at q1;cases q1
  |tab ks xs=>obtain ⟨us,q1,_⟩:=q;rw [hp] at q1;cases q1
  |clo i ts=>obtain ⟨_,_,_,_,_,_,⟨_,⟨_,_,q1⟩,_⟩,_⟩:=q;rw [hp] at q1;cases q1
theorem OR.keep (hr:HR K G H) (k:Kp G H G' H') {a:Addr} {o:O} (h:OR K H a o) (e:∀ u,H a=some u->H' a=some u):OR K H' a o:=by
 cases o with
 |lst xs=>obtain ⟨vs,h1,h2⟩:=h;exact ⟨vs,e _ h1,h2.keep hr k⟩
 |frz xs=>obtain ⟨vs,⟨o,h1⟩,h2⟩:=h;exact ⟨vs,⟨o,e _ h1⟩,h2.keep hr k⟩
 |dct kvs=>obtain ⟨vs,h1,h2⟩:=h;exact ⟨vs,e _ h1,h2.keep hr k⟩
 |exn C=>exact e _ h
 |tab ks xs=>obtain ⟨vs,h1,h2⟩:=h;exact ⟨vs,e _ h1,h2.keep hr k⟩
 |clo i ts=>
  obtain ⟨fd,body,clos,c,ws,l,f,r⟩:=h;exact ⟨fd,body,clos,c,ws,l,f.keep λb o n q=>by
   rcases n with rfl|n
   ·exact e _ q
   ·exact (k b _ q (hr.noneC q n) rfl).1,r.keep hr k⟩
theorem HR.laid (hr:HR K G H) {p:Addr} {ho:HO} (hp:H p=none):HR K G (upd H p ho):=⟨λa o e=>
 (hr a o e).keep hr (Kp.laid hp) λu h=>by rw [qm (qr h hp)];exact h,hr.tabs.upd (λ_ e=>by rw [hp] at e;cases e) λ_ e=>by rw [hp] at e;cases e⟩
def Kp.newL {p:Addr} {ho:HO} {o':O} (hp:H p=none):Kp G H (gu G p o') (upd H p ho):=λa o h g _=>
 ⟨by rw [qm (qr h hp)];exact h,by rw [zJ (qr h hp)];exact g⟩
def HR.newL (hr:HR K G H) {p:Addr} {xs:List T} {vs:List V} (hp:H p=none) (r:Rps K H xs vs):HR K (gu G p (.lst xs)) (upd H p (.lst vs)):=⟨λa o e=>by
 by_cases ha:a=p
 ·subst ha;rw [qy] at e;cases e;exact ⟨vs,qG,r.keep hr (Kp.laid hp)⟩
 ·rw [zJ ha] at e;exact (hr a o e).keep hr (Kp.laid hp) λu h=>by rw [qm ha];exact h,(hr.laid hp).tabs⟩
def Kp.wr {p:Addr} {ho:HO} {o o':O} (g:G p=some o):Kp G H (gu G p o') (upd H p ho):=λa ob h ga _=>by
 have ha:a≠p:=by intro e;subst e;rw [g] at ga;cases ga
 exact ⟨by rw [qm ha];exact h,by rw [zJ ha];exact ga⟩
theorem HR.wr (hr:HR K G H) {p:Addr} {ys xs:List T} {vs:List V} (g:G p=some (.lst ys)) (r:Rps K H xs vs):HR K (gu G p (.lst xs)) (upd H p (.lst vs)):=⟨λa o e=>by
 have k:Kp G H (gu G p (.lst xs)) (upd H p (.lst vs)):=Kp.wr g;by_cases ha:a=p
 ·subst ha;rw [qy] at e;cases e;exact ⟨vs,qG,r.keep hr k⟩
 ·rw [zJ ha] at e;exact (hr a o e).keep hr k λu h=>by rw [qm ha];exact h,hr.tabU g λ_ _ z=>nomatch z⟩
end
abbrev St3:=List (Option T)
structure Rel (K:Frg) (τ:St3) (G:Gp) (σ:L2.St) (H:Hp):Prop where
 hp:HR K G H
 len:τ.length=σ.length
 st:∀ (i:Nat) (t:T),τ[i]?=some (some t)->∃ v,σ[i]?=some (some v)/\Rp K H t v
def Rel.next {K:Frg} {τ:St3} {G G':Gp} {σ:L2.St} {H H':Hp} (r:Rel K τ G σ H) (hr:HR K G' H') (k:Kp G H G' H'):Rel K τ G' σ H':=
 ⟨hr,r.len,λi t e=>let ⟨v,h1,h2⟩:=r.st i t e;⟨v,h1,h2.keep r.hp k⟩⟩
theorem Rel.set {K:Frg} {τ:St3} {G:Gp} {σ:L2.St} {H:Hp} {t:T} {v:V} (r:Rel K τ G σ H) (i:Nat) (h:Rp K H t v):Rel K (τ.set i (some t)) G (σ.set i (some v)) H:=by
 refine ⟨r.hp,by simp [r.len],λj u e=>?_⟩;by_cases hij:i=j
 ·subst hij;rw [List.getElem?_set_self'] at e;have hl:i<τ.length:=by
   cases q:τ[i]? with
   |none=>rw [q] at e;cases e
   |some z=>exact (za0 q).1
  rw [y9 hl] at e;have e':t=u:=by simpa using e
  subst e';exact ⟨v,by rw [List.getElem?_set_self (by rw [← r.len];exact hl)],h⟩
 ·rw [List.getElem?_set_ne hij] at e;obtain ⟨w,h1,h2⟩:=r.st j u e;exact ⟨w,by rw [List.getElem?_set_ne hij];exact h1,h2⟩
abbrev Q3:=T->Gp->Prop
abbrev TE3:=St3->Gp->Q3->Prop
abbrev TT3:=St3->Gp->(Bool->Gp->Prop)->Prop
abbrev TA3:=St3->Gp->(List T->Gp->Prop)->Prop
def Aft (K:Frg) (G:Gp) (H:Hp) (q:Q3) (Q:VK):Prop:=∀ x G',q x G'->∀ v H',Rp K H' x v->HR K G' H'->Kp G H G' H'->Q v H'
def qjI (K:Frg) (G:Gp) (H:Hp) (q:Bool->Gp->Prop) (Q:Bool->Hp->Prop):Prop:=∀ x G',q x G'->∀ H',HR K G' H'->Kp G H G' H'->Q x H'
def qni (K:Frg) (G:Gp) (H:Hp) (q:List T->Gp->Prop) (Q:List V->Hp->Prop):Prop:=∀ x G',q x G'->∀ v H',Rps K H' x v->HR K G' H'->Kp G H G' H'->Q v H'
def lE (K:Frg) (t:TE3):TE:=λσ H Q=>∃ τ G q,Rel K τ G σ H/\t τ G q/\Aft K G H q Q
def lT (K:Frg) (t:TT3):TT:=λσ H Q=>∃ τ G q,Rel K τ G σ H/\t τ G q/\qjI K G H q Q
def lA (K:Frg) (t:TA3):TA:=λσ H Q=>∃ τ G q,Rel K τ G σ H/\t τ G q/\qni K G H q Q
abbrev E3 (X:Cx) (e:Expr) (t:TE3):Prop:=PE X e (lE X.K t)
abbrev C3 (X:Cx) (e:Expr) (t:TT3):Prop:=PT X e (lT X.K t)
abbrev W3 (X:Cx) (e:Expr) (t:TT3):Prop:=PW X e (lT X.K t)
abbrev A3 (X:Cx) (es:List Expr) (t:TA3):Prop:=PA X es (lA X.K t)
def Aft.back {K:Frg} {G G1:Gp} {H H1:Hp} {q:Q3} {Q:VK} (a:Aft K G H q Q) (k:Kp G H G1 H1):Aft K G1 H1 q Q:=λx G' h v H' r hr k'=>a x G' h v H' r hr (k.trans k')
def qjI.back {K:Frg} {G G1:Gp} {H H1:Hp} {q:Bool->Gp->Prop} {Q:Bool->Hp->Prop} (a:qjI K G H q Q) (k:Kp G H G1 H1):qjI K G1 H1 q Q:=λx G' h H' hr k'=>a x G' h H' hr (k.trans k')
def EQ {X:Cx} {e:Expr} {t t':TE} (h:PE X e t) (w:∀ σ H Q,t' σ H Q->t σ H Q):PE X e t':=λpins s σ H Q I q=>h pins s σ H Q I (w σ H Q q)
def qjG {X:Cx} {e:Expr} {t t':TT} (h:PT X e t) (w:∀ σ H Q,t' σ H Q->t σ H Q):PT X e t':=λpins s σ H Q I q=>h pins s σ H Q I (w σ H Q q)
def qmD {X:Cx} {e:Expr} {t t':TT} (h:PW X e t) (w:∀ σ H Q,t' σ H Q->t σ H Q):PW X e t':=λwh pins s σ H Q I q=>h wh pins s σ H Q I (w σ H Q q)
def qmv {X:Cx} {e:List Expr} {t t':TA} (h:PA X e t) (w:∀ σ H Q,t' σ H Q->t σ H Q):PA X e t':=λpos pins s σ H Q I q=>h pos pins s σ H Q I (w σ H Q q)
def qZ {K:Frg} {ta:TE3} {τ:St3} {G:Gp} {σ:L2.St} {H:Hp} {q:Q3} {Q:VK} (r:Rel K τ G σ H) (h:ta τ G q)
  (n:∀ x G1,q x G1->∀ v H1,Rp K H1 x v->HR K G1 H1->Kp G H G1 H1->Rel K τ G1 σ H1->Q v H1):lE K ta σ H Q:=
 ⟨τ,G,q,r,h,λx G1 hq v H1 rx hr k=>n x G1 hq v H1 rx hr k (r.next hr k)⟩
def W8 {K:Frg} {ta:TT3} {τ:St3} {G:Gp} {σ:L2.St} {H:Hp} {q:Bool->Gp->Prop} {Q:Bool->Hp->Prop} (r:Rel K τ G σ H) (h:ta τ G q)
  (n:∀ x G1,q x G1->∀ H1,HR K G1 H1->Kp G H G1 H1->Rel K τ G1 σ H1->Q x H1):lT K ta σ H Q:=
 ⟨τ,G,q,r,h,λx G1 hq H1 hr k=>n x G1 hq H1 hr k (r.next hr k)⟩
def QN {K:Frg} {ta:TA3} {τ:St3} {G:Gp} {σ:L2.St} {H:Hp} {q:List T->Gp->Prop} {Q:List V->Hp->Prop} (r:Rel K τ G σ H) (h:ta τ G q)
  (n:∀ x G1,q x G1->∀ v H1,Rps K H1 x v->HR K G1 H1->Kp G H G1 H1->Rel K τ G1 σ H1->Q v H1):lA K ta σ H Q:=
 ⟨τ,G,q,r,h,λx G1 hq v H1 rx hr k=>n x G1 hq v H1 rx hr k (r.next hr k)⟩
section
variable {X:Cx} {a b c:Expr} {ta tb tc:TE3} {pos:Pos}
def v3 (i:Nat):TE3:=λτ G q=>match τ[i]? with|some (some t)=>q t G|_=>False
def qkF (i:Nat) {x:Str} {pos:Pos} (hN:X.N[i]?=some x:=by rfl) (hv:Vis X.env.scope x:=by first|exact Or.inl rfl|exact Or.inr (Or.inl rfl)|exact Or.inr (Or.inr rfl)) (hd:(x==("__debug__" : Str))=false:=by decide)
  (hcd:(x==("__classdict__" : Str))=false:=by decide):E3 X (.Name x pos) (v3 i):=by
 refine EQ (qiL (i:=i) hN hv hd hcd) λσ H Q ⟨τ,G,q,r,h,af⟩=>?_;unfold v3 at h;split at h
 ·rename_i t e;obtain ⟨v,e2,rv⟩:=r.st i t e;exact ⟨v,e2,af t G h v H rv r.hp Kp.refl⟩
 ·exact h.elim
def c3 (t:T):TE3:=λ_ G q=>q t G
def e_c {t:T} {v:V} {e:Expr} (h:PE X e (tC v)) (hr:∀ H,Rp X.K H t v):E3 X e (c3 t):=EQ h λσ H Q ⟨τ,G,q,r,h,af⟩=>af t G h v H (hr H) r.hp Kp.refl
def qkJ {i:Int} {j pos}:E3 X (.Constant (.int i) j pos) (c3 (.int i)):=e_c qhJ λ_=>.int i
def qmX {b:Bool} {j pos}:E3 X (.Constant (.bool b) j pos) (c3 (.bl b)):=e_c qly λ_=>.bl b
def qlj {j pos}:E3 X (.Constant .none j pos) (c3 .non):=e_c qho λ_=>.non
def qke {x:Str} {j pos}:E3 X (.Constant (.str x) j pos) (c3 (.str x)):=e_c qiv λ_=>.str x
def n3:TE3:=λ_ _ _=>False
abbrev R3:=T->T->Gp->Q3->Prop
def UG (K:Frg) (r3:R3) (r:R2):Prop:=∀ x y v u G H q Q,HR K G H->Rp K H x v->Rp K H y u->r3 x y G q->Aft K G H q Q->r v u H Q
def o3 (r:R3) (ta tb:TE3):TE3:=λτ G q=>ta τ G λx G1=>tb τ G1 λy G2=>r x y G2 q
def qaD {K:Frg} {r3:R3} {r:R2} (hr:UG K r3 r) {σ:L2.St} {H:Hp} {Q:VK} (h:lE K (o3 r3 ta tb) σ H Q):tOp r (lE K ta) (lE K tb) σ H Q:=by
 obtain ⟨τ,G,q,rl,h,af⟩:=h;refine qZ rl h λx G1 h1 v H1 rx hr1 k1 rl1=>qZ rl1 h1 λy G2 h2 u H2 ry hr2 k2 rl2=>?_;exact hr x y v u G2 H2 q Q hr2 (rx.keep hr1 k2) ry h2 (af.back (k1.trans k2))
def qa7 {op:Operator} {r3:R3} {r:R2} (ho:OpR X (binaryOp op) r) (hr:UG X.K r3 r) (ha:E3 X a ta) (hb:E3 X b tb):E3 X (.BinOp a op b pos) (o3 r3 ta tb):=
 EQ (qkC ho ha hb) λ_ _ _ h=>qaD hr h
def qkG {op:CmpOp} {r3:R3} {r:R2} (ho:OpR X (compareOp op) r) (hr:UG X.K r3 r) (ha:E3 X a ta) (hb:E3 X b tb) (hm:behindInMarks op b=false):E3 X (.Compare a [op] [b] pos) (o3 r3 ta tb):=
 EQ (qe6 ho ha hb hm) λ_ _ _ h=>qaD hr h
def tb3 (t:TE3):TT3:=λτ G q=>t τ G λx G'=>match x with|.bl k=>q k G'|_=>False
def qfj {K:Frg} {t:TE3} {t2:TE} (hw:∀ σ H Q,lE K t σ H Q->t2 σ H Q) {σ:L2.St} {H:Hp} {Q:Bool->Hp->Prop} (h:lT K (tb3 t) σ H Q):qe0 t2 σ H Q:=by
 obtain ⟨τ,G,q,rl,h,af⟩:=h;refine hw _ _ _ (qZ rl h λx G1 h1 v H1 rx hr1 k1 rl1=>?_);cases x with
 |bl k=>cases rx;exact ⟨k,rfl,af k G1 h1 H1 hr1 k1⟩
 |_=>exact h1.elim
def qkj {op:CmpOp} {r3:R3} {r:R2} (ho:OpR X (compareOp op) r) (hr:UG X.K r3 r) (ha:E3 X a ta) (hb:E3 X b tb) (hm:behindInMarks op b=false):C3 X (.Compare a [op] [b] pos) (tb3 (o3 r3 ta tb)):=
 qjG (qfG ho ha hb hm) λ_ _ _ h=>qfj (λ_ _ _=>qaD hr) h
def ch3 (r r':R3) (ta tb tc:TE3):TE3:=λτ G q=>ta τ G λx G1=>tb τ G1 λy G2=>r x y G2 λz G3=>match z with
 |.bl k=>if k=true then tc τ G3 λw G4=>r' y w G4 q else q (.bl false) G3
 |_=>False
def qlh {K:Frg} {r3 r3':R3} {r r':R2} (hr:UG K r3 r) (hr':UG K r3' r') {σ:L2.St} {H:Hp} {Q:VK} (h:lE K (ch3 r3 r3' ta tb tc) σ H Q):qd2 r r' (lE K ta) (lE K tb) (lE K tc) σ H Q:=by
 obtain ⟨τ,G,q,rl,h,af⟩:=h;refine qZ rl h λx G1 h1 v H1 rx hr1 k1 rl1=>qZ rl1 h1 λy G2 h2 u H2 ry hr2 k2 rl2=>?_;refine hr x y v u G2 H2 _ _ hr2 (rx.keep hr1 k2) ry h2 λz G3 h3 w H3 rz hr3 k3=>?_;cases z with
 |bl k=>
  cases rz;refine ⟨k,rfl,?_⟩;cases k with
  |false=>
   rw [if_neg y6];rw [show (match T.bl false with|.bl k=>if k=true then tc τ G3 λw G4=>r3' y w G4 q else q (.bl false) G3|_=>False)=q (.bl false) G3 from by simp] at h3;exact af _ G3 h3 _ H3 (.bl false) hr3 ((k1.trans k2).trans k3)
  |true=>
   rw [if_pos rfl];refine qZ (rl2.next hr3 k3) (show tc τ G3 λw G4=>r3' y w G4 q from by simpa using h3) λw G4 h4 w' H4 rw' hr4 k4 rl4=>?_;exact hr' y w _ _ G4 H4 q Q hr4 ((ry.keep hr2 k3).keep hr3 k4) rw' h4 (af.back (((k1.trans k2).trans k3).trans k4))
 |_=>exact h3.elim
def qet {op op':CmpOp} {r3 r3':R3} {r r':R2} (ho:OpR X (compareOp op) r) (hr:UG X.K r3 r) (ho':OpR X (compareOp op') r') (hr':UG X.K r3' r') (ha:E3 X a ta) (hb:E3 X b tb) (hc:E3 X c tc)
  (hm:lastMarks [op,op'] [b,c]=false:=by with_unfolding_all rfl):C3 X (.Compare a [op,op'] [b,c] pos) (tb3 (ch3 r3 r3' ta tb tc)):=
 qjG (qbi ho ho' ha hb hc hm) λ_ _ _ h=>qfj (λ_ _ _=>qlh hr hr') h
def iI (f:Int->Int->Int):R3:=λx y G q=>match x,y with|.int i,.int j=>q (.int (f i j)) G|_,_=>False
def iC (C:Int->Int->Prop) (f:Int->Int->Int):R3:=λx y G q=>match x,y with|.int i,.int j=>C i j/\q (.int (f i j)) G|_,_=>False
def iB (f:Int->Int->Bool):R3:=λx y G q=>match x,y with|.int i,.int j=>q (.bl (f i j)) G|_,_=>False
def NF {K:Frg} {f:Int->Int->Int}:UG K (iI f) (rI0 λi j=>.int (f i j)):=λx y v u G H q Q hr rx ry h af=>by
 cases x<;>try exact h.elim
 cases y<;>try exact h.elim
 cases rx;cases ry;exact ⟨_,_,rfl,rfl,af _ G h _ H (.int _) hr Kp.refl⟩
def DO {K:Frg} {C:Int->Int->Prop} {f:Int->Int->Int}:UG K (iC C f) (rI C λi j=>.int (f i j)):=λx y v u G H q Q hr rx ry h af=>by
 cases x<;>try exact h.elim
 cases y<;>try exact h.elim
 cases rx;cases ry;exact ⟨_,_,rfl,rfl,h.1,af _ G h.2 _ H (.int _) hr Kp.refl⟩
def UD {K:Frg} {f:Int->Int->Bool}:UG K (iB f) (rI0 λi j=>.bl (f i j)):=λx y v u G H q Q hr rx ry h af=>by
 cases x<;>try exact h.elim
 cases y<;>try exact h.elim
 cases rx;cases ry;exact ⟨_,_,rfl,rfl,af _ G h _ H (.bl _) hr Kp.refl⟩
def qkc (ha:E3 X a ta) (hb:E3 X b tb):E3 X (.BinOp a .Sub b pos) (o3 (iI (·-·)) ta tb):=qa7 qgI NF ha hb
def qkO (ha:E3 X a ta) (hb:E3 X b tb):E3 X (.BinOp a .Mult b pos) (o3 (iC VC (·*·)) ta tb):=qa7 qfO DO ha hb
def qlx (ha:E3 X a ta) (hb:E3 X b tb):E3 X (.BinOp a .Mod b pos) (o3 (iC (λ_ j=>0<j) (·%·)) ta tb):=qa7 qh5 DO ha hb
def qlX (ha:E3 X a ta) (hb:E3 X b tb):E3 X (.BinOp a .FloorDiv b pos) (o3 (iC qa5 (·/·)) ta tb):=qa7 qeq DO ha hb
def qko (ha:E3 X a ta) (hb:E3 X b tb):E3 X (.BinOp a .Pow b pos) (o3 (iC T9 (λi j=>i ^ j.toNat)) ta tb):=qa7 qf3 DO ha hb
def qj7 (ha:E3 X a ta) (hb:E3 X b tb):E3 X (.BinOp a .BitXor b pos) (o3 (iI Builtin.bitXor) ta tb):=qa7 qfT NF ha hb
def qib (ha:E3 X a ta) (hb:E3 X b tb):E3 X (.BinOp a .BitAnd b pos) (o3 (iI Builtin.bitAnd) ta tb):=qa7 qgv NF ha hb
def qjX (ha:E3 X a ta) (hb:E3 X b tb):E3 X (.BinOp a .LShift b pos) (o3 (iC T9 (λi j=>i*2 ^ j.toNat)) ta tb):=qa7 qhc DO ha hb
def qlV (ha:E3 X a ta) (hb:E3 X b tb):E3 X (.BinOp a .RShift b pos) (o3 (iC (λ_ j=>0<=j) (λi j=>i/2 ^ j.toNat)) ta tb):=qa7 qip DO ha hb
def qcg:T->T->Option Bool
 |.non,.non=>some true|.non,.int _=>some false|.int _,.non=>some false|.non,.bl _=>some false|.bl _,.non=>some false|.non,.str _=>some false|.str _,.non=>some false
 |.int i,.int j=>some (decide (i=j))|.bl i,.bl j=>some (decide (i=j))|.str i,.str j=>some (decide (i=j))
 |.int _,.str _=>some false|.str _,.int _=>some false|.bl _,.str _=>some false|.str _,.bl _=>some false
 |_,_=>none
def S5 {K:Frg} {H:Hp} {x y:T} {v u:V} {k:Bool} (rx:Rp K H x v) (ry:Rp K H y u) (h:qcg x y=some k):qky v u=true/\decide (v=u)=k:=by
 cases rx<;>cases ry<;>simp [qcg] at h<;>subst h<;>refine ⟨rfl,?_⟩<;>simp
def qjw (neg:Bool):R3:=λx y G q=>match y with|.non=>q (.bl (match x with|.non=>!neg|_=>neg)) G|_=>False
def qi0 {K:Frg} {H:Hp} {x:T} {v:V} (rx:Rp K H x v):decide (v=.non)=(match x with|.non=>true|_=>false):=by
 cases rx<;>simp
def qeT {K:Frg}:UG K (qjw false) (λx y H Q=>y=.non/\Q (.bl (decide (x=.non))) H):=λx y v u G H q Q hr rx ry h af=>by
 cases y<;>try exact h.elim
 cases ry;refine ⟨rfl,?_⟩;rw [qi0 rx];refine af _ G h _ H ?_ hr Kp.refl;cases x<;>exact .bl _
variable {tA tB:TT3} {jC:List Expr}
def qjU (t u:TT3):TT3:=λτ G q=>t τ G λk G1=>if k=true then u τ G1 q else q false G1
def or3 (t u:TT3):TT3:=λτ G q=>t τ G λk G1=>if k=true then q true G1 else u τ G1 q
def TH (t:TT3):TT3:=λτ G q=>t τ G λk G1=>q (!k) G1
def qhh (ha:C3 X a tA):W3 X (.BoolOp .And [a] pos) tA:=qeg ha
def qlc (ha:C3 X a tA):W3 X (.BoolOp .Or [a] pos) tA:=qgG ha
def qjZ (ha:C3 X a tA) (hb:W3 X (.BoolOp .And (b::jC) pos) tB):W3 X (.BoolOp .And (a::b::jC) pos) (qjU tA tB):=
 qmD (qgR ha hb) λ_ _ _ ⟨τ,G,q,rl,h,af⟩=>W8 rl h λk G1 h1 H1 hr1 k1 rl1=>by
  cases k with
  |true=>rw [if_pos rfl] at h1 ⊢;exact ⟨τ,G1,q,rl1,h1,af.back k1⟩
  |false=>rw [if_neg y6] at h1 ⊢;exact af _ G1 h1 H1 hr1 k1
def qnn (ha:C3 X a tA) (hb:W3 X (.BoolOp .Or (b::jC) pos) tB):W3 X (.BoolOp .Or (a::b::jC) pos) (or3 tA tB):=
 qmD (qkg ha hb) λ_ _ _ ⟨τ,G,q,rl,h,af⟩=>W8 rl h λk G1 h1 H1 hr1 k1 rl1=>by
  cases k with
  |true=>rw [if_pos rfl] at h1 ⊢;exact af _ G1 h1 H1 hr1 k1
  |false=>rw [if_neg y6] at h1 ⊢;exact ⟨τ,G1,q,rl1,h1,af.back k1⟩
def qlM (ha:C3 X a tA):C3 X (.UnaryOp .Not a pos) (TH tA):=
 qjG (qjh ha) λ_ _ _ ⟨τ,G,q,rl,h,af⟩=>W8 rl h λk G1 h1 H1 hr1 k1 rl1=>af _ G1 h1 H1 hr1 k1
def qlL {e:Expr} {t:TE3} (h:E3 X e t) (he:∀ whole,isTrue e X.env whole=(do let v←whole;standAt e.pos;holding [v] (truthy v)):=by intro _;rfl):C3 X e (tb3 t):=
 qjG (qi8 h he) λ_ _ _ h=>qfj (λ_ _ _ h=>h) h
def R5 (ta tb:TE3):TE3:=λτ G q=>ta τ G λx G1=>match x with|.bl k=>if k=true then tb τ G1 q else q (.bl false) G1|_=>False
def qbt (ta:TE3):TE3:=λτ G q=>ta τ G λx G1=>match x with|.bl k=>q (.bl (!k)) G1|_=>False
def qkm {op} (h:E3 X a ta):E3 X (.BoolOp op [a] pos) ta:=qh7 h
def qls (ha:E3 X a ta) (hb:E3 X (.BoolOp .And (b::jC) pos) tb):E3 X (.BoolOp .And (a::b::jC) pos) (R5 ta tb):=
 EQ (qgy ha hb) λ_ _ _ ⟨τ,G,q,rl,h,af⟩=>qZ rl h λx G1 h1 v H1 rx hr1 k1 rl1=>by
  cases x with
  |bl k=>
   cases rx;refine ⟨k,rfl,?_⟩;cases k with
   |true=>rw [if_pos rfl];exact ⟨τ,G1,q,rl1,(show tb τ G1 q from by simpa using h1),af.back k1⟩
   |false=>rw [if_neg y6];exact af _ G1 (by simpa using h1) _ H1 (.bl false) hr1 k1
  |_=>exact h1.elim
def qlT (ha:E3 X a ta):E3 X (.UnaryOp .Not a pos) (qbt ta):=
 EQ (qhs ha) λ_ _ _ ⟨τ,G,q,rl,h,af⟩=>qZ rl h λx G1 h1 v H1 rx hr1 k1 rl1=>by
  cases x with
  |bl k=>cases rx;exact ⟨k,rfl,af _ G1 h1 _ H1 (.bl _) hr1 k1⟩
  |_=>exact h1.elim
def if3 (t:TT3) (ta tb:TE3):TE3:=λτ G q=>t τ G λk G1=>if k=true then ta τ G1 q else tb τ G1 q
def qmO {c:Expr} (hc:C3 X c tA) (ha:E3 X a ta) (hb:E3 X b tb):E3 X (.IfExp c a b pos) (if3 tA ta tb):=
 EQ (qb2 hc ha hb) λ_ _ _ ⟨τ,G,q,rl,h,af⟩=>W8 rl h λk G1 h1 H1 hr1 k1 rl1=>by
  cases k with
  |true=>rw [if_pos rfl] at h1 ⊢;exact ⟨τ,G1,q,rl1,h1,af.back k1⟩
  |false=>rw [if_neg y6] at h1 ⊢;exact ⟨τ,G1,q,rl1,h1,af.back k1⟩
variable {e:Expr} {es:List Expr} {te:TE3} {t:TA3}
def qk:TA3:=λ_ G q=>q [] G
def qc (ta:TE3) (tr:TA3):TA3:=λτ G q=>ta τ G λx G1=>tr τ G1 λxs G2=>q (x::xs) G2
def qkQ:A3 X [] qk:=qmv qcP λ_ H _ ⟨τ,G,q,rl,h,af⟩=>af _ G h _ H .nil rl.hp Kp.refl
def qfP (ha:E3 X e te) (hr:A3 X es t) (hs:starEach (e::es) X.env=(false,eval e X.env)::starEach es X.env:=by rfl):A3 X (e::es) (qc te t):=
 qmv (YG ha hr hs) λ_ _ _ ⟨τ,G,q,rl,h,af⟩=>qZ rl h λx G1 h1 v H1 rx hr1 k1 rl1=>QN rl1 h1 λxs G2 h2 vs H2 rs hr2 k2 rl2=>
  af _ G2 h2 _ H2 (.cons (rx.keep hr1 k2) rs) hr2 (k1.trans k2)
def qa8 (t:TA3):TE3:=λτ G q=>t τ G λxs G1=>xs.length<=sizeLine/\q (.tup xs) G1
def YQ (t:TA3):TE3:=λτ G q=>t τ G λxs G1=>xs.length<=sizeLine/\∀ p,G1 p=none->q (.ref p) (gu G1 p (.lst xs))
def qkf {x1} (h:A3 X es t):E3 X (.Tuple es x1 pos) (qa8 t):=
 EQ (qiq h) λ_ _ _ ⟨τ,G,q,rl,h,af⟩=>QN rl h λxs G1 h1 vs H1 rs hr1 k1 rl1=>⟨by rw [← rs.length];exact h1.1,λp hp=>
  af _ G1 h1.2 _ _ (.tup (SqT.of qG) (rs.keep hr1 (Kp.laid hp))) (hr1.laid hp) (k1.trans (Kp.laid hp))⟩
def qkw (h:A3 X es t):E3 X (.List es pos) (YQ t):=
 EQ (qfZ h) λ_ _ _ ⟨τ,G,q,rl,h,af⟩=>QN rl h λxs G1 h1 vs H1 rs hr1 k1 rl1=>⟨by rw [← rs.length];exact h1.1,λp hp=>
  af _ _ (h1.2 p (hr1.free hp)) _ _ (.ref p) (hr1.newL hp rs) (k1.trans (Kp.newL hp))⟩
def SI (K:Frg) (r3:List T->Gp->Q3->Prop) (r:List V->Hp->VK->Prop):Prop:=∀ xs vs G H q Q,HR K G H->Rps K H xs vs->r3 xs G q->Aft K G H q Q->r vs H Q
def cb3 (r:List T->Gp->Q3->Prop) (t:TA3):TE3:=λτ G q=>t τ G λxs G1=>r xs G1 q
def qgu {K:Frg} {r3:List T->Gp->Q3->Prop} {r:List V->Hp->VK->Prop} (hr:SI K r3 r) {σ:L2.St} {H:Hp} {Q:VK} (h:lE K (cb3 r3 t) σ H Q):tCB r (lA K t) σ H Q:=by
 obtain ⟨τ,G,q,rl,h,af⟩:=h;exact QN rl h λxs G1 h1 vs H1 rs hr1 k1 rl1=>hr xs vs G1 H1 q Q hr1 rs h1 (af.back k1)
def qe5 {x:Str} {p:Pos} {id:String} {r3:List T->Gp->Q3->Prop} {r:List V->Hp->VK->Prop} (hc:ZD X (.builtin id) r) (hr:SI X.K r3 r) (hg:Gl X x) (hm:X.mg x=none) (hv:bootBuiltins x=some (.builtin id)) (ha:A3 X (e::es) t) (hn:x≠"__name__" := by decide) (hdb:(x==("__debug__" : Str))=false:=by decide)
  (he:starEach (e::es) X.env=(false,eval e X.env)::starEach es X.env:=by rfl) (hpl:(backTo pos (starEach es X.env)).any (·.1)=false:=by rfl):E3 X (.Call (.Name x p) (e::es) [] pos) (cb3 r3 t):=
 EQ (SY hc hg hm hv ha hn hdb he hpl) λ_ _ _ h=>qgu hr h
def qb7 {x:Str} {p:Pos} {ty:String} {r3:List T->Gp->Q3->Prop} {r:List V->Hp->VK->Prop} (hc:ZD X (.type ty) r) (hr:SI X.K r3 r) (hg:Gl X x) (hm:X.mg x=none) (hv:bootBuiltins x=some (.type ty)) (ha:A3 X (e::es) t) (hn:x≠"__name__" := by decide) (hdb:(x==("__debug__" : Str))=false:=by decide)
  (he:starEach (e::es) X.env=(false,eval e X.env)::starEach es X.env:=by rfl) (hpl:(backTo pos (starEach es X.env)).any (·.1)=false:=by rfl):E3 X (.Call (.Name x p) (e::es) [] pos) (cb3 r3 t):=
 EQ (qap hc hg hm hv ha hn hdb he hpl) λ_ _ _ h=>qgu hr h
end
def getL (G:Gp) (p:Addr):Option (List T):=match G p with|some (.lst xs)=>some xs|some (.frz xs)=>some xs|_=>none
section
variable {K:Frg} {G G':Gp} {H H':Hp}
def zi (hr:HR K G H) {p:Addr} {xs:List T} (h:getL G p=some xs):∃ vs,SqL K H p vs/\Rps K H xs vs:=by
 unfold getL at h;split at h
 ·rename_i ys e;cases h;obtain ⟨vs,h1,h2⟩:=hr p _ e;exact ⟨vs,SqL.of h1,h2⟩
 ·rename_i ys e;cases h;obtain ⟨vs,⟨o,h1⟩,h2⟩:=hr p _ e;exact ⟨vs,.inl (.inr ⟨o,h1⟩),h2⟩
 ·cases h
theorem HR.lst (hr:HR K G H) {p:Addr} {xs:List T} (h:G p=some (.lst xs)):∃ vs,H p=some (.lst vs)/\Rps K H xs vs:=hr p _ h
theorem Rps.atI {xs:List T} {vs:List V} {i:Int} {x:T} (r:Rps K H xs vs) (h:atI xs i=some x):∃ v,L2.atI vs i=some v/\Rp K H x v:=by
 unfold L2.atI at h ⊢;rw [← r.length];cases e:ixN xs.length i with
 |none=>rw [e] at h;cases h
 |some j=>
  rw [e] at h;exact r.get (by simpa using h)
end
def ix3:R3:=λx y G q=>match x,y with
 |.tup xs,.int i=>(match atI xs i with|some z=>q z G|none=>False)
 |.ref p,.int i=>(match getL G p with|some xs=>(match atI xs i with|some z=>q z G|none=>False)|none=>False)
 |_,_=>False
section
variable {X:Cx} {a b c e:Expr} {es:List Expr} {ta tb tc te:TE3} {t:TA3} {pos:Pos}
def qhU {K:Frg}:UG K ix3 (rIx K):=λx y v u G H q Q hr rx ry h af=>by
 cases x<;>try exact h.elim
 case tup xs=>
  cases y<;>try exact h.elim
  case int i=>
   unfold ix3 at h;simp only at h;split at h
   ·rename_i z e;cases ry;cases rx with
    |tup hs rs=>
     obtain ⟨w,e2,rw'⟩:=rs.atI e;exact .inr (.inl ⟨_,_,i,w,rfl,rfl,hs,e2,af z G h w H rw' hr Kp.refl⟩)
   ·exact h.elim
 case ref p=>
  cases y<;>try exact h.elim
  case int i=>
   unfold ix3 at h;simp only at h;split at h
   ·rename_i xs e0;split at h
    ·rename_i z e;cases ry;cases rx;obtain ⟨vs,hs,rs⟩:=zi hr e0;obtain ⟨w,e2,rw'⟩:=rs.atI e;exact .inl ⟨p,vs,i,w,rfl,rfl,hs,e2,af z G h w H rw' hr Kp.refl⟩
    ·exact h.elim
   ·exact h.elim
def qm8 (ha:E3 X a ta) (hb:E3 X b tb) (hs:RX b:=by intro _ _;rfl):E3 X (.Subscript a b pos) (o3 ix3 ta tb):=EQ (ql1 qf1 ha hb hs) λ_ _ _ h=>qaD qhU h
def K1 {α:Type} (xs:List α) (lo hi:Option Int):List α:=(xs.drop (HT.sIx xs.length 0 lo)).take (HT.sIx xs.length xs.length hi-HT.sIx xs.length 0 lo)
def Rps.cut {K:Frg} {H:Hp} {xs:List T} {vs:List V} (r:Rps K H xs vs) (lo hi:Option Int):Rps K H (K1 xs lo hi) (qdg vs lo hi):=by
 unfold K1 qdg;rw [r.length];exact (r.drop _).take _
abbrev TO3:=St3->Gp->(Option Int->Gp->Prop)->Prop
def lO (K:Frg) (t:TO3):TO:=λσ H Q=>∃ τ G q,Rel K τ G σ H/\t τ G q/\∀ x G',q x G'->∀ H',HR K G' H'->Kp G H G' H'->Q x H'
abbrev P3 (X:Cx) (e:Option Expr) (t:TO3):Prop:=PO X e (lO X.K t)
def np3:TO3:=λ_ G q=>q none G
def sp3 (t:TE3):TO3:=λτ G q=>t τ G λx G1=>match x with|.int i=>q (some i) G1|_=>False
def qms {X:Cx} {e:Option Expr} {t t':TO} (h:PO X e t) (w:∀ σ H Q,t' σ H Q->t σ H Q):PO X e t':=λpins s σ H Q I q=>h pins s σ H Q I (w σ H Q q)
def qiy:P3 X none np3:=qms qeo λ_ H _ ⟨τ,G,q,rl,h,af⟩=>af none G h H rl.hp Kp.refl
def qhX (h:E3 X e te):P3 X (some e) (sp3 te):=qms (qef h) λ_ _ _ ⟨τ,G,q,rl,h,af⟩=>qZ rl h λx G1 h1 v H1 rx hr1 k1 rl1=>by
 cases x<;>try exact h1.elim
 cases rx;exact ⟨_,rfl,af _ G1 h1 H1 hr1 k1⟩
def sl3:T->Option Int->Option Int->Gp->Q3->Prop:=λx lo hi G q=>match x with
 |.tup xs=>¬ (HT.sIx xs.length 0 lo=0/\HT.sIx xs.length xs.length hi=xs.length)/\q (.tup (K1 xs lo hi)) G
 |.ref p=>(match getL G p with|some xs=>∀ a,G a=none->q (.ref a) (gu G a (.lst (K1 xs lo hi)))|none=>False)
 |_=>False
def qjg (te:TE3) (tl th:TO3):TE3:=λτ G q=>te τ G λx G1=>tl τ G1 λl G2=>th τ G2 λu G3=>sl3 x l u G3 q
def qep {lo hi:Option Expr} {tl th:TO3} {p2:Pos} (he:E3 X e te) (hl:P3 X lo tl) (hu:P3 X hi th):E3 X (.Subscript e (.Slice lo hi none p2) pos) (qjg te tl th):=
 EQ (qbu (qiu.or qeY) he hl hu) λ_ _ _ ⟨τ,G,q,rl,h,af⟩=>qZ rl h λx G1 h1 v H1 rx hr1 k1 rl1=>
  ⟨τ,G1,_,rl1,h1,λl G2 h2 H2 hr2 k2=>⟨τ,G2,_,rl1.next hr2 k2,h2,λu G3 h3 H3 hr3 k3=>by
   have kk:=(k1.trans k2).trans k3;have rx3:=(rx.keep hr1 k2).keep hr2 k3;cases x<;>try exact h3.elim
   case tup xs=>
    cases rx3 with
    |tup hs rs=>
     refine .inl ⟨_,_,rfl,hs,by rw [← rs.length];exact h3.1,λp hp=>?_⟩;exact af _ G3 h3.2 _ _ (.tup (SqT.of qG) ((rs.cut _ _).keep hr3 (Kp.laid hp))) (hr3.laid hp) (kk.trans (Kp.laid hp))
   case ref p=>
    unfold sl3 at h3;simp only at h3;split at h3
    ·rename_i xs e0;cases rx3;obtain ⟨vs,hs,rs⟩:=zi hr3 e0;refine .inr ⟨p,vs,rfl,hs,λa ha=>?_⟩;exact af _ _ (h3 a (hr3.free ha)) _ _ (.ref a) (hr3.newL ha (rs.cut _ _)) (kk.trans (Kp.newL ha))
    ·exact h3.elim⟩⟩
def qai {K:Frg} {H:Hp} {xs:List T} {vs:List V} (r:Rps K H xs vs):vs=[]↔xs=[]:=by
 cases r<;>simp
def j7:R3:=λx y G q=>match x,y with
 |.tup xs,.tup ys=>xs≠[]/\xs.length+ys.length<=sizeLine/\q (.tup (xs++ys)) G
 |.ref a,.ref b=>(match G a,G b with|some (.lst xs),some (.lst ys)=>xs.length+ys.length<=sizeLine/\∀ p,G p=none->q (.ref p) (gu G p (.lst (xs++ys)))|_,_=>False)
 |.int i,.int j=>q (.int (i+j)) G
 |_,_=>False
def qeG {K:Frg}:UG K j7 (λx y H Q=>(rI0 (λi j=>.int (i+j)) x y H Q\/qis K x y H Q)\/qmn x y H Q):=λx y v u G H q Q hr rx ry h af=>by
 cases x<;>try exact h.elim
 case int i=>
  cases y<;>try exact h.elim
  cases rx;cases ry;exact .inl (.inl ⟨_,_,rfl,rfl,af _ G h _ H (.int _) hr Kp.refl⟩)
 case tup xs=>
  cases y<;>try exact h.elim
  case tup ys=>
   obtain ⟨h1,h2,h3⟩:=h;cases rx with
   |tup hs rs=>
    cases ry with
    |tup hs' rs'=>
     refine .inl (.inr ⟨_,_,_,_,rfl,rfl,hs,hs',λz=>h1 ((qai rs).mp z),by rw [← rs.length,← rs'.length];exact h2,λz=>?_,λz p hp=>?_⟩)
     ·have e:=(qai rs').mp z;subst e;rw [List.append_nil] at h3;exact af _ G h3 _ H (.tup hs rs) hr Kp.refl
     ·exact af _ G h3 _ _ (.tup (SqT.of qG) ((rs.append rs').keep hr (Kp.laid hp))) (hr.laid hp) (Kp.laid hp)
 case ref a=>
  cases y<;>try exact h.elim
  case ref b=>
   unfold j7 at h;simp only at h;split at h
   ·rename_i xs ys e1 e2;cases rx;cases ry;obtain ⟨vs,g1,r1⟩:=hr.lst e1;obtain ⟨us,g2,r2⟩:=hr.lst e2;refine .inr ⟨a,b,vs,us,rfl,rfl,g1,g2,by rw [← r1.length,← r2.length];exact h.1,λp hp=>?_⟩;exact af _ _ (h.2 p (hr.free hp)) _ _ (.ref p) (hr.newL hp (r1.append r2)) (Kp.newL hp)
   ·exact h.elim
def qiW (ha:E3 X a ta) (hb:E3 X b tb):E3 X (.BinOp a .Add b pos) (o3 j7 ta tb):=qa7 ((qhp.or qfi).or qji) qeG ha hb
def VT:T->Bool
 |.non=>true|.bl _=>true|.int _=>true|.str _=>true|_=>false
def eqF:T->T->Bool
 |.non,.non=>true
 |.bl a,.bl b=>a==b
 |.bl a,.int b=>(if a then 1 else 0)==b
 |.int a,.bl b=>a==(if b then 1 else 0)
 |.int a,.int b=>a==b
 |.str a,.str b=>a==b
 |_,_=>false
def RN {K:Frg} {H:Hp} {x:T} {v:V} (r:Rp K H x v) (h:VT x=true):EJ v=true:=by
 cases r<;>first|rfl|(cases h)
theorem D8 {K:Frg} {H:Hp}:∀ {x:List T} {v:List V},Rps K H x v->x.all VT=true->v.all EJ=true
 |_,_,.nil,_=>rfl
 |_,_,.cons a b,h=>by
  rw [List.all_cons,Bool.and_eq_true] at h ⊢;exact ⟨RN a h.1,D8 b h.2⟩
def qia {K:Frg} {H:Hp} {x y:T} {v u:V} (r:Rp K H x v) (s:Rp K H y u) (h:VT x=true) (h':VT y=true):eqV v u=eqF x y:=by
 cases r<;>first|(cases h;done)|(cases s<;>first|rfl|(cases h';done))
theorem NH {K:Frg} {H:Hp} {x:T} {v:V} (r:Rp K H x v) (h:VT x=true):∀ {ys:List T} {us:List V},Rps K H ys us->ys.all VT=true->inV v us=ys.any λy=>eqF y x
 |_,_,.nil,_=>rfl
 |_,_,.cons a b,h'=>by
  rw [List.all_cons,Bool.and_eq_true] at h';unfold inV;rw [List.any_cons,List.any_cons,qia a r h'.1 h];congr 1;exact NH r h b h'.2
def in3 (neg:Bool):R3:=λx y G q=>VT x=true/\match y with
 |.tup ys=>ys.all VT=true/\q (.bl (if neg then !(ys.any λy=>eqF y x) else (ys.any λy=>eqF y x))) G
 |.ref p=>(match getL G p with|some ys=>ys.all VT=true/\q (.bl (if neg then !(ys.any λy=>eqF y x) else (ys.any λy=>eqF y x))) G|none=>False)
 |_=>False
def LV {K:Frg} {neg:Bool}:UG K (in3 neg) (rIn K neg):=λx y v u G H q Q hr rx ry h af=>by
 obtain ⟨hf,h⟩:=h;cases y<;>try exact h.elim
 case tup ys=>
  cases ry with
  |tup hs rs=>
   refine ⟨_,_,rfl,.inr hs,RN rx hf,D8 rs h.1,?_⟩;rw [NH rx hf rs h.1];exact af _ G h.2 _ H (.bl _) hr Kp.refl
 case ref p=>
  simp only at h;split at h
  ·rename_i ys e;cases ry;obtain ⟨us,hs,rs⟩:=zi hr e;refine ⟨_,_,rfl,.inl hs,RN rx hf,D8 rs h.1,?_⟩;rw [NH rx hf rs h.1];exact af _ G h.2 _ H (.bl _) hr Kp.refl
  ·exact h.elim
def DI:List T->Gp->Q3->Prop:=λxs G q=>match xs with
 |[.tup ys]=>q (.int ys.length) G
 |[.str y]=>y.length<=sizeLine/\q (.int y.length) G
 |[.ref p]=>(match getL G p with|some ys=>q (.int ys.length) G|none=>False)
 |_=>False
def CU {K:Frg} {H:Hp} {x:T} {vs:List V} (r:Rps K H [x] vs):∃ v,vs=[v]/\Rp K H x v:=by
 cases r with
 |cons a b=>cases b;exact ⟨_,rfl,a⟩
def qln {K:Frg} {H:Hp} {x y:T} {vs:List V} (r:Rps K H [x,y] vs):∃ v u,vs=[v,u]/\Rp K H x v/\Rp K H y u:=by
 cases r with
 |cons a b=>cases b with|cons c d=>cases d;exact ⟨_,_,rfl,a,c⟩
def jc {K:Frg}:SI K DI (λxs H Q=>∃ x n,xs=[x]/\qmm K x H n/\Q (.int n) H):=λxs vs G H q Q hr rs h af=>by
 unfold DI at h;split at h
 ·obtain ⟨v,rfl,r⟩:=CU rs;cases r with
  |tup hs r2=>exact ⟨_,_,rfl,.inr ⟨_,hs,rfl⟩,by rw [← r2.length];exact af _ G h _ H (.int _) hr Kp.refl⟩
 ·obtain ⟨v,rfl,r⟩:=CU rs;cases r;exact ⟨_,_,rfl,⟨h.1,rfl⟩,af _ G h.2 _ H (.int _) hr Kp.refl⟩
 ·obtain ⟨v,rfl,r⟩:=CU rs;split at h
  ·rename_i ys e;cases r;obtain ⟨us,hs,r2⟩:=zi hr e;exact ⟨_,_,rfl,.inl ⟨_,hs,rfl⟩,by rw [← r2.length];exact af _ G h _ H (.int _) hr Kp.refl⟩
  ·exact h.elim
 ·exact h.elim
def qiQ:List T->Gp->Q3->Prop:=λxs G q=>match xs with|[.int i]=>q (.int (if i<0 then -i else i)) G|_=>False
def qaE {K:Frg}:SI K qiQ (λxs H Q=>∃ i,xs=[.int i]/\Q (.int (if i<0 then -i else i)) H):=λxs vs G H q Q hr rs h af=>by
 unfold qiQ at h;split at h
 ·obtain ⟨v,rfl,r⟩:=CU rs;cases r;exact ⟨_,rfl,af _ G h _ H (.int _) hr Kp.refl⟩
 ·exact h.elim
def qdG:List T->Gp->Q3->Prop:=λxs G q=>match xs with|[.int i,.int j]=>q (.int (if j<i then j else i)) G|_=>False
def RQ {K:Frg}:SI K qdG (λxs H Q=>∃ i j,xs=[.int i,.int j]/\Q (.int (if j<i then j else i)) H):=λxs vs G H q Q hr rs h af=>by
 unfold qdG at h;split at h
 ·obtain ⟨v,u,rfl,r,r'⟩:=qln rs;cases r;cases r';exact ⟨_,_,rfl,af _ G h _ H (.int _) hr Kp.refl⟩
 ·exact h.elim
def qhP:List T->Gp->Q3->Prop:=λxs G q=>match xs with|[.int i,.int j]=>q (.int (if j > i then j else i)) G|_=>False
def qeF {K:Frg}:SI K qhP (λxs H Q=>∃ i j,xs=[.int i,.int j]/\Q (.int (if j > i then j else i)) H):=λxs vs G H q Q hr rs h af=>by
 unfold qhP at h;split at h
 ·obtain ⟨v,u,rfl,r,r'⟩:=qln rs;cases r;cases r';exact ⟨_,_,rfl,af _ G h _ H (.int _) hr Kp.refl⟩
 ·exact h.elim
def qgJ:List T->Gp->Q3->Prop:=λxs G q=>match xs with|[.int i]=>q (.int i) G|[.bl k]=>q (.int (if k then 1 else 0)) G|_=>False
def qd8 {K:Frg}:SI K qgJ (λxs H Q=>(∃ i,xs=[.int i]/\Q (.int i) H)\/∃ k,xs=[.bl k]/\Q (.int (if k then 1 else 0)) H):=λxs vs G H q Q hr rs h af=>by
 unfold qgJ at h;split at h
 ·obtain ⟨v,rfl,r⟩:=CU rs;cases r;exact .inl ⟨_,rfl,af _ G h _ H (.int _) hr Kp.refl⟩
 ·obtain ⟨v,rfl,r⟩:=CU rs;cases r;exact .inr ⟨_,rfl,af _ G h _ H (.int _) hr Kp.refl⟩
 ·exact h.elim
def X0:List T->Gp->Q3->Prop:=λxs G q=>match xs with
 |[.tup ys]=>q (.tup ys) G
 |[.ref p]=>(match getL G p with|some ys=>q (.tup ys) G|none=>False)
 |_=>False
def LQ {K:Frg}:SI K X0 (λxs H Q=>∃ p ys,xs=[.ref p]/\((SqL K H p ys/\∀ l,H l=none->Q (.ref l) (upd H l (.tup ys)))\/(SqT K H p ys/\Q (.ref p) H))):=λxs vs G H q Q hr rs h af=>by
 unfold X0 at h;split at h
 ·obtain ⟨v,rfl,r⟩:=CU rs;cases r with
  |tup hs r2=>exact ⟨_,_,rfl,.inr ⟨hs,af _ G h _ H (.tup hs r2) hr Kp.refl⟩⟩
 ·obtain ⟨v,rfl,r⟩:=CU rs;split at h
  ·rename_i ys e;cases r;obtain ⟨us,hs,r2⟩:=zi hr e;exact ⟨_,_,rfl,.inl ⟨hs,λl hl=>af _ G h _ _ (.tup (SqT.of qG) (r2.keep hr (Kp.laid hl))) (hr.laid hl) (Kp.laid hl)⟩⟩
  ·exact h.elim
 ·exact h.elim
def KD:List T->Gp->Q3->Prop:=λxs G q=>match xs with
 |[.tup ys]=>∀ p,G p=none->q (.ref p) (gu G p (.lst ys))
 |[.ref p]=>(match getL G p with|some ys=>∀ p,G p=none->q (.ref p) (gu G p (.lst ys))|none=>False)
 |_=>False
def qbe {K:Frg}:SI K KD (λxs H Q=>∃ p ys,xs=[.ref p]/\(SqL K H p ys\/SqT K H p ys)/\∀ l,H l=none->Q (.ref l) (upd H l (.lst ys))):=λxs vs G H q Q hr rs h af=>by
 unfold KD at h;split at h
 ·obtain ⟨v,rfl,r⟩:=CU rs;cases r with
  |tup hs r2=>exact ⟨_,_,rfl,.inr hs,λl hl=>af _ _ (h l (hr.free hl)) _ _ (.ref l) (hr.newL hl r2) (Kp.newL hl)⟩
 ·obtain ⟨v,rfl,r⟩:=CU rs;split at h
  ·rename_i ys e;cases r;obtain ⟨us,hs,r2⟩:=zi hr e;exact ⟨_,_,rfl,.inl hs,λl hl=>af _ _ (h l (hr.free hl)) _ _ (.ref l) (hr.newL hl r2) (Kp.newL hl)⟩
  ·exact h.elim
 ·exact h.elim
def qem:T->List T->Gp->Q3->Prop:=λx xs G q=>match x,xs with
 |.ref l,[.ref b]=>(match G l,G b with|some (.lst ys),some (.lst zs)=>ys.length+zs.length<=sizeLine/\q .non (gu G l (.lst (ys++zs)))|_,_=>False)
 |_,_=>False
def LL:T->List T->Gp->Q3->Prop:=λx xs G q=>match x,xs with
 |.ref l,[y]=>(match G l with|some (.lst ys)=>ys.length<sizeLine/\q .non (gu G l (.lst (ys++[y])))|_=>False)
 |_,_=>False
def qll (K:Frg) (r3:T->List T->Gp->Q3->Prop) (r:V->List V->Hp->VK->Prop):Prop:=∀ x xs v vs G H q Q,HR K G H->Rp K H x v->Rps K H xs vs->r3 x xs G q->Aft K G H q Q->r v vs H Q
def qeL {K:Frg}:qll K qem NL:=λx xs v vs G H q Q hr rx rs h af=>by
 unfold qem at h;split at h
 ·rename_i l b;split at h
  ·rename_i ys zs e1 e2;cases rx;obtain ⟨u,rfl,r⟩:=CU rs;cases r;obtain ⟨vs,g1,r1⟩:=hr.lst e1;obtain ⟨us,g2,r2⟩:=hr.lst e2;exact ⟨l,b,vs,us,rfl,rfl,g1,g2,by rw [← r1.length,← r2.length];exact h.1,af _ _ h.2 _ _ .non (hr.wr e1 (r1.append r2)) (Kp.wr e1)⟩
  ·exact h.elim
 ·exact h.elim
def qd7 {K:Frg}:qll K LL MO:=λx xs v vs G H q Q hr rx rs h af=>by
 unfold LL at h;split at h
 ·rename_i l y;split at h
  ·rename_i ys e1;cases rx;obtain ⟨u,rfl,r⟩:=CU rs;obtain ⟨vs,g1,r1⟩:=hr.lst e1;exact ⟨l,vs,u,rfl,rfl,g1,by rw [← r1.length];exact h.1,af _ _ h.2 _ _ .non (hr.wr e1 (r1.append (.cons r .nil))) (Kp.wr e1)⟩
  ·exact h.elim
 ·exact h.elim
def bm3 (r:T->List T->Gp->Q3->Prop) (to:TE3) (t:TA3):TE3:=λτ G q=>to τ G λx G1=>(match x with|.ref p=>(getL G1 p).isSome=true|_=>False)/\t τ G1 λxs G2=>r x xs G2 q
def qmC {o:Expr} {to:TE3} {name:Str} {apos cpos:Pos} {id:String} {r3:T->List T->Gp->Q3->Prop} {r:V->List V->Hp->VK->Prop} (slot:Slot "list" name id) (hty:typeOf (.builtin id)=pure (.type "method_descriptor")) (hm:MtR X id r) (hr:qll X.K r3 r) (ho:E3 X o to) (ha:A3 X (e::es) t)
  (hbase:attributeBase o name X.env (eval o X.env)=eval o X.env:=by rfl)
  (hfew:((backTo cpos (starEach (e::es) X.env)).all (λx=>!x.1)&&(backToKw cpos (keywordEach [] X.env)).all (λx=>x.1.isSome)
   && decide ((e::es).length+([]:List Keyword).length+(if ([]:List Keyword).isEmpty then 0 else 1)<30))=true:=by rfl)
  (hline:(apos.endLine==cpos.line)=true:=by rfl) (hs:starEach (e::es) X.env=(false,eval e X.env)::starEach es X.env:=by rfl) (hplain:(backTo cpos (starEach es X.env)).any (·.1)=false:=by rfl) :
  E3 X (.Call (.Attribute o name apos) (e::es) [] cpos) (bm3 r3 to t):=
 EQ (qkH PySem.F.plainAttrs_list slot hty hm ho ha hbase hfew hline hs hplain) λ_ _ _ ⟨τ,G,q,rl,h,af⟩=>qZ rl h λx G1 h1 v H1 rx hr1 k1 rl1=>by
  obtain ⟨hp,h1⟩:=h1;cases x<;>try exact hp.elim
  case ref p=>
   cases rx;have hp':(getL G1 p).isSome=true:=hp;obtain ⟨ys,e⟩:=Option.isSome_iff_exists.mp hp';obtain ⟨us,hs,r2⟩:=zi hr1 e;exact ⟨.inl ⟨rfl,us,hs⟩,QN rl1 h1 λxs G2 h2 vs H2 rs hr2 k2 rl2=>hr _ xs _ vs G2 H2 q _ hr2 (.ref p) rs h2 (af.back (k1.trans k2))⟩
def qbH {o:Expr} {to:TE3} {apos cpos:Pos} (ho:E3 X o to) (ha:A3 X [e] t)
  (hbase:attributeBase o "append" X.env (eval o X.env)=eval o X.env:=by rfl)
  (hfew:((backTo cpos (starEach [e] X.env)).all (λx=>!x.1)&&(backToKw cpos (keywordEach [] X.env)).all (λx=>x.1.isSome)
   && decide (([e]:List Expr).length+([]:List Keyword).length+(if ([]:List Keyword).isEmpty then 0 else 1)<30))=true:=by rfl)
  (hline:(apos.endLine==cpos.line)=true:=by rfl) (hs:starEach [e] X.env=(false,eval e X.env)::starEach [] X.env:=by rfl) (hplain:(backTo cpos (starEach [] X.env)).any (·.1)=false:=by rfl) :
  E3 X (.Call (.Attribute o "append" apos) [e] [] cpos) (bm3 LL to t):=qmC PySem.F.slot_list_append PySem.F.type_list_append UR qd7 ho ha hbase hfew hline hs hplain
def qbD {o:Expr} {to:TE3} {apos cpos:Pos} (ho:E3 X o to) (ha:A3 X [e] t)
  (hbase:attributeBase o "extend" X.env (eval o X.env)=eval o X.env:=by rfl)
  (hfew:((backTo cpos (starEach [e] X.env)).all (λx=>!x.1)&&(backToKw cpos (keywordEach [] X.env)).all (λx=>x.1.isSome)
   && decide (([e]:List Expr).length+([]:List Keyword).length+(if ([]:List Keyword).isEmpty then 0 else 1)<30))=true:=by rfl)
  (hline:(apos.endLine==cpos.line)=true:=by rfl) (hs:starEach [e] X.env=(false,eval e X.env)::starEach [] X.env:=by rfl) (hplain:(backTo cpos (starEach [] X.env)).any (·.1)=false:=by rfl) :
  E3 X (.Call (.Attribute o "extend" apos) [e] [] cpos) (bm3 qem to t):=qmC PySem.F.slot_list_extend PySem.F.type_list_extend NN qeL ho ha hbase hfew hline hs hplain
end
def tyT (G:Gp):T->Option String
 |.non=>some "NoneType" |.bl _=>some "bool" |.int _=>some "int" |.str _=>some "str" |.tup _=>some "tuple"
 |.ref p=>if (getL G p).isSome then some "list" else none
def EK (t c:String):Bool:=t==c||(t == "bool" && c == "int")
def qbx (K:Frg):∀ t∈["NoneType","bool","int","str","tuple","list"],∀ c∈["bool","int","str","tuple","list"],PySem.W.kitOne K (.type t) (.type c)=some (EK t c):=by
 intro t ht c hc;simp only [mem_cons,not_mem_nil,or_false] at ht hc;rcases ht with rfl|rfl|rfl|rfl|rfl|rfl<;>rcases hc with rfl|rfl|rfl|rfl|rfl<;>kernel_rfl
section
variable {X:Cx} {a b c e:Expr} {es:List Expr} {ta tb tc te:TE3} {t:TA3} {pos:Pos}
def TyS (K:Frg) (H:Hp) (x:V) (t:String):Prop:=match x with
 |.non=>t="NoneType" |.bl _=>t="bool" |.int _=>t="int" |.str _=>t="str"
 |.ref a=>(t="tuple"/\∃ vs,SqT K H a vs)\/(t="list"/\∃ vs,SqL K H a vs)
 |_=>False
def TyS.mem {K:Frg} {H:Hp} {x:V} {t:String} (h:TyS K H x t):t∈["NoneType","bool","int","str","tuple","list"]:=by
 cases x<;>simp [TyS] at h<;>first|(subst h;decide)|(rcases h with ⟨rfl,_⟩|⟨rfl,_⟩<;>decide)
def TyS.kitx {pins:List (Addr×Obj)} {σ:L2.St} {H:Hp} {s:Shared} {x:V} {u:Value} {t:String} (I:Inv X pins σ H s) (rx:zT x u) (h:TyS X.K H x t) :
  ∃ HH:Heap->Prop,PySem.W.KitX X.K u (.type t) HH/\HH s.heap/\u≠.builtin "__main__.__loader__#opaque" := by
 cases x with
 |non=>cases (show u=Value.none from rx);cases (show t=_ from h);exact ⟨_,PySem.W.kitx_none,True.intro,λz=>nomatch z⟩
 |bl y=>cases (show u=Value.bool y from rx);cases (show t=_ from h);exact ⟨_,PySem.W.kitx_bool,True.intro,λz=>nomatch z⟩
 |int i=>obtain ⟨tk,q⟩:=(show ∃ t,u=Value.int i t from rx);cases q;cases (show t=_ from h);exact ⟨_,PySem.W.kitx_int,True.intro,λz=>nomatch z⟩
 |str y=>obtain ⟨tk,q⟩:=(show ∃ t,u=Value.str y t from rx);cases q;cases (show t=_ from h);exact ⟨_,PySem.W.kitx_str,True.intro,λz=>nomatch z⟩
 |ref a=>
  cases (show u=Value.ref a from rx);rcases (show (t="tuple"/\∃ vs,SqT X.K H a vs)\/(t="list"/\∃ vs,SqL X.K H a vs) from h) with ⟨rfl,vs,hs⟩|⟨rfl,vs,hs⟩
  ·obtain ⟨its,_,p,_⟩:=I.tuple hs;obtain ⟨o,h1,h2,_⟩:=p;exact ⟨_,PySem.W.kitx_tuple,⟨o,h1,h2⟩,λz=>nomatch z⟩
  ·obtain ⟨its,_,p,_⟩:=I.list hs;obtain ⟨o,n,h1,h2,_⟩:=p;exact ⟨_,PySem.W.kitx_list,⟨o,h1,h2⟩,λz=>nomatch z⟩
 |_=>exact False.elim h
abbrev RB:List String:=["bool","int","str","tuple","list"]
def qbB:ZD X (.builtin "isinstance") (λxs H Q=>∃ x t c,xs=[x,.ty c]/\TyS X.K H x t/\c∈RB/\Q (.bl (EK t c)) H):=by
 intro pins s σ H xs us Q I r h;obtain ⟨x,t,c,rfl,ht,hc,q⟩:=h;obtain ⟨u,w,rfl,rx,rc⟩:=qeH r;cases (show w=Value.type c from rc);obtain ⟨HH,kx,hh,ne⟩:=ht.kitx I rx;exact PySem.W.kia_one kx I.kIn hh (qbx X.K t ht.mem c hc) ne λtk=>⟨.bl _,H,I.tok tk,rfl,q⟩
def qg0 {K:Frg} {G:Gp} {H:Hp} (hr:HR K G H) {x:T} {v:V} {t:String} (r:Rp K H x v) (h:tyT G x=some t):TyS K H v t:=by
 cases r with
 |non=>cases h;rfl
 |bl _=>cases h;rfl
 |int _=>cases h;rfl
 |str _=>cases h;rfl
 |tup hs rs=>cases h;exact .inl ⟨rfl,_,hs⟩
 |ref a=>
  have h:(if (getL G a).isSome then some "list" else none)=some t:=h;split at h
  ·rename_i e;cases h;obtain ⟨ys,e⟩:=Option.isSome_iff_exists.mp e;obtain ⟨us,hs,_⟩:=zi hr e;exact .inr ⟨rfl,us,hs⟩
  ·cases h
def qdv (f:String->Bool) (te:TE3):TE3:=λτ G q=>te τ G λx G1=>match tyT G1 x with|some t=>q (.bl (f t)) G1|none=>False
def qlN {tn:Str} {ty:String} {p p2:Pos} (he:E3 X e te) (hg:Gl X "isinstance") (hm:X.mg "isinstance" = none) (hg2:Gl X tn) (hm2:X.mg tn=none) (hv:bootBuiltins tn=some (.type ty)) (hmem:ty∈RB:=by decide) (hn:tn≠"__name__" := by decide) (hdb:(tn==("__debug__" : Str))=false:=by decide)
  (hs:starEach [e,.Name tn p2] X.env=(false,eval e X.env)::starEach [.Name tn p2] X.env:=by rfl) (hs2:starEach [.Name tn p2] X.env=(false,eval (.Name tn p2) X.env)::starEach [] X.env:=by rfl) (hpl:(backTo pos (starEach [.Name tn p2] X.env)).any (·.1)=false:=by rfl) :
  E3 X (.Call (.Name "isinstance" p) [e,.Name tn p2] [] pos) (qdv (λt=>EK t ty) te):=
 EQ (SY qbB hg hm PyProof.Rows.boot_isinstance (YG he (YG (qe9 (v:=.ty ty) hg2 hm2 hv rfl hn hdb) qcP hs2) hs) (by decide) (by decide) hs hpl)
  λ_ _ _ ⟨τ,G,q,rl,h,af⟩=>qZ rl h λx G1 h1 v H1 rx hr1 k1 rl1=>by
   split at h1
   ·rename_i t e1;exact ⟨_,t,ty,rfl,qg0 hr1 rx e1,hmem,af _ G1 h1 _ H1 (.bl _) hr1 k1⟩
   ·exact h1.elim
structure Ends3 where
 nx:St3->Gp->Prop
 rt:Q3
 bk:St3->Gp->Prop:=λ_ _=>False
 ct:St3->Gp->Prop:=λ_ _=>False
abbrev TS3:=Ends3->St3->Gp->Prop
def qcv (K:Frg) (G:Gp) (H:Hp) (q:St3->Gp->Prop) (Q:L2.St->Hp->Prop):Prop:=∀ τ G',q τ G'->∀ σ H',Rel K τ G' σ H'->Kp G H G' H'->Q σ H'
structure AftD (K:Frg) (G:Gp) (H:Hp) (d:Ends3) (D:Ends):Prop where
 nx:qcv K G H d.nx D.nx
 rt:Aft K G H d.rt D.rt
 bk:qcv K G H d.bk D.bk
 ct:qcv K G H d.ct D.ct
def qcv.back {K:Frg} {G G1:Gp} {H H1:Hp} {q:St3->Gp->Prop} {Q:L2.St->Hp->Prop} (a:qcv K G H q Q) (k:Kp G H G1 H1):qcv K G1 H1 q Q:=λx G' h v H' r k'=>a x G' h v H' r (k.trans k')
theorem AftD.back {K:Frg} {G G1:Gp} {H H1:Hp} {d:Ends3} {D:Ends} (a:AftD K G H d D) (k:Kp G H G1 H1):AftD K G1 H1 d D:=⟨a.nx.back k,a.rt.back k,a.bk.back k,a.ct.back k⟩
def lS (K:Frg) (t:TS3):TS:=λD σ H=>∃ τ G d,Rel K τ G σ H/\t d τ G/\AftD K G H d D
abbrev S3 (X:Cx) (st:Stmt) (t:TS3):Prop:=PS X st (lS X.K t)
abbrev B3 (X:Cx) (st:List Stmt) (t:TS3):Prop:=PSs X st (lS X.K t)
def qek {X:Cx} {st:Stmt} {t t':TS} (h:PS X st t) (w:∀ D σ H,t' D σ H->t D σ H):PS X st t':=λpins s σ H D I q=>h pins s σ H D I (w D σ H q)
def qij {X:Cx} {st:List Stmt} {t t':TS} (h:PSs X st t) (w:∀ D σ H,t' D σ H->t D σ H):PSs X st t':=λpins s σ H D I q=>h pins s σ H D I (w D σ H q)
variable {st:Stmt} {jC:List Stmt} {t1 t2:TS3} {tA:TT3}
def zk:TS3:=λd τ G=>d.nx τ G
def qP (t u:TS3):TS3:=λd τ G=>t { d with nx:=u d } τ G
def qlQ:B3 X [] zk:=qij qfv λ_ σ H ⟨τ,G,d,rl,h,af⟩=>af.nx τ G h σ H rl Kp.refl
def qjq (h1:S3 X st t1) (h2:B3 X jC t2):B3 X (st::jC) (qP t1 t2):=qij (qb9 h1 h2) λD σ H ⟨τ,G,d,rl,h,af⟩=>
 ⟨τ,G,{ d with nx:=t2 d },rl,h,⟨λτ' G' h' σ' H' rl' k'=>⟨τ',G',d,rl',h',af.back k'⟩,af.rt,af.bk,af.ct⟩⟩
def qlR (h1:S3 X st t1):B3 X [st] t1:=qeQ h1
def YD (te:TE3):TS3:=λd τ G=>te τ G λ_ G1=>d.nx τ G1
def qhk (he:E3 X e te) (hs:swapsWith e none pos.line X.env=pure false:=by rfl):S3 X (.Expr e pos) (YD te):=qek (qeD he hs) λ_ σ H ⟨τ,G,d,rl,h,af⟩=>
 qZ rl h λx G1 h1 v H1 rx hr1 k1 rl1=>af.nx τ G1 h1 σ H1 rl1 k1
def zm (te:TE3):TS3:=λd τ G=>te τ G d.rt
def qk4 (he:E3 X e te):S3 X (.Return (some e) pos) (zm te):=qek (qiE he) λ_ σ H ⟨τ,G,d,rl,h,af⟩=>⟨τ,G,d.rt,rl,h,af.rt⟩
def ZE (c:TT3) (t u:TS3):TS3:=λd τ G=>c τ G λk G1=>if k=true then t d τ G1 else u d τ G1
def qmZ {c:Expr} {ba bb:List Stmt} (hc:C3 X c tA) (ha:B3 X ba t1) (hb:B3 X bb t2):S3 X (.If c ba bb pos) (ZE tA t1 t2):=qek (qkt hc ha hb) λ_ σ H ⟨τ,G,d,rl,h,af⟩=>
 W8 rl h λk G1 h1 H1 hr1 k1 rl1=>by
  cases k with
  |true=>rw [if_pos rfl] at h1 ⊢;exact ⟨τ,G1,d,rl1,h1,af.back k1⟩
  |false=>rw [if_neg y6] at h1 ⊢;exact ⟨τ,G1,d,rl1,h1,af.back k1⟩
abbrev TG3:=T->St3->Gp->(St3->Gp->Prop)->Prop
abbrev CS:=List T->St3->Gp->(St3->Gp->Prop)->Prop
def lG (K:Frg) (t:TG3):TG:=λv σ H Q=>∃ x τ G q,Rp K H x v/\Rel K τ G σ H/\t x τ G q/\qcv K G H q Q
def lGs (K:Frg) (t:CS):TGs:=λv σ H Q=>∃ x τ G q,Rps K H x v/\Rel K τ G σ H/\t x τ G q/\qcv K G H q Q
abbrev G3 (X:Cx) (e:Expr) (t:TG3):Prop:=PG X e (lG X.K t)
abbrev Gs3 (X:Cx) (es:List Expr) (t:CS):Prop:=PGs X es (lGs X.K t)
def qle {X:Cx} {e:Expr} {t t':TG} (h:PG X e t) (w:∀ v σ H Q,t' v σ H Q->t v σ H Q):PG X e t':=λpins s σ H v u Q I r q=>h pins s σ H v u Q I r (w v σ H Q q)
def qgd {X:Cx} {e:List Expr} {t t':TGs} (h:PGs X e t) (w:∀ v σ H Q,t' v σ H Q->t v σ H Q):PGs X e t':=λpins s σ H v u Q I r q=>h pins s σ H v u Q I r (w v σ H Q q)
def gn3 (i:Nat):TG3:=λx τ G q=>q (τ.set i (some x)) G
def qhK {i:Nat} {x:Str} (hN:X.N.Nodup) (hi:X.N[i]?=some x:=by rfl) (hx:Loc X.env.scope x:=by first|exact Or.inl rfl|exact Or.inr rfl) (hf:X.fn x=true\/X.env.scope.names.lookup x=some .local:=by first|exact .inl rfl|exact .inr rfl):G3 X (.Name x pos) (gn3 i):=
 qle (qd5 hN hi hx hf) λv σ H Q ⟨x,τ,G,q,rx,rl,h,af⟩=>af _ G h _ H (rl.set i rx) Kp.refl
def Y8:CS:=λxs τ G q=>match xs with|[]=>q τ G|_=>False
def qY (t:TG3) (u:CS):CS:=λxs τ G q=>match xs with|x::r=>t x τ G λτ' G'=>u r τ' G' q|[]=>False
def qj2:Gs3 X [] Y8:=qgd qeJ λv σ H Q ⟨x,τ,G,q,rx,rl,h,af⟩=>by
 cases rx with
 |nil=>exact ⟨rfl,af _ G h _ H rl Kp.refl⟩
 |cons _ _=>exact h.elim
def qhI {tg:TG3} {tgs:CS} (h1:G3 X e tg) (h2:Gs3 X es tgs) (hs:(assignEach (e::es) X.env).map (·.2)=assign e X.env::(assignEach es X.env).map (·.2):=by rfl):Gs3 X (e::es) (qY tg tgs):=qgd (qbC h1 h2 hs) λv σ H Q ⟨x,τ,G,q,rx,rl,h,af⟩=>by
 cases rx with
 |nil=>exact h.elim
 |cons r rs=>exact ⟨_,_,rfl,_,τ,G,_,r,rl,h,λτ' G' h' σ' H' rl' k'=>⟨_,τ',G',q,rs.keep rl.hp k',rl',h',af.back k'⟩⟩
def VE (n:Nat) (t:CS):TG3:=λx τ G q=>match x with|.tup xs=>xs.length=n/\t xs τ G q|_=>False
def qkp {k:Nat} {tgs:CS} {n:Nat} (hc:X.calm=true) (h:Gs3 X es tgs) (hn:(assignEach es X.env).length=n:=by rfl) (hst:(assignEach es X.env).findIdx? (·.1)=none:=by rfl):G3 X (.Tuple es k pos) (VE n tgs):=
 qle (qiC hc h hn hst) λv σ H Q ⟨x,τ,G,q,rx,rl,h,af⟩=>by
  cases x<;>try exact h.elim
  case tup xs=>
   cases rx with
   |tup hs rs=>exact ⟨_,_,rfl,hs,by rw [← rs.length];exact h.1,_,τ,G,q,rs,rl,h.2,af⟩
def qeU:T->T->T->Gp->(Gp->Prop)->Prop:=λo i v G q=>match o,i with
 |.ref p,.int k=>(match G p with|some (.lst xs)=>(match ixN xs.length k with|some j=>q (gu G p (.lst (xs.set j v)))|none=>False)|_=>False)
 |_,_=>False
def WZ (to ti:TE3):TG3:=λx τ G q=>to τ G λo G1=>ti τ G1 λi G2=>qeU o i x G2 λG3=>q τ G3
def qkl {o i : Expr} {to ti : TE3} (ho : E3 X o to) (hi : E3 X i ti) (ha : ∀ v,assign (.Subscript o i pos) X.env v = (do
      let ov←holding [v] (eval o X.env)
      let iv←holding [v,ov] (eval i X.env)
      standAt pos
      holding [v,ov,iv] (setItem ov iv v)
      release [v,ov,iv] []):=by intro _;rfl):G3 X (.Subscript o i pos) (WZ to ti):=
  qle (qiD ho hi qbY ha) λv σ H Q ⟨x,τ,G,q,rx,rl,h,af⟩=>qZ rl h λy G1 h1 u H1 ry hr1 k1 rl1=>qZ rl1 h1 λz G2 h2 w H2 rz hr2 k2 rl2=>by
    have rx2:=(rx.keep rl.hp k1).keep hr1 k2;have ry2:=ry.keep hr1 k2;unfold qeU at h2;split at h2
    · rename_i p k;split at h2
      · rename_i xs e;split at h2
        · rename_i j ej;cases ry2;cases rz;obtain ⟨vs,g1,r1⟩:=hr2.lst e;have kk:Kp G2 H2 (gu G2 p (.lst (xs.set j x))) (upd H2 p (.lst (vs.set j v))):=Kp.wr e;exact ⟨p,vs,k,j,rfl,rfl,g1,by rw [← r1.length];exact ej,af τ _ h2 σ _ (rl2.next (hr2.wr e (r1.set rx2 j)) kk) ((k1.trans k2).trans kk)⟩
        · exact h2.elim
      · exact h2.elim
    · exact h2.elim
def zC (te:TE3) (g:TG3):TS3:=λd τ G=>te τ G λx G1=>g x τ G1 d.nx
def qlH {tg e:Expr} {g:TG3} (he:E3 X e te) (hg:G3 X tg g) (hs:swapsWithSole [tg] e pos.line X.env=pure false:=by rfl) (hw:swappedStores [tg] e X.env=pure none:=by rfl)
  (h1:(assignEach [tg] X.env).map (·.2)=[assign tg X.env]:=by rfl):S3 X (.Assign [tg] e pos) (zC te g):=qek (qiG he hg hs hw h1) λ_ σ H ⟨τ,G,d,rl,h,af⟩=>
 qZ rl h λx G1 h1 v H1 rx hr1 k1 rl1=>⟨x,τ,G1,d.nx,rx,rl1,h1,af.nx.back k1⟩
def qkW (i:Nat) {x:Str} {e:Expr} {pos':Pos} (hN:X.N.Nodup) (he:E3 X e te) (hi:X.N[i]?=some x:=by rfl) (hx:Loc X.env.scope x:=by first|exact Or.inl rfl|exact Or.inr rfl) (hs:swapsWith e (some (.Name x pos')) pos.line X.env=pure false:=by rfl) (hf:X.fn x=true\/X.env.scope.names.lookup x=some .local:=by first|exact .inl rfl|exact .inr rfl) :
  S3 X (.Assign [.Name x pos'] e pos) (zC te (gn3 i)):=qek (qgr hN hi hx he hs hf) λ_ σ H ⟨τ,G,d,rl,h,af⟩=>
 qZ rl h λx G1 h1 v H1 rx hr1 k1 rl1=>af.nx _ G1 h1 _ H1 (rl1.set i rx) k1
def qik (i j:Nat) (ta:TA3):TS3:=λd τ G=>ta τ G λxs G1=>match xs with|[x,y]=>d.nx ((τ.set i (some x)).set j (some y)) G1|_=>False
def qka {i j:Nat} {x y:Str} {a b:Expr} {tt:TA3} {px py pt:Pos} {kt k2 pt2} (hc:X.calm=true) (hN:X.N.Nodup) (hi:X.N[i]?=some x) (hj:X.N[j]?=some y) (hij:i≠j)
  (hx:X.env.scope.names.lookup x=some .local) (hy:X.env.scope.names.lookup y=some .local) (ha:A3 X [a,b] tt)
  (hw:swappedStores [.Tuple [.Name x px,.Name y py] kt pt] (.Tuple [a,b] k2 pt2) X.env=pure (some [x,y]):=by rfl)
  (hs:swapsWithSole [.Tuple [.Name x px,.Name y py] kt pt] (.Tuple [a,b] k2 pt2) pos.line X.env=pure false:=by rfl) :
  S3 X (.Assign [.Tuple [.Name x px,.Name y py] kt pt] (.Tuple [a,b] k2 pt2) pos) (qik i j tt):=qek (qhO hc hN hi hj hij hx hy ha hw hs) λ_ σ H ⟨τ,G,d,rl,h,af⟩=>
 QN rl h λxs G1 h1 vs H1 rs hr1 k1 rl1=>by
  split at h1
  ·obtain ⟨v,u,rfl,r,r'⟩:=qln rs;exact ⟨v,u,rfl,af.nx _ G1 h1 _ H1 ((rl1.set i r).set j r') k1⟩
  ·exact h1.elim
end
abbrev TI3:=St3->Gp->(List T->(Gp->Prop)->Gp->Prop)->Prop
def qiZ (K:Frg) (J:It) (items:List T) (stay:Gp->Prop) (G0:Gp) (H0:Hp):Prop:=∀ G H,HR K G H->Kp G0 H0 G H->stay G ->
 (∀ i x,items[i]?=some x->J.go i H)/\(∀ i x v H',items[i]?=some x->J.yld i H v H'->Rp K H' x v/\HR K G H'/\Kp G H G H')/\J.stop items.length H
def lI (K:Frg) (wi:TI3):TI:=λσ H R=>∃ τ G r,Rel K τ G σ H/\wi τ G r/\∀ items stay G',r items stay G'->∀ J H',HR K G' H'->Kp G H G' H'->qiZ K J items stay G' H'->R J H'
abbrev I3 (X:Cx) (tg iter:Expr) (wi:TI3):Prop:=PI X tg iter (lI X.K wi)
def qj4 {X:Cx} {tg e:Expr} {t t':TI} (h:PI X tg e t) (w:∀ σ H R,t' σ H R->t σ H R):PI X tg e t':=λpins s σ H R I q=>h pins s σ H R I (w σ H R q)
section
variable {X:Cx} {a b c e l tg:Expr} {es:List Expr} {ta tb tc te:TE3} {t:TA3} {pos:Pos}
def qig {tl:TE} (hl:PE X l tl):PI X tg l (λσ H R=>tl σ H λx H1=>∃ a,x=.ref a/\(((∃ xs,SqL X.K H1 a xs)/\R (Itl X.K a) H1)\/((∃ xs,SqT X.K H1 a xs)/\R (Itt X.K a) H1))):=by
 intro pins s σ H R I h;refine thn (hl pins s σ H _ I h) λv s1 ⟨x,H1,I1,r1,q1⟩=>?_;obtain ⟨a,e,⟨⟨xs,hq⟩,q⟩|⟨⟨xs,hq⟩,q⟩⟩:=q1
 ·subst e;cases r1;obtain ⟨its,rv,p,hz⟩:=I1.list hq;refine wpAny_pyIter_list p.isList ?_;refine ⟨s1.heap.objs.size,[s1.heap.objs.size],_,_,H1,rfl,I1.kept (t':=s1.toks) λb o e=>y2 _ e,M6 a _,⟨_,y3 _ rfl,rfl,rfl⟩,λb hb=>?_,q⟩;have e:b=s1.heap.objs.size:=by simpa using hb
  subst e;exact I1.fpOk (v5 _) (I1.hok.fresh (v5 _))
 ·subst e;cases r1;obtain ⟨its,rv,p,hz⟩:=I1.tuple hq;refine wpAny_pyIter_tuple (show s1.heap.IsTuple a its.toArray from p) ?_;refine ⟨s1.heap.objs.size,[s1.heap.objs.size],_,_,H1,rfl,I1.kept (t':=s1.toks) λb o e=>y2 _ e,LA a _,⟨_,y3 _ rfl,rfl,rfl⟩,λb hb=>?_,q⟩;have e:b=s1.heap.objs.size:=by simpa using hb
  subst e;exact I1.fpOk (v5 _) (I1.hok.fresh (v5 _))
def Z0 (tl:TE3):TI3:=λτ G r=>tl τ G λx G1=>match x with
 |.tup xs=>r xs (λ_=>True) G1
 |.ref p=>(match getL G1 p with|some xs=>r xs (λG=>getL G p=some xs) G1|none=>False)
 |_=>False
def qgW {K:Frg} {p:Addr} {xs:List T} {G0:Gp} {H0:Hp}:qiZ K (Itl K p) xs (λG=>getL G p=some xs) G0 H0:=by
 intro G H hr _ hs;obtain ⟨vs,sq,rs⟩:=zi hr hs;refine ⟨λi x hi=>?_,λi x v H' hi y=>?_,⟨vs,sq,by rw [rs.length];exact v5 _⟩⟩
 ·obtain ⟨v,hv,_⟩:=rs.get hi;exact ⟨vs,v,sq,hv⟩
 ·obtain ⟨e,y⟩:=y;subst e;obtain ⟨w,hw,rw'⟩:=rs.get hi;have e2:=(y vs sq).symm.trans hw;cases e2;exact ⟨rw',hr,Kp.refl⟩
def qgO {K:Frg} {p:Addr} {xs:List T} {vs:List V} {G0:Gp} {H0:Hp} (hr0:HR K G0 H0) (sq0:SqT K H0 p vs) (rs0:Rps K H0 xs vs):qiZ K (Itt K p) xs (λ_=>True) G0 H0:=by
 intro G H hr k _;have sq:=VR hr0 k sq0;have rs:=rs0.keep hr0 k;refine ⟨λi x hi=>?_,λi x v H' hi y=>?_,⟨vs,sq,by rw [rs.length];exact v5 _⟩⟩
 ·obtain ⟨v,hv,_⟩:=rs.get hi;exact ⟨vs,v,sq,hv⟩
 ·obtain ⟨e,y⟩:=y;subst e;obtain ⟨w,hw,rw'⟩:=rs.get hi;have e2:=(y vs sq).symm.trans hw;cases e2;exact ⟨rw',hr,Kp.refl⟩
def qk6 (hl:E3 X l te):I3 X tg l (Z0 te):=qj4 (qig hl) λσ H R ⟨τ,G,r,rl,h,af⟩=>qZ rl h λx G1 h1 v H1 rx hr1 k1 rl1=>by
 cases x<;>try exact h1.elim
 case tup xs=>
  cases rx with
  |tup hs rs=>exact ⟨_,rfl,.inr ⟨⟨_,hs⟩,af _ _ G1 h1 _ H1 hr1 k1 (qgO hr1 hs rs)⟩⟩
 case ref p=>
  simp only at h1;split at h1
  ·rename_i xs e0;cases rx;obtain ⟨vs,hs,rs⟩:=zi hr1 e0;exact ⟨_,rfl,.inl ⟨⟨_,hs⟩,af _ _ G1 h1 _ H1 hr1 k1 qgW⟩⟩
  ·exact h1.elim
def qab (lo:Int) (n:Nat):List T:=(List.range n).map λ(i:Nat)=>T.int (lo+(i:Int))
def qhD {K:Frg} {lo:Int} {n:Nat} {G0:Gp} {H0:Hp}:qiZ K (Itr lo n) (qab lo n) (λ_=>True) G0 H0:=by
 intro G H hr k _;have hl:(qab lo n).length=n:=by simp [qab]
 refine ⟨λi x hi=>?_,λi x v H' hi y=>?_,(show n<=(qab lo n).length by rw [hl];exact v5 n)⟩
 ·have:=(za0 hi).1;rw [hl] at this;exact this
 ·obtain ⟨e,y⟩:=y;subst e;subst y;have h1:=(za0 hi).1;rw [hl] at h1;unfold qab at hi;rw [getElem?_map,List.getElem?_range h1] at hi;have e:T.int (lo+(i:Int))=x:=by simpa using hi
  subst e;exact ⟨.int _,hr,Kp.refl⟩
def VG (ta:TA3):TI3:=λτ G r=>ta τ G λxs G1=>match xs with
 |[.int j]=>(-(2 ^ 62)<=j/\j<2 ^ 62)/\r (qab 0 j.toNat) (λ_=>True) G1
 |[.int i,.int j]=>(-(2 ^ 62)<=i/\i<2 ^ 62/\-(2 ^ 62)<=j/\j<2 ^ 62)/\r (qab i (j-i).toNat) (λ_=>True) G1
 |_=>False
def qbF {p:Pos} (hg:Gl X "range") (hm:X.mg "range" = none) (ha:A3 X [a] t) (hs:starEach [a] X.env=[(false,eval a X.env)]:=by rfl) (h1:∀ τ G q,t τ G q->t τ G λxs G=>q xs G/\xs.length=1):I3 X tg (.Call (.Name "range" p) [a] [] pos) (VG t):=
 qj4 (MD hg hm ha hs) λσ H R ⟨τ,G,r,rl,h,af⟩=>QN rl (h1 _ _ _ h) λxs G1 h1 vs H1 rs hr1 k1 rl1=>by
  obtain ⟨h1,hl⟩:=h1;simp only at h1;split at h1
  ·obtain ⟨v,rfl,r1⟩:=CU rs;cases r1;exact ⟨_,rfl,h1.1.1,h1.1.2,af _ _ G1 h1.2 _ H1 hr1 k1 qhD⟩
  ·simp at hl
  ·exact h1.elim
def WS (stay:Gp->Prop) (g:TG3) (tb:TS3) (d:Ends3):List T->St3->Gp->Prop
 |[],τ,G=>stay G/\d.nx τ G
 |x::r,τ,G=>stay G/\g x τ G λτ2 G2=>tb { d with nx:=WS stay g tb d r,ct:=WS stay g tb d r,bk:=d.nx } τ2 G2
def DF (wi:TI3) (g:TG3) (tb:TS3):TS3:=λd τ G=>wi τ G λitems stay G1=>WS stay g tb d items τ G1
def qlI {iter:Expr} {body:List Stmt} {wi:TI3} {g:TG3} {tb:TS3} (hp:PassesOwn (model X.prog X.w) X.A X.env X.xe) (hc:X.calm=true) (hi:I3 X tg iter wi) (hg:G3 X tg g) (hb:B3 X body tb)
  (hs:∀ x,foldedSetIterable iter X.env x=pure x:=by intro _;rfl):S3 X (.For tg iter body [] pos) (DF wi g tb):=
 qek (qgQ hp hc hi hg hb hs) λD σ H ⟨τ,G,d,rl,h,af⟩=>by
  refine ⟨τ,G,_,rl,h,λitems stay G1 h1 J H1 hr1 k1 ok=>?_⟩;refine ⟨λi m σ' H'=>m=items.length-i/\i<=items.length/\∃ τ' G',Rel X.K τ' G' σ' H'/\Kp G1 H1 G' H'/\WS stay g tb d (items.drop i) τ' G',⟨_,rfl,Nat.zero_le _,τ,G1,rl.next hr1 k1,Kp.refl,by simpa using h1⟩,?_⟩;rintro i m σ' H' ⟨rfl,hi,τ',G',rl',k',h'⟩;by_cases hlt:i<items.length
  ·rw [List.drop_eq_getElem_cons hlt] at h';obtain ⟨hst,h'⟩:=h';obtain ⟨go,yld,_⟩:=ok G' H' rl'.hp k' hst;have hx:items[i]?=some items[i]:=y9 hlt;refine .inr ⟨go i _ hx,λσ2 H2=>∃ τ2 G2,Rel X.K τ2 G2 σ2 H2/\Kp G1 H1 G2 H2/\WS stay g tb d (items.drop (i+1)) τ2 G2,λσ2 H2 h2=>⟨_,by omega,rfl,hlt,h2⟩,λv H2 y=>?_⟩;obtain ⟨rv,hr2,k2⟩:=yld i _ v H2 hx y;have k3:Kp G1 H1 G' H2:=k'.trans k2;refine ⟨_,τ',G',_,rv,rl'.next hr2 k2,h',λτ3 G3 h3 σ3 H3 rl3 k4=>?_⟩;have k5:Kp G H G3 H3:=(k1.trans k3).trans k4;refine ⟨τ3,G3,_,rl3,h3,⟨λτ4 G4 h4 σ4 H4 rl4 k6=>⟨τ4,G4,rl4,(k3.trans k4).trans k6,h4⟩,af.rt.back k5,af.nx.back k5,λτ4 G4 h4 σ4 H4 rl4 k6=>⟨τ4,G4,rl4,(k3.trans k4).trans k6,h4⟩⟩⟩
  ·have e:i=items.length:=by omega
   subst e;rw [List.drop_length] at h';obtain ⟨_,_,stop⟩:=ok G' H' rl'.hp k' h'.1;exact .inl ⟨stop,af.nx τ' G' h'.2 σ' H' rl' (k1.trans k')⟩
def qaH {stay:Gp->Prop} {g:TG3} {tb:TS3} {d:Ends3} (items:List T) (Pv:Nat->St3->Gp->Prop) {τ:St3} {G:Gp} (h0:Pv 0 τ G) (hst:∀ i τ G,i<=items.length->Pv i τ G->stay G)
  (hs:∀ i x τ G (nx:St3->Gp->Prop),items[i]?=some x->Pv i τ G->(∀ τ G,Pv (i+1) τ G->nx τ G)->g x τ G λτ2 G2=>tb { d with nx:=nx,ct:=nx,bk:=d.nx } τ2 G2)
  (hd:∀ τ G,Pv items.length τ G->d.nx τ G):WS stay g tb d items τ G:=by
 have key:∀ (r:List T) (i:Nat) τ G,items.drop i=r->i<=items.length->Pv i τ G->WS stay g tb d r τ G:=by
  intro r;induction r with
  |nil=>
   intro i τ G e hi p;have:i=items.length:=by have:=congrArg List.length e;simp at this;omega
   subst this;exact ⟨hst _ τ G hi p,hd τ G p⟩
  |cons x r ih=>
   intro i τ G e hi p;have hl:i<items.length:=by
    apply Classical.byContradiction;intro z;rw [List.drop_eq_nil_of_le (by omega)] at e;cases e
   have e':=List.drop_eq_getElem_cons hl;rw [e] at e';injection e' with e1 e2;refine ⟨hst i τ G hi p,hs i x τ G _ (by rw [y9 hl,e1]) p λτ2 G2 p2=>ih (i+1) τ2 G2 e2.symm hl p2⟩
 exact key items 0 τ G (by simp) (Nat.zero_le _) h0
abbrev Sp3:=List T->Gp->Q3->Prop
def lSp (K:Frg) (sp:Sp3):Sp:=λvs H Q _=>∃ ts G q,HR K G H/\Rps K H ts vs/\sp ts G q/\Aft K G H q Q
def Fn3 (P:Program) (w:World) (K:Frg) (mg:Str->Option Value) (base:Heap) (k:Nat) (x:Str) (sp:Sp3):Prop:=
 ∃ f fd ps,FnOk P w K mg base CX0 k f fd ps (lSp K sp)/\U1 K fd ps []/\PySem.W.keepIn K (.ref f)=true/\mg x=some (.ref f)
theorem Fn3.mono {P:Program} {w:World} {K:Frg} {mg:Str->Option Value} {base:Heap} {j k:Nat} {x:Str} {sp:Sp3} (F:Fn3 P w K mg base j x sp) (h:j<=k):Fn3 P w K mg base k x sp:=
 let ⟨f,fd,ps,a,b,c,d⟩:=F;⟨f,fd,ps,a.mono h,b,c,d⟩
theorem Fn3.imp {P:Program} {w:World} {K:Frg} {mg:Str->Option Value} {base:Heap} {k:Nat} {x:Str} {sp sp':Sp3} (F:Fn3 P w K mg base k x sp) (h:∀ ts G q,sp' ts G q->sp ts G q):Fn3 P w K mg base k x sp':=
 let ⟨f,fd,ps,a,b,c,d⟩:=F;⟨f,fd,ps,a.imp λvs H Q E ⟨ts,G,q,h1,h2,h3,h4⟩=>⟨ts,G,q,h1,h2,h _ _ _ h3,h4⟩,b,c,d⟩
def qje {k:Nat} {x:Str} {p:Pos} {sp:Sp3} (F:Fn3 X.prog X.w X.K X.mg X.base k x sp) (hr:Room k X.A) (hg:Gl X x) (ha:A3 X (e::es) t) (hdb:(x==("__debug__" : Str))=false:=by decide)
  (he:starEach (e::es) X.env=(false,eval e X.env)::starEach es X.env:=by rfl) (hpl:(backTo pos (starEach es X.env)).any (·.1)=false:=by rfl):E3 X (.Call (.Name x p) (e::es) [] pos) (cb3 sp t):=by
 obtain ⟨f,fd,ps,F,b,kp,m⟩:=F;refine EQ (qe2 F hr hg m kp b .nil qjp ha hdb he hpl) λσ H Q ⟨τ,G,q,rl,h,af⟩=>QN rl h λxs G1 h1 vs H1 rs hr1 k1 rl1=>?_;rw [List.append_nil];exact ⟨xs,G1,q,hr1,rs,h1,af.back k1⟩
def qv (N:List Str) (ts:List T):St3:=ts.map some++List.replicate (N.length-ts.length) none
def U5 {K:Frg} {N:List Str} {G:Gp} {H:Hp} {ts:List T} {vs:List V} (hr:HR K G H) (rs:Rps K H ts vs):Rel K (qv N ts) G (L2.start N vs) H:=by
 refine ⟨hr,by simp [qv,L2.start,rs.length],λi t e=>?_⟩;unfold qv at e;by_cases hi:i<ts.length
 ·rw [List.getElem?_append_left (by simpa using hi),getElem?_map] at e;cases q:ts[i]? with
  |none=>rw [q] at e;cases e
  |some z=>
   rw [q] at e;have e':z=t:=by simpa using e
   subst e';obtain ⟨v,hv,r⟩:=rs.get q;refine ⟨v,?_,r⟩;unfold L2.start;rw [List.getElem?_append_left (by rw [length_map,← rs.length];exact hi),getElem?_map,hv];rfl
 ·rw [List.getElem?_append_right (by simpa using hi),List.getElem?_replicate] at e;split at e<;>cases e
def qjm {P:Program} {w:World} {K:Frg} {mg:Str->Option Value} {base:Heap} {x qual:Str} {st:Stmt} {f:Addr} {fd:FuncData} {N ps:List Str} {k:Nat} {sp:Sp3} {t3:TS3} (F:Fun K x qual st f fd) (S:FnScope N ps (qf st)) (bd:U1 K fd ps []) (hm:mg x=some (.ref f))
  (body:∀ (cdv:Value) (A:Around) (outer:List Env) (s:Shared) (H:Hp) (E:XK),Room k (A.deeper (envOfC qual (qf st) s.heap.objs.size f cdv)) ->
   B3 (LK CX0 P w K mg base N qual (qf st) f cdv A outer s H E).nox (qS st) t3)
  (read:∀ ts G q,sp ts G q->ts.length=ps.length/\t3 { nx:=λ_ G'=>q .non G',rt:=q } (qv N ts) G):Fn3 P w K mg base (k+1) x sp:=by
 refine ⟨f,fd,ps,F.ok S (λvs H Q E ⟨ts,G,q,h1,h2,h3,h4⟩=>by rw [← h2.length];exact (read ts G q h3).1) λcdv A outer s H vs Q E hr ⟨ts,G,q,h1,h2,h3,h4⟩=>?_,bd,F.kp,hm⟩;refine ⟨_,body cdv A outer s H E hr,qv N ts,G,_,U5 h1 h2,(read ts G q h3).2,⟨λτ' G' h' σ' H' rl' k'=>h4 _ G' h' _ H' .non rl'.hp k',h4,λ_ _ z=>z.elim,λ_ _ z=>z.elim⟩⟩
def qfI (xs:List T):Option Bool:=match xs with
 |[]=>some true
 |.bl k::r=>(match qfI r with|some j=>some (k&&j)|none=>none)
 |_=>none
def qlg (xs:List T):Option Bool:=match xs with
 |[]=>some false
 |.bl k::r=>(match qlg r with|some j=>some (k||j)|none=>none)
 |_=>none
def qce {P:Program} {w:World} {A:Around} {its:List Value} {ks:List Bool} (h:its=ks.map Value.bool):TruthOf P w A (λi v=>its.toArray[i]?=some v) (λi=>ks.getD i true):=by
 intro i v s Q E hp hq;subst h;have hp':ks[i]?.map Value.bool=some v:=by simpa using hp
 cases e:ks[i]? with
 |none=>rw [e] at hp';cases hp'
 |some k=>
  rw [e] at hp';cases hp';have:ks.getD i true=k:=by rw [getD_eq_getElem?_getD,e];rfl
  have hq:Q (ks.getD i true) s:=hq;rw [this] at hq;exact wpAny_truthy_bool hq
theorem EV:∀ {ks:List Bool} {us:List Value},qQ (ks.map V.bl) us->us=ks.map Value.bool
 |[],_,r=>by cases r;rfl
 |k::ks,_,r=>by
  cases r with
  |cons a b=>rw [show _=Value.bool k from a,EV b];rfl
def qaj (ks:List Bool):((List.range ks.length).all λi=>ks.getD i true)=ks.all id:=by
 induction ks with
 |nil=>rfl
 |cons k ks ih=>
  rw [length_cons,List.range_succ_eq_map,List.all_cons,List.all_map,List.all_cons];congr 1
def EH (hc:X.calm=true):ZD X (.builtin "all") (λxs H Q=>∃ (p:Addr) (ks:List Bool),xs=[.ref p]/\SqL X.K H p (ks.map V.bl)/\Q (.bl (ks.all id)) H):=by
 intro pins s σ H xs us Q I r h;obtain ⟨p,ks,rfl,hq,q⟩:=h;obtain ⟨u,rfl,rp⟩:=WB r;cases (show u=Value.ref p from rp);obtain ⟨its,rv,pl,hz⟩:=I.list hq;have hb:=EV rv;have hlen:its.length=ks.length:=by rw [hb];simp
 have hp:p<s.heap.objs.size:=by obtain ⟨o,n,e,_⟩:=pl;exact y4 e
 refine call_all_walk (wpAny_pyIter_list pl.isList ⟨s.heap.objs.size,_,_,_,_,_,λi=>ks.getD i true,rfl,Walks.list (A:=X.A.in1) (show X.A.in1.handled=none from I.ok.hd hc) s.heap.objs.size p (u4 hp) its.toArray,⟨⟨_,y3 _ rfl,rfl,rfl⟩,?_⟩,qce hb,λh' tk hk=>?_⟩)
 ·obtain ⟨o,n,e,c,_,d⟩:=pl;exact ⟨o,y2 _ e,c,n,d⟩
 ·refine ⟨.bl _,H,?_,rfl,by rw [size_toArray,hlen,qaj];exact q⟩;exact I.kept (h':=h') (t':=tk) λb o e=>hk b o (by simp;exact u4 (y4 e)) (y2 _ e)
end
def clos (env:Env):List (Str×NameKind)->List (Str×Addr)->List (Str×Addr)
 |[],cs=>cs
 | (n,k)::r,cs=>if k=.free then clos env r ((n,(env.cells.lookup n).getD 0)::cs) else clos env r cs
def j9 {scope:Scope} {env:Env} (h:∀ y∈scope.names,y.2=.free->∃ c,env.cells.lookup y.1=some c):closureFor scope env=pure (clos env scope.names []):=by
 have key:∀ (l:List (Str×NameKind)) (cs:List (Str×Addr)),(∀ y∈l,y.2=.free->∃ c,env.cells.lookup y.1=some c) ->
   (forIn l cs λ(x:Str×NameKind) (r:List (Str×Addr))=>if (x.2==NameKind.free)=true then (do let a←cellOf env x.1;pure (ForInStep.yield ((x.1,a)::r))) else pure (ForInStep.yield r))=(pure (clos env l cs):Sem _):=by
  intro l;induction l with
  |nil=>intro cs _;rfl
  |cons y r ih=>
   intro cs hl;obtain ⟨n,k⟩:=y;rw [List.forIn_cons];by_cases hk:k=.free
   ·subst hk;obtain ⟨c,hc⟩:=hl (n,.free) u6 rfl;have e:cellOf env n=pure c:=by unfold cellOf;rw [show List.lookup n env.cells=some c from hc]
    simp only [beq_self_eq_true,if_true];rw [e,pure_bind,pure_bind];show forIn r ((n,c)::cs) _=_;rw [ih _ λz hz=>hl z (v6 _ hz)];show _=(pure (if NameKind.free=NameKind.free then clos env r ((n,(env.cells.lookup n).getD 0)::cs) else clos env r cs):Sem _);rw [if_pos rfl,show List.lookup n env.cells=some c from hc];rfl
   ·have hb:(k==NameKind.free)=false:=by cases k<;>first|rfl|exact absurd rfl hk
    simp only [hb,Bool.false_eq_true,if_false];rw [pure_bind];show forIn r cs _=_;rw [ih _ λz hz=>hl z (v6 _ hz)];show _=(pure (if k=NameKind.free then clos env r ((n,(env.cells.lookup n).getD 0)::cs) else clos env r cs):Sem _);rw [if_neg hk]
 have:=key scope.names [] h;unfold closureFor;refine Eq.trans ?_ this;exact bind_pure (m:=Sem) _
theorem QA {env:Env}:∀ (l:List (Str×NameKind)) (cs:List (Str×Addr)) (x:Str) (c:Addr),(∀ y∈l,y.2=.free->∃ c,env.cells.lookup y.1=some c) ->
  (∀ x c,cs.lookup x=some c->env.cells.lookup x=some c)->(clos env l cs).lookup x=some c->env.cells.lookup x=some c
 |[],_,_,_,_,h,e=>h _ _ e
 | (n,k)::r,cs,x,c,hl,h,e=>by
  unfold clos at e;split at e
  ·rename_i hk;refine QA r _ x c (λy hy=>hl y (v6 _ hy)) (λx c e=>?_) e;rw [List.lookup_cons] at e;split at e
   ·rename_i hx;have hx':x=n:=by simpa using hx
    subst hx';obtain ⟨d,hd⟩:=hl (x,k) u6 hk;have hd:List.lookup x env.cells=some d:=hd;rw [hd] at e ⊢;exact e
   ·exact h _ _ e
  ·exact QA r cs x c (λy hy=>hl y (v6 _ hy)) h e
theorem JC {env:Env}:∀ (l:List (Str×NameKind)) (cs:List (Str×Addr)) (x:Str),((x,NameKind.free)∈l\/∃ c,cs.lookup x=some c)->∃ c,(clos env l cs).lookup x=some c
 |[],_,_,h=>by
  rcases h with h|h
  ·simp at h
  ·exact h
 | (n,k)::r,cs,x,h=>by
  unfold clos;have put:∀ d:Addr,(x=n\/∃ c,cs.lookup x=some c)->∃ c,((n,d)::cs).lookup x=some c:=λd z=>by
   rw [List.lookup_cons];cases hx:x==n with
   |true=>exact ⟨d,rfl⟩
   |false=>
    rcases z with z|z
    ·rw [z] at hx;simp at hx
    ·exact z
  split
  ·rename_i hk;refine JC r _ x ?_;rcases h with h|h
   ·rcases mem_cons.mp h with e|e
    ·cases e;exact .inr (put _ (.inl rfl))
    ·exact .inl e
   ·exact .inr (put _ (.inr h))
  ·rename_i hk;refine JC r _ x ?_;rcases h with h|h
   ·rcases mem_cons.mp h with e|e
    ·cases e;exact absurd rfl hk
    ·exact .inl e
   ·exact .inr h
theorem WW {env:Env}:∀ (l:List (Str×NameKind)) (cs:List (Str×Addr)) (x:Str) (c:Addr),(clos env l cs).lookup x=some c->(x,NameKind.free)∈l\/cs.lookup x=some c
 |[],_,_,_,e=>.inr e
 | (n,k)::r,cs,x,c,e=>by
  unfold clos at e;split at e
  ·rename_i hk;rcases WW r _ x c e with z|z
   ·exact .inl (v6 _ z)
   ·rw [List.lookup_cons] at z;split at z
    ·rename_i hx;have hx':x=n:=by simpa using hx
     subst hx';subst hk;exact .inl u6
    ·exact .inr z
  ·rcases WW r cs x c e with z|z
   ·exact .inl (v6 _ z)
   ·exact .inr z
theorem jF {α:Type}:∀ (xs ys:List (Str×α)) (x:Str),(xs++ys).lookup x=(match xs.lookup x with|some c=>some c|none=>ys.lookup x)
 |[],ys,x=>rfl
 | (n,c)::xs,ys,x=>by
  rw [cons_append,List.lookup_cons,List.lookup_cons];cases x==n with
  |true=>rfl
  |false=>exact jF xs ys x
theorem zD:∀ (l:List (Str×NameKind)) {n:Nat} {acc:List (Str×Addr)},cellsFrom n l acc=cellsFrom n l []++acc
 |[],_,_=>rfl
 | (x,k)::r,n,acc=>by
  unfold cellsFrom;split
  ·rw [zD r (acc:=(x,n)::acc),zD r (acc:=[(x,n)]),List.append_assoc];rfl
  ·exact zD r
theorem jM:∀ (l:List (Str×NameKind)) (n:Nat) (acc:List (Str×Addr)) (x:Str) (c:Addr),(x,c)∈cellsFrom n l acc->(x,NameKind.cell)∈l\/(x,c)∈acc
 |[],_,_,_,_,h=>.inr h
 | (y,k)::r,n,acc,x,c,h=>by
  unfold cellsFrom at h;split at h
  ·rename_i hk;have hk:k=.cell:=by simpa using hk
   rcases jM r _ _ x c h with z|z
   ·exact .inl (v6 _ z)
   ·rcases mem_cons.mp z with e|e
    ·cases e;subst hk;exact .inl u6
    ·exact .inr e
  ·rcases jM r _ _ x c h with z|z
   ·exact .inl (v6 _ z)
   ·exact .inr z
theorem zY:∀ (l:List (Str×NameKind)) (n:Nat) (acc:List (Str×Addr)) (x:Str),((x,NameKind.cell)∈l\/∃ c,acc.lookup x=some c)->∃ c,(cellsFrom n l acc).lookup x=some c
 |[],_,_,_,h=>by
  rcases h with h|h
  ·simp at h
  ·exact h
 | (y,k)::r,n,acc,x,h=>by
  unfold cellsFrom;have put:(x=y\/∃ c,acc.lookup x=some c)->∃ c,((y,n)::acc).lookup x=some c:=λz=>by
   rw [List.lookup_cons];cases hx:x==y with
   |true=>exact ⟨n,rfl⟩
   |false=>
    rcases z with z|z
    ·rw [z] at hx;simp at hx
    ·exact z
  split
  ·refine zY r _ _ x ?_;rcases h with h|h
   ·rcases mem_cons.mp h with e|e
    ·cases e;exact .inr (put (.inl rfl))
    ·exact .inl e
   ·exact .inr (put (.inr h))
  ·rename_i hk;refine zY r _ _ x ?_;rcases h with h|h
   ·rcases mem_cons.mp h with e|e
    ·cases e;exact absurd rfl hk
    ·exact .inl e
   ·exact .inr h
def QF {M:Model} {A:Around} {E:Value->Shared->Prop} {s:Shared} {scope:Scope} {globals:Addr} {cl:List (Str×Addr)} {qual:Str} {env:Env} {Q:Env->Shared->Prop}
  (hQ:∀ h₁:Heap,h₁.Ns s.heap.objs.size (λ_=>none)->(∀ b o,s.heap.get? b=some o->h₁.get? b=some o)->CellsOk h₁ (s.heap.objs.size+1) (cellsFrom (s.heap.objs.size+1) scope.names [])->Q (newEnv scope s.heap.objs.size globals (cellsFrom (s.heap.objs.size+1) scope.names cl) qual none .none (some env) builtinsNs) { s with heap:=h₁ }) :
  wpAny M A (newFunctionEnv scope globals cl [] qual none .none (some env)) Q E s:=by
 simp only [newFunctionEnv,Option.isSome_some,if_true];refine x8 (wpAny_alloc ?_);refine x8 (wpAny_layCells _ (λname kind cells=>by cases hkc:kind==NameKind.cell<;>simp [hkc]) _ _ _ _ ?_);have ok:=cellsFrom_ok scope.names (s.heap.push { cls:=.type "dict",data:=.dict #[] }) (s.heap.objs.size+1) [] ⟨λ_ _ hm=>(nomatch hm),List.Pairwise.nil⟩ (by rw [Heap.size_push];exact v5 _);rw [Heap.size_push] at ok;rw [show ({ s with heap:=s.heap.push { cls:=.type "dict",data:=.dict #[] } }:Shared).heap.objs.size=s.heap.objs.size+1 from Heap.size_push ..];rw [List.forIn_nil];refine x8 (x9 (x9 ?_));exact hQ _ ((Heap.Ns.new s.heap (.type "dict")).keeps (pushCells_keeps _ _)) (λb o e=>pushCells_keeps _ _ b o (y2 _ e)) ok
def ql (X:Cx) (N':List Str) (scope:Scope) (s:Shared) (H:Hp) (fp:List Addr):Cx where
 prog:=X.prog
 w:=X.w
 K:=X.K
 mg:=X.mg
 base:=X.base
 A:=X.A
 N:=N'
 s₀:=s
 H₀:=H
 env:=compEnvC scope (cellsFrom (s.heap.objs.size+1) scope.names (clos X.env scope.names [])) s.heap.objs.size X.env
 outer:=X.stack
 stack:=X.stack
 ex:=fp
 fn:=λx=>scope.names.lookup x==some .cell
 calm:=true
 pn:=[]
 xe:=λ_ _=>False
def qcW (outer inner:Scope):Bool:=(inner.kind==.function)&&inner.names.all λy=>
 (y.2 != .cell||inner.names.lookup y.1==some .cell)&&(y.2 != .local||inner.names.lookup y.1==some .local)&&(y.2 != .free||(inner.names.lookup y.1==some .free&&(outer.names.lookup y.1==some .cell||outer.names.lookup y.1==some .free)))
def cap {α:Type} (m:List (Option Nat)) (σ:List (Option α)):List (Option α):=m.map λo=>match o with|some j=>(σ[j]?).join|none=>none
def UK (N N':List Str) (scope:Scope) (m:List (Option Nat)):Bool:=(m.length==N'.length)&&(m.zip N').all λp=>match p.1 with
 |none=>true
 |some j=>N[j]?==some p.2&&scope.names.lookup p.2==some .free
def N9 {α:Type} {m:List (Option Nat)} {σ:List (Option α)} {i:Nat} {v:α} (h:(cap m σ)[i]?=some (some v)):∃ j,m[i]?=some (some j)/\σ[j]?=some (some v):=by
 unfold cap at h;rw [getElem?_map] at h;cases e:m[i]? with
 |none=>rw [e] at h;cases h
 |some o=>
  rw [e] at h;cases o with
  |none=>cases h
  |some j=>
   refine ⟨j,rfl,?_⟩;have h':(σ[j]?).join=some v:=by simpa using h
   cases q:σ[j]? with
   |none=>rw [q] at h';cases h'
   |some z=>rw [q] at h';exact congrArg some h'
def qaV {N N':List Str} {scope:Scope} {m:List (Option Nat)} (h:UK N N' scope m=true) {i j:Nat} {x:Str} (e:m[i]?=some (some j)) (hx:N'[i]?=some x):N[j]?=some x/\scope.names.lookup x=some .free:=by
 unfold UK at h;rw [Bool.and_eq_true] at h;have hm:(some j,x)∈m.zip N':=v9 (i:=i) (List.getElem?_zip_eq_some.mpr ⟨e,hx⟩);have:=List.all_eq_true.mp h.2 _ hm;simp only [Bool.and_eq_true,beq_iff_eq] at this;exact this
def qew {N N':List Str} {scope:Scope} {m:List (Option Nat)} {α:Type} (σ:List (Option α)) (h:UK N N' scope m=true):(cap m σ).length=N'.length:=by
 unfold UK at h;rw [Bool.and_eq_true] at h;unfold cap;rw [length_map];simpa using h.1
structure ScFacts (outer inner:Scope):Prop where
 kind:inner.kind=.function
 own:∀ y∈inner.names,y.2=.cell->inner.names.lookup y.1=some .cell
 loc:∀ y∈inner.names,y.2=.local->inner.names.lookup y.1=some .local
 free:∀ y∈inner.names,y.2=.free->inner.names.lookup y.1=some .free/\(outer.names.lookup y.1=some .cell\/outer.names.lookup y.1=some .free)
def DL {outer inner:Scope} (h:qcW outer inner=true):ScFacts outer inner:=by
 unfold qcW at h;rw [Bool.and_eq_true] at h;have ha:=List.all_eq_true.mp h.2;refine ⟨by simpa using h.1,λy hy e=>?_,λy hy e=>?_,λy hy e=>?_⟩
 ·have:=ha y hy;rw [e] at this;simpa using this
 ·have:=ha y hy;rw [e] at this;simpa using this
 ·have:=ha y hy;rw [e] at this;simpa using this
def jy {scope:Scope} {env:Env} {x:Str} {k:NameKind} (h:(relabel scope env).names.lookup x=some k):scope.names.lookup x=some k\/(k=.cell/\scope.names.lookup x=some .free):=by
 have key:∀ (l:List (Str×NameKind)),(l.map λ(n,k)=>if (k==NameKind.free&&env.scope.kind==.function&&env.kindOf n==some .cell) then (n,NameKind.cell) else (n,k)).lookup x=some k->l.lookup x=some k\/(k=.cell/\l.lookup x=some .free):=by
  intro l;induction l with
  |nil=>intro h;simp at h
  |cons y r ih=>
   intro h;obtain ⟨n,j⟩:=y;rw [map_cons] at h;dsimp only at h;by_cases hc:(j==NameKind.free&&env.scope.kind==.function&&env.kindOf n==some .cell)=true
   ·rw [if_pos hc,List.lookup_cons] at h;rw [List.lookup_cons];cases hx:x==n with
    |true=>
     rw [hx] at h;have hk:NameKind.cell=k:=by simpa using h
     have hj:j=.free:=by simp only [Bool.and_eq_true,beq_iff_eq] at hc;exact hc.1.1
     exact .inr ⟨hk.symm,by rw [hj]⟩
    |false=>rw [hx] at h;exact ih h
   ·rw [if_neg hc,List.lookup_cons] at h;rw [List.lookup_cons];cases hx:x==n with
    |true=>rw [hx] at h;exact .inl h
    |false=>rw [hx] at h;exact ih h
 exact key scope.names h
def PF (X:Cx) (ifs:List Expr) (t:TT):Prop:=
 ∀ (pins:List (Addr×Obj)) (s:Shared) (σ:L2.St) (H:Hp) (Q:Bool->Hp->Prop),Inv X pins σ H s->t σ H Q ->
  wpAny (model X.prog X.w) X.A (forIn ifs true λc r=>if r=true then do let ok←isTrue c X.env (eval c X.env);pure (ForInStep.yield ok) else pure (ForInStep.yield r)) (TP X pins σ Q) X.xe s
def qfU {X:Cx}:PF X [] (λ_ H Q=>Q true H):=λ_ _ _ H _ I h=>wpAny_tests_nil ⟨H,I,h⟩
section
variable {X:Cx} {pins:List (Addr×Obj)} {σ:L2.St} {H:Hp} {s:Shared}
def TW {N':List Str} {scope:Scope} {fp:List Addr} {m:List (Option Nat)} {h1:Heap} {mm:Str->Option Value} (hc:X.calm=true) (I:Inv X pins σ H s) (sc:ScFacts X.env.scope scope) (hcap:UK X.N N' scope m=true)
  (hfp:∀ b∈fp,LB X pins H b) (hob:∀ b∈fp,∃ o,s.heap.get? b=some o) (hns:h1.Ns s.heap.objs.size mm) (hk:∀ b o,s.heap.get? b=some o->h1.get? b=some o) (hown:CellsOk h1 (s.heap.objs.size+1) (cellsFrom (s.heap.objs.size+1) scope.names [])) :
  Inv (ql X N' scope s H fp) [] (cap m σ) H { s with heap:=h1 }:=by
 have hcl:∀ y∈scope.names,y.2=.free->∃ c,X.env.cells.lookup y.1=some c:=λy hy e=>by
  rcases (sc.free y hy e).2 with z|z
  ·exact I.ok.has y.1 (.inl z)
  ·exact I.ok.has y.1 (.inr z)
 have cl:∀ x c,(clos X.env scope.names []).lookup x=some c->X.env.cells.lookup x=some c:=λx c e=>QA scope.names [] x c hcl (λ_ _ z=>by simp at z) e;have clt:∀ x c,(clos X.env scope.names []).lookup x=some c->c<s.heap.objs.size:=λx c e=>by
  obtain ⟨v,q⟩:=I.cell x c (cl x c e);exact q.lt
 -- a cell of the block: its own,or one from around
 have cs:∀ x c,(cellsFrom (s.heap.objs.size+1) scope.names (clos X.env scope.names [])).lookup x=some c->((x,c)∈cellsFrom (s.heap.objs.size+1) scope.names []/\s.heap.objs.size+1<=c/\h1.IsCell c none)\/(clos X.env scope.names []).lookup x=some c:=λx c e=>by
  rw [zD,jF] at e;cases q:(cellsFrom (s.heap.objs.size+1) scope.names []).lookup x with
  |none=>rw [q] at e;exact .inr e
  |some d=>
   rw [q] at e;cases e;have mem:=PySem.mem_of_lookup q;exact .inl ⟨mem,(hown.empty x _ mem).2,(hown.empty x _ mem).1⟩
 have fpne:∀ b∈fp,b≠s.heap.objs.size:=λb hb=>let ⟨o,e⟩:=hob b hb;u4 (y4 e)
 refine ⟨⟨I.ok.mod,sc.kind,I.ok.glob,I.ok.blt,v5 _,λx y c e1 e2=>?_,λx hx=>?_,λx c hf e=>?_,λ_=>I.ok.hd hc,I.ok.frames,.inl rfl,λb hb=>⟨fpne b hb,λx c e=>?_⟩,I.bs,u3 I.ok.bsz I.sz,λb o e hb=>?_,λb hb z=>?_,I.stack,I.stkFree⟩,
  rfl,I.bare,Un.kept hk,⟨mm,hns,λi x v e1 e2 e3=>?_⟩,λx c e=>?_,I.fresh,λx c e=>?_,λp hp=>absurd (show p∈([]:List (Addr×Obj)) from hp) (by simp),I.hok.kept hk,qew σ hcap⟩
 ·rcases cs x c e1 with ⟨m1,l1,_⟩|z1<;>rcases cs y c e2 with ⟨m2,l2,_⟩|z2
  ·exact PySem.name_of_addr hown.apart m1 m2
  ·exact absurd (clt y c z2) (Nat.not_lt.mpr (u3 (Nat.le_succ _) l1))
  ·exact absurd (clt x c z1) (Nat.not_lt.mpr (u3 (Nat.le_succ _) l2))
  ·exact I.ok.inj x y c (cl x c z1) (cl y c z2)
 ·have hx:(relabel scope X.env).names.lookup x=some .cell\/(relabel scope X.env).names.lookup x=some .free:=hx;have hf:scope.names.lookup x=some .cell\/scope.names.lookup x=some .free:=by
   rcases hx with z|z
   ·rcases jy z with q|⟨_,q⟩
    ·exact .inl q
    ·exact .inr q
   ·rcases jy z with q|⟨q,_⟩
    ·exact .inr q
    ·cases q
  show ∃ c,(cellsFrom (s.heap.objs.size+1) scope.names (clos X.env scope.names [])).lookup x=some c;rcases hf with hf|hf
  ·exact zY scope.names _ _ x (.inl (PySem.mem_of_lookup hf))
  ·exact zY scope.names _ _ x (.inr (JC scope.names [] x (.inl (PySem.mem_of_lookup hf))))
 ·have hf:scope.names.lookup x=some .cell:=by simpa [ql] using hf
  rcases cs x c e with ⟨_,l1,_⟩|z1
  ·exact u3 (Nat.le_succ _) l1
  ·rcases WW scope.names [] x c z1 with q|q
   ·rw [(sc.free _ q rfl).1] at hf;cases hf
   ·simp at q
 ·rcases cs x c e with ⟨_,l1,_⟩|z1
  ·obtain ⟨o,eo⟩:=hob b hb;exact Nat.ne_of_gt (v8 (y4 eo) (u3 (Nat.le_succ _) l1))
  ·exact (hfp b hb).2.2.2.2.1 x c (cl x c z1)
 ·rcases (hfp b hb).2.2.2.1 with z|z
  ·exact I.ok.noex b o e z
  ·exact absurd (v8 (y4 e) (u3 I.ok.bsz z)) (Nat.lt_irrefl _)
 ·rcases mem_cons.mp (I.stkSub b z) with q|q
  ·exact (hfp b hb).2.1 q
  ·exact (hfp b hb).2.2.1 q
 ·obtain ⟨j,ej,es⟩:=N9 e2;obtain ⟨hN,hfr⟩:=qaV hcap ej e1;have mem:=PySem.mem_of_lookup hfr;have ho:=(sc.free _ mem rfl).2;obtain ⟨m0,hn0,hl0⟩:=I.loc;obtain ⟨u,ru,lk⟩:=hl0 j x v hN es (ho.elim (λz=>.inr (.inl z)) λz=>.inr (.inr z));refine ⟨u,ru,.inr ⟨?_,?_⟩⟩
  ·rcases e3 with z|z|z
   ·rcases jy z with q|⟨q,_⟩
    ·rw [hfr] at q;cases q
    ·cases q
   ·exact .inl z
   ·exact .inr z
  ·rcases lk with ⟨z,_⟩|⟨_,c,hc',hcell⟩
   ·have z:X.env.scope.names.lookup x=some .local:=z;rcases ho with q|q<;>(rw [z] at q;cases q)
   ·obtain ⟨c',hc2⟩:=JC (env:=X.env) scope.names [] x (.inl mem);have e:=cl x c' hc2;rw [hc'] at e;cases e;obtain ⟨o,eo,d⟩:=hcell;refine ⟨c,?_,o,hk c o eo,d⟩;show (cellsFrom (s.heap.objs.size+1) scope.names (clos X.env scope.names [])).lookup x=some c;rw [zD,jF];cases q:(cellsFrom (s.heap.objs.size+1) scope.names []).lookup x with
    |none=>exact hc2
    |some d=>
     rcases jM scope.names _ [] x d (PySem.mem_of_lookup q) with z|z
     ·rw [sc.own _ z rfl] at hfr;cases hfr
     ·simp at z
 ·rcases cs x c e with ⟨_,_,z⟩|z1
  ·exact ⟨none,z⟩
  ·obtain ⟨v,o,eo,d⟩:=I.cell x c (cl x c z1);exact ⟨v,o,hk c o eo,d⟩
 ·rcases cs x c e with ⟨_,l1,_⟩|z1
  ·exact I.hok.fresh (u3 (Nat.le_succ _) l1)
  ·exact I.freeC x c (cl x c z1)
def DP {N':List Str} {scope:Scope} {fp:List Addr} {pins':List (Addr×Obj)} {σ':L2.St} {H':Hp} {s':Shared} {h2:Heap} (I:Inv X pins σ H s) (hfp:∀ b∈fp,LB X pins H b) (J:Inv (ql X N' scope s H fp) pins' σ' H' s')
  (sb:Heap.SameBut s.heap.objs.size s'.heap h2):Inv X pins σ H' { s' with heap:=h2 }:=by
 have ne:∀ b o,s.heap.get? b=some o->b≠s.heap.objs.size:=λb o e=>u4 (y4 e);have g:∀ b,b≠s.heap.objs.size->h2.get? b=s'.heap.get? b:=λb hb=>sb.2 b hb;have hn:H' s.heap.objs.size=none:=J.free;have u:Un (frs X.stack) fp H H' s.heap s'.heap:=J.base;refine I.call' (s':={ s' with heap:=h2 }) J.os ⟨λb o e n hb hx=>?_,λb o e n hb hx=>?_,u.free,λb o e hx=>?_,u.tups,u.frzs,u.tbls⟩ (λa o e=>?_) J.bare λb hb=>⟨(hfp b hb).2.2.2.1,(hfp b hb).2.1,(hfp b hb).2.2.2.2.1,(hfp b hb).2.2.2.2.2⟩
 ·show h2.get? b=_;rw [g b (ne b o e)];exact u.keep b o e n hb hx
 ·show ∃ sl,h2.get? b=_;rw [g b (ne b o e)];exact u.slot b o e n hb hx
 ·show ∃ o',h2.get? b=_;rw [g b (ne b o e)];exact u.there b o e hx
 ·refine (J.hok a o e).stay (λb v hb q=>?_) (λ_ q=>q) λ_ _ q=>q;have hb':b≠s.heap.objs.size:=by
   intro z;subst z;rcases hb with z|z
   ·rw [← z] at e;rw [hn] at e;cases e
   ·rw [hn] at z;cases z
  rw [g b hb'];exact q
end
def tLC (wi:TI) (g:TG) (tif:TT) (te:TE) (m:List (Option Nat)):TE:=λσ H Q=>wi σ H λJ H1=>∀ D,H1 D=none ->
 ∃ W:Nat->Nat->L2.St->Hp->Prop,(∃ n,W 0 n (cap m σ) (upd H1 D (.lst [])))/\∀ i n σ H,W i n σ H ->
  (J.stop i H/\Q (.ref D) H)\/(J.go i H/\∀ x H',J.yld i H x H'->g x σ H' λσ2 H2=>tif σ2 H2 λk H3=>
   if k=true then te σ2 H3 λy H4=>∃ zs,H4 D=some (.lst zs)/\zs.length<sizeLine/\∃ n',n'<n/\W (i+1) n' σ2 (upd H4 D (.lst (zs++[y])))
   else ∃ n',n'<n/\W (i+1) n' σ2 H3)
section
variable {X:Cx}
def qlm {elt tg iter:Expr} {ifs:List Expr} {scope:Scope} {pos:Pos} {N':List Str} {m:List (Option Nat)} {wi:TI} {g:TG} {tif:TT} {te:TE} (hc:X.calm=true) (hi:PI X tg iter wi)
  (hg:∀ s H fp,PG (ql X N' scope s H fp) tg g) (hf:∀ s H fp,PF (ql X N' scope s H fp) ifs tif) (he:∀ s H fp,PE (ql X N' scope s H fp) elt te)
  (hsc:qcW X.env.scope scope=true) (hcap:UK X.N N' scope m=true) (hs:∀ x,foldedSetIterable iter X.env x=pure x:=by intro _;rfl) :
  PE X (.ListComp elt [⟨tg,iter,ifs,0⟩] scope pos) (tLC wi g tif te m):=by
 intro pins s σ H Q I h;have sc:=DL hsc;have hcl:∀ y∈scope.names,y.2=.free->∃ c,X.env.cells.lookup y.1=some c:=λy hy e=>by
  rcases (sc.free y hy e).2 with z|z
  ·exact I.ok.has y.1 (.inl z)
  ·exact I.ok.has y.1 (.inr z)
 rw [eval_ListComp];refine wpAny_comprehension_free (use:=none) (g:=⟨tg,iter,ifs,0⟩) (gs:=[]) rfl hs (j9 hcl) sc.kind sc.loc ?_;show wpAny _ _ (eval iter X.env) _ _ s;refine thn (hi pins s σ H _ I h) λv s1 h1=>thn h1 λitv s2 h2=>?_;obtain ⟨it,fp,tn,J,H2,rfl,I2,T,st2,f2,hW⟩:=h2;refine wpAny_newObj_type ?_;have hD:H2 s2.heap.objs.size=none:=I2.fresh;obtain ⟨W,⟨n0,w0⟩,turn⟩:=hW _ hD;generalize hDe:s2.heap.objs.size=D at *;have I3:Inv X pins σ (upd H2 D (.lst [])) { s2 with heap:=s2.heap.push { cls:=.type "list",dict:=none,data:=.seq ([]:List Value).toArray } }:=by
  subst hDe;exact I2.laid (t':=s2.toks) (λb u e=>y2 _ e) (v5 _) ⟨Nat.zero_le _,[],0,.nil,y3 _ rfl⟩
 have ob2:=T.obj 0 _ st2;have ob3:∀ b∈fp,∃ o,(s2.heap.push { cls:=.type "list",dict:=none,data:=.seq ([]:List Value).toArray }).get? b=some o:=λb hb=>let ⟨o,e,_⟩:=ob2 b hb;⟨o,y2 _ e⟩
 have f3:∀ b∈fp,LB X pins (upd H2 D (.lst [])) b:=λb hb=>by
  obtain ⟨o,e,_⟩:=ob2 b hb;have:b≠D:=by rw [← hDe];exact u4 (y4 e)
  exact ⟨by rw [qm this];exact (f2 b hb).1,(f2 b hb).2⟩
 have k23:∀ b o,s2.heap.get? b=some o->(s2.heap.push { cls:=.type "list",dict:=none,data:=.seq ([]:List Value).toArray }).get? b=some o:=λb o e=>y2 _ e;generalize hH3:upd H2 D (.lst [])=H3 at *;generalize hs3:({ s2 with heap:=s2.heap.push { cls:=.type "list",dict:=none,data:=.seq ([]:List Value).toArray } }:Shared)=s3 at *;have ob3:∀ b∈fp,∃ o,s3.heap.get? b=some o:=by rw [← hs3];exact ob3
 have k23:∀ b o,s2.heap.get? b=some o->s3.heap.get? b=some o:=by rw [← hs3];exact k23
 refine QF λh₁ hns hk hown=>?_;have I4:Inv (ql X N' scope s3 H3 fp) [] (cap m σ) H3 { s3 with heap:=h₁ }:=TW hc I3 sc hcap f3 ob3 hns hk hown;have tn4:tn 0 h₁:=T.keep _ _ _ st2 λb hb o e=>hk b o (k23 b o e);have fr4:∀ b∈fp,H3 b=none:=λb hb=>(f3 b hb).1;have stat:∀ {H':Hp},(∀ b∈fp,H' b=none)->∀ b∈fp,LB (ql X N' scope s3 H3 fp) [] H' b:=λhn b hb=>by
  refine ⟨hn b hb,I4.ok.exf b hb |>.1,I4.ok.exfs b hb,.inl hb,λx c e=>(I4.ok.exf b hb).2 x c e,λp hp=>absurd (show p∈([]:List (Addr×Obj)) from hp) (by simp)⟩
 show codeAny (model X.prog X.w) X.A (.compStart (.ListComp elt [⟨tg,iter,ifs,0⟩] scope pos) 0 (.ref it) (.ref D) (ql X N' scope s3 H3 fp).env) (compPost (model X.prog X.w) X.A X.xe none (EP X pins σ Q) (.ref D) s3.heap.objs.size) { s3 with heap:=h₁ };have loop:codeAny (model X.prog X.w) X.A (.compLoop (.ListComp elt [⟨tg,iter,ifs,0⟩] scope pos) 0 (.ref it) (.ref D) (ql X N' scope s3 H3 fp).env) (compPost (model X.prog X.w) X.A X.xe none (EP X pins σ Q) (.ref D) s3.heap.objs.size) { s3 with heap:=h₁ }:=by
  refine codeAny_loop rfl (λn s'=>∃ i σ' H',Inv (ql X N' scope s3 H3 fp) [] σ' H' s'/\tn i s'.heap/\(∀ b∈fp,H' b=none)/\W i n σ' H') (λn s' hI=>?_) n0 ⟨0,cap m σ,H3,I4,tn4,fr4,w0⟩;show wpAny _ X.A ((compTurn (.ListComp elt [⟨tg,iter,ifs,0⟩] scope pos) 0 (.ref it) (.ref D) (ql X N' scope s3 H3 fp).env).onRaise (λx=>do noteFrame x (ql X N' scope s3 H3 fp).env;theTreesLotGoes x)) _ _ s';refine wpAny_noted ?_;rw [compTurn_list];refine x8 (wpAny_standAt (x8 ?_));obtain ⟨i,σ5,H5,I5,st5,fr5,w5⟩:=hI;rcases turn i n σ5 H5 w5 with ⟨stop,q⟩|⟨go,step⟩
  ·refine thn (T.done (ql X N' scope s3 H3 fp) rfl rfl rfl rfl i [] s' σ5 H5 _ I5 (stat fr5) st5 stop) λr s6 ⟨hr,I6⟩=>?_;subst hr;refine x9 ?_;obtain ⟨mm,hn6,_⟩:=I6.loc;exact ⟨mm,hn6,λh' sb=>⟨.ref D,H5,DP I3 f3 I6 sb,rfl,q⟩⟩
  ·refine thn (T.item (ql X N' scope s3 H3 fp) rfl rfl rfl rfl i [] s' σ5 H5 _ I5 (stat fr5) st5 go) λr s6 ⟨u,hr,h6⟩=>?_;subst hr;refine x8 (thn h6 λ_ s7 ⟨x,H7,I7,r7,y7,st7,fr7⟩=>?_);have I7':=I7.pinned (stat fr7) (T.obj _ _ st7);have again:∀ {σ8:L2.St} {H8:Hp} {s8:Shared},Inv (ql X N' scope s3 H3 fp) ([]++UW fp s7.heap) σ8 H8 s8->(∃ n',n'<n/\W (i+1) n' σ8 H8) ->
     ∃ m',m'<n/\∃ i σ' H',Inv (ql X N' scope s3 H3 fp) [] σ' H' s8/\tn i s8.heap/\(∀ b∈fp,H' b=none)/\W i m' σ' H':=λ{σ8 H8 s8} I8 ⟨n',hn,w8⟩=>by
    refine ⟨n',hn,i+1,σ8,H8,I8.unpinned,T.keep _ _ _ st7 λb hb o e=>(I8.pin (b,o) (v7 _ (v7 _ (zA hb e)))).1,λb hb=>?_,w8⟩;obtain ⟨o,e,d⟩:=T.obj _ _ st7 b hb;exact (I8.pin (b,o) (v7 _ (v7 _ (zA hb e)))).2.1
   refine x8 (y0 (hg s3 H3 fp _ s7 σ5 H7 x u _ I7' r7 (step x H7 y7)) (λ_ s8 ⟨σ8,H8,I8,q8⟩=>?_) λ_ _ z=>z.elim);refine x8 (y0 (hf s3 H3 fp _ s8 σ8 H8 _ I8 q8) (λk s9 ⟨H9,I9,q9⟩=>?_) λ_ _ z=>z.elim);cases k with
   |false=>
    rw [if_neg y6] at q9;exact x9 ⟨rfl,again I9 q9⟩
   |true=>
    rw [if_pos rfl] at q9;refine x8 (x8 (y0 (he s3 H3 fp _ s9 σ8 H9 _ I9 q9) (λw s10 ⟨y,H10,I10,r10,q10⟩=>?_) λ_ _ z=>z.elim));obtain ⟨zs,hz,hl,q10⟩:=q10;refine x8 (y0 (UR (X:=ql X N' scope s3 H3 fp) _ s10 σ8 H10 (.ref D) [y] (.ref D) [w] (λ_ H11=>H11=upd H10 D (.lst (zs++[y]))) I10 rfl (.cons r10 .nil) ⟨D,zs,y,rfl,rfl,hz,hl,rfl⟩) (λ_ s11 ⟨_,H11,I11,_,e11⟩=>?_) λ_ _ z=>z.elim);subst e11;exact x9 (x9 ⟨rfl,again I11 q10⟩)
 exact codeAny_compStart_list loop (T.self X.A 0 _ _ _ tn4 loop)
end
section
variable {K:Frg} {G G':Gp} {H H':Hp}
def qfl {D:Addr} {o:HO} {ws:List V} (hD:H D=some (.lst ws)) {a:Addr} {vs:List V} (h:SqT K H a vs):SqT K (upd H D o) a vs:=by
 rcases h with h|h
 ·refine .inl ?_;rcases h with h|⟨ob,h⟩
  ·have:a≠D:=by intro e;subst e;rw [hD] at h;cases h
   exact .inl (by rw [qm this];exact h)
  ·have:a≠D:=by intro e;subst e;rw [hD] at h;cases h
   exact .inr ⟨ob,by rw [qm this];exact h⟩
 ·exact .inr h
mutual
theorem Rp.wrD {D:Addr} {o:HO} {ws:List V} (hD:H D=some (.lst ws)):∀ {x:T} {v:V},Rp K H x v->Rp K (upd H D o) x v
 |_,_,.non=>.non
 |_,_,.bl b=>.bl b
 |_,_,.int i=>.int i
 |_,_,.str x=>.str x
 |_,_,.ref a=>.ref a
 |_,_,.tup h hs=>.tup (qfl hD h) (Rps.wrD hD hs)
theorem Rps.wrD {D:Addr} {o:HO} {ws:List V} (hD:H D=some (.lst ws)):∀ {x:List T} {v:List V},Rps K H x v->Rps K (upd H D o) x v
 |_,_,.nil=>.nil
 |_,_,.cons a b=>.cons (Rp.wrD hD a) (Rps.wrD hD b)
end
theorem HR.wrD {D:Addr} {o:HO} {ws:List V} (hr:HR K G H) (hD:H D=some (.lst ws)) (g:G D=none):HR K G (upd H D o):=⟨λa ob e=>by
 have ha:a≠D:=by intro z;subst z;rw [g] at e;cases e
 have q:=hr a ob e;cases ob with
 |lst xs=>obtain ⟨vs,h1,h2⟩:=q;exact ⟨vs,by rw [qm ha];exact h1,h2.wrD hD⟩
 |frz xs=>obtain ⟨vs,⟨o1,h1⟩,h2⟩:=q;exact ⟨vs,⟨o1,by rw [qm ha];exact h1⟩,h2.wrD hD⟩
 |dct kvs=>obtain ⟨vs,h1,h2⟩:=q;exact ⟨vs,by rw [qm ha];exact h1,h2.wrD hD⟩
 |exn C=>have h1:H a=some (.ext (IsX a C)):=q;exact (show _=_ by rw [qm ha];exact h1)
 |tab ks xs=>obtain ⟨vs,h1,h2⟩:=q;exact ⟨vs,by rw [qm ha];exact h1,h2.wrD hD⟩
 |clo i ts=>
  obtain ⟨fd,body,clos,c,ws,l,f,r⟩:=q;exact ⟨fd,body,clos,c,ws,l,f.keep λb o _ q=>by rw [qm (by rintro rfl;rw [hD] at q;cases q)];exact q,r.wrD hD⟩,hr.tabs.upd (λ_ z=>by rw [hD] at z;cases z) λ_ z=>by rw [hD] at z;cases z⟩
theorem Rel.wrD {D:Addr} {o:HO} {ws:List V} {τ:St3} {σ:L2.St} (r:Rel K τ G σ H) (hD:H D=some (.lst ws)) (g:G D=none):Rel K τ G σ (upd H D o):=
 ⟨r.hp.wrD hD g,r.len,λi t e=>let ⟨v,h1,h2⟩:=r.st i t e;⟨v,h1,h2.wrD hD⟩⟩
def Kp.wrD {D:Addr} {o:HO} (k:Kp G H G' H') (hD:H D=none):Kp G H G' (upd H' D o):=λa ob h g t=>by
 obtain ⟨h1,h2⟩:=k a ob h g t;exact ⟨by rw [qm (qr h hD)];exact h1,h2⟩
def qbb {α:Type} {m:List (Option Nat)} {σ:List (Option α)} {i j:Nat} (h:m[i]?=some (some j)):(cap m σ)[i]?=some ((σ[j]?).join):=by
 unfold cap;rw [getElem?_map,h];rfl
theorem Rel.cap {τ:St3} {σ:L2.St} (r:Rel K τ G σ H) (m:List (Option Nat)):Rel K (cap m τ) G (L3.cap m σ) H:=by
 refine ⟨r.hp,by simp [L3.cap],λi t e=>?_⟩;obtain ⟨j,e1,e2⟩:=N9 e;obtain ⟨v,h1,h2⟩:=r.st j t e2;exact ⟨v,by rw [qbb e1,h1];rfl,h2⟩
end
def qfB (stay:Gp->Prop) (g:TG3) (tif:TT3) (te:TE3) (q:Q3):List T->List T->St3->Gp->Prop
 |[],ys,_,G=>stay G/\∀ p,G p=none->q (.ref p) (gu G p (.lst ys))
 |x::r,ys,τ,G=>stay G/\g x τ G λτ2 G2=>tif τ2 G2 λk G3=>if k=true then te τ2 G3 λy G4=>ys.length<sizeLine/\qfB stay g tif te q r (ys++[y]) τ2 G4 else qfB stay g tif te q r ys τ2 G3
def lc3 (wi:TI3) (g:TG3) (tif:TT3) (te:TE3) (m:List (Option Nat)):TE3:=λτ G q=>wi τ G λitems stay G1=>qfB stay g tif te q items [] (cap m τ) G1
abbrev F3 (X:Cx) (ifs:List Expr) (t:TT3):Prop:=PF X ifs (lT X.K t)
def tt3:TT3:=λ_ G q=>q true G
def qkX {X:Cx}:F3 X [] tt3:=λpins s σ H Q I ⟨τ,G,q,rl,h,af⟩=>qfU pins s σ H Q I (af true G h H rl.hp Kp.refl)
section
variable {X:Cx}
def qmP {elt tg iter:Expr} {ifs:List Expr} {scope:Scope} {pos:Pos} (N':List Str) (m:List (Option Nat)) {wi:TI3} {g:TG3} {tif:TT3} {te:TE3} (hc:X.calm=true) (hi:I3 X tg iter wi)
  (hg:∀ s H fp,G3 (ql X N' scope s H fp) tg g) (hf:∀ s H fp,F3 (ql X N' scope s H fp) ifs tif) (he:∀ s H fp,E3 (ql X N' scope s H fp) elt te)
  (hsc:qcW X.env.scope scope=true) (hcap:UK X.N N' scope m=true) (hs:∀ x,foldedSetIterable iter X.env x=pure x:=by intro _;rfl) :
  E3 X (.ListComp elt [⟨tg,iter,ifs,0⟩] scope pos) (lc3 wi g tif te m):=
 EQ (qlm (g:=lG X.K g) (tif:=lT X.K tif) (te:=lE X.K te) hc hi hg hf he hsc hcap hs) λσ H Q ⟨τ,G,q,rl,h,af⟩=>by
  refine ⟨τ,G,_,rl,h,λitems stay G1 h1 J H1 hr1 k1 ok D hD=>?_⟩;have gD:G1 D=none:=hr1.free hD;refine ⟨λi n σ' H'=>n=items.length-i/\i<=items.length/\∃ τ' G' ys vs,Rel X.K τ' G' σ' H'/\Kp G1 H1 G' H'/\H' D=some (.lst vs)/\Rps X.K H' ys vs/\G' D=none/\qfB stay g tif te q (items.drop i) ys τ' G',
   ⟨_,rfl,Nat.zero_le _,cap m τ,G1,[],[],((rl.next hr1 k1).cap m).next (hr1.laid hD) (Kp.laid hD),Kp.laid hD,qG,.nil,gD,by simpa using h1⟩,?_⟩
  rintro i n σ' H' ⟨rfl,hi,τ',G',ys,vs,rl',k',hDl,rys,gD',h'⟩;by_cases hlt:i<items.length
  ·rw [List.drop_eq_getElem_cons hlt] at h';obtain ⟨hst,h'⟩:=h';obtain ⟨go,yld,_⟩:=ok G' H' rl'.hp k' hst;have hx:items[i]?=some items[i]:=y9 hlt;refine .inr ⟨go i _ hx,λv H2 y=>?_⟩;obtain ⟨rv,hr2,k2⟩:=yld i _ v H2 hx y;have nxt:∀ {τ4:St3} {G4:Gp} {σ4:L2.St} {H4:Hp} {ys4:List T} {vs4:List V},Rel X.K τ4 G4 σ4 H4->Kp G1 H1 G4 H4->H4 D=some (.lst vs4)->Rps X.K H4 ys4 vs4->G4 D=none->qfB stay g tif te q (items.drop (i+1)) ys4 τ4 G4 ->
     ∃ n',n'<items.length-i/\(n'=items.length-(i+1)/\i+1<=items.length/\∃ τ' G' ys vs,Rel X.K τ' G' σ4 H4/\Kp G1 H1 G' H4/\H4 D=some (.lst vs)/\Rps X.K H4 ys vs/\G' D=none/\qfB stay g tif te q (items.drop (i+1)) ys τ' G'):=
    λ{τ4 G4 σ4 H4 ys4 vs4} a b c d e f=>⟨_,by omega,rfl,hlt,τ4,G4,ys4,vs4,a,b,c,d,e,f⟩
   refine ⟨_,τ',G',_,rv,rl'.next hr2 k2,h',λτ3 G3 h3 σ3 H3 rl3 k3=>⟨τ3,G3,_,rl3,h3,λk G4 h4 H4 hr4 k4=>?_⟩⟩;have kk:=(k2.trans k3).trans k4;obtain ⟨hD4,gD4⟩:=kk D _ hDl gD' rfl;have rys4:=rys.keep rl'.hp kk;cases k with
   |false=>
    rw [if_neg y6] at h4;refine qlG ?_;exact nxt (rl3.next hr4 k4) (k'.trans kk) hD4 rys4 gD4 h4
   |true=>
    rw [if_pos rfl] at h4;refine qkE ?_;refine ⟨τ3,G4,_,rl3.next hr4 k4,h4,λz G5 h5 w H5 rw5 hr5 k5=>?_⟩;obtain ⟨hD5,gD5⟩:=k5 D _ hD4 gD4 rfl;have rys5:=rys4.keep hr4 k5;exact ⟨vs,hD5,by rw [← rys.length];exact h5.1,nxt (((rl3.next hr4 k4).next hr5 k5).wrD hD5 gD5) (((k'.trans kk).trans k5).wrD hD) qG ((rys5.append (.cons rw5 .nil)).wrD hD5) gD5 h5.2⟩
  ·have e:i=items.length:=by omega
   subst e;rw [List.drop_length] at h';obtain ⟨_,_,stop⟩:=ok G' H' rl'.hp k' h'.1;refine .inl ⟨stop,af _ _ (h'.2 D gD') _ H' (.ref D) ⟨λa o e=>?_,rl'.hp.tabs⟩ λa o e ga t=>?_⟩
   ·by_cases ha:a=D
    ·subst ha;rw [qy] at e;cases e;exact ⟨vs,hDl,rys⟩
    ·rw [zJ ha] at e;exact rl'.hp a o e
   ·obtain ⟨e1,g1⟩:=k1 a o e ga t;obtain ⟨e2,g2⟩:=k' a o e1 g1 t;exact ⟨e2,by rw [zJ (qr e1 hD)];exact g2⟩
end
structure Src (P:Program) (w:World) (it c:Addr) (St:Nat->Heap->Prop) (Has:Array Value->Heap->Prop):Prop where
 obj:∀ {k h},St k h->∃ o,h.get? it=some o/\∀ v,o.data≠.cell v
 keep:∀ {k h h'},St k h->(∀ o,h.get? it=some o->h'.get? it=some o)->St k h'
 hkeep:∀ {xs h h'},Has xs h->(∀ o,h.get? c=some o->h'.get? c=some o)->Has xs h'
 item:∀ {A:Around} {s:Shared} {k:Nat} {xs:Array Value} {x:Value} {Q:Value->Shared->Prop} {E:Value->Shared->Prop},St k s.heap->Has xs s.heap->xs[k]?=some x ->
  (∀ h',St (k+1) h'->Heap.SameBut it s.heap h'->Q x { s with heap:=h' })->wpAny (model P w) A (Builtin.SmallTypes.nextOf (.ref it)) Q E s
 done:∀ {A:Around} {s:Shared} {k:Nat} {xs:Array Value} {Q:Value->Shared->Prop} {E:Value->Shared->Prop},A.handled=none->St k s.heap->Has xs s.heap->xs[k]?=none ->
  (∀ h' e,Heap.ExtBut it s.heap h'->(∃ o,h'.get? e=some o/\o.cls=.type "StopIteration")->E (.ref e) { s with heap:=h' })->wpAny (model P w) A (Builtin.SmallTypes.nextOf (.ref it)) Q E s
def qcd {P:Program} {w:World} (it l:Addr):Src P w it l (λk h=>h.IsListIter it l k) (λxs h=>h.IsList l xs) where
 obj:=λst=>let ⟨o,e,_,d⟩:=st;⟨o,e,λv z=>by rw [d] at z;cases z⟩
 keep:=λst k=>st.at λo e=>k o e
 hkeep:=λst k=>st.at λo e=>k o e
 item:=λst hl hx hQ=>wpAny_nextOf_list_item st hl hx hQ
 done:=λhh st hl hx hE=>wpAny_nextOf_list_end hh st hl hx hE
def LC {P:Program} {w:World} {A:Around} {s:Shared} {it t:Addr} {i:Nat} {its:Array Value} {x:Value} {Q:Value->Shared->Prop} {E:Value->Shared->Prop} (hit:s.heap.IsTupleIter it t i) (ht:s.heap.IsTuple t its) (hx:its[i]?=some x)
  (hQ:∀ h',h'.IsTupleIter it t (i+1)->Heap.SameBut it s.heap h'->Q x { s with heap:=h' }):wpAny (model P w) A (Builtin.SmallTypes.nextOf (.ref it)) Q E s:=by
 obtain ⟨o1,e1,c1,d1⟩:=id hit;obtain ⟨o2,e2,_,n2,d2⟩:=ht;unfold Builtin.SmallTypes.nextOf;refine x8 (wpAny_callSpecial?_slot (name:=Str.ofString "__next__") hit.typeIs F.slot_tuple_iterator_next (wpAny_call_entry F.slot_tuple_iterator_next hit.typeIs F.entry_tuple_iterator_next ?_ (F.args_tuple_iterator_next_1 _)));refine x8 (m:=field (.ref it) 0) (wpAny_field e1 d1 (x:=.ref t) rfl ?_);rw [if_neg (show ¬ ((Value.ref t==Value.none)=true) by exact y6)];refine x8 (m:=field (.ref it) 1) (wpAny_field e1 d1 (x:=.int i 0) rfl ?_);refine x8 (m:=seqItems? (.ref t)) (wpAny_seqItems e2 d2 ?_);simp only [Int.toNat_natCast,hx];refine x8 (wpAny_setField e1 d1 (by simp) (x9 ⟨x,rfl,x9 (hQ _ ⟨_,Heap.get?_update_self _ e1 (Obj.isFreed_of_fields (Obj.data_mapFields d1 _)),(Obj.cls_mapFields ..).trans c1,?_⟩ (Heap.SameBut.update ..))⟩));rw [Obj.data_mapFields d1];simp [rawInt]
def EI {P:Program} {w:World} {A:Around} {s:Shared} {it t:Addr} {i:Nat} {its:Array Value} {Q:Value->Shared->Prop} {E:Value->Shared->Prop} (hh:A.handled=none) (hit:s.heap.IsTupleIter it t i) (ht:s.heap.IsTuple t its) (hx:its[i]?=none)
  (hE:∀ h' e,Heap.ExtBut it s.heap h'->(∃ o,h'.get? e=some o/\o.cls=.type "StopIteration")->E (.ref e) { s with heap:=h' }):wpAny (model P w) A (Builtin.SmallTypes.nextOf (.ref it)) Q E s:=by
 obtain ⟨o1,e1,c1,d1⟩:=id hit;obtain ⟨o2,e2,_,n2,d2⟩:=ht;unfold Builtin.SmallTypes.nextOf;refine x8 (wpAny_callSpecial?_slot (name:=Str.ofString "__next__") hit.typeIs F.slot_tuple_iterator_next (wpAny_call_entry F.slot_tuple_iterator_next hit.typeIs F.entry_tuple_iterator_next ?_ (F.args_tuple_iterator_next_1 _)));refine x8 (m:=field (.ref it) 0) (wpAny_field e1 d1 (x:=.ref t) rfl ?_);rw [if_neg (show ¬ ((Value.ref t==Value.none)=true) by exact y6)];refine x8 (m:=field (.ref it) 1) (wpAny_field e1 d1 (x:=.int i 0) rfl ?_);refine x8 (m:=seqItems? (.ref t)) (wpAny_seqItems e2 d2 ?_);simp only [Int.toNat_natCast,hx];refine x8 (wpAny_rule (x8 (wpAny_setField e1 d1 (by simp) ?_)));refine x8 (m:=newExc (.type "StopIteration") []) ?_;simp only [newExc,newTuple];refine x8 (wpAny_newObj_type ?_ (by size_fits));refine x8 (m:=firstArgMember _ _) (wpAny_of_eq (a:=Value.none) (by first|rfl|(simp only [firstArgMember]<;>rfl)) (wpAny_newObj_type ?_ (by size_fits)));simp only [raiseNew];refine x8 (wpAny_handled ?_)
 first|rw [show A.in1.handled=Option.none from hh]|rw [show A.handled=Option.none from hh]
 exact x8 (x9 (wpAny_throw (hE _ _ (((Heap.SameBut.update ..).extBut.push _).push _) ⟨_,y3 _ rfl,rfl⟩)))
def qe8 {P:Program} {w:World} (it t:Addr):Src P w it t (λk h=>h.IsTupleIter it t k) (λxs h=>h.IsTuple t xs) where
 obj:=λst=>let ⟨o,e,_,d⟩:=st;⟨o,e,λv z=>by rw [d] at z;cases z⟩
 keep:=λst k=>st.at λo e=>k o e
 hkeep:=λst k=>st.at λo e=>k o e
 item:=λst hl hx hQ=>LC st hl hx hQ
 done:=λhh st hl hx hE=>EI hh st hl hx hE
section
variable {P:Program} {w:World} {A:Around} {s:Shared} {z ti to i1 i2 c1 c2:Addr} {S1 S2:Nat->Heap->Prop} {H1 H2:Array Value->Heap->Prop} {k1 k2:Nat} {xs ys:Array Value} {x y a b:Value} {E:Value->Shared->Prop}
end
abbrev qlD (b:Bool):String:=if b then "list_iterator" else "tuple_iterator"
abbrev C8 (b:Bool) (c:Addr):Obj:={ cls:=.type (qlD b),data:=.fields #[.ref c,.int 0 0] }
def qgw (b:Bool) (it c:Addr) (k:Nat) (h:Heap):Prop:=match b with|true=>h.IsListIter it c k|false=>h.IsTupleIter it c k
def qcZ (b:Bool) (c:Addr) (xs:Array Value) (h:Heap):Prop:=match b with|true=>h.IsList c xs|false=>h.IsTuple c xs
def QS {P:Program} {w:World} (b:Bool) (it c:Addr):Src P w it c (qgw b it c) (qcZ b c):=by
 cases b
 ·exact qe8 it c
 ·exact qcd it c
def qff {P:Program} {w:World} {A:Around} {s:Shared} {b:Bool} {c:Addr} {xs:Array Value} {Q:Value->Shared->Prop} {E:Value->Shared->Prop} (h:qcZ b c xs s.heap) (q:Q (.ref s.heap.objs.size) { s with heap:=s.heap.push (C8 b c) }) :
  wpAny (model P w) A (pyIter (.ref c)) Q E s:=by
 cases b
 ·exact wpAny_pyIter_tuple (show s.heap.IsTuple c xs from h) q
 ·exact wpAny_pyIter_list (show s.heap.IsList c xs from h) q
section
variable {P:Program} {w:World} {A:Around} {s:Shared} {E:Value->Shared->Prop}
end
def SqB (K:Frg) (b:Bool) (H:Hp) (a:Addr) (xs:List V):Prop:=match b with|true=>SqL K H a xs|false=>SqT K H a xs
def SqB.get {X:Cx} {pins:List (Addr×Obj)} {σ:L2.St} {H:Hp} {s:Shared} {b:Bool} {a:Addr} {xs:List V} (I:Inv X pins σ H s) (h:SqB X.K b H a xs):∃ its:List Value,qQ xs its/\qcZ b a its.toArray s.heap/\xs.length<=sizeLine:=by
 cases b
 ·obtain ⟨its,r,p,hz⟩:=I.tuple (show SqT X.K H a xs from h);exact ⟨its,r,(show s.heap.IsTuple a its.toArray from p),hz⟩
 ·obtain ⟨its,r,p,hz⟩:=I.list (show SqL X.K H a xs from h);exact ⟨its,r,p.isList,hz⟩
def SqB.inj {X:Cx} {pins:List (Addr×Obj)} {σ:L2.St} {H:Hp} {s:Shared} {b:Bool} {a:Addr} {xs ys:List V} (I:Inv X pins σ H s) (h:SqB X.K b H a xs) (h':SqB X.K b H a ys):xs=ys:=by
 cases b
 ·exact I.tuple_inj h h'
 ·exact I.list_inj h h'
def qlY {b:Bool} {c:Addr} {xs:Array Value} {h:Heap} (q:qcZ b c xs h):c<h.objs.size:=by
 cases b
 ·obtain ⟨o,e,_⟩:=(show h.IsTuple c xs from q);exact y4 e
 ·obtain ⟨o,e,_⟩:=(show h.IsList c xs from q);exact y4 e
section
variable {X:Cx} {a b e l:Expr} {es:List Expr} {pos:Pos}
end
def DU (G:Gp):T->Option (List T)
 |.tup xs=>some xs
 |.ref p=>getL G p
 |_=>none
def qgX {K:Frg} {G0:Gp} {H0:Hp} {x:T} {v:V} {us:List T} (hr0:HR K G0 H0) (rx:Rp K H0 x v) (h:DU G0 x=some us) :
  ∃ b c,v=.ref c/\∀ G H,HR K G H->Kp G0 H0 G H->DU G x=some us->∃ vs,SqB K b H c vs/\Rps K H us vs:=by
 cases rx with
 |tup hs rs=>
  cases h;exact ⟨false,_,rfl,λG H hr k _=>⟨_,(VR hr0 k hs:SqT K H _ _),rs.keep hr0 k⟩⟩
 |ref a=>exact ⟨true,a,rfl,λG H hr k hq=>let ⟨vs,h1,h2⟩:=zi hr (show getL G a=some us from hq);⟨vs,h1,h2⟩⟩
 |_=>cases h
def qlF (us vs:List T):List T:=(us.zip vs).map λp=>.tup [p.1,p.2]
section
variable {X:Cx} {a b e l:Expr} {es:List Expr} {pos:Pos} {t:TA3}
def qgZ:List T->Gp->Q3->Prop:=λxs G q=>match xs with
 |[.ref p]=>(match getL G p with|some ys=>(match qfI ys with|some k=>q (.bl k) G|none=>False)|none=>False)
 |_=>False
theorem M9 {K:Frg} {H:Hp}:∀ {ys:List T} {vs:List V} {k:Bool},Rps K H ys vs->qfI ys=some k->∃ ks:List Bool,vs=ks.map V.bl/\ks.all id=k
 |_,_,_,.nil,h=>by cases h;exact ⟨[],rfl,rfl⟩
 |y::ys,_,k,.cons a b,h=>by
  unfold qfI at h;split at h
  ·rename_i e;cases e
  ·rename_i j r e;cases e;split at h
   ·rename_i i ei;obtain ⟨ks,rfl,hk⟩:=M9 b ei;cases a;cases h;exact ⟨j::ks,rfl,by rw [List.all_cons,hk];rfl⟩
   ·cases h
  ·cases h
def qeC {K:Frg}:SI K qgZ (λxs H Q=>∃ (p:Addr) (ks:List Bool),xs=[.ref p]/\SqL K H p (ks.map V.bl)/\Q (.bl (ks.all id)) H):=λxs vs G H q Q hr rs h af=>by
 unfold qgZ at h;split at h
 ·rename_i p;obtain ⟨v,rfl,r⟩:=CU rs;cases r;split at h
  ·rename_i ys e0;split at h
   ·rename_i k e1;obtain ⟨us,hs,r2⟩:=zi hr e0;obtain ⟨ks,rfl,hk⟩:=M9 r2 e1;exact ⟨p,ks,rfl,hs,by rw [hk];exact af _ G h _ H (.bl _) hr Kp.refl⟩
   ·exact h.elim
  ·exact h.elim
 ·exact h.elim
end
def qlO:Value->Bool
 |.type t=>t == "list"
 |_=>false
def JW:List (Addr×Obj)->Bool
 |[]=>true
 |p::r=>if qlO p.2.cls then false else JW r
theorem EZ:∀ {K:List (Addr×Obj)} {a:Addr} {o:Obj},JW K=true->K.lookup a=some o->o.cls≠.type "list"
 |[],_,_,_,e=>by simp at e
 | (b,x)::r,a,o,h,e=>by
  unfold JW at h;split at h
  ·cases h
  ·rename_i hx;rw [List.lookup_cons] at e;split at e
   ·cases e;intro z;rw [z] at hx;exact hx rfl
   ·exact EZ h e
def only (a:Addr) (ns:List Int):Gp:=λb=>if b=a then some (.frz (ns.map T.int)) else none
def qfo {K:Frg} {H:Hp} {a:Addr} {ns:List Int} (h:∃ o,H a=some (.frz o (.lst (ns.map V.int)))) (t:qfJ K H):HR K (only a ns) H:=⟨λb o e=>by
 unfold only at e;split at e
 ·rename_i hb;subst hb;cases e;exact ⟨_,h,Rps.ints ns⟩
 ·exact (nomatch e),t⟩
def XD:Sp3:=λts G q=>∃ (a:Addr) (ns:List Int),ts=[.ref a]/\G a=some (.frz (ns.map T.int))/\ns.length<=63/\∀ G',q (.bl true) G'
def qfx {P:Program} {w:World} {K:Frg} {mg:Str->Option Value} {base:Heap} {x qual:Str} {st:Stmt} {f:Addr} {fd:FuncData} {N ps:List Str} {k:Nat} {sp:Sp3} {t3:TS3} (F:Fun K x qual st f fd) (S:FnScope N ps (qf st))
  (body:∀ (cdv:Value) (A:Around) (outer:List Env) (s:Shared) (H:Hp) (E:XK),Room k (A.deeper (envOfC qual (qf st) s.heap.objs.size f cdv)) ->
   B3 (LK CX0 P w K mg base N qual (qf st) f cdv A outer s H E).nox (qS st) t3)
  (read:∀ ts G q,sp ts G q->ts.length=ps.length/\t3 { nx:=λ_ G'=>q .non G',rt:=q } (qv N ts) G):FnOk P w K mg base CX0 (k+1) f fd ps (lSp K sp):=by
 refine F.ok S (λvs H Q E ⟨ts,G,q,h1,h2,h3,h4⟩=>by rw [← h2.length];exact (read ts G q h3).1) λcdv A outer s H vs Q E hr ⟨ts,G,q,h1,h2,h3,h4⟩=>?_;refine ⟨_,body cdv A outer s H E hr,qv N ts,G,_,U5 h1 h2,(read ts G q h3).2,⟨λτ' G' h' σ' H' rl' k'=>h4 _ G' h' _ H' .non rl'.hp k',h4,λ_ _ z=>z.elim,λ_ _ z=>z.elim⟩⟩
abbrev eh1 (h:Heap) (o1:Obj):Heap:=h.push o1
abbrev eh2 (h:Heap) (o1:Obj):Heap:=(eh1 h o1).push { cls:=.type "enumerate",data:=.fields #[.none,.bool false,.ref h.objs.size,rawInt 0,.none,.none] }
def KZ (c:Addr) (o1:Obj) (ob:Obj) :
  Meets (Builtin.«enumerate.__new__» ⟨[.type "enumerate",.ref c],[]⟩) (λ_ R s=>s.heap.get? c=some ob /\
   (∀ (P:Program) (w:World) (A:Around) (Q:Value->Shared->Prop) (E:Value->Shared->Prop),Q (.ref s.heap.objs.size) { s with heap:=eh1 s.heap o1 }->wpAny (model P w) A (pyIter (.ref c)) Q E s) /\
   R (.ok (.ret (.ref (eh1 s.heap o1).objs.size))) { s with heap:=eh2 s.heap o1 }):=
 .of_wp λprog w A R s h=>by
  obtain ⟨hp,g,d,tk,os⟩:=s;obtain ⟨hl,h1,h⟩:=h;have hsub:=sub_enumerate;have k1:=λA Q E=>h1 prog w A Q E
  wp_walk using wpAny_loadPart' hl
  refine wpAny_stack_any λst=>x9 ?_;split
  ·rename_i c _ _ _ _ _;cases (c==Value.type "enumerate")
   ·wp_walk using wpAny_loadPart' hl,k1 _ _ _
    exact ⟨_,rfl,h⟩
   ·wp_walk using wpAny_loadPart' hl,k1 _ _ _
    exact ⟨_,rfl,h⟩
  ·wp_walk using wpAny_loadPart' hl,k1 _ _ _
   exact ⟨_,rfl,h⟩
def qbo {b:Bool} {c:Addr} {xs:Array Value} {h:Heap} (q:qcZ b c xs h):∃ o,h.get? c=some o:=by
 cases b
 ·obtain ⟨o,e,_⟩:=(show h.IsTuple c xs from q);exact ⟨o,e⟩
 ·obtain ⟨o,e,_⟩:=(show h.IsList c xs from q);exact ⟨o,e⟩
section
variable {P:Program} {w:World} {A:Around} {s:Shared} {E:Value->Shared->Prop}
def MI {b:Bool} {c:Addr} {xs:Array Value} {Q:Value->Shared->Prop} (h1:qcZ b c xs s.heap)
  (q:∀ h',IsEnum h' (s.heap.objs.size+1) s.heap.objs.size 0 .none->qgw b s.heap.objs.size c 0 h'->(∀ c o,s.heap.get? c=some o->h'.get? c=some o)->Q (.ref (s.heap.objs.size+1)) { s with heap:=h' }) :
  wpAny (model P w) A (call (.type "enumerate") [.ref c]) Q E s:=by
 obtain ⟨ob,hob⟩:=qbo h1;refine callType_new F.called_enumerate (by decide) (F.typeCall_enumerate_1 _) (F.newCall_enumerate_1 _) (λobj=>F.args_object_init_2 obj _) F.entry_enumerate_new
  (KZ c (C8 b c) ob) ⟨hob,λP w A Q E q=>qff h1 q,?_⟩
 have e1:(eh1 s.heap (C8 b c)).objs.size=s.heap.objs.size+1:=Heap.size_push ..;have g2:(eh2 s.heap (C8 b c)).get? (eh1 s.heap (C8 b c)).objs.size=some _:=y3 _ rfl;have g1:(eh2 s.heap (C8 b c)).get? s.heap.objs.size=some (C8 b c):=y2 _ (y3 _ rfl);show _/\_;rw [e1] at g2 ⊢;refine ⟨⟨_,g2,rfl⟩,q _ g2 ?_ λc o e=>y2 _ (y2 _ e)⟩;cases b<;>exact ⟨_,g1,rfl,rfl⟩
end
def qby {P:Program} {w:World} {A:Around} (hh:A.handled=none) (b:Bool) (it c:Addr) (hne:c≠it) (xs:Array Value) :
  Draws P w A it [it,c] xs.size (λi v=>xs[i]?=some v) (λi h=>qgw b it c i h/\qcZ b c xs h) where
 live:=λi h st=>let ⟨o,e,_⟩:=(QS (P:=P) (w:=w) b it c).obj st.1;⟨o,e⟩
 frame:=λi h h' st hk=>⟨(QS (P:=P) (w:=w) b it c).keep st.1 λo e=>hk it (by simp) o e,(QS (P:=P) (w:=w) b it c).hkeep st.2 λo e=>hk c (by simp) o e⟩
 item:=λi s Q E hi st hQ=>by
  refine (QS (P:=P) (w:=w) b it c).item st.1 st.2 (x:=xs[i]) (by simp [hi]) λh' st' sb=>?_;exact hQ _ h' s.toks (by simp [hi]) ⟨st',(QS (P:=P) (w:=w) b it c).hkeep st.2 λo e=>(sb.2 c hne).trans e⟩ sb
 done:=λs Q E st hE=>(QS (P:=P) (w:=w) b it c).done hh st.1 st.2 (by simp) hE
def WG {P:Program} {w:World} {A:Around} {s:Shared} {E:Value->Shared->Prop} {b:Bool} {e it c:Addr} {i:Nat} {xs:Array Value} {old:Value} {Q:Option Value->Shared->Prop} (hh:A.handled=none) (he:IsEnum s.heap e it i old) (p1:qgw b it c i s.heap) (l1:qcZ b c xs s.heap) (hx:xs[i]?=none)
  (hQ:∀ h',Heap.ExtBut it s.heap h'->Q none { s with heap:=h' }):wpAny (model P w) A (pyNext (.ref e)) Q E s:=by
 have hT:s.TypeIs (.ref e) "enumerate" := ⟨_,he,rfl⟩
 unfold pyNext;refine x8 (wpAny_attempt (wpAny_callSpecial?_slot (name:=Str.ofString "__next__") hT F.slot_enumerate_next
  (wpAny_call_entry F.slot_enumerate_next hT F.entry_enumerate_next ?_ (F.args_enumerate_next_1 _))))
 show wpAny _ _ (field (.ref e) 2 >>= _) _ _ _;refine x8 (wpAny_field he rfl (x:=.ref it) rfl ?_);refine x8 ((QS (P:=P) (w:=w) b it c).done (show A.in1.handled=none from hh) p1 l1 hx λh' x he' hx'=>?_);obtain ⟨o,ho,hc⟩:=hx';refine x8 (wpAny_isInstance (T:="StopIteration") (b:=true) ⟨o,ho,hc⟩ isSubtype_stop ?_);exact x9 (hQ _ he')
def Ite (K:Frg) (b:Bool) (c:Addr):It:=
  ⟨λi H=>∃ xs x,SqB K b H c xs/\xs[i]?=some x,
   λi H v H'=>∃ p x,H p=none/\v=.ref p/\H'=upd H p (.tup [.int i,x])/\(∀ xs,SqB K b H c xs->xs[i]?=some x),
   λi H=>∃ xs,SqB K b H c xs/\xs.length<=i⟩
def qhx (b:Bool) (e it c:Addr) (k:Nat) (h:Heap):Prop:=(∃ old,IsEnum h e it k old)/\qgw b it c k h
def qan {P:Program} {w:World} {K:Frg} {es:List Expr} {k1:Nat} {pt:Pos} {b:Bool} {e it c:Addr} (n1:e≠it) (n2:c≠e) (n3:c≠it):Turn P w K (.Tuple es k1 pt) (Ite K b c) [e,it] e (qhx b e it c) where
 mem:=by simp
 obj:=λi h ⟨⟨old,he⟩,p1⟩ d hd=>by
  simp only [mem_cons,not_mem_nil,or_false] at hd;rcases hd with rfl|rfl
  ·exact ⟨_,he,λv q=>by cases q⟩
  ·exact (QS (P:=P) (w:=w) b d c).obj p1
 keep:=λi h h' ⟨⟨old,he⟩,p1⟩ k=>⟨⟨old,k e (by simp) _ he⟩,(QS (P:=P) (w:=w) b it c).keep p1 λo e=>k it (by simp) o e⟩
 item:=by
  intro X hP hw hK hc i pins s σ H E I hf st hg;subst hP hw hK;obtain ⟨xs,x,sq,hx⟩:=hg;obtain ⟨its,rv,l1,z1⟩:=sq.get I;obtain ⟨u,hu,ru⟩:=rv.get hx;obtain ⟨⟨old,he⟩,p1⟩:=st;have hil:i<its.toArray.size:=by have:=(za0 hu).1;simpa using this
  refine wpAny_pyNext_enum_itemD (qby (show X.A.in1.handled=none from I.ok.hd hc) b it c n3 its.toArray) he ⟨p1,l1⟩ hil n1 (by simp only [mem_cons,not_mem_nil,or_false,not_or];exact ⟨n1,Ne.symm n2⟩) λy h' tk hy ho st' ht hsz hk=>?_;have hy':y=u:=by
   have:its.toArray[i]?=some u:=by simpa using hu
   rw [this] at hy;exact (Option.some.inj hy).symm
  subst hy';have hfr:H s.heap.objs.size=none:=I.fresh;have free:∀ b∈[e,it],H b=none:=λb hb=>(hf b hb).1;refine ⟨_,rfl,wpAny_letOwnedTupleGo_enum ho λh2 hz2 s2=>?_⟩;have elt:e<s.heap.objs.size:=y4 he;have hp2:h2.get? s.heap.objs.size=some { cls:=.type "tuple",data:=.seq #[.int i tk,y] }:=(s2.2 _ (Nat.ne_of_gt elt)).trans ht;have up:∀ c o,c≠e->h'.get? c=some o->h2.get? c=some o:=λc o hc e=>(s2.2 c hc).trans e;have kk:∀ c o,c∉[e,it]->s.heap.get? c=some o->h2.get? c=some o:=λc o hc q=>by
   simp only [mem_cons,not_mem_nil,or_false,not_or] at hc;exact up c o hc.1 (hk c o hc.1 hc.2 q)
  have I3:Inv X pins σ (upd H s.heap.objs.size (.tup [.int i,x])) { s with heap:=h2,toks:=tk+1 }:=by
   refine I.step (g':=s.gens) (d':=s.drawn) (t':=tk+1) (ch:=[e,it]) (λb hb=>?_) (λb o _ _ hcb e _=>kk b o hcb e) (λb o _ _ hcb e _=>⟨o.slots,kk b o hcb e⟩) (λb o _ e n=>by rw [qm (u4 (y4 e))];exact n) (λb o hcb e=>⟨o,kk b o hcb e⟩)
    (λb _ e=>by rw [qm (qr e hfr)];exact e) (λb _ _ e=>by rw [qm (qr e hfr)];exact e) (λb ps e=>⟨#[],by rw [qm (qr e hfr),e];simp⟩) (λm hm=>?_) (λb u e=>?_) I.bare
   ·obtain ⟨f0,f1,f2,f3,f4,f5⟩:=hf b hb;exact ⟨f3,f1,f4,f5⟩
   ·obtain ⟨o,es',ep,ho',r⟩:=hm;refine ⟨o,es',ep,kk _ o (λq=>?_) ho',r⟩;obtain ⟨f0,f1,_⟩:=hf X.env.locals q;exact f1 rfl
   ·by_cases hb:b=s.heap.objs.size
    ·subst hb;rw [qG] at e;cases e;exact ⟨by show 2<=sizeLine;decide,[.int i tk,y],.cons ⟨tk,rfl⟩ (.cons ru .nil),⟨_,hp2,rfl,_,rfl,rfl⟩⟩
    ·rw [qm hb] at e;refine (I.hok b u e).stay (λc v hcb q=>kk c v (λm=>?_) q) (λ_ q=>by rw [qm (qr q hfr)];exact q) λ_ _ q=>by rw [qm (qr q hfr)];exact q
     have hn:=free c m;rcases hcb with q|q
     ·rw [q] at hn;rw [hn] at e;cases e
     ·rw [hn] at q;cases q
  refine ⟨.ref s.heap.objs.size,_,I3,rfl,⟨_,x,hfr,rfl,rfl,λzs q=>by rw [q.inj I sq];exact hx⟩,⟨⟨_,by push_cast;exact hz2⟩,(QS (P:=X.prog) (w:=X.w) b it c).keep st'.1 λo e=>up _ o (Ne.symm n1) e⟩,λb hb=>?_⟩;rw [qm (λq=>?_)]
  ·exact free b hb
  ·subst q;simp only [mem_cons,not_mem_nil,or_false] at hb;rcases hb with q|q
   ·exact absurd q (Nat.ne_of_gt elt)
   ·obtain ⟨o,e,_⟩:=(QS (P:=X.prog) (w:=X.w) b it c).obj p1;exact absurd q (Nat.ne_of_gt (y4 e))
 done:=by
  intro X hP hw hK hc i pins s σ H E I hf st hg;subst hP hw hK;obtain ⟨xs,sq,hend⟩:=hg;obtain ⟨its,rv,l1,z1⟩:=sq.get I;obtain ⟨⟨old,he⟩,p1⟩:=st;have e1:=rv.length;have free:∀ b∈[e,it],H b=none:=λb hb=>(hf b hb).1;refine WG (I.ok.hd hc) he p1 l1 (by simp;omega) λh' hk0=>⟨rfl,?_⟩
  have hk:∀ c o,c∉[e,it]->s.heap.get? c=some o->h'.get? c=some o:=λc o hcb q=>hk0 c o (by simp only [mem_cons,not_mem_nil,or_false,not_or] at hcb;exact hcb.2) q;refine I.step (g':=s.gens) (d':=s.drawn) (t':=s.toks) (ch:=[e,it]) (λb hb=>?_) (λb o _ _ hcb e _=>hk b o hcb e) (λb o _ _ hcb e _=>⟨o.slots,hk b o hcb e⟩) (λ_ _ _ _ n=>n) (λb o hcb e=>⟨o,hk b o hcb e⟩) (λ_ _ e=>e) (λ_ _ _ e=>e) (λb ps e=>⟨#[],by rw [e];simp⟩) (λm hm=>?_) (λb u e=>?_) I.bare
  ·obtain ⟨f0,f1,f2,f3,f4,f5⟩:=hf b hb;exact ⟨f3,f1,f4,f5⟩
  ·obtain ⟨o,es',ep,ho',r⟩:=hm;refine ⟨o,es',ep,hk _ o (λq=>?_) ho',r⟩;obtain ⟨f0,f1,_⟩:=hf X.env.locals q;exact f1 rfl
  ·refine (I.hok b u e).stay (λc v hcb q=>hk c v (λm=>?_) q) (λ_ q=>q) λ_ _ q=>q;have hn:=free c m;rcases hcb with q|q
   ·rw [q] at hn;rw [hn] at e;cases e
   ·rw [hn] at q;cases q
 self:=λA i s Q E st h=>let ⟨⟨old,he⟩,_⟩:=st;wpAny_pyIter_enum he h
section
variable {X:Cx} {a b e l:Expr} {es:List Expr} {pos:Pos}
def qer {p pt:Pos} {k1:Nat} {ta:TA} (hg:Gl X "enumerate") (hm:X.mg "enumerate" = none) (ha:PA X [a] ta) (hs:starEach [a] X.env=[(false,eval a X.env)]:=by rfl) :
  PI X (.Tuple es k1 pt) (.Call (.Name "enumerate" p) [a] [] pos) (λσ H R=>ta σ H λvs H1=>∃ b1 c1 xs,vs=[.ref c1]/\SqB X.K b1 H1 c1 xs/\R (Ite X.K b1 c1) H1):=by
 intro pins s σ H R I h;refine Call_ (YW I hg hm PyProof.Rows.boot_enumerate (PyProof.Rows.callWith_type1 (thn (ha pos pins s σ H _ I h) λus s1 ⟨vs,H1,I1,r1,q1⟩=>?_) (by rw [hs];rfl) (by rfl)));obtain ⟨b1,c1,xs,rfl,sq1,q⟩:=q1;obtain ⟨u1,rfl,e1⟩:=WB r1;cases (show u1=Value.ref c1 from e1);obtain ⟨its1,rv1,l1,z1⟩:=sq1.get I1;refine MI l1 λh' he hit hk=>wpAny_pyIter_enum he ?_;have lt:=qlY l1;have ne3:∀ n c:Nat,c<n->n+1≠n/\c≠n+1/\c≠n:=λn c h=>by omega
 obtain ⟨m1,m2,m3⟩:=ne3 _ _ lt;refine ⟨s1.heap.objs.size+1,[s1.heap.objs.size+1,s1.heap.objs.size],_,_,H1,rfl,I1.kept (t':=s1.toks) hk,qan m1 m2 m3,⟨⟨_,he⟩,hit⟩,λc hc=>?_,q⟩;have hle:s1.heap.objs.size<=c:=by
  simp only [mem_cons,not_mem_nil,or_false] at hc;rcases hc with rfl|rfl<;>first|exact v5 _|exact Nat.le_add_right _ _
 exact I1.fpOk hle (I1.hok.fresh hle)
end
def z4 (k:Nat):List T->List T
 |[]=>[]
 |x::r=>.tup [.int (k:Int),x]::z4 (k+1) r
def qca (us:List T):List T:=z4 0 us
theorem YT:∀ {us:List T} {k i:Nat} {x:T},(z4 k us)[i]?=some x->∃ a,us[i]?=some a/\x=.tup [.int ((k+i:Nat):Int),a]
 |[],_,_,_,h=>by simp [z4] at h
 |u::us,k,0,x,h=>by simp [z4] at h;exact ⟨u,rfl,by simp [← h]⟩
 |u::us,k,i+1,x,h=>by
  simp [z4] at h;obtain ⟨a,ha,hx⟩:=YT h;exact ⟨a,by simpa using ha,by rw [hx];congr 4;omega⟩
theorem Y7:∀ (us:List T) (k:Nat),(z4 k us).length=us.length
 |[],_=>rfl
 |u::us,k=>by simp [z4,Y7 us]
def NS (us:List T):(qca us).length=us.length:=Y7 us 0
def CM {us:List T} {i:Nat} {x:T} (h:(qca us)[i]?=some x):∃ a,us[i]?=some a/\x=.tup [.int (i:Int),a]:=by
 obtain ⟨a,ha,hx⟩:=YT h;exact ⟨a,ha,by rw [hx];congr 4;omega⟩
def qgm {K:Frg} {b1:Bool} {c1:Addr} {x:T} {us:List T} {G0:Gp} {H0:Hp}
  (f1:∀ G H,HR K G H->Kp G0 H0 G H->DU G x=some us->∃ vs,SqB K b1 H c1 vs/\Rps K H us vs) :
  qiZ K (Ite K b1 c1) (qca us) (λG=>DU G x=some us) G0 H0:=by
 intro G H hr k h1;obtain ⟨p,sp,rp⟩:=f1 G H hr k h1;refine ⟨λi z hz=>?_,λi z v H' hz hy=>?_,⟨p,sp,?_⟩⟩
 ·obtain ⟨a,ha,_⟩:=CM hz;obtain ⟨v,hv,_⟩:=rp.get ha;exact ⟨p,v,sp,hv⟩
 ·obtain ⟨a,ha,rfl⟩:=CM hz;obtain ⟨t,v1,ht,rfl,rfl,g1⟩:=hy;obtain ⟨v,hv,rv⟩:=rp.get ha;have e1:=(g1 p sp).symm.trans hv;obtain rfl:v1=v:=Option.some.inj e1;have kk:Kp G H G (upd H t (.tup [.int i,v1])):=Kp.laid ht;exact ⟨.tup (SqT.of qG) (.cons (.int _) (.cons (rv.keep hr kk) .nil)),hr.laid ht,kk⟩
 ·rw [← rp.length,NS];exact v5 _
def YZ (ta:TA3):TI3:=λτ G r=>ta τ G λxs G1=>match xs with
 |[x]=>(match DU G1 x with|some us=>r (qca us) (λG=>DU G x=some us) G1|_=>False)
 |_=>False
section
variable {X:Cx} {a b e l:Expr} {es:List Expr} {pos:Pos} {t:TA3}
def qhM {p pt:Pos} {k1:Nat} (hg:Gl X "enumerate") (hm:X.mg "enumerate" = none) (ha:A3 X [a] t) (hs:starEach [a] X.env=[(false,eval a X.env)]:=by rfl) :
  I3 X (.Tuple es k1 pt) (.Call (.Name "enumerate" p) [a] [] pos) (YZ t):=
 qj4 (qer hg hm ha hs) λσ H R ⟨τ,G,r,rl,h,af⟩=>QN rl h λxs G1 h1 vs H1 rs hr1 k1 rl1=>by
  split at h1
  ·rename_i x;split at h1
   ·rename_i us e1;obtain ⟨v,rfl,r1⟩:=CU rs;obtain ⟨b1,c1,rfl,f1⟩:=qgX hr1 r1 e1;obtain ⟨p,sp,_⟩:=f1 G1 H1 hr1 Kp.refl e1;exact ⟨b1,c1,p,rfl,sp,af _ _ G1 h1 _ H1 hr1 k1 (qgm f1)⟩
   ·exact h1.elim
  ·exact h1.elim
end
section
variable {X:Cx} {a b c e:Expr} {es:List Expr} {ta tb tc te:TE3} {t:TA3} {pos:Pos}
def DQ:List T->Option (List Int)
 |[]=>some []
 |.int i::r=>(match DQ r with|some ns=>some (i::ns)|none=>none)
 |_=>none
def V8 (ns:List Int):DQ (ns.map T.int)=some ns:=by
 induction ns with
 |nil=>rfl
 |cons n r ih=>simp [DQ,ih]
theorem VO:∀ {xs:List T} {ns:List Int},DQ xs=some ns->xs=ns.map T.int
 |[],_,h=>by simp [DQ] at h;subst h;rfl
 |x::r,ns,h=>by
  unfold DQ at h;split at h
  ·rename_i e;cases e
  ·rename_i i r' e;cases e;split at h
   ·rename_i ms e2;cases h;rw [VO e2];rfl
   ·cases h
  ·cases h
theorem VL {K:Frg} {H:Hp}:∀ {ns:List Int} {vs:List V},Rps K H (ns.map T.int) vs->vs=ns.map V.int
 |[],_,r=>by cases r;rfl
 |n::ns,_,r=>by
  cases r with
  |cons a b=>cases a;rw [VL b];rfl
end
section
variable {X:Cx}
end
end L3
set_option autoImplicit true
namespace L3
open PySem PySem.Spec PyProof.Rows L2
structure jE3 (X:Cx) (e:Expr) (t:TE3):Prop where h:E3 X e t
structure jC3 (X:Cx) (e:Expr) (t:TT3):Prop where h:C3 X e t
structure jW3 (X:Cx) (e:Expr) (t:TT3):Prop where h:W3 X e t
structure jA3 (X:Cx) (e:List Expr) (t:TA3):Prop where h:A3 X e t
structure jP3 (X:Cx) (e:Option Expr) (t:TO3):Prop where h:P3 X e t
structure jS3 (X:Cx) (e:Stmt) (t:TS3):Prop where h:S3 X e t
structure jB3 (X:Cx) (e:List Stmt) (t:TS3):Prop where h:B3 X e t
structure jG3 (X:Cx) (e:Expr) (t:TG3):Prop where h:G3 X e t
structure jGs3 (X:Cx) (e:List Expr) (t:CS):Prop where h:Gs3 X e t
structure jI3 (X:Cx) (tg e:Expr) (t:TI3):Prop where h:I3 X tg e t
structure jF3 (X:Cx) (e:List Expr) (t:TT3):Prop where h:F3 X e t
def qb {X:Cx} (i:Nat) {x:Str} {pos:Pos} (hN:X.N[i]?=some x:=by rfl) (hv:Vis X.env.scope x:=by first|exact Or.inl rfl|exact Or.inr (Or.inl rfl)|exact Or.inr (Or.inr rfl)) (hd:(x==("__debug__" : Str))=false:=by decide)
  (hcd:(x==("__classdict__" : Str))=false:=by decide):jE3 X (.Name x pos) (v3 i):=
 ⟨qkF (i:=i) (hN:=hN) (hv:=hv) (hd:=hd) (hcd:=hcd)⟩
def qg {X:Cx} {i:Int} {j pos}:jE3 X (.Constant (.int i) j pos) (c3 (.int i)):=
 ⟨qkJ ⟩
def ZO {X:Cx} {b:Bool} {j pos}:jE3 X (.Constant (.bool b) j pos) (c3 (.bl b)):=
 ⟨qmX ⟩
def qdD {X:Cx} {j pos}:jE3 X (.Constant .none j pos) (c3 .non):=
 ⟨qlj ⟩
def YX {X:Cx} {x:Str} {j pos}:jE3 X (.Constant (.str x) j pos) (c3 (.str x)):=
 ⟨qke ⟩
def W4 {ta:TE3} {tb:TE3} {pos:Pos} {a:Expr} {b:Expr} {X:Cx} {op:CmpOp} {r3:R3} {r:R2} (ho:OpR X (compareOp op) r) (hr:UG X.K r3 r) (ha:jE3 X a ta) (hb:jE3 X b tb) (hm:behindInMarks op b=false):jE3 X (.Compare a [op] [b] pos) (o3 r3 ta tb):=
 ⟨qkG (ho:=ho) (hr:=hr) (ha:=ha.h) (hb:=hb.h) (hm:=hm)⟩
def zj {ta:TE3} {tb:TE3} {pos:Pos} {a:Expr} {b:Expr} {X:Cx} {op:CmpOp} {r3:R3} {r:R2} (ho:OpR X (compareOp op) r) (hr:UG X.K r3 r) (ha:jE3 X a ta) (hb:jE3 X b tb) (hm:behindInMarks op b=false):jC3 X (.Compare a [op] [b] pos) (tb3 (o3 r3 ta tb)):=
 ⟨qkj (ho:=ho) (hr:=hr) (ha:=ha.h) (hb:=hb.h) (hm:=hm)⟩
def qbz {ta:TE3} {tb:TE3} {tc:TE3} {pos:Pos} {a:Expr} {b:Expr} {c:Expr} {X:Cx} {op op':CmpOp} {r3 r3':R3} {r r':R2} (ho:OpR X (compareOp op) r) (hr:UG X.K r3 r) (ho':OpR X (compareOp op') r') (hr':UG X.K r3' r') (ha:jE3 X a ta) (hb:jE3 X b tb) (hc:jE3 X c tc)
  (hm:lastMarks [op,op'] [b,c]=false:=by with_unfolding_all rfl):jC3 X (.Compare a [op,op'] [b,c] pos) (tb3 (ch3 r3 r3' ta tb tc)):=
 ⟨qet (ho:=ho) (hr:=hr) (ho':=ho') (hr':=hr') (ha:=ha.h) (hb:=hb.h) (hc:=hc.h) (hm:=hm)⟩
def ML {ta:TE3} {tb:TE3} {pos:Pos} {a:Expr} {b:Expr} {X:Cx} (ha:jE3 X a ta) (hb:jE3 X b tb):jE3 X (.BinOp a .Sub b pos) (o3 (iI (·-·)) ta tb):=
 ⟨qkc (ha:=ha.h) (hb:=hb.h)⟩
def Z4 {ta:TE3} {tb:TE3} {pos:Pos} {a:Expr} {b:Expr} {X:Cx} (ha:jE3 X a ta) (hb:jE3 X b tb):jE3 X (.BinOp a .Mult b pos) (o3 (iC VC (·*·)) ta tb):=
 ⟨qkO (ha:=ha.h) (hb:=hb.h)⟩
def U7 {ta:TE3} {tb:TE3} {pos:Pos} {a:Expr} {b:Expr} {X:Cx} (ha:jE3 X a ta) (hb:jE3 X b tb):jE3 X (.BinOp a .Mod b pos) (o3 (iC (λ_ j=>0<j) (·%·)) ta tb):=
 ⟨qlx (ha:=ha.h) (hb:=hb.h)⟩
def SB {ta:TE3} {tb:TE3} {pos:Pos} {a:Expr} {b:Expr} {X:Cx} (ha:jE3 X a ta) (hb:jE3 X b tb):jE3 X (.BinOp a .FloorDiv b pos) (o3 (iC qa5 (·/·)) ta tb):=
 ⟨qlX (ha:=ha.h) (hb:=hb.h)⟩
def qgM {ta:TE3} {tb:TE3} {pos:Pos} {a:Expr} {b:Expr} {X:Cx} (ha:jE3 X a ta) (hb:jE3 X b tb):jE3 X (.BinOp a .Pow b pos) (o3 (iC T9 (λi j=>i ^ j.toNat)) ta tb):=
 ⟨qko (ha:=ha.h) (hb:=hb.h)⟩
def SG {ta:TE3} {tb:TE3} {pos:Pos} {a:Expr} {b:Expr} {X:Cx} (ha:jE3 X a ta) (hb:jE3 X b tb):jE3 X (.BinOp a .BitXor b pos) (o3 (iI Builtin.bitXor) ta tb):=
 ⟨qj7 (ha:=ha.h) (hb:=hb.h)⟩
def qfd {ta:TE3} {tb:TE3} {pos:Pos} {a:Expr} {b:Expr} {X:Cx} (ha:jE3 X a ta) (hb:jE3 X b tb):jE3 X (.BinOp a .BitAnd b pos) (o3 (iI Builtin.bitAnd) ta tb):=
 ⟨qib (ha:=ha.h) (hb:=hb.h)⟩
def qcy {ta:TE3} {tb:TE3} {pos:Pos} {a:Expr} {b:Expr} {X:Cx} (ha:jE3 X a ta) (hb:jE3 X b tb):jE3 X (.BinOp a .LShift b pos) (o3 (iC T9 (λi j=>i*2 ^ j.toNat)) ta tb):=
 ⟨qjX (ha:=ha.h) (hb:=hb.h)⟩
def qgC {ta:TE3} {tb:TE3} {pos:Pos} {a:Expr} {b:Expr} {X:Cx} (ha:jE3 X a ta) (hb:jE3 X b tb):jE3 X (.BinOp a .RShift b pos) (o3 (iC (λ_ j=>0<=j) (λi j=>i/2 ^ j.toNat)) ta tb):=
 ⟨qlV (ha:=ha.h) (hb:=hb.h)⟩
def qei {tA:TT3} {pos:Pos} {a:Expr} {X:Cx} (ha:jC3 X a tA):jW3 X (.BoolOp .And [a] pos) tA:=
 ⟨qhh (ha:=ha.h)⟩
def X4 {tA:TT3} {pos:Pos} {a:Expr} {X:Cx} (ha:jC3 X a tA):jW3 X (.BoolOp .Or [a] pos) tA:=
 ⟨qlc (ha:=ha.h)⟩
def qix {jC:List Expr} {tA:TT3} {tB:TT3} {pos:Pos} {a:Expr} {X:Cx} (ha:jC3 X a tA) (hb:jW3 X (.BoolOp .And (b::jC) pos) tB):jW3 X (.BoolOp .And (a::b::jC) pos) (qjU tA tB):=
 ⟨qjZ (ha:=ha.h) (hb:=hb.h)⟩
def RI {jC:List Expr} {tA:TT3} {tB:TT3} {pos:Pos} {a:Expr} {X:Cx} (ha:jC3 X a tA) (hb:jW3 X (.BoolOp .Or (b::jC) pos) tB):jW3 X (.BoolOp .Or (a::b::jC) pos) (or3 tA tB):=
 ⟨qnn (ha:=ha.h) (hb:=hb.h)⟩
def JP {tA:TT3} {pos:Pos} {a:Expr} {X:Cx} (ha:jC3 X a tA):jC3 X (.UnaryOp .Not a pos) (TH tA):=
 ⟨qlM (ha:=ha.h)⟩
def ZH {X:Cx} {e:Expr} {t:TE3} (h:jE3 X e t) (he:∀ whole,isTrue e X.env whole=(do let v←whole;standAt e.pos;holding [v] (truthy v)):=by intro _;rfl):jC3 X e (tb3 t):=
 ⟨qlL (h:=h.h) (he:=he)⟩
def SV {ta:TE3} {pos:Pos} {a:Expr} {X:Cx} {op} (h:jE3 X a ta):jE3 X (.BoolOp op [a] pos) ta:=
 ⟨qkm (h:=h.h)⟩
def XA {jC:List Expr} {ta:TE3} {tb:TE3} {pos:Pos} {a:Expr} {X:Cx} (ha:jE3 X a ta) (hb:jE3 X (.BoolOp .And (b::jC) pos) tb):jE3 X (.BoolOp .And (a::b::jC) pos) (R5 ta tb):=
 ⟨qls (ha:=ha.h) (hb:=hb.h)⟩
def qdk {ta:TE3} {pos:Pos} {a:Expr} {X:Cx} (ha:jE3 X a ta):jE3 X (.UnaryOp .Not a pos) (qbt ta):=
 ⟨qlT (ha:=ha.h)⟩
def qgT {tA:TT3} {ta:TE3} {tb:TE3} {pos:Pos} {a:Expr} {b:Expr} {X:Cx} {c:Expr} (hc:jC3 X c tA) (ha:jE3 X a ta) (hb:jE3 X b tb):jE3 X (.IfExp c a b pos) (if3 tA ta tb):=
 ⟨qmO (hc:=hc.h) (ha:=ha.h) (hb:=hb.h)⟩
def qd {X:Cx} :jA3 X [] qk:=
 ⟨qkQ ⟩
def qa {te:TE3} {t:TA3} {es:List Expr} {X:Cx} (ha:jE3 X e te) (hr:jA3 X es t) (hs:starEach (e::es) X.env=(false,eval e X.env)::starEach es X.env:=by rfl):jA3 X (e::es) (qc te t):=
 ⟨qfP (ha:=ha.h) (hr:=hr.h) (hs:=hs)⟩
def DJ {t:TA3} {pos:Pos} {es:List Expr} {X:Cx} {x1} (h:jA3 X es t):jE3 X (.Tuple es x1 pos) (qa8 t):=
 ⟨qkf (h:=h.h)⟩
def zG {t:TA3} {pos:Pos} {es:List Expr} {X:Cx} (h:jA3 X es t):jE3 X (.List es pos) (YQ t):=
 ⟨qkw (h:=h.h)⟩
def qB {t:TA3} {pos:Pos} {es:List Expr} {X:Cx} {x:Str} {p:Pos} {id:String} {r3:List T->Gp->Q3->Prop} {r:List V->Hp->VK->Prop} (hc:ZD X (.builtin id) r) (hr:SI X.K r3 r) (hg:Gl X x) (hm:X.mg x=none) (hv:bootBuiltins x=some (.builtin id)) (ha:jA3 X (e::es) t) (hn:x≠"__name__" := by decide) (hdb:(x==("__debug__" : Str))=false:=by decide)
  (he:starEach (e::es) X.env=(false,eval e X.env)::starEach es X.env:=by rfl) (hpl:(backTo pos (starEach es X.env)).any (·.1)=false:=by rfl):jE3 X (.Call (.Name x p) (e::es) [] pos) (cb3 r3 t):=
 ⟨qe5 (hc:=hc) (hr:=hr) (hg:=hg) (hm:=hm) (hv:=hv) (ha:=ha.h) (hn:=hn) (hdb:=hdb) (he:=he) (hpl:=hpl)⟩
def U2 {t:TA3} {pos:Pos} {es:List Expr} {X:Cx} {x:Str} {p:Pos} {ty:String} {r3:List T->Gp->Q3->Prop} {r:List V->Hp->VK->Prop} (hc:ZD X (.type ty) r) (hr:SI X.K r3 r) (hg:Gl X x) (hm:X.mg x=none) (hv:bootBuiltins x=some (.type ty)) (ha:jA3 X (e::es) t) (hn:x≠"__name__" := by decide) (hdb:(x==("__debug__" : Str))=false:=by decide)
  (he:starEach (e::es) X.env=(false,eval e X.env)::starEach es X.env:=by rfl) (hpl:(backTo pos (starEach es X.env)).any (·.1)=false:=by rfl):jE3 X (.Call (.Name x p) (e::es) [] pos) (cb3 r3 t):=
 ⟨qb7 (hc:=hc) (hr:=hr) (hg:=hg) (hm:=hm) (hv:=hv) (ha:=ha.h) (hn:=hn) (hdb:=hdb) (he:=he) (hpl:=hpl)⟩
def Z9 {ta:TE3} {tb:TE3} {pos:Pos} {a:Expr} {b:Expr} {X:Cx} (ha:jE3 X a ta) (hb:jE3 X b tb) (hs:RX b:=by intro _ _;rfl):jE3 X (.Subscript a b pos) (o3 ix3 ta tb):=
 ⟨qm8 (ha:=ha.h) (hb:=hb.h) (hs:=hs)⟩
def qaC {X:Cx} :jP3 X none np3:=
 ⟨qiy ⟩
def LY {te:TE3} {e:Expr} {X:Cx} (h:jE3 X e te):jP3 X (some e) (sp3 te):=
 ⟨qhX (h:=h.h)⟩
def SK {te:TE3} {pos:Pos} {e:Expr} {X:Cx} {lo hi:Option Expr} {tl th:TO3} {p2:Pos} (he:jE3 X e te) (hl:jP3 X lo tl) (hu:jP3 X hi th):jE3 X (.Subscript e (.Slice lo hi none p2) pos) (qjg te tl th):=
 ⟨qep (he:=he.h) (hl:=hl.h) (hu:=hu.h)⟩
def qO {ta:TE3} {tb:TE3} {pos:Pos} {a:Expr} {b:Expr} {X:Cx} (ha:jE3 X a ta) (hb:jE3 X b tb):jE3 X (.BinOp a .Add b pos) (o3 j7 ta tb):=
 ⟨qiW (ha:=ha.h) (hb:=hb.h)⟩
def Z6 {t:TA3} {e:Expr} {X:Cx} {o:Expr} {to:TE3} {apos cpos:Pos} (ho:jE3 X o to) (ha:jA3 X [e] t)
  (hbase:attributeBase o "append" X.env (eval o X.env)=eval o X.env:=by rfl)
  (hfew:((backTo cpos (starEach [e] X.env)).all (λx=>!x.1)&&(backToKw cpos (keywordEach [] X.env)).all (λx=>x.1.isSome)
   && decide (([e]:List Expr).length+([]:List Keyword).length+(if ([]:List Keyword).isEmpty then 0 else 1)<30))=true:=by rfl)
  (hline:(apos.endLine==cpos.line)=true:=by rfl) (hs:starEach [e] X.env=(false,eval e X.env)::starEach [] X.env:=by rfl) (hplain:(backTo cpos (starEach [] X.env)).any (·.1)=false:=by rfl):jE3 X (.Call (.Attribute o "append" apos) [e] [] cpos) (bm3 LL to t):=
 ⟨qbH (ho:=ho.h) (ha:=ha.h) (hbase:=hbase) (hfew:=hfew) (hline:=hline) (hs:=hs) (hplain:=hplain)⟩
def NC {t:TA3} {e:Expr} {X:Cx} {o:Expr} {to:TE3} {apos cpos:Pos} (ho:jE3 X o to) (ha:jA3 X [e] t)
  (hbase:attributeBase o "extend" X.env (eval o X.env)=eval o X.env:=by rfl)
  (hfew:((backTo cpos (starEach [e] X.env)).all (λx=>!x.1)&&(backToKw cpos (keywordEach [] X.env)).all (λx=>x.1.isSome)
   && decide (([e]:List Expr).length+([]:List Keyword).length+(if ([]:List Keyword).isEmpty then 0 else 1)<30))=true:=by rfl)
  (hline:(apos.endLine==cpos.line)=true:=by rfl) (hs:starEach [e] X.env=(false,eval e X.env)::starEach [] X.env:=by rfl) (hplain:(backTo cpos (starEach [] X.env)).any (·.1)=false:=by rfl):jE3 X (.Call (.Attribute o "extend" apos) [e] [] cpos) (bm3 qem to t):=
 ⟨qbD (ho:=ho.h) (ha:=ha.h) (hbase:=hbase) (hfew:=hfew) (hline:=hline) (hs:=hs) (hplain:=hplain)⟩
def UN {te:TE3} {pos:Pos} {e:Expr} {X:Cx} {tn:Str} {ty:String} {p p2:Pos} (he:jE3 X e te) (hg:Gl X "isinstance") (hm:X.mg "isinstance" = none) (hg2:Gl X tn) (hm2:X.mg tn=none) (hv:bootBuiltins tn=some (.type ty)) (hmem:ty∈RB:=by decide) (hn:tn≠"__name__" := by decide) (hdb:(tn==("__debug__" : Str))=false:=by decide)
  (hs:starEach [e,.Name tn p2] X.env=(false,eval e X.env)::starEach [.Name tn p2] X.env:=by rfl) (hs2:starEach [.Name tn p2] X.env=(false,eval (.Name tn p2) X.env)::starEach [] X.env:=by rfl) (hpl:(backTo pos (starEach [.Name tn p2] X.env)).any (·.1)=false:=by rfl):jE3 X (.Call (.Name "isinstance" p) [e,.Name tn p2] [] pos) (qdv (λt=>EK t ty) te):=
 ⟨qlN (he:=he.h) (hg:=hg) (hm:=hm) (hg2:=hg2) (hm2:=hm2) (hv:=hv) (hmem:=hmem) (hn:=hn) (hdb:=hdb) (hs:=hs) (hs2:=hs2) (hpl:=hpl)⟩
def zF {X:Cx} :jB3 X [] zk:=
 ⟨qlQ ⟩
def qh {jC:List Stmt} {st:Stmt} {t1:TS3} {t2:TS3} {X:Cx} (h1:jS3 X st t1) (h2:jB3 X jC t2):jB3 X (st::jC) (qP t1 t2):=
 ⟨qjq (h1:=h1.h) (h2:=h2.h)⟩
def qj {st:Stmt} {t1:TS3} {X:Cx} (h1:jS3 X st t1):jB3 X [st] t1:=
 ⟨qlR (h1:=h1.h)⟩
def UY {te:TE3} {pos:Pos} {e:Expr} {X:Cx} (he:jE3 X e te) (hs:swapsWith e none pos.line X.env=pure false:=by rfl):jS3 X (.Expr e pos) (YD te):=
 ⟨qhk (he:=he.h) (hs:=hs)⟩
def qp {te:TE3} {pos:Pos} {e:Expr} {X:Cx} (he:jE3 X e te):jS3 X (.Return (some e) pos) (zm te):=
 ⟨qk4 (he:=he.h)⟩
def jh {tA:TT3} {t1:TS3} {t2:TS3} {pos:Pos} {X:Cx} {c:Expr} {ba bb:List Stmt} (hc:jC3 X c tA) (ha:jB3 X ba t1) (hb:jB3 X bb t2):jS3 X (.If c ba bb pos) (ZE tA t1 t2):=
 ⟨qmZ (hc:=hc.h) (ha:=ha.h) (hb:=hb.h)⟩
def qw {pos:Pos} {X:Cx} {i:Nat} {x:Str} (hN:X.N.Nodup) (hi:X.N[i]?=some x:=by rfl) (hx:Loc X.env.scope x:=by first|exact Or.inl rfl|exact Or.inr rfl) (hf:X.fn x=true\/X.env.scope.names.lookup x=some .local:=by first|exact .inl rfl|exact .inr rfl):jG3 X (.Name x pos) (gn3 i):=
 ⟨qhK (hN:=hN) (hi:=hi) (hx:=hx) (hf:=hf)⟩
def YM {X:Cx} :jGs3 X [] Y8:=
 ⟨qj2 ⟩
def za {es:List Expr} {X:Cx} {tg:TG3} {tgs:CS} (h1:jG3 X e tg) (h2:jGs3 X es tgs) (hs:(assignEach (e::es) X.env).map (·.2)=assign e X.env::(assignEach es X.env).map (·.2):=by rfl):jGs3 X (e::es) (qY tg tgs):=
 ⟨qhI (h1:=h1.h) (h2:=h2.h) (hs:=hs)⟩
def YU {pos:Pos} {es:List Expr} {X:Cx} {k:Nat} {tgs:CS} {n:Nat} (hc:X.calm=true) (h:jGs3 X es tgs) (hn:(assignEach es X.env).length=n:=by rfl) (hst:(assignEach es X.env).findIdx? (·.1)=none:=by rfl):jG3 X (.Tuple es k pos) (VE n tgs):=
 ⟨qkp (hc:=hc) (h:=h.h) (hn:=hn) (hst:=hst)⟩
def qct {pos : Pos} {X : Cx} {o i : Expr} {to ti : TE3} (ho : jE3 X o to) (hi : jE3 X i ti) (ha : ∀ v,assign (.Subscript o i pos) X.env v = (do
      let ov←holding [v] (eval o X.env)
      let iv←holding [v,ov] (eval i X.env)
      standAt pos
      holding [v,ov,iv] (setItem ov iv v)
      release [v,ov,iv] []):=by intro _;rfl):jG3 X (.Subscript o i pos) (WZ to ti):=
  ⟨qkl (ho:=ho.h) (hi:=hi.h) (ha:=ha)⟩
def XS {te:TE3} {pos:Pos} {X:Cx} {tg e:Expr} {g:TG3} (he:jE3 X e te) (hg:jG3 X tg g) (hs:swapsWithSole [tg] e pos.line X.env=pure false:=by rfl) (hw:swappedStores [tg] e X.env=pure none:=by rfl)
  (h1:(assignEach [tg] X.env).map (·.2)=[assign tg X.env]:=by rfl):jS3 X (.Assign [tg] e pos) (zC te g):=
 ⟨qlH (he:=he.h) (hg:=hg.h) (hs:=hs) (hw:=hw) (h1:=h1)⟩
def qA {te:TE3} {pos:Pos} {X:Cx} (i:Nat) {x:Str} {e:Expr} {pos':Pos} (hN:X.N.Nodup) (he:jE3 X e te) (hi:X.N[i]?=some x:=by rfl) (hx:Loc X.env.scope x:=by first|exact Or.inl rfl|exact Or.inr rfl) (hs:swapsWith e (some (.Name x pos')) pos.line X.env=pure false:=by rfl) (hf:X.fn x=true\/X.env.scope.names.lookup x=some .local:=by first|exact .inl rfl|exact .inr rfl):jS3 X (.Assign [.Name x pos'] e pos) (zC te (gn3 i)):=
 ⟨qkW (i:=i) (hN:=hN) (he:=he.h) (hi:=hi) (hx:=hx) (hs:=hs) (hf:=hf)⟩
def qhB {pos:Pos} {X:Cx} {i j:Nat} {x y:Str} {a b:Expr} {tt:TA3} {px py pt:Pos} {kt k2 pt2} (hc:X.calm=true) (hN:X.N.Nodup) (hi:X.N[i]?=some x) (hj:X.N[j]?=some y) (hij:i≠j)
  (hx:X.env.scope.names.lookup x=some .local) (hy:X.env.scope.names.lookup y=some .local) (ha:jA3 X [a,b] tt)
  (hw:swappedStores [.Tuple [.Name x px,.Name y py] kt pt] (.Tuple [a,b] k2 pt2) X.env=pure (some [x,y]):=by rfl)
  (hs:swapsWithSole [.Tuple [.Name x px,.Name y py] kt pt] (.Tuple [a,b] k2 pt2) pos.line X.env=pure false:=by rfl):jS3 X (.Assign [.Tuple [.Name x px,.Name y py] kt pt] (.Tuple [a,b] k2 pt2) pos) (qik i j tt):=
 ⟨qka (hc:=hc) (hN:=hN) (hi:=hi) (hj:=hj) (hij:=hij) (hx:=hx) (hy:=hy) (ha:=ha.h) (hw:=hw) (hs:=hs)⟩
def Z8 {te:TE3} {X:Cx} {tg:Expr} {l:Expr} (hl:jE3 X l te):jI3 X tg l (Z0 te):=
 ⟨qk6 (hl:=hl.h)⟩
def jK {t:TA3} {pos:Pos} {a:Expr} {X:Cx} {tg:Expr} {p:Pos} (hg:Gl X "range") (hm:X.mg "range" = none) (ha:jA3 X [a] t) (hs:starEach [a] X.env=[(false,eval a X.env)]:=by rfl) (h1:∀ τ G q,t τ G q->t τ G λxs G=>q xs G/\xs.length=1):jI3 X tg (.Call (.Name "range" p) [a] [] pos) (VG t):=
 ⟨qbF (hg:=hg) (hm:=hm) (ha:=ha.h) (hs:=hs) (h1:=h1)⟩
def jv {pos:Pos} {X:Cx} {tg:Expr} {iter:Expr} {body:List Stmt} {wi:TI3} {g:TG3} {tb:TS3} (hp:PassesOwn (model X.prog X.w) X.A X.env X.xe) (hc:X.calm=true) (hi:jI3 X tg iter wi) (hg:jG3 X tg g) (hb:jB3 X body tb)
  (hs:∀ x,foldedSetIterable iter X.env x=pure x:=by intro _;rfl):jS3 X (.For tg iter body [] pos) (DF wi g tb):=
 ⟨qlI (hp:=hp) (hc:=hc) (hi:=hi.h) (hg:=hg.h) (hb:=hb.h) (hs:=hs)⟩
def qi {t:TA3} {pos:Pos} {es:List Expr} {X:Cx} {k:Nat} {x:Str} {p:Pos} {sp:Sp3} (F:Fn3 X.prog X.w X.K X.mg X.base k x sp) (hr:Room k X.A) (hg:Gl X x) (ha:jA3 X (e::es) t) (hdb:(x==("__debug__" : Str))=false:=by decide)
  (he:starEach (e::es) X.env=(false,eval e X.env)::starEach es X.env:=by rfl) (hpl:(backTo pos (starEach es X.env)).any (·.1)=false:=by rfl):jE3 X (.Call (.Name x p) (e::es) [] pos) (cb3 sp t):=
 ⟨qje (F:=F) (hr:=hr) (hg:=hg) (ha:=ha.h) (hdb:=hdb) (he:=he) (hpl:=hpl)⟩
def qbE {X:Cx} {elt tg iter:Expr} {ifs:List Expr} {scope:Scope} {pos:Pos} (N':List Str) (m:List (Option Nat)) {wi:TI3} {g:TG3} {tif:TT3} {te:TE3} (hc:X.calm=true) (hi:jI3 X tg iter wi)
  (hg:∀ s H fp,jG3 (ql X N' scope s H fp) tg g) (hf:∀ s H fp,jF3 (ql X N' scope s H fp) ifs tif) (he:∀ s H fp,jE3 (ql X N' scope s H fp) elt te)
  (hsc:qcW X.env.scope scope=true) (hcap:UK X.N N' scope m=true) (hs:∀ x,foldedSetIterable iter X.env x=pure x:=by intro _;rfl):jE3 X (.ListComp elt [⟨tg,iter,ifs,0⟩] scope pos) (lc3 wi g tif te m):=
 ⟨qmP (N':=N') (m:=m) (hc:=hc) (hi:=hi.h) (hg:=(λs H fp=>(hg s H fp).h)) (hf:=(λs H fp=>(hf s H fp).h)) (he:=(λs H fp=>(he s H fp).h)) (hsc:=hsc) (hcap:=hcap) (hs:=hs)⟩
def DE {X:Cx}:jF3 X [] tt3:=
 ⟨qkX ⟩
def U8 {t:TA3} {pos:Pos} {es:List Expr} {a:Expr} {X:Cx} {p pt:Pos} {k1:Nat} (hg:Gl X "enumerate") (hm:X.mg "enumerate" = none) (ha:jA3 X [a] t) (hs:starEach [a] X.env=[(false,eval a X.env)]:=by rfl):jI3 X (.Tuple es k1 pt) (.Call (.Name "enumerate" p) [a] [] pos) (YZ t):=
 ⟨qhM (hg:=hg) (hm:=hm) (ha:=ha.h) (hs:=hs)⟩
def jpt {X:Cx} {e:Expr} {t:TT3} (h:jW3 X e t):jC3 X e t:=⟨PW.pt h.h⟩
def qfA {P:Program} {w:World} {K:Frg} {mg:Str->Option Value} {base:Heap} {x qual:Str} {st:Stmt} {f:Addr} {fd:FuncData} {N ps:List Str} {k:Nat} {sp:Sp3} {t3:TS3} (F:Fun K x qual st f fd) (S:FnScope N ps (qf st)) (bd:U1 K fd ps []) (hm:mg x=some (.ref f))
  (body:∀ (cdv:Value) (A:Around) (outer:List Env) (s:Shared) (H:Hp) (E:XK),Room k (A.deeper (envOfC qual (qf st) s.heap.objs.size f cdv)) ->
   jB3 (LK CX0 P w K mg base N qual (qf st) f cdv A outer s H E).nox (qS st) t3)
  (read:∀ ts G q,sp ts G q->ts.length=ps.length/\t3 { nx:=λ_ G'=>q .non G',rt:=q } (qv N ts) G):Fn3 P w K mg base (k+1) x sp:=
 qjm F S bd hm (λcdv A outer s H E hr=>(body cdv A outer s H E hr).h) read
def qb5 {P:Program} {w:World} {K:Frg} {mg:Str->Option Value} {base:Heap} {x qual:Str} {st:Stmt} {f:Addr} {fd:FuncData} {N ps:List Str} {k:Nat} {sp:Sp3} {t3:TS3} (F:Fun K x qual st f fd) (S:FnScope N ps (qf st))
  (body:∀ (cdv:Value) (A:Around) (outer:List Env) (s:Shared) (H:Hp) (E:XK),Room k (A.deeper (envOfC qual (qf st) s.heap.objs.size f cdv)) ->
   jB3 (LK CX0 P w K mg base N qual (qf st) f cdv A outer s H E).nox (qS st) t3)
  (read:∀ ts G q,sp ts G q->ts.length=ps.length/\t3 { nx:=λ_ G'=>q .non G',rt:=q } (qv N ts) G):FnOk P w K mg base CX0 (k+1) f fd ps (lSp K sp):=
 qfx F S (λcdv A outer s H E hr=>(body cdv A outer s H E hr).h) read
open PySem.SeqAt
def Ex (G G':Gp):Prop:=∀ b o,G b=some o->G' b=some o
def Ex.refl {G:Gp}:Ex G G:=λ_ _ e=>e
def Ex.trans {G G1 G2:Gp} (a:Ex G G1) (b:Ex G1 G2):Ex G G2:=λx o e=>b x o (a x o e)
def QH {G:Gp} {p:Addr} {o:O} (hp:G p=none):Ex G (gu G p o):=λb ob e=>by
 rw [zJ (by rintro rfl;rw [hp] at e;cases e)];exact e
mutual
inductive Dp (G:Gp):T->PyData->Prop
 |non:Dp G .non .none
 |bl (b:Bool):Dp G (.bl b) (.bool b)
 |int (i:Int):Dp G (.int i) (.int i)
 |str (x:Str):Dp G (.str x) (.str x)
 |tup {xs:List T} {ds:List PyData}:Dps G xs ds->Dp G (.tup xs) (.tuple ds)
 |lst {p:Addr} {xs:List T} {ds:List PyData}:getL G p=some xs->Dps G xs ds->Dp G (.ref p) (.list ds)
inductive Dps (G:Gp):List T->List PyData->Prop
 |nil:Dps G [] []
 |cons {x:T} {d:PyData} {xs:List T} {ds:List PyData}:Dp G x d->Dps G xs ds->Dps G (x::xs) (d::ds)
end
theorem Ex.getL {G G':Gp} (e:Ex G G') {p:Addr} {xs:List T} (h:getL G p=some xs):getL G' p=some xs:=by
 unfold L3.getL at h ⊢;split at h
 ·rename_i ys g;cases h;rw [e _ _ g]
 ·rename_i ys g;cases h;rw [e _ _ g]
 ·cases h
mutual
inductive DV (K:Frg) (H:Hp):V->PyData->Prop
 |non:DV K H .non .none
 |bl (b:Bool):DV K H (.bl b) (.bool b)
 |int (i:Int):DV K H (.int i) (.int i)
 |str (x:Str):DV K H (.str x) (.str x)
 |tup {a:Addr} {vs:List V} {ds:List PyData}:SqT K H a vs->DVs K H vs ds->DV K H (.ref a) (.tuple ds)
 |lst {a:Addr} {vs:List V} {ds:List PyData}:SqL K H a vs->DVs K H vs ds->DV K H (.ref a) (.list ds)
inductive DVs (K:Frg) (H:Hp):List V->List PyData->Prop
 |nil:DVs K H [] []
 |cons {x:V} {d:PyData} {xs:List V} {ds:List PyData}:DV K H x d->DVs K H xs ds->DVs K H (x::xs) (d::ds)
end
mutual
theorem Dp.dv {K:Frg} {G:Gp} {H:Hp} (hr:HR K G H):∀ {x:T} {d:PyData} {v:V},Dp G x d->Rp K H x v->DV K H v d
 |_,_,_,.non,.non=>.non
 |_,_,_,.bl b,.bl _=>.bl b
 |_,_,_,.int i,.int _=>.int i
 |_,_,_,.str x,.str _=>.str x
 |_,_,_,.tup h,.tup hs rs=>.tup hs (Dps.dv hr h rs)
 |_,_,_,.lst g h,r=>by
  cases r;obtain ⟨_,hs,rs⟩:=zi hr g;exact .lst hs (Dps.dv hr h rs)
theorem Dps.dv {K:Frg} {G:Gp} {H:Hp} (hr:HR K G H):∀ {x:List T} {d:List PyData} {v:List V},Dps G x d->Rps K H x v->DVs K H v d
 |_,_,_,.nil,.nil=>.nil
 |_,_,_,.cons a b,.cons c d=>.cons (Dp.dv hr a c) (Dps.dv hr b d)
end
mutual
def zx:PyData->PyData->Option Bool
 |.none,.none=>some true
 |.bool a,.bool b=>some (a==b)
 |.int a,.int b=>some (a==b)
 |.str a,.str b=>some (a==b)
 |.list xs,.list ys=>ZF xs ys
 |.tuple xs,.tuple ys=>ZF xs ys
 |.int _,.none=>some false
 |.none,.int _=>some false
 |_,_=>none
def ZF:List PyData->List PyData->Option Bool
 |[],[]=>some true
 |x::xs,y::ys=>match zx x y,ZF xs ys with|some a,some b=>some (a&&b)|_,_=>none
 |_,_=>some false
end
mutual
def dpt:PyData->Nat
 |.list xs=>qba xs+1
 |.tuple xs=>qba xs+1
 |.dict _=>1000
 |_=>0
def qba:List PyData->Nat
 |[]=>0
 |x::xs=>max (dpt x) (qba xs)
end
section
variable {X:Cx} {pins:List (Addr×Obj)} {σ:L2.St} {H:Hp} {s:Shared}
mutual
theorem DV.inj (I:Inv X pins σ H s):∀ {v:V} {d e:PyData},DV X.K H v d->DV X.K H v e->d=e
 |_,_,_,.non,.non=>rfl
 |_,_,_,.bl _,.bl _=>rfl
 |_,_,_,.int _,.int _=>rfl
 |_,_,_,.str _,.str _=>rfl
 |_,_,_,.tup h hs,.tup k ks=>by
  have:=I.tuple_inj h k;subst this;rw [DVs.inj I hs ks]
 |_,_,_,.lst h hs,.lst k ks=>by
  have:=I.list_inj h k;subst this;rw [DVs.inj I hs ks]
 |_,_,_,.tup h hs,.lst k ks=>by
  obtain ⟨i1,_,p1,_⟩:=I.tuple h;obtain ⟨i2,_,p2,_⟩:=I.list k;exact absurd rfl (ne_of_list_tuple p2.isList (show s.heap.IsTuple _ i1.toArray from p1))
 |_,_,_,.lst k ks,.tup h hs=>by
  obtain ⟨i1,_,p1,_⟩:=I.tuple h;obtain ⟨i2,_,p2,_⟩:=I.list k;exact absurd rfl (ne_of_list_tuple p2.isList (show s.heap.IsTuple _ i1.toArray from p1))
theorem DVs.inj (I:Inv X pins σ H s):∀ {v:List V} {d e:List PyData},DVs X.K H v d->DVs X.K H v e->d=e
 |_,_,_,.nil,.nil=>rfl
 |_,_,_,.cons a b,.cons c d=>by rw [DV.inj I a c,DVs.inj I b d]
end
mutual
theorem XG:∀ {d:PyData} {b:Bool},zx d d=some b->b=true
 |.none,_,h=>by simp [zx] at h;exact h
 |.bool _,_,h=>by simp [zx] at h;exact h
 |.int _,_,h=>by simp [zx] at h;exact h
 |.str _,_,h=>by simp [zx] at h;exact h
 |.list xs,_,h=>by simp only [zx] at h;exact J7 h
 |.tuple xs,_,h=>by simp only [zx] at h;exact J7 h
 |.dict _,_,h=>by simp [zx] at h
theorem J7:∀ {d:List PyData} {b:Bool},ZF d d=some b->b=true
 |[],_,h=>by simp [ZF] at h;exact h
 |x::xs,b,h=>by
  simp only [ZF] at h;split at h
  ·rename_i a c e1 e2;rw [XG e1,J7 e2] at h;simpa using h.symm
  ·cases h
end
theorem QT:∀ {xs ys:List PyData} {b:Bool},ZF xs ys=some b->xs.length=ys.length->∃ e:Nat->Bool,(∀ (j:Nat) x y,xs[j]?=some x->ys[j]?=some y->zx x y=some (e j))/\b=(List.range xs.length).all e
 |[],[],b,h,_=>by simp [ZF] at h;exact ⟨λ_=>true,by simp,by simp [h]⟩
 |x::xs,y::ys,b,h,hl=>by
  simp only [ZF] at h;split at h
  ·rename_i a c e1 e2;obtain ⟨e,h1,h2⟩:=QT e2 (by simpa using hl);refine ⟨λj=>match j with|0=>a|j+1=>e j,λj u v hu hv=>?_,?_⟩
   ·cases j with
    |zero=>simp at hu hv;subst hu;subst hv;exact e1
    |succ j=>exact h1 j u v (by simpa using hu) (by simpa using hv)
   ·rw [length_cons,List.range_succ_eq_map,List.all_cons,List.all_map];cases h;rw [h2];rfl
  ·cases h
 |[],_::_,_,_,hl=>by simp at hl
 |_::_,[],_,_,hl=>by simp at hl
theorem QP:∀ {xs ys:List PyData} {b:Bool},ZF xs ys=some b->xs.length≠ys.length->b=false/\∃ e:Nat->Bool,∀ (j:Nat) x y,xs[j]?=some x->ys[j]?=some y->zx x y=some (e j)
 |[],[],_,_,hl=>by simp at hl
 |[],_::_,b,h,_=>by simp [ZF] at h;exact ⟨h,λ_=>true,by simp⟩
 |_::_,[],b,h,_=>by simp [ZF] at h;exact ⟨h,λ_=>true,by simp⟩
 |x::xs,y::ys,b,h,hl=>by
  simp only [ZF] at h;split at h
  ·rename_i a c e1 e2;obtain ⟨h0,e,h1⟩:=QP e2 (by simpa using hl);subst h0;refine ⟨by simpa using h.symm,λj=>match j with|0=>a|j+1=>e j,λj u v hu hv=>?_⟩;cases j with
   |zero=>simp at hu hv;subst hu;subst hv;exact e1
   |succ j=>exact h1 j u v (by simpa using hu) (by simpa using hv)
  ·cases h
theorem JA:∀ {xs:List PyData} {x:PyData},x∈xs->dpt x<=qba xs
 |[],_,h=>by simp at h
 |y::ys,x,h=>by
  simp only [qba];rcases mem_cons.mp h with e|e
  ·subst e;omega
  ·have:=JA e;omega
theorem DVs.get {K:Frg} {H:Hp}:∀ {xs:List V} {ds:List PyData} {i:Nat} {x:V},DVs K H xs ds->xs[i]?=some x->∃ d,ds[i]?=some d/\DV K H x d
 |_,_,_,_,.nil,e=>by simp at e
 |_,_,0,_,.cons r _,e=>by simp at e;subst e;exact ⟨_,rfl,r⟩
 |_,_,i+1,x,.cons _ t,e=>by
  obtain ⟨u,h1,h2⟩:=DVs.get (i:=i) (x:=x) t (by simpa using e);exact ⟨u,by simpa using h1,h2⟩
theorem DVs.length {K:Frg} {H:Hp}:∀ {xs:List V} {ds:List PyData},DVs K H xs ds->xs.length=ds.length
 |_,_,.nil=>rfl
 |_,_,.cons _ b=>by simp [DVs.length b]
def QK {vs:List V} {us:List Value} (r:qQ vs us) {j:Nat} (h:j<us.toArray.size):∃ v,vs[j]?=some v/\zT v us.toArray[j]:=by
 have hj:j<vs.length:=by rw [r.length];simpa using h
 obtain ⟨u,hu,ru⟩:=r.get (y9 hj);refine ⟨vs[j],y9 hj,?_⟩;have hj2:j<us.length:=by simpa using h
 rw [y9 hj2] at hu;have:us[j]=u:=Option.some.inj hu;simpa [this] using ru
def R1 (I:Inv X pins σ H s):∀ (n:Nat) {v u:V} {d e:PyData} {b:Bool} {x y:Value} {A:Around},DV X.K H v d->DV X.K H u e->zx d e=some b->dpt d<=n->A.units+n<cLine->zT v x->zT u y ->
  RcAt A s x y b/\EqAt A s x y b:=by
 intro n;induction n with
 |zero=>
  intro v u d e b x y A hv hu h hd hn rx ry;cases hv with
  |non=>
   cases hu with
   |non=>simp [zx] at h;subst h;cases (show x=Value.none from rx);cases (show y=Value.none from ry);exact ⟨RcAt.none_none,EqAt.same _⟩
   |int c=>simp [zx] at h;subst h;cases (show x=Value.none from rx);obtain ⟨t',rfl⟩:=(show ∃ t,y=Value.int _ t from ry);exact ⟨RcAt.none_int _ _,EqAt.none_int _ _⟩
   |bl _=>simp [zx] at h
   |str _=>simp [zx] at h
   |tup _ _=>simp [zx] at h
   |lst _ _=>simp [zx] at h
  |bl a=>cases hu<;>simp [zx] at h;subst h;cases (show x=Value.bool _ from rx);cases (show y=Value.bool _ from ry);exact ⟨RcAt.bool_bool _ _,EqAt.bool_bool _ _⟩
  |int a=>
   cases hu with
   |int c=>simp [zx] at h;subst h;obtain ⟨t,rfl⟩:=(show ∃ t,x=Value.int _ t from rx);obtain ⟨t',rfl⟩:=(show ∃ t,y=Value.int _ t from ry);exact ⟨RcAt.int_int _ _ _ _,EqAt.int_int _ _ _ _⟩
   |non=>simp [zx] at h;subst h;obtain ⟨t,rfl⟩:=(show ∃ t,x=Value.int _ t from rx);cases (show y=Value.none from ry);exact ⟨RcAt.int_none _ _,EqAt.int_none _ _⟩
   |bl _=>simp [zx] at h
   |str _=>simp [zx] at h
   |tup _ _=>simp [zx] at h
   |lst _ _=>simp [zx] at h
  |str a=>cases hu<;>simp [zx] at h;subst h;obtain ⟨t,rfl⟩:=(show ∃ t,x=Value.str _ t from rx);obtain ⟨t',rfl⟩:=(show ∃ t,y=Value.str _ t from ry);exact ⟨RcAt.str_str _ _ _ _,EqAt.str_str _ _ _ _⟩
  |tup=>simp [dpt] at hd
  |lst=>simp [dpt] at hd
 |succ n ih=>
  intro v u d e b x y A hv hu h hd hn rx ry;have fin:∀ {l l':Addr} {k:Bool},x=.ref l->y=.ref l'->v=.ref l->u=.ref l'->b=k->RcAt A s x y k->RcAt A s x y b/\EqAt A s x y b:=by
   rintro l l' k rfl rfl rfl rfl rfl rc;refine ⟨rc,?_⟩;by_cases hll:l=l'
   ·subst hll;have:=DV.inj I hv hu;subst this;rw [XG h];exact EqAt.same _
   ·exact EqAt.of_refs hll rc
  cases hv with
  |non=>
   cases hu with
   |non=>simp [zx] at h;subst h;cases (show x=Value.none from rx);cases (show y=Value.none from ry);exact ⟨RcAt.none_none,EqAt.same _⟩
   |int c=>simp [zx] at h;subst h;cases (show x=Value.none from rx);obtain ⟨t',rfl⟩:=(show ∃ t,y=Value.int _ t from ry);exact ⟨RcAt.none_int _ _,EqAt.none_int _ _⟩
   |bl _=>simp [zx] at h
   |str _=>simp [zx] at h
   |tup _ _=>simp [zx] at h
   |lst _ _=>simp [zx] at h
  |bl a=>cases hu<;>simp [zx] at h;subst h;cases (show x=Value.bool _ from rx);cases (show y=Value.bool _ from ry);exact ⟨RcAt.bool_bool _ _,EqAt.bool_bool _ _⟩
  |int a=>
   cases hu with
   |int c=>simp [zx] at h;subst h;obtain ⟨t,rfl⟩:=(show ∃ t,x=Value.int _ t from rx);obtain ⟨t',rfl⟩:=(show ∃ t,y=Value.int _ t from ry);exact ⟨RcAt.int_int _ _ _ _,EqAt.int_int _ _ _ _⟩
   |non=>simp [zx] at h;subst h;obtain ⟨t,rfl⟩:=(show ∃ t,x=Value.int _ t from rx);cases (show y=Value.none from ry);exact ⟨RcAt.int_none _ _,EqAt.int_none _ _⟩
   |bl _=>simp [zx] at h
   |str _=>simp [zx] at h
   |tup _ _=>simp [zx] at h
   |lst _ _=>simp [zx] at h
  |str a=>cases hu<;>simp [zx] at h;subst h;obtain ⟨t,rfl⟩:=(show ∃ t,x=Value.str _ t from rx);obtain ⟨t',rfl⟩:=(show ∃ t,y=Value.str _ t from ry);exact ⟨RcAt.str_str _ _ _ _,EqAt.str_str _ _ _ _⟩
  |tup hq hs=>
   cases hu with
   |tup kq ks=>
    rename_i a1 vs1 ds1 a2 vs2 ds2;simp only [zx] at h;obtain ⟨i1,r1,p1,z1⟩:=I.tuple hq;obtain ⟨i2,r2,p2,z2⟩:=I.tuple kq;have l1:=hs.length;have l2:=ks.length;have m1:=r1.length;have m2:=r2.length;have el:∀ (e:Nat->Bool),(∀ (j:Nat) x y,ds1[j]?=some x->ds2[j]?=some y->zx x y=some (e j))->∀ j (h1:j<i1.toArray.size) (h2:j<i2.toArray.size),EqAt A.in1 s i1.toArray[j] i2.toArray[j] (e j):=λe he j h1 h2=>by
     obtain ⟨w1,g1,q1⟩:=QK r1 h1;obtain ⟨w2,g2,q2⟩:=QK r2 h2;obtain ⟨d1,f1,dv1⟩:=hs.get g1;obtain ⟨d2,f2,dv2⟩:=ks.get g2;have:=JA (v9 f1);exact (ih dv1 dv2 (he j d1 d2 f1 f2) (by simp only [dpt] at hd;omega) (show A.units+1+n<cLine by omega) q1 q2).2
    cases (show x=Value.ref a1 from rx);cases (show y=Value.ref a2 from ry);by_cases hl:ds1.length=ds2.length
    ·obtain ⟨e,he,hb⟩:=QT h hl;refine fin rfl rfl rfl rfl (k:=(List.range (min i1.toArray.size i2.toArray.size)).all e&&i1.toArray.size==i2.toArray.size) ?_ (RcAt.tuples (show s.heap.IsTuple a1 i1.toArray from p1) (show s.heap.IsTuple a2 i2.toArray from p2) (by omega) (el e he));have e1:i1.toArray.size=ds1.length:=by rw [size_toArray];omega
     have e2:i2.toArray.size=ds1.length:=by rw [size_toArray];omega
     rw [e1,e2,hb];simp
    ·obtain ⟨hb,e,he⟩:=QP h hl;refine fin rfl rfl rfl rfl (k:=(List.range (min i1.toArray.size i2.toArray.size)).all e&&i1.toArray.size==i2.toArray.size) ?_ (RcAt.tuples (show s.heap.IsTuple a1 i1.toArray from p1) (show s.heap.IsTuple a2 i2.toArray from p2) (by omega) (el e he));have e1:i1.toArray.size≠i2.toArray.size:=by rw [size_toArray,size_toArray];omega
     rw [hb];simp [e1];intro;omega
   |_=>simp [zx] at h
  |lst hq hs=>
   cases hu with
   |lst kq ks=>
    rename_i a1 vs1 ds1 a2 vs2 ds2;simp only [zx] at h;obtain ⟨i1,r1,p1,z1⟩:=I.list hq;obtain ⟨i2,r2,p2,z2⟩:=I.list kq;have l1:=hs.length;have l2:=ks.length;have m1:=r1.length;have m2:=r2.length;have el:∀ (e:Nat->Bool),(∀ (j:Nat) x y,ds1[j]?=some x->ds2[j]?=some y->zx x y=some (e j))->∀ j (h1:j<i1.toArray.size) (h2:j<i2.toArray.size),EqAt A.in1 s i1.toArray[j] i2.toArray[j] (e j):=λe he j h1 h2=>by
     obtain ⟨w1,g1,q1⟩:=QK r1 h1;obtain ⟨w2,g2,q2⟩:=QK r2 h2;obtain ⟨d1,f1,dv1⟩:=hs.get g1;obtain ⟨d2,f2,dv2⟩:=ks.get g2;have:=JA (v9 f1);exact (ih dv1 dv2 (he j d1 d2 f1 f2) (by simp only [dpt] at hd;omega) (show A.units+1+n<cLine by omega) q1 q2).2
    cases (show x=Value.ref a1 from rx);cases (show y=Value.ref a2 from ry);by_cases hl:ds1.length=ds2.length
    ·obtain ⟨e,he,hb⟩:=QT h hl;refine fin rfl rfl rfl rfl (k:=(List.range i1.toArray.size).all e) ?_ (RcAt.lists p1.isList p2.isList (by rw [size_toArray,size_toArray];omega) (by omega) (el e he));have e1:i1.toArray.size=ds1.length:=by rw [size_toArray];omega
     rw [e1,hb]
    ·obtain ⟨hb,e,he⟩:=QP h hl;refine fin rfl rfl rfl rfl (k:=false) hb (RcAt.lists_lengths p1.isList p2.isList (by rw [size_toArray,size_toArray];simp;omega) (by omega))
   |_=>simp [zx] at h
def qfw (I:Inv X pins σ H s) {n:Nat} {v u:V} {d e:PyData} {b:Bool} {x y:Value} {A:Around} (hv:DV X.K H v d) (hu:DV X.K H u e) (h:zx d e=some b) (hd:dpt d<=n+1) (hn:A.units+(n+1)<cLine) (rx:zT v x) (ry:zT u y) (hs:dpt d≠0):RcNeAt A s x y (!b):=by
 cases hv with
 |tup hq hs'=>
  cases hu with
  |tup kq ks=>
   rename_i a1 vs1 ds1 a2 vs2 ds2;simp only [zx] at h;obtain ⟨i1,r1,p1,z1⟩:=I.tuple hq;obtain ⟨i2,r2,p2,z2⟩:=I.tuple kq;have l1:=hs'.length;have l2:=ks.length;have m1:=r1.length;have m2:=r2.length;have el:∀ (e:Nat->Bool),(∀ (j:Nat) x y,ds1[j]?=some x->ds2[j]?=some y->zx x y=some (e j))->∀ j (h1:j<i1.toArray.size) (h2:j<i2.toArray.size),EqAt A.in1 s i1.toArray[j] i2.toArray[j] (e j):=λe he j h1 h2=>by
    obtain ⟨w1,g1,q1⟩:=QK r1 h1;obtain ⟨w2,g2,q2⟩:=QK r2 h2;obtain ⟨d1,f1,dv1⟩:=hs'.get g1;obtain ⟨d2,f2,dv2⟩:=ks.get g2;have:=JA (v9 f1);exact (R1 I n dv1 dv2 (he j d1 d2 f1 f2) (by simp only [dpt] at hd;omega) (show A.units+1+n<cLine by omega) q1 q2).2
   cases (show x=Value.ref a1 from rx);cases (show y=Value.ref a2 from ry);by_cases hl:ds1.length=ds2.length
   ·obtain ⟨e,he,hb⟩:=QT h hl;have:=RcNeAt.tuples (show s.heap.IsTuple a1 i1.toArray from p1) (show s.heap.IsTuple a2 i2.toArray from p2) (A:=A) (by omega) (el e he);have e1:i1.toArray.size=ds1.length:=by rw [size_toArray];omega
    have e2:i2.toArray.size=ds1.length:=by rw [size_toArray];omega
    rw [e1,e2] at this;rw [hb];simpa using this
   ·obtain ⟨hb,e,he⟩:=QP h hl;have:=RcNeAt.tuples (show s.heap.IsTuple a1 i1.toArray from p1) (show s.heap.IsTuple a2 i2.toArray from p2) (A:=A) (by omega) (el e he);have e1:(i1.toArray.size==i2.toArray.size)=false:=by rw [size_toArray,size_toArray];simp;omega
    rw [e1] at this;rw [hb];simpa using this
  |_=>simp [zx] at h
 |lst hq hs'=>
  cases hu with
  |lst kq ks=>
   rename_i a1 vs1 ds1 a2 vs2 ds2;simp only [zx] at h;obtain ⟨i1,r1,p1,z1⟩:=I.list hq;obtain ⟨i2,r2,p2,z2⟩:=I.list kq;have l1:=hs'.length;have l2:=ks.length;have m1:=r1.length;have m2:=r2.length;have el:∀ (e:Nat->Bool),(∀ (j:Nat) x y,ds1[j]?=some x->ds2[j]?=some y->zx x y=some (e j))->∀ j (h1:j<i1.toArray.size) (h2:j<i2.toArray.size),EqAt A.in1 s i1.toArray[j] i2.toArray[j] (e j):=λe he j h1 h2=>by
    obtain ⟨w1,g1,q1⟩:=QK r1 h1;obtain ⟨w2,g2,q2⟩:=QK r2 h2;obtain ⟨d1,f1,dv1⟩:=hs'.get g1;obtain ⟨d2,f2,dv2⟩:=ks.get g2;have:=JA (v9 f1);exact (R1 I n dv1 dv2 (he j d1 d2 f1 f2) (by simp only [dpt] at hd;omega) (show A.units+1+n<cLine by omega) q1 q2).2
   cases (show x=Value.ref a1 from rx);cases (show y=Value.ref a2 from ry);by_cases hl:ds1.length=ds2.length
   ·obtain ⟨e,he,hb⟩:=QT h hl;have:=RcNeAt.lists p1.isList p2.isList (A:=A) (by rw [size_toArray,size_toArray];omega) (by omega) (el e he);have e1:i1.toArray.size=ds1.length:=by rw [size_toArray];omega
    rw [e1] at this;rw [hb];exact this
   ·obtain ⟨hb,e,he⟩:=QP h hl;rw [hb];exact RcNeAt.lists_lengths p1.isList p2.isList (by rw [size_toArray,size_toArray];simp;omega) (by omega)
  |_=>simp [zx] at h
 |_=>simp [dpt] at hs
def qfN (K:Frg) (neg:Bool):R2:=λx y H Q=>∃ d e b,DV K H x d/\DV K H y e/\zx d e=some b/\dpt d<=40/\dpt d≠0/\Q (.bl (if neg then !b else b)) H
def qg8 (hu:X.A.units+64<cLine):OpR X (compareOp .Eq) (qfN X.K false):=by
 intro pins s σ H x y v u Q I rx ry h;obtain ⟨d,e,b,hx,hy,hb,hd,_,q⟩:=h;exact (R1 I 40 hx hy hb hd (by omega) rx ry).1 X.prog X.w X.xe _ ⟨.bl b,H,I,rfl,q⟩
def qhY (hu:X.A.units+64<cLine):OpR X (compareOp .NotEq) (qfN X.K true):=by
 intro pins s σ H x y v u Q I rx ry h;obtain ⟨d,e,b,hx,hy,hb,hd,hs,q⟩:=h;exact qfw I (n:=40) hx hy hb (by omega) (by omega) rx ry hs X.prog X.w X.xe _ ⟨.bl (!b),H,I,rfl,q⟩
end
def YL (neg:Bool):R3:=λx y G q=>match qcg x y with
 |some k=>q (.bl (if neg then !k else k)) G
 |none=>∃ d e b,Dp G x d/\Dp G y e/\zx d e=some b/\dpt d<=40/\dpt d≠0/\q (.bl (if neg then !b else b)) G
def jz {K:Frg}:UG K (YL false) (λx y H Q=>rEq x y H Q\/qfN K false x y H Q):=λx y v u G H q Q hr rx ry h af=>by
 unfold YL at h;split at h
 ·rename_i k e;obtain ⟨h1,h2⟩:=S5 rx ry e;refine .inl ⟨h1,?_⟩;rw [h2];exact af _ G h _ H (.bl _) hr Kp.refl
 ·obtain ⟨d,e,b,h1,h2,h3,h4,h5,h6⟩:=h;exact .inr ⟨d,e,b,h1.dv hr rx,h2.dv hr ry,h3,h4,h5,af _ G h6 _ H (.bl _) hr Kp.refl⟩
def J3 {K:Frg}:UG K (YL true) (λx y H Q=>rNe x y H Q\/qfN K true x y H Q):=λx y v u G H q Q hr rx ry h af=>by
 unfold YL at h;split at h
 ·rename_i k e;obtain ⟨h1,h2⟩:=S5 rx ry e;refine .inl ⟨h1,?_⟩;rw [h2];exact af _ G h _ H (.bl _) hr Kp.refl
 ·obtain ⟨d,e,b,h1,h2,h3,h4,h5,h6⟩:=h;exact .inr ⟨d,e,b,h1.dv hr rx,h2.dv hr ry,h3,h4,h5,af _ G h6 _ H (.bl _) hr Kp.refl⟩
def ZG {X:Cx} (hu:X.A.units+64<cLine):OpR X (compareOp .Eq) (λx y H Q=>rEq x y H Q\/qfN X.K false x y H Q):=qkS.or (qg8 hu)
def EY {X:Cx} (hu:X.A.units+64<cLine):OpR X (compareOp .NotEq) (λx y H Q=>rNe x y H Q\/qfN X.K true x y H Q):=qlC.or (qhY hu)
end L3
namespace L3
open PySem PySem.Spec PyProof.Rows L2
section
variable {X:Cx} {pins:List (Addr×Obj)} {σ:L2.St} {H:Hp} {s:Shared}
end
section
variable {X:Cx}
def qfH:V->List V->Hp->VK->Prop:=λx vs H Q=>∃ i,x=.int i/\vs=[]/\Q (.int (Builtin.Int.intBits i)) H
def qaL:MtR X "int.bit_length" qfH:=by
 intro pins s σ H x vs v us Q I rx rv h;obtain ⟨i,rfl,rfl,q⟩:=h;obtain ⟨t,rfl⟩:=rx;have hus:=rv.zero;subst hus;exact call_int_bit_length ⟨.int _,_,I.tok _,⟨_,rfl⟩,q⟩
def bl3 (to:TE3):TE3:=λτ G q=>to τ G λx G1=>match x with|.int i=>q (.int (Builtin.Int.intBits i)) G1|_=>False
def XT {o:Expr} {to:TE3} {apos cpos:Pos} (ho:jE3 X o to) (hbase:attributeBase o "bit_length" X.env (eval o X.env)=eval o X.env:=by rfl) (hline:(apos.endLine==cpos.line)=true:=by rfl) :
  jE3 X (.Call (.Attribute o "bit_length" apos) [] [] cpos) (bl3 to):=
 ⟨EQ (qf8 PySem.F.plainAttrs_int PySem.F.slot_int_bit_length PySem.F.type_int_bit_length qaL ho.h hbase hline) λ_ _ _ ⟨τ,G,q,rl,h,af⟩=>qZ rl h λx G1 h1 v H1 rx hr1 k1 rl1=>by
  cases x<;>try exact h1.elim
  case int i=>
   cases rx;exact ⟨rfl,i,rfl,rfl,af.back k1 _ _ h1 _ _ (.int _) hr1 Kp.refl⟩⟩
end
section
variable {prog:Program} {w:World} {A:Around} {R:Result->Shared->Prop} {s:Shared}
def DT (elt t1 i1 t2 i2:Expr) (f1 f2:List Expr) (scope:Scope) (pos:Pos) (it acc:Value) (env:Env) :
  compTurn (.ListComp elt [⟨t1,i1,f1,0⟩,⟨t2,i2,f2,0⟩] scope pos) 0 it acc env=(do
   standAt i1.pos
   match←pyNext it with
   |none=>pure (.done .next)
   |some v=>
    letOwnedTupleGo t1 it v
    assign t1 env v
    let mut ok:=true
    for c in f1 do
     if ok then ok←isTrue c env (eval c env)
    if ok then
     let x←eval i2 env
     standAt i2.pos
     let x←foldedSetIterable i2 env x
     let _←runOwn (.compStart (.ListComp elt [⟨t1,i1,f1,0⟩,⟨t2,i2,f2,0⟩] scope pos) 1 (← holding [x] (pyIter x)) acc env) env
    again (.compLoop (.ListComp elt [⟨t1,i1,f1,0⟩,⟨t2,i2,f2,0⟩] scope pos) 0 it acc env)):=by rfl
def D9 (elt t1 i1 t2 i2:Expr) (f1 f2:List Expr) (scope:Scope) (pos:Pos) (it acc:Value) (env:Env) :
  compTurn (.ListComp elt [⟨t1,i1,f1,0⟩,⟨t2,i2,f2,0⟩] scope pos) 1 it acc env=(do
   standAt i2.pos
   match←pyNext it with
   |none=>pure (.done .next)
   |some v=>
    letOwnedTupleGo t2 it v
    assign t2 env v
    let mut ok:=true
    for c in f2 do
     if ok then ok←isTrue c env (eval c env)
    if ok then
     (do let _←call (.builtin "list.append") [acc,← eval elt env])
    again (.compLoop (.ListComp elt [⟨t1,i1,f1,0⟩,⟨t2,i2,f2,0⟩] scope pos) 1 it acc env)):=by rfl
def QI {elt t1 i1 t2 i2:Expr} {f1 f2:List Expr} {scope:Scope} {pos:Pos} {it acc:Value} {env:Env}
  (h0:codeAny (model prog w) A (.compLoop (.ListComp elt [⟨t1,i1,f1,0⟩,⟨t2,i2,f2,0⟩] scope pos) 1 it acc env) R s)
  (h:wpAny (model prog w) A (pyIter it) (λit' s'=>codeAny (model prog w) A (.compLoop (.ListComp elt [⟨t1,i1,f1,0⟩,⟨t2,i2,f2,0⟩] scope pos) 1 it' acc env) R s')
   (notedBy (model prog w) A env λx s'=>R (.error x) s') s) :
  codeAny (model prog w) A (.compStart (.ListComp elt [⟨t1,i1,f1,0⟩,⟨t2,i2,f2,0⟩] scope pos) 1 it acc env) R s:=by
 refine codeAny_of_tree ?_;show wpAny _ _ ((compStart (.ListComp elt [⟨t1,i1,f1,0⟩,⟨t2,i2,f2,0⟩] scope pos) 1 it acc env).onRaise (λx=>do noteFrame x env;standAt theWindowsPlace)) _ _ s;refine wpAny_notedAt ?_;unfold compStart;show wpAny _ _ (ask >>= _) _ _ s;refine x8 (wpAny_askSetting (wpAny_ite ?_));split
 ·first
   |exact x8 (x9 (x9 (And.intro rfl h0)))
   |exact x9 (And.intro rfl h0)
 ·first
   |exact x8 (wpAny_rule (x8 (wpAny_standAt (x8 (y0 h (λit' s' h'=>x9 (And.intro rfl h')) λ_ _ x=>x)))))
   | (refine x8 (wpAny_rule ?_);show wpAny _ _ (standAt i2.pos >>= _) _ _ s;exact x8 (wpAny_standAt (x8 (y0 h (λit' s' h'=>x9 (And.intro rfl h')) λ_ _ x=>x))))
end
def tIn (wi:TI) (g:TG) (tif:TT) (te:TE) (D:Addr) (N:L2.St->Hp->Prop) (σ:L2.St) (H:Hp):Prop:=wi σ H λJ H1=>
 ∃ W:Nat->Nat->L2.St->Hp->Prop,(∃ n,W 0 n σ H1)/\∀ i n σ H,W i n σ H ->
  (J.stop i H/\N σ H)\/(J.go i H/\∀ x H',J.yld i H x H'->g x σ H' λσ2 H2=>tif σ2 H2 λk H3=>
   if k=true then te σ2 H3 λy H4=>∃ zs,H4 D=some (.lst zs)/\zs.length<sizeLine/\∃ n',n'<n/\W (i+1) n' σ2 (upd H4 D (.lst (zs++[y])))
   else ∃ n',n'<n/\W (i+1) n' σ2 H3)
section
variable {X:Cx}
def qhi {elt t1 i1 t2 i2:Expr} {f1 f2:List Expr} {scope:Scope} {pos:Pos} {wi:TI} {g:TG} {tif:TT} {te:TE} {D:Addr} {N:L2.St->Hp->Prop} (hc:X.calm=true) (hx:∀ v s,¬ X.xe v s) (hi:PI X t2 i2 wi) (hg:PG X t2 g) (hf:PF X f2 tif) (he:PE X elt te)
    (hs:∀ x,foldedSetIterable i2 X.env x=pure x) {pins:List (Addr×Obj)} {s:Shared} {σ:L2.St} {H:Hp} {E:Value->Shared->Prop} {α:Type} {kk:Sem α} {Q:α->Shared->Prop} (I:Inv X pins σ H s) (h:tIn wi g tif te D N σ H) (hk:∀ s' σ' H',Inv X pins σ' H' s'->N σ' H'->wpAny (model X.prog X.w) X.A kk Q E s') :
    wpAny (model X.prog X.w) X.A (do
            let x←eval i2 X.env
            standAt i2.pos
            let x←foldedSetIterable i2 X.env x
            let _←runOwn (.compStart (.ListComp elt [⟨t1,i1,f1,0⟩,⟨t2,i2,f2,0⟩] scope pos) 1 (← holding [x] (pyIter x)) (.ref D) X.env) X.env
            kk) Q E s:=by
  refine x8 (y0 (hi pins s σ H _ I h) (λv s1 h1=>?_) λ_ _ z=>(hx _ _ z).elim);refine x8 (wpAny_standAt (x8 (wpAny_of_eq (hs v) ?_)));refine x8 (wpAny_holding (y0 h1 (λitv s2 h2=>?_) λ_ _ z=>(hx _ _ z).elim));obtain ⟨it,fp,tn,J,H2,rfl,I2,T,st2,f2',W,⟨n0,w0⟩,turn⟩:=h2;have stat:∀ {H':Hp},(∀ b∈fp,H' b=none)->∀ b∈fp,LB X pins H' b:=λhn b hb=>⟨hn b hb,(f2' b hb).2⟩
  refine x8 (wpAny_runOwn ?_);show codeAny (model X.prog X.w) X.A (.compStart (.ListComp elt [⟨t1,i1,f1,0⟩,⟨t2,i2,f2,0⟩] scope pos) 1 (.ref it) (.ref D) X.env) _ s2;have loop:codeAny (model X.prog X.w) X.A (.compLoop (.ListComp elt [⟨t1,i1,f1,0⟩,⟨t2,i2,f2,0⟩] scope pos) 1 (.ref it) (.ref D) X.env) (λr s'=>match r with
      |.ok f=>wpAny (model X.prog X.w) X.A kk Q E s'
      |.error e=>cameBackBy (model X.prog X.w) X.A X.env E e s') s2:=by
    refine codeAny_loop rfl (λn s'=>∃ i σ' H',Inv X pins σ' H' s'/\tn i s'.heap/\(∀ b∈fp,H' b=none)/\W i n σ' H') (λn s' hI=>?_) n0 ⟨0,σ,H2,I2,st2,λb hb=>(f2' b hb).1,w0⟩;show wpAny _ X.A ((compTurn (.ListComp elt [⟨t1,i1,f1,0⟩,⟨t2,i2,f2,0⟩] scope pos) 1 (.ref it) (.ref D) X.env).onRaise (λx=>do noteFrame x X.env;theTreesLotGoes x)) _ _ s';refine wpAny_noted ?_;rw [D9];refine x8 (wpAny_standAt (x8 ?_));obtain ⟨i,σ5,H5,I5,st5,fr5,w5⟩:=hI;rcases turn i n σ5 H5 w5 with ⟨stop,q⟩|⟨go,step⟩
    · refine thn (T.done X rfl rfl rfl hc i pins s' σ5 H5 _ I5 (stat fr5) st5 stop) λr s6 ⟨hr,I6⟩=>?_;subst hr;exact x9 (hk _ σ5 H5 I6 q)
    · refine thn (T.item X rfl rfl rfl hc i pins s' σ5 H5 _ I5 (stat fr5) st5 go) λr s6 ⟨u,hr,h6⟩=>?_;subst hr;refine x8 (thn h6 λ_ s7 ⟨x,H7,I7,r7,y7,st7,fr7⟩=>?_);have I7':=I7.pinned (stat fr7) (T.obj _ _ st7);have again:∀ {σ8:L2.St} {H8:Hp} {s8:Shared},Inv X (pins++UW fp s7.heap) σ8 H8 s8->(∃ n',n'<n/\W (i+1) n' σ8 H8) ->
          ∃ m',m'<n/\∃ i σ' H',Inv X pins σ' H' s8/\tn i s8.heap/\(∀ b∈fp,H' b=none)/\W i m' σ' H':=λ{σ8 H8 s8} I8 ⟨n',hn,w8⟩=>by
        refine ⟨n',hn,i+1,σ8,H8,I8.unpinned,T.keep _ _ _ st7 λb hb o e=>(I8.pin (b,o) (v7 _ (v7 _ (zA hb e)))).1,λb hb=>?_,w8⟩;obtain ⟨o,e,d⟩:=T.obj _ _ st7 b hb;exact (I8.pin (b,o) (v7 _ (v7 _ (zA hb e)))).2.1
      refine x8 (y0 (hg _ s7 σ5 H7 x u _ I7' r7 (step x H7 y7)) (λ_ s8 ⟨σ8,H8,I8,q8⟩=>?_) λ_ _ z=>(hx _ _ z).elim);refine x8 (y0 (hf _ s8 σ8 H8 _ I8 q8) (λk s9 ⟨H9,I9,q9⟩=>?_) λ_ _ z=>(hx _ _ z).elim);cases k with
      |false=>
        rw [if_neg y6] at q9;exact x9 ⟨rfl,again I9 q9⟩
      |true=>
        rw [if_pos rfl] at q9;refine x8 (x8 (y0 (he _ s9 σ8 H9 _ I9 q9) (λw s10 ⟨y,H10,I10,r10,q10⟩=>?_) λ_ _ z=>(hx _ _ z).elim));obtain ⟨zs,hz,hl,q10⟩:=q10;refine x8 (y0 (UR (X:=X) _ s10 σ8 H10 (.ref D) [y] (.ref D) [w] (λ_ H11=>H11=upd H10 D (.lst (zs++[y]))) I10 rfl (.cons r10 .nil) ⟨D,zs,y,rfl,rfl,hz,hl,rfl⟩) (λ_ s11 ⟨_,H11,I11,_,e11⟩=>?_) λ_ _ z=>(hx _ _ z).elim);subst e11;exact x9 (x9 ⟨rfl,again I11 q10⟩)
  exact QI loop (T.self X.A 0 _ _ _ st2 loop)
def qnm (wi:TI) (g:TG) (tif:TT) (wi2:TI) (g2:TG) (tif2:TT) (te:TE) (m:List (Option Nat)):TE:=λσ H Q=>wi σ H λJ H1=>∀ D,H1 D=none ->
 ∃ W:Nat->Nat->L2.St->Hp->Prop,(∃ n,W 0 n (cap m σ) (upd H1 D (.lst [])))/\∀ i n σ H,W i n σ H ->
  (J.stop i H/\Q (.ref D) H)\/(J.go i H/\∀ x H',J.yld i H x H'->g x σ H' λσ2 H2=>tif σ2 H2 λk H3=>
   if k=true then tIn wi2 g2 tif2 te D (λσ4 H4=>∃ n',n'<n/\W (i+1) n' σ4 H4) σ2 H3
   else ∃ n',n'<n/\W (i+1) n' σ2 H3)
def qiz {elt tg iter t2 i2:Expr} {ifs f2:List Expr} {scope:Scope} {pos:Pos} {N':List Str} {m:List (Option Nat)} {wi:TI} {g:TG} {tif:TT} {wi2:TI} {g2:TG} {tif2:TT} {te:TE} (hc:X.calm=true) (hi:PI X tg iter wi)
  (hg:∀ s H fp,PG (ql X N' scope s H fp) tg g) (hf:∀ s H fp,PF (ql X N' scope s H fp) ifs tif) (hi2:∀ s H fp,PI (ql X N' scope s H fp) t2 i2 wi2) (hg2:∀ s H fp,PG (ql X N' scope s H fp) t2 g2) (hf2:∀ s H fp,PF (ql X N' scope s H fp) f2 tif2) (he:∀ s H fp,PE (ql X N' scope s H fp) elt te)
  (hsc:qcW X.env.scope scope=true) (hcap:UK X.N N' scope m=true) (hs:∀ x,foldedSetIterable iter X.env x=pure x:=by intro _;rfl) (hs2:∀ s H fp x,foldedSetIterable i2 (ql X N' scope s H fp).env x=pure x:=by intro _ _ _ _;rfl) :
  PE X (.ListComp elt [⟨tg,iter,ifs,0⟩,⟨t2,i2,f2,0⟩] scope pos) (qnm wi g tif wi2 g2 tif2 te m):=by
 intro pins s σ H Q I h;have sc:=DL hsc;have hcl:∀ y∈scope.names,y.2=.free->∃ c,X.env.cells.lookup y.1=some c:=λy hy e=>by
  rcases (sc.free y hy e).2 with z|z
  ·exact I.ok.has y.1 (.inl z)
  ·exact I.ok.has y.1 (.inr z)
 rw [eval_ListComp];refine wpAny_comprehension_free (use:=none) (g:=⟨tg,iter,ifs,0⟩) (gs:=[⟨t2,i2,f2,0⟩]) rfl hs (j9 hcl) sc.kind sc.loc ?_;show wpAny _ _ (eval iter X.env) _ _ s;refine thn (hi pins s σ H _ I h) λv s1 h1=>thn h1 λitv s2 h2=>?_;obtain ⟨it,fp,tn,J,H2,rfl,I2,T,st2,fF2,hW⟩:=h2;refine wpAny_newObj_type ?_;have hD:H2 s2.heap.objs.size=none:=I2.fresh;obtain ⟨W,⟨n0,w0⟩,turn⟩:=hW _ hD;generalize hDe:s2.heap.objs.size=D at *;have I3:Inv X pins σ (upd H2 D (.lst [])) { s2 with heap:=s2.heap.push { cls:=.type "list",dict:=none,data:=.seq ([]:List Value).toArray } }:=by
  subst hDe;exact I2.laid (t':=s2.toks) (λb u e=>y2 _ e) (v5 _) ⟨Nat.zero_le _,[],0,.nil,y3 _ rfl⟩
 have ob2:=T.obj 0 _ st2;have ob3:∀ b∈fp,∃ o,(s2.heap.push { cls:=.type "list",dict:=none,data:=.seq ([]:List Value).toArray }).get? b=some o:=λb hb=>let ⟨o,e,_⟩:=ob2 b hb;⟨o,y2 _ e⟩
 have f3:∀ b∈fp,LB X pins (upd H2 D (.lst [])) b:=λb hb=>by
  obtain ⟨o,e,_⟩:=ob2 b hb;have:b≠D:=by rw [← hDe];exact u4 (y4 e)
  exact ⟨by rw [qm this];exact (fF2 b hb).1,(fF2 b hb).2⟩
 have k23:∀ b o,s2.heap.get? b=some o->(s2.heap.push { cls:=.type "list",dict:=none,data:=.seq ([]:List Value).toArray }).get? b=some o:=λb o e=>y2 _ e;generalize hH3:upd H2 D (.lst [])=H3 at *;generalize hs3:({ s2 with heap:=s2.heap.push { cls:=.type "list",dict:=none,data:=.seq ([]:List Value).toArray } }:Shared)=s3 at *;have ob3:∀ b∈fp,∃ o,s3.heap.get? b=some o:=by rw [← hs3];exact ob3
 have k23:∀ b o,s2.heap.get? b=some o->s3.heap.get? b=some o:=by rw [← hs3];exact k23
 refine QF λh₁ hns hk hown=>?_;have I4:Inv (ql X N' scope s3 H3 fp) [] (cap m σ) H3 { s3 with heap:=h₁ }:=TW hc I3 sc hcap f3 ob3 hns hk hown;have tn4:tn 0 h₁:=T.keep _ _ _ st2 λb hb o e=>hk b o (k23 b o e);have fr4:∀ b∈fp,H3 b=none:=λb hb=>(f3 b hb).1;have stat:∀ {H':Hp},(∀ b∈fp,H' b=none)->∀ b∈fp,LB (ql X N' scope s3 H3 fp) [] H' b:=λhn b hb=>by
  refine ⟨hn b hb,I4.ok.exf b hb |>.1,I4.ok.exfs b hb,.inl hb,λx c e=>(I4.ok.exf b hb).2 x c e,λp hp=>absurd (show p∈([]:List (Addr×Obj)) from hp) (by simp)⟩
 show codeAny (model X.prog X.w) X.A (.compStart (.ListComp elt [⟨tg,iter,ifs,0⟩,⟨t2,i2,f2,0⟩] scope pos) 0 (.ref it) (.ref D) (ql X N' scope s3 H3 fp).env) (compPost (model X.prog X.w) X.A X.xe none (EP X pins σ Q) (.ref D) s3.heap.objs.size) { s3 with heap:=h₁ };have loop:codeAny (model X.prog X.w) X.A (.compLoop (.ListComp elt [⟨tg,iter,ifs,0⟩,⟨t2,i2,f2,0⟩] scope pos) 0 (.ref it) (.ref D) (ql X N' scope s3 H3 fp).env) (compPost (model X.prog X.w) X.A X.xe none (EP X pins σ Q) (.ref D) s3.heap.objs.size) { s3 with heap:=h₁ }:=by
  refine codeAny_loop rfl (λn s'=>∃ i σ' H',Inv (ql X N' scope s3 H3 fp) [] σ' H' s'/\tn i s'.heap/\(∀ b∈fp,H' b=none)/\W i n σ' H') (λn s' hI=>?_) n0 ⟨0,cap m σ,H3,I4,tn4,fr4,w0⟩;show wpAny _ X.A ((compTurn (.ListComp elt [⟨tg,iter,ifs,0⟩,⟨t2,i2,f2,0⟩] scope pos) 0 (.ref it) (.ref D) (ql X N' scope s3 H3 fp).env).onRaise (λx=>do noteFrame x (ql X N' scope s3 H3 fp).env;theTreesLotGoes x)) _ _ s';refine wpAny_noted ?_;rw [DT];refine x8 (wpAny_standAt (x8 ?_));obtain ⟨i,σ5,H5,I5,st5,fr5,w5⟩:=hI;rcases turn i n σ5 H5 w5 with ⟨stop,q⟩|⟨go,step⟩
  ·refine thn (T.done (ql X N' scope s3 H3 fp) rfl rfl rfl rfl i [] s' σ5 H5 _ I5 (stat fr5) st5 stop) λr s6 ⟨hr,I6⟩=>?_;subst hr;refine x9 ?_;obtain ⟨mm,hn6,_⟩:=I6.loc;exact ⟨mm,hn6,λh' sb=>⟨.ref D,H5,DP I3 f3 I6 sb,rfl,q⟩⟩
  ·refine thn (T.item (ql X N' scope s3 H3 fp) rfl rfl rfl rfl i [] s' σ5 H5 _ I5 (stat fr5) st5 go) λr s6 ⟨u,hr,h6⟩=>?_;subst hr;refine x8 (thn h6 λ_ s7 ⟨x,H7,I7,r7,y7,st7,fr7⟩=>?_);have I7':=I7.pinned (stat fr7) (T.obj _ _ st7);have again:∀ {σ8:L2.St} {H8:Hp} {s8:Shared},Inv (ql X N' scope s3 H3 fp) ([]++UW fp s7.heap) σ8 H8 s8->(∃ n',n'<n/\W (i+1) n' σ8 H8) ->
     ∃ m',m'<n/\∃ i σ' H',Inv (ql X N' scope s3 H3 fp) [] σ' H' s8/\tn i s8.heap/\(∀ b∈fp,H' b=none)/\W i m' σ' H':=λ{σ8 H8 s8} I8 ⟨n',hn,w8⟩=>by
    refine ⟨n',hn,i+1,σ8,H8,I8.unpinned,T.keep _ _ _ st7 λb hb o e=>(I8.pin (b,o) (v7 _ (v7 _ (zA hb e)))).1,λb hb=>?_,w8⟩;obtain ⟨o,e,d⟩:=T.obj _ _ st7 b hb;exact (I8.pin (b,o) (v7 _ (v7 _ (zA hb e)))).2.1
   refine x8 (y0 (hg s3 H3 fp _ s7 σ5 H7 x u _ I7' r7 (step x H7 y7)) (λ_ s8 ⟨σ8,H8,I8,q8⟩=>?_) λ_ _ z=>z.elim);refine x8 (y0 (hf s3 H3 fp _ s8 σ8 H8 _ I8 q8) (λk s9 ⟨H9,I9,q9⟩=>?_) λ_ _ z=>z.elim);cases k with
   |false=>
    rw [if_neg y6] at q9;exact x9 ⟨rfl,again I9 q9⟩
   |true=>
    rw [if_pos rfl] at q9;refine qhi (X:=ql X N' scope s3 H3 fp) rfl (λ_ _ z=>z) (hi2 s3 H3 fp) (hg2 s3 H3 fp) (hf2 s3 H3 fp) (he s3 H3 fp) (hs2 s3 H3 fp) I9 q9 λs10 σ10 H10 I10 q10=>?_;exact x9 ⟨rfl,again I10 q10⟩
 exact codeAny_compStart_list loop (T.self X.A 0 _ _ _ tn4 loop)
end
def qfK (D:Addr) (stay:Gp->Prop) (g:TG3) (tif:TT3) (te:TE3) (N:St3->Gp->Prop):List T->St3->Gp->Prop
 |[],τ,G=>stay G/\N τ G
 |x::r,τ,G=>stay G/\g x τ G λτ2 G2=>tif τ2 G2 λk G3=>
  if k=true then te τ2 G3 λy G4=>(match G4 D with|some (.lst ys)=>ys.length<sizeLine/\qfK D stay g tif te N r τ2 (gu G4 D (.lst (ys++[y])))|_=>False) else qfK D stay g tif te N r τ2 G3
def qal (D:Addr) (stay:Gp->Prop) (g:TG3) (tif:TT3) (wi2:TI3) (g2:TG3) (tif2:TT3) (te:TE3) (q:Q3):List T->St3->Gp->Prop
 |[],_,G=>stay G/\q (.ref D) G
 |x::r,τ,G=>stay G/\g x τ G λτ2 G2=>tif τ2 G2 λk G3=>
  if k=true then wi2 τ2 G3 λitems2 stay2 G4=>qfK D stay2 g2 tif2 te (λτ' G'=>qal D stay g tif wi2 g2 tif2 te q r τ' G') items2 τ2 G4 else qal D stay g tif wi2 g2 tif2 te q r τ2 G3
def qjA (wi:TI3) (g:TG3) (tif:TT3) (wi2:TI3) (g2:TG3) (tif2:TT3) (te:TE3) (m:List (Option Nat)):TE3:=λτ G q=>wi τ G λitems stay G1=>∀ D,G1 D=none->qal D stay g tif wi2 g2 tif2 te q items (cap m τ) (gu G1 D (.lst []))
section
variable {K:Frg}
def qev {wi2:TI3} {g2:TG3} {tif2:TT3} {te:TE3} {D:Addr} {N3:St3->Gp->Prop} {N:L2.St->Hp->Prop} {τ:St3} {G:Gp} {σ:L2.St} {H:Hp} {Gb:Gp} {Hb:Hp} (rl:Rel K τ G σ H) (kb:Kp Gb Hb G H) (h:wi2 τ G λitems stay G1=>qfK D stay g2 tif2 te N3 items τ G1)
  (hN:∀ τ' G' σ' H',Rel K τ' G' σ' H'->Kp Gb Hb G' H'->N3 τ' G'->N σ' H'):tIn (lI K wi2) (lG K g2) (lT K tif2) (lE K te) D N σ H:=by
 refine ⟨τ,G,_,rl,h,λitems stay G1 h1 J H1 hr1 k1 ok=>?_⟩;refine ⟨λi n σ' H'=>n=items.length-i/\i<=items.length/\∃ τ' G',Rel K τ' G' σ' H'/\Kp G1 H1 G' H'/\qfK D stay g2 tif2 te N3 (items.drop i) τ' G',⟨_,rfl,Nat.zero_le _,τ,G1,rl.next hr1 k1,Kp.refl,by simpa using h1⟩,?_⟩;rintro i n σ' H' ⟨rfl,hi,τ',G',rl',k',h'⟩;by_cases hlt:i<items.length
 ·rw [List.drop_eq_getElem_cons hlt] at h';obtain ⟨hst,h'⟩:=h';obtain ⟨go,yld,_⟩:=ok G' H' rl'.hp k' hst;have hx:items[i]?=some items[i]:=y9 hlt;refine .inr ⟨go i _ hx,λv H2 y=>?_⟩;obtain ⟨rv,hr2,k2⟩:=yld i _ v H2 hx y;refine ⟨_,τ',G',_,rv,rl'.next hr2 k2,h',λτ3 G3 h3 σ3 H3 rl3 k3=>⟨τ3,G3,_,rl3,h3,λk G4 h4 H4 hr4 k4=>?_⟩⟩;have kk:=(k2.trans k3).trans k4;cases k with
  |false=>
   rw [if_neg y6] at h4;refine qlG ?_;exact ⟨_,by omega,rfl,hlt,τ3,G4,rl3.next hr4 k4,k'.trans kk,h4⟩
  |true=>
   rw [if_pos rfl] at h4;refine qkE ?_;refine ⟨τ3,G4,_,rl3.next hr4 k4,h4,λz G5 h5 w H5 rw5 hr5 k5=>?_⟩;split at h5
   ·rename_i ys e1;obtain ⟨vs,g1,r1⟩:=hr5.lst e1;exact ⟨vs,g1,by rw [← r1.length];exact h5.1,_,by omega,rfl,hlt,τ3,_,((rl3.next hr4 k4).next hr5 k5).next (hr5.wr e1 (r1.append (.cons rw5 .nil))) (Kp.wr e1),((k'.trans kk).trans k5).trans (Kp.wr e1),h5.2⟩
   ·exact h5.elim
 ·have e:i=items.length:=by omega
  subst e;rw [List.drop_length] at h';obtain ⟨_,_,stop⟩:=ok G' H' rl'.hp k' h'.1;exact .inl ⟨stop,hN _ _ _ _ rl' ((kb.trans k1).trans k') h'.2⟩
end
section
variable {X:Cx}
def qkI {elt tg iter t2 i2:Expr} {ifs f2:List Expr} {scope:Scope} {pos:Pos} (N':List Str) (m:List (Option Nat)) {wi:TI3} {g:TG3} {tif:TT3} {wi2:TI3} {g2:TG3} {tif2:TT3} {te:TE3} (hc:X.calm=true) (hi:I3 X tg iter wi)
  (hg:∀ s H fp,G3 (ql X N' scope s H fp) tg g) (hf:∀ s H fp,F3 (ql X N' scope s H fp) ifs tif) (hi2:∀ s H fp,I3 (ql X N' scope s H fp) t2 i2 wi2) (hg2:∀ s H fp,G3 (ql X N' scope s H fp) t2 g2) (hf2:∀ s H fp,F3 (ql X N' scope s H fp) f2 tif2) (he:∀ s H fp,E3 (ql X N' scope s H fp) elt te)
  (hsc:qcW X.env.scope scope=true) (hcap:UK X.N N' scope m=true) (hs:∀ x,foldedSetIterable iter X.env x=pure x:=by intro _;rfl) (hs2:∀ s H fp x,foldedSetIterable i2 (ql X N' scope s H fp).env x=pure x:=by intro _ _ _ _;rfl) :
  E3 X (.ListComp elt [⟨tg,iter,ifs,0⟩,⟨t2,i2,f2,0⟩] scope pos) (qjA wi g tif wi2 g2 tif2 te m):=
 EQ (qiz (g:=lG X.K g) (tif:=lT X.K tif) (wi2:=lI X.K wi2) (g2:=lG X.K g2) (tif2:=lT X.K tif2) (te:=lE X.K te) hc hi hg hf hi2 hg2 hf2 he hsc hcap hs hs2) λσ H Q ⟨τ,G,q,rl,h,af⟩=>by
  refine ⟨τ,G,_,rl,h,λitems stay G1 h1 J H1 hr1 k1 ok D hD=>?_⟩;have gD:G1 D=none:=hr1.free hD;have h1:=h1 D gD;have hr1':HR X.K (gu G1 D (.lst [])) (upd H1 D (.lst [])):=HR.newL hr1 hD .nil;have k1':Kp G1 H1 (gu G1 D (.lst [])) (upd H1 D (.lst [])):=Kp.newL hD;refine ⟨λi n σ' H'=>n=items.length-i/\i<=items.length/\∃ τ' G',Rel X.K τ' G' σ' H'/\Kp G1 H1 G' H'/\qal D stay g tif wi2 g2 tif2 te q (items.drop i) τ' G',
   ⟨_,rfl,Nat.zero_le _,cap m τ,_,((rl.next hr1 k1).cap m).next hr1' k1',k1',by simpa using h1⟩,?_⟩
  rintro i n σ' H' ⟨rfl,hi,τ',G',rl',k',h'⟩;by_cases hlt:i<items.length
  ·rw [List.drop_eq_getElem_cons hlt] at h';obtain ⟨hst,h'⟩:=h';obtain ⟨go,yld,_⟩:=ok G' H' rl'.hp k' hst;have hx:items[i]?=some items[i]:=y9 hlt;refine .inr ⟨go i _ hx,λv H2 y=>?_⟩;obtain ⟨rv,hr2,k2⟩:=yld i _ v H2 hx y;refine ⟨_,τ',G',_,rv,rl'.next hr2 k2,h',λτ3 G3 h3 σ3 H3 rl3 k3=>⟨τ3,G3,_,rl3,h3,λk G4 h4 H4 hr4 k4=>?_⟩⟩;have kk:=(k2.trans k3).trans k4;cases k with
   |false=>
    rw [if_neg y6] at h4;refine qlG ?_;exact ⟨_,by omega,rfl,hlt,τ3,G4,rl3.next hr4 k4,k'.trans kk,h4⟩
   |true=>
    rw [if_pos rfl] at h4;refine qkE ?_;exact qev (rl3.next hr4 k4) (k'.trans kk) h4 λτ5 G5 σ5 H5 rl5 k5 h5=>⟨_,by omega,rfl,hlt,τ5,G5,rl5,k5,h5⟩
  ·have e:i=items.length:=by omega
   subst e;rw [List.drop_length] at h';obtain ⟨_,_,stop⟩:=ok G' H' rl'.hp k' h'.1;exact .inl ⟨stop,af _ _ h'.2 _ H' (.ref D) rl'.hp (k1.trans k')⟩
def qhz {elt tg iter t2 i2:Expr} {ifs f2:List Expr} {scope:Scope} {pos:Pos} (N':List Str) (m:List (Option Nat)) {wi:TI3} {g:TG3} {tif:TT3} {wi2:TI3} {g2:TG3} {tif2:TT3} {te:TE3} (hc:X.calm=true) (hi:jI3 X tg iter wi)
  (hg:∀ s H fp,jG3 (ql X N' scope s H fp) tg g) (hf:∀ s H fp,jF3 (ql X N' scope s H fp) ifs tif) (hi2:∀ s H fp,jI3 (ql X N' scope s H fp) t2 i2 wi2) (hg2:∀ s H fp,jG3 (ql X N' scope s H fp) t2 g2) (hf2:∀ s H fp,jF3 (ql X N' scope s H fp) f2 tif2) (he:∀ s H fp,jE3 (ql X N' scope s H fp) elt te)
  (hsc:qcW X.env.scope scope=true) (hcap:UK X.N N' scope m=true) (hs:∀ x,foldedSetIterable iter X.env x=pure x:=by intro _;rfl) (hs2:∀ s H fp x,foldedSetIterable i2 (ql X N' scope s H fp).env x=pure x:=by intro _ _ _ _;rfl) :
  jE3 X (.ListComp elt [⟨tg,iter,ifs,0⟩,⟨t2,i2,f2,0⟩] scope pos) (qjA wi g tif wi2 g2 tif2 te m):=
 ⟨qkI N' m hc hi.h (λs H fp=>(hg s H fp).h) (λs H fp=>(hf s H fp).h) (λs H fp=>(hi2 s H fp).h) (λs H fp=>(hg2 s H fp).h) (λs H fp=>(hf2 s H fp).h) (λs H fp=>(he s H fp).h) hsc hcap hs hs2⟩
end
section
variable {X:Cx}
theorem JY:∀ {its:List Value} {ns:List Int},qQ (ns.map V.int) its->IntsAre its ns
 |_,[],h=>by cases h;exact .nil
 |_,n::ns,h=>by
  cases h with
  |cons r t=>
   obtain ⟨k,rfl⟩:=r;exact .cons n k (JY t)
theorem LN:∀ {its:List Value} {ns:List Int},IntsAre its ns->qQ (ns.map V.int) its
 |_,_,.nil=>.nil
 |_,_,.cons n t h=>.cons ⟨t,rfl⟩ (LN h)
theorem TC {K:Frg} {H:Hp}:∀ (ns:List Int),Rps K H (ns.map T.int) (ns.map V.int)
 |[]=>.nil
 |n::ns=>.cons (.int n) (TC ns)
end
section
variable {X:Cx} {tg a b c:Expr} {pos:Pos}
end
section
variable {X:Cx}
end
section
variable {X:Cx} {a b:Expr} {ta tb:TE3} {pos:Pos}
def qeI:OpR X (compareOp .IsNot) (λx y H Q=>∃ i j,x=.bl i/\y=.bl j/\Q (.bl (i != j)) H):=by
 intro pins s σ H x y v u Q I rx ry h;obtain ⟨i,j,rfl,rfl,q⟩:=h;cases rx;cases ry;exact isnot_bool (qF I q rfl)
def qjJ (neg:Bool):R3:=λx y G q=>match x,y with|.bl i,.bl j=>q (.bl (if neg then i != j else i==j)) G|_,_=>False
def qbM {K:Frg}:UG K (qjJ true) (λx y H Q=>∃ i j,x=.bl i/\y=.bl j/\Q (.bl (i != j)) H):=λx y v u G H q Q hr rx ry h af=>by
 cases x<;>try exact h.elim
 cases y<;>try exact h.elim
 cases rx;cases ry;exact ⟨_,_,rfl,rfl,af _ G h _ H (.bl _) hr Kp.refl⟩
end
section
variable {X:Cx} {K:Frg} {w:World} {mg:Str->Option Value}
def CI (hc:X.calm=true):ZD X (.builtin "max") (λxs H Q=>∃ (p:Addr) (ns:List Int),xs=[.ref p]/\SqL X.K H p (ns.map V.int)/\ns≠[]/\∀ m∈ns,(∀ a∈ns,a<=m)->Q (.int m) H):=by
 intro pins s σ H xs us Q I r h;obtain ⟨p,ns,rfl,hq,hne,q⟩:=h;obtain ⟨u,rfl,rp⟩:=WB r;cases (show u=Value.ref p from rp);obtain ⟨its,rv,pl,hz⟩:=I.list hq;have hlen:its.length=ns.length:=by have:=rv.length;simp at this;omega
 have hpos:0<ns.length:=List.length_pos_iff.mpr hne;have hp:p<s.heap.objs.size:=by obtain ⟨o,n,e,_⟩:=pl;exact y4 e
 have vals:∀ (i:Nat) (v:Value),its.toArray[i]?=some v->∃ t,v=Value.int (ns.getD i 0) t:=λi v hv=>by
  have hv':its[i]?=some v:=by simpa using hv
  obtain ⟨hi,_⟩:=za0 hv';have hi':i<ns.length:=by omega
  obtain ⟨u,hu,ru⟩:=rv.get (i:=i) (show (ns.map V.int)[i]?=some (V.int (ns[i])) by simp [hi']);rw [hv'] at hu;cases hu;obtain ⟨t,rfl⟩:=ru;exact ⟨t,by show Value.int ns[i] t=Value.int (ns.getD i 0) t;rw [getD_eq_getElem?_getD,y9 hi'];rfl⟩
 refine call_max_walk (wpAny_pyIter_list pl.isList ⟨s.heap.objs.size,_,_,_,_,_,_,rfl,Walks.list (A:=X.A.in1) (show X.A.in1.handled=none from I.ok.hd hc) s.heap.objs.size p (u4 hp) its.toArray,⟨⟨_,y3 _ rfl,rfl,rfl⟩,?_⟩,λb hb=>?_,by rw [size_toArray];omega,CmpOf.ints_gt (λi=>ns.getD i 0) vals,λv h' tk hP hk=>?_⟩)
 ·obtain ⟨o,n,e,c,_,d⟩:=pl;exact ⟨o,y2 _ e,c,n,d⟩
 ·have lt1:∀ n c:Nat,c<n->c<n+1:=λn c h=>by omega
  rw [show (({ s with heap:=s.heap.push _ }:Shared).heap.objs.size)=s.heap.objs.size+1 from Heap.size_push ..];simp only [mem_cons,not_mem_nil,or_false] at hb;rcases hb with rfl|rfl
  ·exact Nat.lt_succ_self _
  ·exact lt1 _ _ hp
 ·obtain ⟨b1,b2⟩:=argBest_gt (λi=>ns.getD i 0) (its.toArray.size-1);obtain ⟨t,rfl⟩:=vals _ _ hP;rw [size_toArray] at b1 b2 ⊢;have gd:∀ j,j<ns.length->ns.getD j 0∈ns:=λj hj=>by rw [getD_eq_getElem?_getD,y9 hj];exact List.getElem_mem hj
  refine ⟨.int _,H,I.kept (h':=h') (t':=tk) λb o e=>hk b o (by simp;exact u4 (y4 e)) (y2 _ e),⟨_,rfl⟩,q _ (gd _ (by omega)) λa ha=>?_⟩;obtain ⟨j,hj,rfl⟩:=List.mem_iff_getElem.mp ha;have:=b2 j (by omega);have e:ns.getD j 0=ns[j]:=by rw [getD_eq_getElem?_getD,y9 hj];rfl
  rw [e] at this;exact this
def R4:List T->Gp->Q3->Prop:=λxs G q=>match xs with
 |[.ref p]=>(match getL G p with|some ys=>(match DQ ys with|some ns=>ns≠[]/\∀ m∈ns,(∀ a∈ns,a<=m)->q (.int m) G|none=>False)|none=>False)
 |_=>False
def TJ {K:Frg}:SI K R4 (λxs H Q=>∃ (p:Addr) (ns:List Int),xs=[.ref p]/\SqL K H p (ns.map V.int)/\ns≠[]/\∀ m∈ns,(∀ a∈ns,a<=m)->Q (.int m) H):=λxs vs G H q Q hr rs h af=>by
 unfold R4 at h;split at h
 ·rename_i p;obtain ⟨v,rfl,r⟩:=CU rs;cases r;split at h
  ·rename_i ys e0;split at h
   ·rename_i ns e1;obtain ⟨us,hs,r2⟩:=zi hr e0;have:=VO e1;subst this;have:=VL r2;subst this;exact ⟨p,ns,rfl,hs,h.1,λm hm ha=>af _ _ (h.2 m hm ha) _ _ (.int _) hr Kp.refl⟩
   ·exact h.elim
  ·exact h.elim
 ·exact h.elim
end
section
variable {X:Cx}
end
open PySem.SeqAt
section
variable {X:Cx} {pins:List (Addr×Obj)} {σ:L2.St} {H:Hp} {s:Shared}
end
end L3
namespace HT
open PySem PySem.Spec PyProof.Rows L2
section
open PySem.SeqAt
open PySem.MeetsSeq PySem.MeetsSeq2 PySem.MeetsSeq3
end
section
variable {prog:Program} {w:World} {A:Around} {E:Value->Shared->Prop} {s:Shared}
end
end HT
namespace L3
open PySem PySem.Spec PyProof.Rows L2
section
variable {X:Cx}
end
end L3
namespace Pu
open PySem L2 L3
def cif {α:Type} (P:Prop) (a b:α):α:=@ite α P (Classical.propDecidable P) a b
def qU {α:Type} {P:Prop} {a b:α} (h:P):cif P a b=a:=@if_pos P (Classical.propDecidable P) h α a b
def qfn {α:Type} {P:Prop} {a b:α} (h:¬ P):cif P a b=b:=@if_neg P (Classical.propDecidable P) h α a b
structure Tru (b:Bool):Prop where
 h:b=true
mutual
inductive Dq (G:Gp):T->PyData->Prop
 |non:Dq G .non .none
 |bl (b:Bool):Dq G (.bl b) (.bool b)
 |int (i:Int):Dq G (.int i) (.int i)
 |str (x:Str):Dq G (.str x) (.str x)
 |tup {xs:List T} {ds:List PyData}:Dqs G xs ds->Dq G (.tup xs) (.tuple ds)
 |lst {p:Addr} {xs:List T} {ds:List PyData}:G p=some (.lst xs)->Dqs G xs ds->Dq G (.ref p) (.list ds)
 |clo {p:Addr} {i:Nat} {xs:List T} {ds:List PyData}:G p=some (.clo i xs)->Dqs G xs ds->Dq G (.ref p) (.dict [(.int (i:Int),.tuple ds)])
inductive Dqs (G:Gp):List T->List PyData->Prop
 |nil:Dqs G [] []
 |cons {x:T} {d:PyData} {xs:List T} {ds:List PyData}:Dq G x d->Dqs G xs ds->Dqs G (x::xs) (d::ds)
end
mutual
theorem Dq.up {G G':Gp} (e:Ex G G'):∀ {x:T} {d:PyData},Dq G x d->Dq G' x d
 |_,_,.non=>.non
 |_,_,.bl b=>.bl b
 |_,_,.int i=>.int i
 |_,_,.str x=>.str x
 |_,_,.tup h=>.tup (Dqs.up e h)
 |_,_,.lst h1 h2=>.lst (e _ _ h1) (Dqs.up e h2)
 |_,_,.clo h1 h2=>.clo (e _ _ h1) (Dqs.up e h2)
theorem Dqs.up {G G':Gp} (e:Ex G G'):∀ {x:List T} {d:List PyData},Dqs G x d->Dqs G' x d
 |_,_,.nil=>.nil
 |_,_,.cons a b=>.cons (Dq.up e a) (Dqs.up e b)
end
def qT {G:Gp} {p:Addr} {xs:List T} (h:G p=some (.lst xs)):getL G p=some xs:=by unfold getL;rw [h]
mutual
def noC:PyData->Bool
 |.list xs=>EA xs
 |.tuple xs=>EA xs
 |.dict _=>false
 |_=>true
def EA:List PyData->Bool
 |[]=>true
 |x::xs=>noC x&&EA xs
end
theorem WU:∀ {ds:List PyData},EA ds=true↔∀ d∈ds,noC d=true
 |[]=>by simp [EA]
 |d::ds=>by simp [EA,WU (ds:=ds)]
mutual
theorem qej:∀ {d:PyData},dpt d<=40->noC d=true
 |.none,_=>rfl
 |.bool _,_=>rfl
 |.int _,_=>rfl
 |.str _,_=>rfl
 |.list xs,h=>by unfold noC;exact qaz (by unfold dpt at h;omega)
 |.tuple xs,h=>by unfold noC;exact qaz (by unfold dpt at h;omega)
 |.dict _,h=>by unfold dpt at h;omega
theorem qaz:∀ {ds:List PyData},qba ds<=40->EA ds=true
 |[],_=>rfl
 |x::xs,h=>by
  unfold qba at h;unfold EA;rw [qej (by omega),qaz (by omega)];rfl
end
mutual
theorem Dq.dp {G:Gp}:∀ {x:T} {d:PyData},Dq G x d->noC d=true->Dp G x d
 |_,_,.non,_=>.non
 |_,_,.bl b,_=>.bl b
 |_,_,.int i,_=>.int i
 |_,_,.str x,_=>.str x
 |_,_,.tup h,n=>.tup (Dqs.dp h (by unfold noC at n;exact n))
 |_,_,.lst h1 h2,n=>.lst (qT h1) (Dqs.dp h2 (by unfold noC at n;exact n))
 |_,_,.clo _ _,n=>by unfold noC at n;cases n
theorem Dqs.dp {G:Gp}:∀ {x:List T} {d:List PyData},Dqs G x d->EA d=true->Dps G x d
 |_,_,.nil,_=>.nil
 |_,_,.cons a b,n=>by
  unfold EA at n;have:=Bool.and_eq_true_iff.mp n;exact .cons (Dq.dp a this.1) (Dqs.dp b this.2)
end
theorem Dqs.length {G:Gp}:∀ {xs:List T} {ds:List PyData},Dqs G xs ds->xs.length=ds.length
 |_,_,.nil=>rfl
 |_,_,.cons _ b=>by simp [Dqs.length b]
theorem Dqs.get {G:Gp}:∀ {xs:List T} {ds:List PyData} {i:Nat} {d:PyData},Dqs G xs ds->ds[i]?=some d->∃ x,xs[i]?=some x/\Dq G x d
 |_,_,_,_,.nil,e=>by simp at e
 |_,_,0,_,.cons r _,e=>by simp at e;subst e;exact ⟨_,rfl,r⟩
 |_,_,i+1,d,.cons _ t,e=>by
  obtain ⟨u,h1,h2⟩:=Dqs.get (i:=i) (d:=d) t (by simpa using e);exact ⟨u,by simpa using h1,h2⟩
theorem Dqs.append {G:Gp}:∀ {xs:List T} {ds:List PyData} {ys:List T} {es:List PyData},Dqs G xs ds->Dqs G ys es->Dqs G (xs++ys) (ds++es)
 |_,_,_,_,.nil,h=>h
 |_,_,_,_,.cons a b,h=>.cons a (Dqs.append b h)
theorem Dqs.drop {G:Gp}:∀ {xs:List T} {ds:List PyData} (n:Nat),Dqs G xs ds->Dqs G (xs.drop n) (ds.drop n)
 |_,_,0,h=>h
 |_,_,_+1,.nil=>.nil
 |_,_,n+1,.cons _ b=>Dqs.drop n b
theorem Dqs.take {G:Gp}:∀ {xs:List T} {ds:List PyData} (n:Nat),Dqs G xs ds->Dqs G (xs.take n) (ds.take n)
 |_,_,0,h=>by simp;exact .nil
 |_,_,_+1,.nil=>.nil
 |_,_,n+1,.cons a b=>.cons a (Dqs.take n b)
theorem Dqs.ints {G:Gp}:∀ {ns:List Int} {xs:List T},Dqs G xs (ns.map PyData.int)->xs=ns.map T.int
 |[],_,.nil=>rfl
 |n::ns,_,.cons a b=>by cases a;rw [Dqs.ints b];rfl
theorem Dqs.ofInts {G:Gp}:∀ (ns:List Int),Dqs G (ns.map T.int) (ns.map PyData.int)
 |[]=>.nil
 |n::r=>.cons (.int n) (Dqs.ofInts r)
def rs (D:Addr->Prop) (G:Gp):Gp:=λb=>cif (D b) none (G b)
def qo {D:Addr->Prop} {G:Gp} {b:Addr} {o:O} (h:rs D G b=some o):¬ D b/\G b=some o:=by
 unfold rs cif at h;split at h
 ·cases h
 ·rename_i n;exact ⟨n,h⟩
def zB {D:Addr->Prop} {G:Gp} {b:Addr} (n:¬ D b):rs D G b=G b:=by unfold rs;exact qfn n
def YI {D:Addr->Prop} {G:Gp}:Ex (rs D G) G:=λb o h=>(qo h).2
def zK {D:Addr->Prop} {G G':Gp} (e:Ex G G'):Ex (rs D G) (rs D G'):=λb o h=>by
 obtain ⟨n,h⟩:=qo h;rw [zB n];exact e _ _ h
def zh {D D':Addr->Prop} {G:Gp} (h:∀ b,D' b->D b):Ex (rs D G) (rs D' G):=λb o e=>by
 obtain ⟨n,e⟩:=qo e;rw [zB λz=>n (h b z)];exact e
def Dom (D:Addr->Prop) (G:Gp):Prop:=∀ b,D b->G b≠none
def Dom.up {D:Addr->Prop} {G G':Gp} (h:Dom D G) (e:Ex G G'):Dom D G':=λb d z=>by
 cases g:G b with
 |none=>exact h b d g
 |some o=>rw [e _ _ g] at z;cases z
def qi9 {D:Addr->Prop} {G:Gp} {p:Addr} {o:O} (hd:Dom D G) (hp:G p=none):rs D (gu G p o) p=some o:=by
 rw [zB λz=>hd p z hp,qy]
inductive Sl where
 |un|sh (d:PyData)|ow (ds:List PyData)|dc (kvs:List (Int×PyData))|on (dss:List (List PyData))|rg (d:PyData)
abbrev Rho:=List Sl
def Sl.d:Sl->Option PyData
 |.un=>none|.sh d=>some d|.ow ds=>some (.list ds)|.dc _=>none|.on dss=>some (.list (dss.map PyData.list))|.rg d=>some d
def vw (ρ:Rho) (i:Nat):Option PyData:=(ρ[i]?).bind Sl.d
def ES (fv:List Nat) (D:Addr->Prop) (G:Gp) (τ:St3) (ρ:Rho):Prop:=∀ i∈fv,∀ d,vw ρ i=some d->∃ t,τ[i]?=some (some t)/\Dq (rs D G) t d
theorem ES.up {fv:List Nat} {D:Addr->Prop} {G G':Gp} {τ:St3} {ρ:Rho} (h:ES fv D G τ ρ) (e:Ex G G'):ES fv D G' τ ρ:=λi hi d hd=>
 let ⟨t,a,b⟩:=h i hi d hd;⟨t,a,b.up (zK e)⟩
def ES.l {fv gv:List Nat} {D:Addr->Prop} {G:Gp} {τ:St3} {ρ:Rho} (h:ES (fv++gv) D G τ ρ):ES fv D G τ ρ:=λi hi=>h i (by simp [hi])
def ES.r {fv gv:List Nat} {D:Addr->Prop} {G:Gp} {τ:St3} {ρ:Rho} (h:ES (fv++gv) D G τ ρ):ES gv D G τ ρ:=λi hi=>h i (by simp [hi])
def XH:PyData->Bool
 |.none=>true|.bool _=>true|.int _=>true|.str _=>true|_=>false
def Nw (D:Addr->Prop) (G G':Gp) (x:T) (d:PyData):Prop:=XH d=true\/∃ p xs ds,x=.ref p/\d=.list ds/\G p=none/\G' p=some (.lst xs)/\Dqs (rs (λb=>D b\/b=p) G') xs ds
def Nw.back {D:Addr->Prop} {G0 G G':Gp} {x:T} {d:PyData} (h:Nw D G G' x d) (e:Ex G0 G):Nw D G0 G' x d:=by
 rcases h with h|⟨p,xs,ds,a,b,c,r⟩
 ·exact .inl h
 refine .inr ⟨p,xs,ds,a,b,?_,r⟩;cases z:G0 p with
 |none=>rfl
 |some o=>rw [e _ _ z] at c;cases c
structure PuE (t:TE3) where
 f:Rho->Option PyData
 fv:List Nat
 nw:Bool
 ok:∀ {D τ ρ G} {q:Q3} {d},ES fv D G τ ρ->Dom D G->f ρ=some d->(∀ x G',Ex G G'->Dq (rs D G') x d->(nw=true->Nw D G G' x d)->q x G')->t τ G q
structure PuC (t:TT3) where
 f:Rho->Option Bool
 fv:List Nat
 ok:∀ {D τ ρ G} {q:Bool->Gp->Prop} {k},ES fv D G τ ρ->Dom D G->f ρ=some k->(∀ G',Ex G G'->q k G')->t τ G q
structure PuA (t:TA3) where
 f:Rho->Option (List PyData)
 fv:List Nat
 n:Nat
 ln:∀ {ρ d},f ρ=some d->d.length=n
 ok:∀ {D τ ρ G} {q:List T->Gp->Prop} {d},ES fv D G τ ρ->Dom D G->f ρ=some d->(∀ x G',Ex G G'->Dqs (rs D G') x d->q x G')->t τ G q
structure PuO (t:TO3) where
 f:Rho->Option (Option Int)
 fv:List Nat
 ok:∀ {D τ ρ G} {q:Option Int->Gp->Prop} {k},ES fv D G τ ρ->Dom D G->f ρ=some k->(∀ G',Ex G G'->q k G')->t τ G q
structure PuI (t:TI3) where
 f:Rho->Option (List PyData)
 fv:List Nat
 /-- numbers alone -/
 nm:Bool
 ok:∀ {D τ ρ G} {r:List T->(Gp->Prop)->Gp->Prop} {ds},ES fv D G τ ρ->Dom D G->f ρ=some ds ->
  (∀ items stay G',Ex G G'->Dqs (rs D G') items ds->(∀ G'',(nm=true\/Ex (rs D G') G'')->stay G'')->(nm=true->∃ ns:List Int,ds=ns.map PyData.int)->r items stay G')->t τ G r
structure OpD (r:R3) where
 f:PyData->PyData->Option PyData
 nw:Bool
 ok:∀ {D G x y d e v} {q:Q3},Dq (rs D G) x d->Dq (rs D G) y e->Dom D G->f d e=some v->(∀ z G',Ex G G'->Dq (rs D G') z v->(nw=true->Nw D G G' z v)->q z G')->r x y G q
structure FnD (r:List T->Gp->Q3->Prop) where
 f:List PyData->Option PyData
 nw:Bool
 ok:∀ {D G xs ds v} {q:Q3},Dqs (rs D G) xs ds->Dom D G->f ds=some v->(∀ z G',Ex G G'->Dq (rs D G') z v->(nw=true->Nw D G G' z v)->q z G')->r xs G q
def bV (i:Nat):PuE (v3 i):=⟨λρ=>vw ρ i,[i],false,λhv hd hf k=>by
 obtain ⟨t,e,h⟩:=hv i (by simp) _ hf;unfold v3;rw [e];exact k t _ Ex.refl h (λz=>by cases z)⟩
def zv (i:Int):PuE (c3 (.int i)):=⟨λ_=>some (.int i),[],false,λhv hd hf k=>by cases hf;exact k _ _ Ex.refl (.int i) (λz=>by cases z)⟩
def bBl (i:Bool):PuE (c3 (.bl i)):=⟨λ_=>some (.bool i),[],false,λhv hd hf k=>by cases hf;exact k _ _ Ex.refl (.bl i) (λz=>by cases z)⟩
def qb0 (i:Str):PuE (c3 (.str i)):=⟨λ_=>some (.str i),[],false,λhv hd hf k=>by cases hf;exact k _ _ Ex.refl (.str i) (λz=>by cases z)⟩
def qjK:PuE (c3 .non):=⟨λ_=>some .none,[],false,λhv hd hf k=>by cases hf;exact k _ _ Ex.refl .non (λz=>by cases z)⟩
def bO {r:R3} {ta tb:TE3} (R:OpD r) (a:PuE ta) (b:PuE tb):PuE (o3 r ta tb):=
 ⟨λρ=>(a.f ρ).bind λx=>(b.f ρ).bind λy=>R.f x y,a.fv++b.fv,R.nw,λhv hd hf k=>by
  obtain ⟨x,e1,hf⟩:=obb hf;obtain ⟨y,e2,hf⟩:=obb hf;exact a.ok hv.l hd e1 λx' G1 E1 D1 _=>b.ok (hv.r.up E1) (hd.up E1) e2 λy' G2 E2 D2 _=>R.ok (D1.up (zK E2)) D2 ((hd.up E1).up E2) hf λz G3 E3 D3 N3=>k z G3 ((E1.trans E2).trans E3) D3 λh=>(N3 h).back (E1.trans E2)⟩
def qz:PuA qk:=⟨λ_=>some [],[],0,(λh=>by cases h;rfl),λhv hd hf k=>by cases hf;exact k _ _ Ex.refl .nil⟩
def qe {ta:TE3} {tr:TA3} (a:PuE ta) (r:PuA tr):PuA (qc ta tr):=
 ⟨λρ=>(a.f ρ).bind λx=>(r.f ρ).bind λxs=>some (x::xs),a.fv++r.fv,r.n+1,(λhf=>by
  obtain ⟨x,e1,hf⟩:=obb hf;obtain ⟨xs,e2,hf⟩:=obb hf;cases hf;simp [r.ln e2]),λhv hd hf k=>by
  obtain ⟨x,e1,hf⟩:=obb hf;obtain ⟨xs,e2,hf⟩:=obb hf;cases hf;exact a.ok hv.l hd e1 λx' G1 E1 D1 _=>r.ok (hv.r.up E1) (hd.up E1) e2 λy' G2 E2 D2=>k _ G2 (E1.trans E2) (.cons (D1.up (zK E2)) D2)⟩
def few {n:Nat} (h:Tru (Nat.ble n 1000)):n<=sizeLine:=u3 (Nat.le_of_ble_eq_true h.h) (by rw [y8];omega)
def qfE {t:TA3} (a:PuA t) (hn:Tru (Nat.ble a.n 1000)):PuE (qa8 t):=⟨λρ=>(a.f ρ).map .tuple,a.fv,false,λhv hd hf k=>by
 obtain ⟨xs,e1,rfl⟩:=u9 hf;exact a.ok hv hd e1 λx G1 E1 D1=>⟨by rw [D1.length,a.ln e1];exact few hn,k _ _ E1 (.tup D1) (λz=>by cases z)⟩⟩
def EX {D:Addr->Prop} {G:Gp} {p:Addr} {xs:List T} {ds:List PyData} (hp:G p=none) (h:Dqs (rs D G) xs ds):Nw D G (gu G p (.lst xs)) (.ref p) (.list ds):=
 .inr ⟨p,xs,ds,rfl,rfl,hp,qy,h.up λb o e=>by
  obtain ⟨n,e⟩:=qo e;have:b≠p:=by rintro rfl;rw [hp] at e;cases e
  rw [zB (by rintro (z|z);exact n z;exact this z),zJ this];exact e⟩
def Y6 {D:Addr->Prop} {G:Gp} {p:Addr} {xs:List T} {ds:List PyData} (hd:Dom D G) (hp:G p=none) (h:Dqs (rs D G) xs ds):Dq (rs D (gu G p (.lst xs))) (.ref p) (.list ds):=
 .lst (qi9 hd hp) (h.up (zK (QH hp)))
def EU {t:TA3} (a:PuA t) (hn:Tru (Nat.ble a.n 1000)):PuE (YQ t):=⟨λρ=>(a.f ρ).map .list,a.fv,true,λhv hd hf k=>by
 obtain ⟨xs,e1,rfl⟩:=u9 hf;exact a.ok hv hd e1 λx G1 E1 D1=>⟨by rw [D1.length,a.ln e1];exact few hn,λp hp=>k _ _ (E1.trans (QH hp)) (Y6 (hd.up E1) hp D1) λ_=>(EX hp D1).back E1⟩⟩
def qx {r:List T->Gp->Q3->Prop} {t:TA3} (R:FnD r) (a:PuA t):PuE (cb3 r t):=
 ⟨λρ=>(a.f ρ).bind R.f,a.fv,R.nw,λhv hd hf k=>by
  obtain ⟨x,e1,hf⟩:=obb hf;exact a.ok hv hd e1 λx' G1 E1 D1=>R.ok D1 (hd.up E1) hf λz G3 E3 D3 N3=>k z G3 (E1.trans E3) D3 λh=>(N3 h).back E1⟩
def asB:PyData->Option Bool
 |.bool b=>some b
 |_=>none
def asI:PyData->Option Int
 |.int b=>some b
 |_=>none
def SH {d:PyData} {b:Bool} (h:asB d=some b):d=.bool b:=by cases d<;>simp [asB] at h;subst h;rfl
def qcr {d:PyData} {b:Int} (h:asI d=some b):d=.int b:=by cases d<;>simp [asI] at h;subst h;rfl
def bTb {t:TE3} (a:PuE t):PuC (tb3 t):=⟨λρ=>(a.f ρ).bind asB,a.fv,λhv hd hf k=>by
 obtain ⟨x,e1,hf⟩:=obb hf;have:=SH hf;subst this;exact a.ok hv hd e1 λx' G1 E1 D1 _=>by cases D1;exact k G1 E1⟩
def qmb {t u:TT3} (a:PuC t) (b:PuC u):PuC (qjU t u):=⟨λρ=>(a.f ρ).bind λk=>if k then b.f ρ else some false,a.fv++b.fv,λhv hd hf k=>by
 obtain ⟨x,e1,hf⟩:=obb hf;refine a.ok hv.l hd e1 λG1 E1=>?_;cases x with
 |true=>exact b.ok (hv.r.up E1) (hd.up E1) hf λG2 E2=>k G2 (E1.trans E2)
 |false=>cases hf;exact k G1 E1⟩
def bOr {t u:TT3} (a:PuC t) (b:PuC u):PuC (or3 t u):=⟨λρ=>(a.f ρ).bind λk=>if k then some true else b.f ρ,a.fv++b.fv,λhv hd hf k=>by
 obtain ⟨x,e1,hf⟩:=obb hf;refine a.ok hv.l hd e1 λG1 E1=>?_;cases x with
 |false=>exact b.ok (hv.r.up E1) (hd.up E1) hf λG2 E2=>k G2 (E1.trans E2)
 |true=>cases hf;exact k G1 E1⟩
def qa2 {t:TT3} (a:PuC t):PuC (TH t):=⟨λρ=>(a.f ρ).map (! ·),a.fv,λhv hd hf k=>by
 obtain ⟨x,e1,hf⟩:=u9 hf;subst hf;exact a.ok hv hd e1 λG1 E1=>k G1 E1⟩
def bTt:PuC tt3:=⟨λ_=>some true,[],λhv hd hf k=>by cases hf;exact k _ Ex.refl⟩
def CW {ta tb:TE3} (a:PuE ta) (b:PuE tb):PuE (R5 ta tb):=⟨λρ=>((a.f ρ).bind asB).bind λk=>if k then b.f ρ else some (.bool false),a.fv++b.fv,false,λhv hd hf k=>by
 obtain ⟨x,e1,hf⟩:=obb hf;obtain ⟨y,e1,e2⟩:=obb e1;have:=SH e2;subst this;refine a.ok hv.l hd e1 λx' G1 E1 D1 _=>?_;cases D1;cases x with
 |true=>exact b.ok (hv.r.up E1) (hd.up E1) hf λz G2 E2 D2 _=>k z G2 (E1.trans E2) D2 (λz=>by cases z)
 |false=>cases hf;exact k _ G1 E1 (.bl false) (λz=>by cases z)⟩
def qeB {ta:TE3} (a:PuE ta):PuE (qbt ta):=⟨λρ=>((a.f ρ).bind asB).map λk=>.bool (!k),a.fv,false,λhv hd hf k=>by
 obtain ⟨x,e1,hf⟩:=u9 hf;obtain ⟨y,e1,e2⟩:=obb e1;have:=SH e2;subst this;subst hf;refine a.ok hv hd e1 λx' G1 E1 D1 _=>?_;cases D1;exact k _ G1 E1 (.bl _) (λz=>by cases z)⟩
def bCh {r r':R3} {ta tb tc:TE3} (R:OpD r) (R':OpD r') (a:PuE ta) (b:PuE tb) (c:PuE tc):PuE (ch3 r r' ta tb tc):=
 ⟨λρ=>(a.f ρ).bind λx=>(b.f ρ).bind λy=>((R.f x y).bind asB).bind λk=>if k then (c.f ρ).bind λz=>R'.f y z else some (.bool false),a.fv++(b.fv++c.fv),false,λ{D τ ρ G q d} hv hd hf k=>by
  obtain ⟨x,e1,hf⟩:=obb hf;obtain ⟨y,e2,hf⟩:=obb hf;obtain ⟨j,e3,hf⟩:=obb hf;obtain ⟨v,e3,e4⟩:=obb e3;have:=SH e4;subst this;refine a.ok hv.l hd e1 λx' G1 E1 D1 _=>b.ok (hv.r.l.up E1) (hd.up E1) e2 λy' G2 E2 D2 _=>R.ok (D1.up (zK E2)) D2 ((hd.up E1).up E2) e3 λz G3 E3 D3 _=>?_;cases D3;have E:=(E1.trans E2).trans E3;cases j with
  |true=>
   obtain ⟨w,e5,hf⟩:=obb hf;exact c.ok (hv.r.r.up E) (hd.up E) e5 λw' G4 E4 D4 _=>R'.ok ((D2.up (zK E3)).up (zK E4)) D4 ((hd.up E).up E4) hf λu G5 E5 D5 _=>k u G5 ((E.trans E4).trans E5) D5 (λz=>by cases z)
  |false=>cases hf;exact k _ G3 E (.bl false) (λz=>by cases z)⟩
def qkr {ta:TE3} (a:PuE ta):PuE (bl3 ta):=⟨λρ=>((a.f ρ).bind asI).map λi=>.int (Builtin.Int.intBits i),a.fv,false,λhv hd hf k=>by
 obtain ⟨x,e1,hf⟩:=u9 hf;obtain ⟨y,e1,e2⟩:=obb e1;have:=qcr e2;subst this;subst hf;refine a.ok hv hd e1 λx' G1 E1 D1 _=>?_;cases D1;exact k _ G1 E1 (.int _) (λz=>by cases z)⟩
def tyD:PyData->Option String
 |.none=>some "NoneType" |.bool _=>some "bool" |.int _=>some "int" |.str _=>some "str" |.tuple _=>some "tuple" |.list _=>some "list" |.dict _=>none
def qcw {ta:TE3} (g:String->Bool) (a:PuE ta):PuE (qdv g ta):=⟨λρ=>(a.f ρ).bind λd=>(tyD d).map λt=>.bool (g t),a.fv,false,λhv hd hf k=>by
 obtain ⟨x,e1,hf⟩:=obb hf;obtain ⟨y,e2,hf⟩:=u9 hf;subst hf;refine a.ok hv hd e1 λx' G1 E1 D1 _=>?_;have:tyT G1 x'=some y:=by
  cases D1 with
  |lst h _=>have g:=qT (qo h).2;simp [tyT,g];simpa [tyD] using e2
  |_=>simpa [tyT,tyD] using e2
 simp only [this];exact k _ G1 E1 (.bl _) (λz=>by cases z)⟩
def bNp:PuO np3:=⟨λ_=>some none,[],λhv hd hf k=>by cases hf;exact k _ Ex.refl⟩
def bSp {t:TE3} (a:PuE t):PuO (sp3 t):=⟨λρ=>((a.f ρ).bind asI).map some,a.fv,λhv hd hf k=>by
 obtain ⟨x,e1,hf⟩:=u9 hf;obtain ⟨y,e1,e2⟩:=obb e1;have:=qcr e2;subst this;subst hf;refine a.ok hv hd e1 λx' G1 E1 D1 _=>?_;cases D1;exact k G1 E1⟩
def Dqs.cut {G:Gp} {xs:List T} {ds:List PyData} (h:Dqs G xs ds) (lo hi:Option Int):Dqs G (K1 xs lo hi) (K1 ds lo hi):=by
 unfold K1;rw [h.length];exact (h.drop _).take _
def slD (d:PyData) (lo hi:Option Int):Option PyData:=match d with
 |.tuple xs=>cif (HT.sIx xs.length 0 lo=0/\HT.sIx xs.length xs.length hi=xs.length) none (some (.tuple (K1 xs lo hi)))
 |.list xs=>some (.list (K1 xs lo hi))
 |_=>none
def bSl {te:TE3} {tl th:TO3} (a:PuE te) (l:PuO tl) (h:PuO th):PuE (qjg te tl th):=⟨λρ=>(a.f ρ).bind λd=>(l.f ρ).bind λlo=>(h.f ρ).bind λhi=>slD d lo hi,a.fv++(l.fv++h.fv),false,λhv hd hf k=>by
 obtain ⟨d,e1,hf⟩:=obb hf;obtain ⟨lo,e2,hf⟩:=obb hf;obtain ⟨hi,e3,hf⟩:=obb hf;refine a.ok hv.l hd e1 λx' G1 E1 D1 _=>l.ok (hv.r.l.up E1) (hd.up E1) e2 λG2 E2=>h.ok (hv.r.r.up (E1.trans E2)) (hd.up (E1.trans E2)) e3 λG3 E3=>?_;have E:=(E1.trans E2).trans E3;have D3:=(D1.up (zK E2)).up (zK E3);unfold slD at hf;cases D3 with
 |tup hs=>
  simp only [cif] at hf;split at hf
  ·cases hf
  ·rename_i n;cases hf;exact ⟨by rw [hs.length];exact n,k _ _ E (.tup (hs.cut _ _)) (λz=>by cases z)⟩
 |lst g hs=>
  simp only at hf;cases hf;simp only [sl3,qT (qo g).2];intro p hp;exact k _ _ (E.trans (QH hp)) (Y6 (hd.up E) hp (hs.cut _ _)) (λz=>by cases z)
 |_=>simp at hf⟩
def ZM:List PyData->Option (List Int)
 |[]=>some []
 |.int i::r=>(ZM r).map (i::·)
 |_=>none
def UF (ns:List Int):ZM (ns.map PyData.int)=some ns:=by
 induction ns with
 |nil=>rfl
 |cons n r ih=>simp [ZM,ih]
theorem VN:∀ {xs:List PyData} {ns:List Int},ZM xs=some ns->xs=ns.map PyData.int
 |[],_,h=>by simp [ZM] at h;subst h;rfl
 |.int i::r,ns,h=>by
  simp only [ZM] at h;obtain ⟨ms,e,rfl⟩:=u9 h;rw [VN e];rfl
 |.none::r,ns,h=>by simp [ZM] at h
 |.bool _::r,ns,h=>by simp [ZM] at h
 |.str _::r,ns,h=>by simp [ZM] at h
 |.list _::r,ns,h=>by simp [ZM] at h
 |.tuple _::r,ns,h=>by simp [ZM] at h
 |.dict _::r,ns,h=>by simp [ZM] at h
def opI (g:Int->Int->Int):OpD (iI g):=⟨λd e=>match d,e with|.int i,.int j=>some (.int (g i j))|_,_=>none,false,λ{D G x y d e v q} hx hy hd hf k=>by
 cases hx<;>try (simp at hf;done)
 cases hy<;>try (simp at hf;done)
 cases hf;exact k _ _ Ex.refl (.int _) (λz=>by cases z)⟩
def cI (C:Int->Int->Prop) (g:Int->Int->Int) (d e:PyData):Option PyData:=match d,e with|.int i,.int j=>cif (C i j) (some (.int (g i j))) none|_,_=>none
def opC (C:Int->Int->Prop) (g:Int->Int->Int):OpD (iC C g):=⟨cI C g,false,λ{D G x y d e v q} hx hy hd hf k=>by
 unfold cI at hf;cases hx<;>try (simp at hf;done)
 cases hy<;>try (simp at hf;done)
 simp only [cif] at hf;split at hf
 ·rename_i c;cases hf;exact ⟨c,k _ _ Ex.refl (.int _) (λz=>by cases z)⟩
 ·cases hf⟩
def opB (g:Int->Int->Bool):OpD (iB g):=⟨λd e=>match d,e with|.int i,.int j=>some (.bool (g i j))|_,_=>none,false,λ{D G x y d e v q} hx hy hd hf k=>by
 cases hx<;>try (simp at hf;done)
 cases hy<;>try (simp at hf;done)
 cases hf;exact k _ _ Ex.refl (.bl _) (λz=>by cases z)⟩
def qaZ:PyData->PyData->Option Bool
 |.none,.none=>some true|.none,.int _=>some false|.int _,.none=>some false|.none,.bool _=>some false|.bool _,.none=>some false|.none,.str _=>some false|.str _,.none=>some false
 |.int i,.int j=>some (decide (i=j))|.bool i,.bool j=>some (decide (i=j))|.str i,.str j=>some (decide (i=j))
 |.int _,.str _=>some false|.str _,.int _=>some false|.bool _,.str _=>some false|.str _,.bool _=>some false
 |_,_=>none
def qad {G:Gp} {x y:T} {d e:PyData} (hx:Dq G x d) (hy:Dq G y e):qcg x y=qaZ d e:=by
 cases hx<;>cases hy<;>rfl
def eqD (neg:Bool) (d e:PyData):Option PyData:=match qaZ d e with
 |some k=>some (.bool (if neg then !k else k))
 |none=>cif ((dpt d<=40/\dpt e<=40)/\dpt d≠0) ((zx d e).map λb=>.bool (if neg then !b else b)) none
def W7 (neg:Bool):OpD (YL neg):=⟨eqD neg,false,λ{D G x y d e v q} hx hy hd hf k=>by
 unfold YL;rw [qad hx hy];unfold eqD at hf;cases h:qaZ d e with
 |some b=>rw [h] at hf;cases hf;exact k _ _ Ex.refl (.bl _) (λz=>by cases z)
 |none=>
  rw [h] at hf;simp only [cif] at hf ⊢;split at hf
  ·rename_i c;obtain ⟨b,e1,rfl⟩:=u9 hf;exact ⟨d,e,b,(hx.up YI).dp (qej c.1.1),(hy.up YI).dp (qej c.1.2),e1,c.1.1,c.2,k _ _ Ex.refl (.bl _) (λz=>by cases z)⟩
  ·cases hf⟩
def qjS (neg:Bool) (d e:PyData):Option PyData:=match e with|.none=>some (.bool (match d with|.none=>!neg|_=>neg))|_=>none
def qgp (neg:Bool):OpD (qjw neg):=⟨qjS neg,false,λ{D G x y d e v q} hx hy hd hf k=>by
 unfold qjS at hf;cases hy<;>try (simp at hf;done)
 cases hf;unfold qjw;cases hx<;>exact k _ _ Ex.refl (.bl _) (λz=>by cases z)⟩
def qjv (neg:Bool) (d e:PyData):Option PyData:=match d,e with|.bool i,.bool j=>some (.bool (if neg then i != j else i==j))|_,_=>none
def qf2 (neg:Bool):OpD (qjJ neg):=⟨qjv neg,false,λ{D G x y d e v q} hx hy hd hf k=>by
 unfold qjv at hf;cases hx<;>try (simp at hf;done)
 cases hy<;>try (simp at hf;done)
 cases hf;exact k _ _ Ex.refl (.bl _) (λz=>by cases z)⟩
def ixD (d e:PyData):Option PyData:=match d,e with
 |.tuple xs,.int i=>atI xs i
 |.list xs,.int i=>atI xs i
 |_,_=>none
theorem Dqs.atI {G:Gp} {xs:List T} {ds:List PyData} {i:Int} {d:PyData} (h:Dqs G xs ds) (e:L2.atI ds i=some d):∃ x,L2.atI xs i=some x/\Dq G x d:=by
 unfold L2.atI at e ⊢;rw [h.length];obtain ⟨j,e1,e2⟩:=obb e;obtain ⟨x,hx,r⟩:=h.get e2;exact ⟨x,by rw [e1];exact hx,r⟩
def qdE:OpD ix3:=⟨ixD,false,λ{D G x y d e v q} hx hy hd hf k=>by
 unfold ixD at hf;cases hx with
 |tup hs=>
  cases hy<;>try (simp at hf;done)
  obtain ⟨x,e1,r⟩:=hs.atI hf;simp only [ix3,e1];exact k _ _ Ex.refl r (λz=>by cases z)
 |lst g hs=>
  cases hy<;>try (simp at hf;done)
  obtain ⟨x,e1,r⟩:=hs.atI hf;simp only [ix3,qT (qo g).2,e1];exact k _ _ Ex.refl r (λz=>by cases z)
 |_=>simp at hf⟩
def qjF (d e:PyData):Option PyData:=match d,e with
 |.tuple xs,.tuple ys=>cif (xs≠[]/\xs.length+ys.length<=sizeLine) (some (.tuple (xs++ys))) none
 |.list xs,.list ys=>cif (xs.length+ys.length<=sizeLine) (some (.list (xs++ys))) none
 |.int i,.int j=>some (.int (i+j))
 |_,_=>none
def WM:OpD j7:=⟨qjF,false,λ{D G x y d e v q} hx hy hd hf k=>by
  unfold qjF at hf;cases hx with
  | int i => cases hy <;> try (simp at hf;done)
             cases hf;exact k _ _ Ex.refl (.int _) (λz=>by cases z)
  |tup hs=>
    cases hy<;>try (simp at hf;done)
    rename_i hs2;simp only [cif] at hf;split at hf
    · rename_i c;cases hf;refine ⟨?_,by rw [hs.length,hs2.length];exact c.2,k _ _ Ex.refl (.tup (hs.append hs2)) (λz=>by cases z)⟩;rintro rfl;cases hs;exact c.1 rfl
    · cases hf
  |lst g hs=>
    cases hy<;>try (simp at hf;done)
    rename_i g2 hs2;simp only [cif] at hf;split at hf
    · rename_i c;cases hf;simp only [j7,(qo g).2,(qo g2).2];exact ⟨by rw [hs.length,hs2.length];exact c,λp hp=>k _ _ (QH hp) (Y6 hd hp (hs.append hs2)) (λz=>by cases z)⟩
    · cases hf
  |_=>simp at hf⟩
def TV (d e:PyData):Option PyData:=match d,e with
 |.list xs,.list ys=>cif (xs.length+ys.length<=sizeLine) (some (.list (xs++ys))) none
 |_,_=>none
def YS:OpD j7:=⟨TV,true,λ{D G x y d e v q} hx hy hd hf k=>by
 unfold TV at hf;cases hx with
 |lst g hs=>
  cases hy<;>try (simp at hf;done)
  rename_i g2 hs2;simp only [cif] at hf;split at hf
  ·rename_i c;cases hf;simp only [j7,(qo g).2,(qo g2).2];exact ⟨by rw [hs.length,hs2.length];exact c,λp hp=>k _ _ (QH hp) (Y6 hd hp (hs.append hs2)) λ_=>EX hp (hs.append hs2)⟩
  ·cases hf
 |_=>simp at hf⟩
def R0:PyData->Bool
 |.none=>true|.bool _=>true|.int _=>true|.str _=>true|_=>false
def qfL:PyData->PyData->Bool
 |.none,.none=>true
 |.bool a,.bool b=>a==b
 |.bool a,.int b=>(if a then 1 else 0)==b
 |.int a,.bool b=>a==(if b then 1 else 0)
 |.int a,.int b=>a==b
 |.str a,.str b=>a==b
 |_,_=>false
def UL {G:Gp} {x:T} {d:PyData} (h:Dq G x d):VT x=R0 d:=by cases h<;>rfl
theorem J9 {G:Gp}:∀ {x:List T} {d:List PyData},Dqs G x d->x.all VT=d.all R0
 |_,_,.nil=>rfl
 |_,_,.cons a b=>by rw [List.all_cons,List.all_cons,UL a,J9 b]
def qbW {G:Gp} {x y:T} {d e:PyData} (h:Dq G x d) (h':Dq G y e):eqF x y=qfL d e:=by cases h<;>cases h'<;>rfl
theorem US {G:Gp} {x:T} {d:PyData} (h:Dq G x d):∀ {ys:List T} {es:List PyData},Dqs G ys es->(ys.any λy=>eqF y x)=es.any λy=>qfL y d
 |_,_,.nil=>rfl
 |_,_,.cons a b=>by rw [List.any_cons,List.any_cons,qbW a h,US h b]
def inD (neg:Bool) (d e:PyData):Option PyData:=match e with
 |.tuple ys=>cif (R0 d=true/\ys.all R0=true) (some (.bool (if neg then !(ys.any λy=>qfL y d) else (ys.any λy=>qfL y d)))) none
 |.list ys=>cif (R0 d=true/\ys.all R0=true) (some (.bool (if neg then !(ys.any λy=>qfL y d) else (ys.any λy=>qfL y d)))) none
 |_=>none
def qjL (neg:Bool):OpD (in3 neg):=⟨inD neg,false,λ{D G x y d e v q} hx hy hd hf k=>by
 unfold inD at hf;cases hy with
 |tup hs=>
  simp only [cif] at hf;split at hf
  ·rename_i c;cases hf;refine ⟨by rw [UL hx];exact c.1,by rw [J9 hs];exact c.2,?_⟩;rw [US hx hs];exact k _ _ Ex.refl (.bl _) (λz=>by cases z)
  ·cases hf
 |lst g hs=>
  simp only [cif] at hf;split at hf
  ·rename_i c;cases hf;refine ⟨by rw [UL hx];exact c.1,?_⟩;simp only [qT (qo g).2];refine ⟨by rw [J9 hs];exact c.2,?_⟩;rw [US hx hs];exact k _ _ Ex.refl (.bl _) (λz=>by cases z)
  ·cases hf
 |_=>simp at hf⟩
def qgE:List PyData->Option PyData
 |[.tuple xs]=>some (.int xs.length)
 |[.list xs]=>some (.int xs.length)
 |_=>none
def qa9:FnD DI:=⟨qgE,false,λ{D G xs ds v q} hx hd hf k=>by
 unfold qgE at hf;split at hf
 ·cases hx with
  |cons a b=>cases b;cases a;rename_i hs;cases hf;simp only [DI];rw [hs.length];exact k _ _ Ex.refl (.int _) (λz=>by cases z)
 ·cases hx with
  |cons a b=>cases b;cases a;rename_i g hs;cases hf;simp only [DI,qT (qo g).2];rw [hs.length];exact k _ _ Ex.refl (.int _) (λz=>by cases z)
 ·cases hf⟩
def qjR:List PyData->Option PyData
 |[.int i,.int j]=>some (.int (if j<i then j else i))
 |_=>none
def qjE:FnD qdG:=⟨qjR,false,λ{D G xs ds v q} hx hd hf k=>by
 unfold qjR at hf;split at hf
 ·cases hx with
  |cons a b=>cases b with
   |cons b c=>cases c;cases a;cases b;cases hf;exact k _ _ Ex.refl (.int _) (λz=>by cases z)
 ·cases hf⟩
def qjt:List PyData->Option PyData
 |[.int i,.int j]=>some (.int (if j > i then j else i))
 |_=>none
def qma:FnD qhP:=⟨qjt,false,λ{D G xs ds v q} hx hd hf k=>by
 unfold qjt at hf;split at hf
 ·cases hx with
  |cons a b=>cases b with
   |cons b c=>cases c;cases a;cases b;cases hf;exact k _ _ Ex.refl (.int _) (λz=>by cases z)
 ·cases hf⟩
def qjM:List PyData->Option PyData
 |[.int i]=>some (.int i)
 |[.bool k]=>some (.int (if k then 1 else 0))
 |_=>none
def qmc:FnD qgJ:=⟨qjM,false,λ{D G xs ds v q} hx hd hf k=>by
 unfold qjM at hf;split at hf
 ·cases hx with
  |cons a b=>cases b;cases a;cases hf;exact k _ _ Ex.refl (.int _) (λz=>by cases z)
 ·cases hx with
  |cons a b=>cases b;cases a;cases hf;exact k _ _ Ex.refl (.int _) (λz=>by cases z)
 ·cases hf⟩
def qjC:List PyData->Option PyData
 |[.tuple xs]=>some (.tuple xs)
 |[.list xs]=>some (.tuple xs)
 |_=>none
def qmi:FnD X0:=⟨qjC,false,λ{D G xs ds v q} hx hd hf k=>by
 unfold qjC at hf;split at hf
 ·cases hx with
  |cons a b=>cases b;cases a;rename_i hs;cases hf;exact k _ _ Ex.refl (.tup hs) (λz=>by cases z)
 ·cases hx with
  |cons a b=>cases b;cases a;rename_i g hs;cases hf;simp only [X0,qT (qo g).2];exact k _ _ Ex.refl (.tup hs) (λz=>by cases z)
 ·cases hf⟩
def qjN:List PyData->Option PyData
 |[.tuple xs]=>some (.list xs)
 |[.list xs]=>some (.list xs)
 |_=>none
def ql4:FnD KD:=⟨qjN,true,λ{D G xs ds v q} hx hd hf k=>by
 unfold qjN at hf;split at hf
 ·cases hx with
  |cons a b=>cases b;cases a;rename_i hs;cases hf;exact λp hp=>k _ _ (QH hp) (Y6 hd hp hs) λ_=>EX hp hs
 ·cases hx with
  |cons a b=>cases b;cases a;rename_i g hs;cases hf;simp only [KD,qT (qo g).2];exact λp hp=>k _ _ (QH hp) (Y6 hd hp hs) λ_=>EX hp hs
 ·cases hf⟩
def KU:List PyData->Option (List Bool)
 |[]=>some []
 |.bool i::r=>(KU r).map (i::·)
 |_=>none
def qbp (ns:List Bool):KU (ns.map PyData.bool)=some ns:=by
 induction ns with
 |nil=>rfl
 |cons n r ih=>simp [KU,ih]
theorem qag {G:Gp}:∀ {xs:List T} {ds:List PyData} {ns:List Bool},Dqs G xs ds->KU ds=some ns->qfI xs=some (ns.all id)/\qlg xs=some (ns.any id)
 |_,_,_,.nil,h=>by simp [KU] at h;subst h;exact ⟨rfl,rfl⟩
 |_,.bool i::r,ns,.cons a b,h=>by
  simp only [KU] at h;obtain ⟨ms,e,rfl⟩:=u9 h;obtain ⟨h1,h2⟩:=qag b e;cases a;simp [qfI,qlg,h1,h2]
 |_,.int _::r,ns,_,h=>by simp [KU] at h
 |_,.none::r,ns,_,h=>by simp [KU] at h
 |_,.str _::r,ns,_,h=>by simp [KU] at h
 |_,.list _::r,ns,_,h=>by simp [KU] at h
 |_,.tuple _::r,ns,_,h=>by simp [KU] at h
 |_,.dict _::r,ns,_,h=>by simp [KU] at h
def qgn:List PyData->Option PyData
 |[.list xs]=>(KU xs).map λns=>.bool (ns.all id)
 |_=>none
def qj6:FnD qgZ:=⟨qgn,false,λ{D G xs ds v q} hx hd hf k=>by
 unfold qgn at hf;split at hf
 ·obtain ⟨ns,e,rfl⟩:=u9 hf;cases hx with
  |cons a b=>cases b;cases a;rename_i g hs;simp only [qgZ,qT (qo g).2,(qag hs e).1];exact k _ _ Ex.refl (.bl _) (λz=>by cases z)
 ·cases hf⟩
def mn:List Int->Int
 |[]=>0|[a]=>a|a::b::r=>min a (mn (b::r))
def mx:List Int->Int
 |[]=>0|[a]=>a|a::b::r=>max a (mx (b::r))
theorem X9:∀ {ns:List Int} {m:Int},m∈ns->m<=mx ns
 |[a],m,h=>by simp at h;subst h;exact Int.le_refl _
 |a::b::r,m,h=>by
  unfold mx;rcases mem_cons.mp h with rfl|h
  ·omega
  ·have:=X9 h;omega
theorem YV:∀ {ns:List Int},ns≠[]->mx ns∈ns
 |[a],_=>by simp [mx]
 |a::b::r,_=>by
  unfold mx;have:=YV (ns:=b::r) (by simp);rcases Int.le_total a (mx (b::r)) with h|h
  ·rw [Int.max_eq_right h];exact v6 _ this
  ·rw [Int.max_eq_left h];simp
def mxD:List PyData->Option PyData
 |[.list xs]=>(ZM xs).bind λns=>cif (ns≠[]) (some (.int (mx ns))) none
 |_=>none
def qch:FnD R4:=⟨mxD,false,λ{D G xs ds v q} hx hd hf k=>by
 unfold mxD at hf;split at hf
 ·obtain ⟨ns,e,hf⟩:=obb hf;unfold cif at hf;split at hf
  ·rename_i c;cases hf;cases hx with
   |cons a b=>
    cases b;cases a;rename_i g hs;have:=VN e;subst this;have:=hs.ints;subst this;simp only [R4,qT (qo g).2,V8];refine ⟨c,λm hm hl=>?_⟩;have:m=mx ns:=Int.le_antisymm (X9 hm) (hl _ (YV c));subst this;exact k _ _ Ex.refl (.int _) (λz=>by cases z)
  ·cases hf
 ·cases hf⟩
theorem S6:∀ {a b:List Int},a.Perm b->a.Pairwise (·<=·)->b.Pairwise (·<=·)->a=b
 |[],b,h,_,_=>h.nil_eq
 |x::a,[],h,_,_=>by simp at h
 |x::a,y::b,h,h1,h2=>by
  rw [List.pairwise_cons] at h1 h2;have hx:x∈y::b:=h.subset (by simp);have hy:y∈x::a:=h.symm.subset (by simp);have l1:y<=x:=by
   rcases mem_cons.mp hx with rfl|z
   ·exact Int.le_refl _
   ·exact h2.1 _ z
  have l2:x<=y:=by
   rcases mem_cons.mp hy with rfl|z
   ·exact Int.le_refl _
   ·exact h1.1 _ z
  have:x=y:=Int.le_antisymm l2 l1;subst this;rw [S6 h.cons_inv h1.2 h2.2]
def srt (ns:List Int):List Int:=ns.mergeSort
def DS (ns:List Int):(srt ns).Perm ns:=List.mergeSort_perm ns _
def qgN (ns:List Int):(srt ns).Pairwise (·<=·):=by
 have:=List.pairwise_mergeSort (le:=λ(a b:Int)=>decide (a<=b)) (λa b c h1 h2=>by simp at *;omega) (λa b=>by simp;omega) ns;exact this.imp (by simp)
def PSp (F:List PyData->Option PyData) (fr:Bool):Sp3:=λts G q=>∃ (D:Addr->Prop) (ds:List PyData) (d:PyData),Dqs (rs D G) ts ds/\Dom D G/\F ds=some d/\∀ x G',Ex G G'->Dq (rs D G') x d->(fr=true->Nw D G G' x d)->q x G'
def qV (F:List PyData->Option PyData) (fr:Bool):FnD (PSp F fr):=⟨F,fr,λ{D G xs ds v q} hx hd hf k=>⟨D,ds,v,hx,hd,hf,k⟩⟩
def qbw:PyData->Option (List PyData)
 |.tuple xs=>some xs
 |.list xs=>some xs
 |_=>none
def NP {t:TE3} (a:PuE t):PuI (Z0 t):=⟨λρ=>(a.f ρ).bind qbw,a.fv,false,λ{D τ ρ G r ds} hv hd hf k=>by
 obtain ⟨d,e1,hf⟩:=obb hf;refine a.ok hv hd e1 λx G1 E1 D1 _=>?_;unfold qbw at hf;cases D1 with
 |tup hs=>cases hf;exact k _ _ _ E1 hs (λ_ _=>trivial) (λz=>by cases z)
 |lst g hs=>
  cases hf;simp only [qT (qo g).2];refine k _ _ _ E1 hs (λG2 h=>?_) (λz=>by cases z);rcases h with h|h
  ·cases h
  ·exact qT (h _ _ g)
 |_=>simp at hf⟩
def CQ (lo:Int) (n:Nat):List Int:=(List.range n).map λ(i:Nat)=>lo+(i:Int)
def TL (lo:Int) (n:Nat):qab lo n=(CQ lo n).map T.int:=by simp [qab,CQ,map_map,Function.comp_def]
def qd3:List PyData->Option (List PyData)
 |[.int j]=>cif (-(2 ^ 62)<=j/\j<2 ^ 62) (some ((CQ 0 j.toNat).map PyData.int)) none
 |[.int i,.int j]=>cif (-(2 ^ 62)<=i/\i<2 ^ 62/\-(2 ^ 62)<=j/\j<2 ^ 62) (some ((CQ i (j-i).toNat).map PyData.int)) none
 |_=>none
def qjl {t:TA3} (a:PuA t):PuI (VG t):=⟨λρ=>(a.f ρ).bind qd3,a.fv,true,λ{D τ ρ G r ds} hv hd hf k=>by
 obtain ⟨d,e1,hf⟩:=obb hf;refine a.ok hv hd e1 λx G1 E1 D1=>?_;unfold qd3 at hf;split at hf
 ·unfold cif at hf;split at hf
  ·rename_i c;cases hf;cases D1 with
   |cons a b=>cases b;cases a;simp only;rw [TL];exact ⟨c,k _ _ _ E1 (Dqs.ofInts _) (λ_ _=>trivial) λ_=>⟨_,rfl⟩⟩
  ·cases hf
 ·unfold cif at hf;split at hf
  ·rename_i c;cases hf;cases D1 with
   |cons a b=>cases b with
    |cons b c'=>cases c';cases a;cases b;simp only;rw [TL];exact ⟨c,k _ _ _ E1 (Dqs.ofInts _) (λ_ _=>trivial) λ_=>⟨_,rfl⟩⟩
  ·cases hf
 ·cases hf⟩
def qlA (us vs:List PyData):List PyData:=(us.zip vs).map λp=>.tuple [p.1,p.2]
theorem Dqs.zip {G:Gp}:∀ {xs:List T} {ds:List PyData} {ys:List T} {es:List PyData},Dqs G xs ds->Dqs G ys es->Dqs G (qlF xs ys) (qlA ds es)
 |_,_,_,_,.nil,_=>by simp [qlF,qlA];exact .nil
 |_,_,_,_,.cons _ _,.nil=>by simp [qlF,qlA];exact .nil
 |_,_,_,_,.cons a b,.cons c d=>.cons (.tup (.cons a (.cons c .nil))) (Dqs.zip b d)
def qbS {G:Gp} {x:T} {d:PyData} {ds:List PyData} (h:Dq G x d) (e:qbw d=some ds):∃ us,DU G x=some us/\Dqs G us ds:=by
 unfold qbw at e;cases h with
 |tup hs=>cases e;exact ⟨_,rfl,hs⟩
 |lst g hs=>cases e;exact ⟨_,qT g,hs⟩
 |_=>simp at e
def qdq {G G':Gp} {x:T} {us:List T} (e:Ex G G') (h:DU G x=some us):DU G' x=some us:=by
 cases x with
 |tup xs=>exact h
 |ref p=>exact e.getL h
 |_=>cases h
def enD (k:Nat):List PyData->List PyData
 |[]=>[]
 |x::r=>.tuple [.int (k:Int),x]::enD (k+1) r
theorem Dqs.enum {G:Gp}:∀ {xs:List T} {ds:List PyData} (k:Nat),Dqs G xs ds->Dqs G (z4 k xs) (enD k ds)
 |_,_,_,.nil=>.nil
 |_,_,k,.cons a b=>.cons (.tup (.cons (.int _) (.cons a .nil))) (Dqs.enum (k+1) b)
def RT {t:TA3} (a:PuA t):PuI (YZ t):=⟨λρ=>(a.f ρ).bind λds=>match ds with|[d]=>(qbw d).map λus=>enD 0 us|_=>none,a.fv,false,λ{D τ ρ G r ds} hv hd hf k=>by
 obtain ⟨d,e1,hf⟩:=obb hf;refine a.ok hv hd e1 λx G1 E1 D1=>?_;split at hf
 ·obtain ⟨us,e2,rfl⟩:=u9 hf;cases D1 with
  |cons a b=>
   cases b;obtain ⟨us',h1,h2⟩:=qbS a e2;simp only [qdq YI h1];refine k _ _ _ E1 (h2.enum 0) (λG2 h=>?_) (λz=>by cases z);rcases h with h|h
   ·cases h
   ·exact qdq h h1
 ·cases hf⟩
inductive Bd (H:Gp):List (Nat×T)->List (Nat×PyData)->Prop
 |nil:Bd H [] []
 |cons {i:Nat} {x:T} {d:PyData} {ts:List (Nat×T)} {bs:List (Nat×PyData)}:Dq H x d->Bd H ts bs->Bd H ((i,x)::ts) ((i,d)::bs)
theorem Bd.append {H:Gp}:∀ {ts:List (Nat×T)} {bs:List (Nat×PyData)} {us:List (Nat×T)} {cs:List (Nat×PyData)},Bd H ts bs->Bd H us cs->Bd H (ts++us) (bs++cs)
 |_,_,_,_,.nil,h=>h
 |_,_,_,_,.cons a b,h=>.cons a (Bd.append b h)
theorem Bd.up {H H':Gp} (e:Ex H H'):∀ {ts:List (Nat×T)} {bs:List (Nat×PyData)},Bd H ts bs->Bd H' ts bs
 |_,_,.nil=>.nil
 |_,_,.cons a b=>.cons (a.up e) (Bd.up e b)
def sets:St3->List (Nat×T)->St3
 |τ,[]=>τ
 |τ,p::r=>sets (τ.set p.1 (some p.2)) r
def jq:Rho->List (Nat×PyData)->Rho
 |ρ,[]=>ρ
 |ρ,p::r=>jq (ρ.set p.1 (.sh p.2)) r
theorem TD:∀ (τ:St3) (a b:List (Nat×T)),sets τ (a++b)=sets (sets τ a) b
 |τ,[],b=>rfl
 |τ,p::a,b=>by simp only [cons_append,sets];exact TD _ a b
structure PuG (g:TG3) where
 f:PyData->Option (List (Nat×PyData))
 tg:List Nat
 at':∀ {d bs},f d=some bs->∀ p∈bs,p.1∈tg
 ok:∀ {H x d bs},Dq H x d->f d=some bs->∃ ts,Bd H ts bs/\∀ τ G (q:St3->Gp->Prop),q (sets τ ts) G->g x τ G q
structure PuGs (g:CS) where
 f:List PyData->Option (List (Nat×PyData))
 tg:List Nat
 at':∀ {d bs},f d=some bs->∀ p∈bs,p.1∈tg
 ok:∀ {H x d bs},Dqs H x d->f d=some bs->∃ ts,Bd H ts bs/\∀ τ G (q:St3->Gp->Prop),q (sets τ ts) G->g x τ G q
def gN (i:Nat):PuG (gn3 i):=⟨λd=>some [(i,d)],[i],λh p hp=>by cases h;simp at hp;subst hp;simp,λhx h=>by cases h;exact ⟨_,.cons hx .nil,λτ G q hq=>hq⟩⟩
def M0:PuGs Y8:=⟨λds=>match ds with|[]=>some []|_=>none,[],(λh p hp=>by split at h;cases h;cases hp;cases h),λhx h=>by
 split at h
 ·cases h;cases hx;exact ⟨[],.nil,λτ G q hq=>hq⟩
 ·cases h⟩
def jE {t:TG3} {u:CS} (a:PuG t) (b:PuGs u):PuGs (qY t u):=⟨λds=>match ds with|d::r=>(a.f d).bind λx=>(b.f r).map λy=>x++y|[]=>none,a.tg++b.tg,(λh p hp=>by
 split at h
 ·obtain ⟨x,e1,h⟩:=obb h;obtain ⟨y,e2,rfl⟩:=u9 h;rcases List.mem_append.mp hp with z|z
  ·exact List.mem_append.mpr (.inl (a.at' e1 p z))
  ·exact List.mem_append.mpr (.inr (b.at' e2 p z))
 ·cases h),λhx h=>by
 split at h
 ·obtain ⟨x,e1,h⟩:=obb h;obtain ⟨y,e2,rfl⟩:=u9 h;cases hx with
  |cons hx hr=>
   obtain ⟨ts,b1,k1⟩:=a.ok hx e1;obtain ⟨us,b2,k2⟩:=b.ok hr e2;refine ⟨ts++us,b1.append b2,λτ G q hq=>k1 τ G _ (k2 _ G q ?_)⟩;rw [← TD];exact hq
 ·cases h⟩
def MQ {u:CS} (n:Nat) (b:PuGs u):PuG (VE n u):=⟨λd=>match d with|.tuple ds=>if ds.length=n then b.f ds else none|_=>none,b.tg,(λh p hp=>by
 split at h
 ·split at h
  ·exact b.at' h p hp
  ·cases h
 ·cases h),λhx h=>by
 split at h
 ·split at h
  ·rename_i c;cases hx with
   |tup hs=>
    obtain ⟨ts,b1,k1⟩:=b.ok hs h;exact ⟨ts,b1,λτ G q hq=>⟨by rw [hs.length];exact c,k1 τ G q hq⟩⟩
  ·cases h
 ·cases h⟩
structure VA (D:Addr->Prop) (G:Gp) (τ:St3) (ρ:Rho):Prop where
 len:ρ.length=τ.length
 vw:∀ i d,vw ρ i=some d->∃ t,τ[i]?=some (some t)/\Dq (rs D G) t d
def VA.view {D:Addr->Prop} {G:Gp} {τ:St3} {ρ:Rho} (h:VA D G τ ρ) (fv:List Nat):ES fv D G τ ρ:=λi _ d e=>h.vw i d e
def VA.upx {D:Addr->Prop} {G G':Gp} {τ:St3} {ρ:Rho} (h:VA D G τ ρ) (e:Ex (rs D G) (rs D G')):VA D G' τ ρ:=⟨h.len,λi d hd=>let ⟨t,a,b⟩:=h.vw i d hd;⟨t,a,b.up e⟩⟩
def VA.up {D:Addr->Prop} {G G':Gp} {τ:St3} {ρ:Rho} (h:VA D G τ ρ) (e:Ex G G'):VA D G' τ ρ:=h.upx (zK e)
def qc7 {ρ:Rho} {i j:Nat} {s:Sl}:vw (ρ.set i s) j=if i=j then (if i<ρ.length then s.d else none) else vw ρ j:=by
 unfold vw;rw [getElem?_set];split
 ·subst j;split
  ·rfl
  ·rfl
 ·rfl
theorem VA.set {D:Addr->Prop} {G:Gp} {τ:St3} {ρ:Rho} (h:VA D G τ ρ) {i:Nat} {x:T} {d:PyData} (hx:Dq (rs D G) x d):VA D G (τ.set i (some x)) (ρ.set i (.sh d)):=by
 refine ⟨by simp [h.len],λj e he=>?_⟩;rw [qc7] at he;split at he
 ·subst j;split at he
  ·rename_i l;cases he;refine ⟨x,?_,hx⟩;rw [getElem?_set,if_pos rfl,if_pos (by rw [← h.len];exact l)]
  ·cases he
 ·rename_i n;obtain ⟨t,a,b⟩:=h.vw j e he;exact ⟨t,by rw [getElem?_set,if_neg n];exact a,b⟩
theorem VA.sets {D:Addr->Prop} {G:Gp}:∀ {ts:List (Nat×T)} {bs:List (Nat×PyData)} {τ:St3} {ρ:Rho},VA D G τ ρ->Bd (rs D G) ts bs->VA D G (Pu.sets τ ts) (jq ρ bs)
 |_,_,_,_,h,.nil=>h
 |_,_,_,_,h,.cons a b=>by unfold Pu.sets jq;exact VA.sets (h.set a) b
theorem VA.keep {D:Addr->Prop} {G:Gp} {ρ:Rho}:∀ {ts:List (Nat×T)} {τ:St3},VA D G τ ρ->(∀ p∈ts,Pu.vw ρ p.1=none)->VA D G (Pu.sets τ ts) ρ
 |[],_,h,_=>h
 |p::r,τ,h,hn=>VA.keep (ts:=r) ⟨by rw [List.length_set];exact h.len,λj d hd=>by
   have:p.1≠j:=by rintro rfl;rw [hn p (by simp)] at hd;cases hd
   obtain ⟨t,a,b⟩:=h.vw j d hd;exact ⟨t,by rw [getElem?_set,if_neg this];exact a,b⟩⟩ λq hq=>hn q (by simp [hq])
def CT (m:List (Option Nat)) (ρ:Rho):Rho:=m.map λo=>match o with|some j=>(match vw ρ j with|some d=>.sh d|none=>.un)|none=>.un
theorem VA.cap {m:List (Option Nat)} {D:Addr->Prop} {G:Gp} {τ:St3} {ρ:Rho} (h:ES (m.filterMap id) D G τ ρ):VA D G (L3.cap m τ) (CT m ρ):=by
 refine ⟨by simp [CT,L3.cap],λi d hd=>?_⟩;unfold Pu.vw CT at hd;rw [getElem?_map] at hd;cases e:m[i]? with
 |none=>rw [e] at hd;cases hd
 |some o=>
  rw [e] at hd;cases o with
  |none=>cases hd
  |some j=>
   simp only [Option.map_some,Option.bind_some] at hd;cases e2:Pu.vw ρ j with
   |none=>rw [e2] at hd;cases hd
   |some d'=>
    rw [e2] at hd;have hd':d'=d:=by simpa [Sl.d] using hd
    subst hd';obtain ⟨t,a,b⟩:=h j (List.mem_filterMap.mpr ⟨some j,v9 e,rfl⟩) d' e2;refine ⟨t,?_,b⟩;unfold L3.cap;rw [getElem?_map,e];simp [a]
def C5 {m:List (Option Nat)} {ρ:Rho} {i:Nat} (h:m[i]?=some none):vw (CT m ρ) i=none:=by
 unfold vw CT;rw [getElem?_map,h];rfl
def lcP (h:PyData->Option (Option PyData)):List PyData->Option (List PyData)
 |[]=>some []
 |d::r=>(h d).bind λo=>(lcP h r).bind λys=>some (match o with|some y=>y::ys|none=>ys)
def lcH (gf:PyData->Option (List (Nat×PyData))) (cf:Rho->Option Bool) (ef:Rho->Option PyData) (ρ:Rho) (d:PyData):Option (Option PyData):=
 (gf d).bind λbs=>(cf (jq ρ bs)).bind λk=>if k then (ef (jq ρ bs)).map some else some none
def V1 {h:PyData->Option (Option PyData)} {α:Type} {g:α->PyData} {k:α->PyData} {xs:List α} (hh:∀ a∈xs,h (g a)=some (some (k a))):lcP h (xs.map g)=some (xs.map k):=by
 induction xs with
 |nil=>rfl
 |cons a r ih=>simp only [map_cons,lcP,hh a (by simp),Option.bind_some,ih λb hb=>hh b (by simp [hb])]
theorem qbm {H:Gp}:∀ {ts:List (Nat×T)} {bs:List (Nat×PyData)},Bd H ts bs->∀ p∈ts,∃ q∈bs,q.1=p.1
 |_,_,.nil,p,hp=>by cases hp
 |_,_,.cons a b,p,hp=>by
  rcases mem_cons.mp hp with rfl|hp
  ·exact ⟨_,u6,rfl⟩
  ·obtain ⟨q,hq,e⟩:=qbm b p hp;exact ⟨q,by simp [hq],e⟩
theorem qfk {stay:Gp->Prop} {g:TG3} {tif:TT3} {te:TE3} {q:Q3} (pg:PuG g) (pc:PuC tif) (pe:PuE te) {D:Addr->Prop} {ρ0:Rho} {G0:Gp} (hs:∀ G,Ex G0 G->stay G) (hm:∀ i∈pg.tg,vw ρ0 i=none) (fin:List PyData) (hfin:fin.length<=sizeLine)
  (k:∀ G ys,Ex G0 G->Dqs (rs D G) ys fin->∀ p,G p=none->q (.ref p) (gu G p (.lst ys))) :
  ∀ (ds:List PyData) (items ys:List T) (es fs:List PyData) (τ:St3) (G:Gp),Dqs (rs D G0) items ds->VA D G τ ρ0->Ex G0 G->Dom D G->Dqs (rs D G) ys es->lcP (lcH pg.f pc.f pe.f ρ0) ds=some fs->es++fs=fin->qfB stay g tif te q items ys τ G
 |_,_,ys,es,fs,τ,G,.nil,va,E,hd,hy,hf,hl=>by
  cases hf;rw [List.append_nil] at hl;subst hl;exact ⟨hs G E,k G ys E hy⟩
 |d::ds,x::items,ys,es,fs,τ,G,.cons hx hr,va,E,hd,hy,hf,hl=>by
  unfold lcP at hf;obtain ⟨o,e1,hf⟩:=obb hf;obtain ⟨jC,e2,hf⟩:=obb hf;unfold lcH at e1;obtain ⟨bs,e3,e1⟩:=obb e1;obtain ⟨c,e4,e1⟩:=obb e1;obtain ⟨ts,bd,kg⟩:=pg.ok (hx.up (zK E)) e3;refine ⟨hs G E,kg τ G _ ?_⟩;have va1:=va.sets bd;have va2:=va.keep (ts:=ts) λp hp=>by
   obtain ⟨q,hq,e⟩:=qbm bd p hp;rw [← e];exact hm _ (pg.at' e3 q hq)
  refine pc.ok (va1.view _) hd e4 λG1 E1=>?_;cases c with
  |true=>
   rw [if_pos rfl];rw [if_pos rfl] at e1;obtain ⟨y,e5,rfl⟩:=u9 e1;simp only [Option.some.injEq] at hf;subst hf;refine pe.ok ((va1.up E1).view _) (hd.up E1) e5 λz G2 E2 D2 _=>⟨?_,?_⟩
   ·rw [hy.length];rw [← hl] at hfin;simp at hfin;omega
   ·refine qfk pg pc pe hs hm fin hfin k ds items (ys++[z]) (es++[y]) jC _ G2 hr ((va2.up E1).up E2) (E.trans (E1.trans E2)) ((hd.up E1).up E2) (((hy.up (zK E1)).up (zK E2)).append (.cons D2 .nil)) e2 ?_;rw [← hl];simp
  |false=>
   rw [if_neg y6];simp at e1;subst e1;simp only [Option.some.injEq] at hf;subst hf;exact qfk pg pc pe hs hm fin hfin k ds items ys es jC _ G1 hr (va2.up E1) (E.trans E1) (hd.up E1) (hy.up (zK E1)) e2 hl
def lcF (pi:Rho->Option (List PyData)) (h:Rho->PyData->Option (Option PyData)) (m:List (Option Nat)) (ρ:Rho):Option PyData:=
 (pi ρ).bind λds=>(lcP (h (CT m ρ)) ds).bind λfs=>cif (fs.length<=sizeLine) (some (.list fs)) none
def bLc {wi:TI3} {g:TG3} {tif:TT3} {te:TE3} (pi:PuI wi) (pg:PuG g) (pc:PuC tif) (pe:PuE te) (m:List (Option Nat)) (hm:Tru (pg.tg.all λi=>m[i]?==some none)):PuE (lc3 wi g tif te m):=
 ⟨lcF pi.f (lcH pg.f pc.f pe.f) m,pi.fv++m.filterMap id,true,λ{D τ ρ G q d} hv hd hf k=>by
  unfold lcF at hf;obtain ⟨ds,e1,hf⟩:=obb hf;obtain ⟨fs,e2,hf⟩:=obb hf;unfold cif at hf;split at hf
  ·rename_i hl;cases hf;refine pi.ok hv.l hd e1 λitems stay G1 E1 D1 hs _=>?_;have va:=(VA.cap (m:=m) hv.r).up E1;refine qfk pg pc pe (D:=D) (ρ0:=CT m ρ) (G0:=G1) (λG2 E2=>hs G2 (.inr (YI.trans E2))) (λi hi=>C5 ?_) fs hl (λG2 ys E2 D2 p hp=>?_) ds items [] [] fs _ G1 D1 va Ex.refl (hd.up E1) .nil e2 (by simp)
   ·have:=List.all_eq_true.mp hm.h i hi;simpa using this
   ·exact k _ _ ((E1.trans E2).trans (QH hp)) (Y6 ((hd.up E1).up E2) hp D2) λ_=>(EX hp D2).back (E1.trans E2)
  ·cases hf⟩
def E0 (p:Addr) (G G':Gp):Prop:=∀ b o,b≠p->G b=some o->G' b=some o
def E0.refl {p:Addr} {G:Gp}:E0 p G G:=λ_ _ _ e=>e
def E0.trans {p:Addr} {G G1 G2:Gp} (a:E0 p G G1) (b:E0 p G1 G2):E0 p G G2:=λx o n e=>b x o n (a x o n e)
def E0.of {p:Addr} {G G1:Gp} (a:Ex G G1):E0 p G G1:=λx o _ e=>a x o e
def E0.wr {p:Addr} {G:Gp} {o:O}:E0 p G (gu G p o):=λb ob n e=>by rw [zJ n];exact e
theorem E0.rs {p:Addr} {D:Addr->Prop} {G G1:Gp} (a:E0 p G G1):Ex (rs (λb=>D b\/b=p) G) (rs (λb=>D b\/b=p) G1):=λb o h=>by
 obtain ⟨n,h⟩:=qo h;rw [zB n];exact a b o (λz=>n (.inr z)) h
def qgf {D:Addr->Prop} {G:Gp} {p:Addr} {o:O} (h:Dom D G):Dom D (gu G p o):=λb d z=>by
 by_cases e:b=p
 ·subst e;rw [qy] at z;cases z
 ·rw [zJ e] at z;exact h b d z
theorem qfe {p:Addr} {stay:Gp->Prop} {g:TG3} {tif:TT3} {te:TE3} {N:St3->Gp->Prop} (pg:PuG g) (pc:PuC tif) (pe:PuE te) {D:Addr->Prop} {ρ0:Rho} {G0:Gp} (hs:∀ G,Ex (rs (λb=>D b\/b=p) G0) G->stay G) (hm:∀ i∈pg.tg,vw ρ0 i=none) (fin:List PyData) (hfin:fin.length<=sizeLine)
  (k:∀ τ G ys,VA (λb=>D b\/b=p) G τ ρ0->E0 p G0 G->Dom (λb=>D b\/b=p) G->G p=some (.lst ys)->Dqs (rs (λb=>D b\/b=p) G) ys fin->N τ G) :
  ∀ (ds:List PyData) (items ys:List T) (es fs:List PyData) (τ:St3) (G:Gp),Dqs (rs (λb=>D b\/b=p) G0) items ds->VA (λb=>D b\/b=p) G τ ρ0->E0 p G0 G->Dom (λb=>D b\/b=p) G->G p=some (.lst ys)->Dqs (rs (λb=>D b\/b=p) G) ys es->lcP (lcH pg.f pc.f pe.f ρ0) ds=some fs->es++fs=fin->qfK p stay g tif te N items τ G
 |_,_,ys,es,fs,τ,G,.nil,va,E,hd,gp,hy,hf,hl=>by
  cases hf;rw [List.append_nil] at hl;subst hl;exact ⟨hs G (E.rs.trans YI),k τ G ys va E hd gp hy⟩
 |d::ds,x::items,ys,es,fs,τ,G,.cons hx hr,va,E,hd,gp,hy,hf,hl=>by
  unfold lcP at hf;obtain ⟨o,e1,hf⟩:=obb hf;obtain ⟨jC,e2,hf⟩:=obb hf;unfold lcH at e1;obtain ⟨bs,e3,e1⟩:=obb e1;obtain ⟨c,e4,e1⟩:=obb e1;obtain ⟨ts,bd,kg⟩:=pg.ok (hx.up E.rs) e3;refine ⟨hs G (E.rs.trans YI),kg τ G _ ?_⟩;have va1:=va.sets bd;have va2:=va.keep (ts:=ts) λp hp=>by
   obtain ⟨q,hq,e⟩:=qbm bd p hp;rw [← e];exact hm _ (pg.at' e3 q hq)
  refine pc.ok (va1.view _) hd e4 λG1 E1=>?_;cases c with
  |true=>
   rw [if_pos rfl];rw [if_pos rfl] at e1;obtain ⟨y,e5,rfl⟩:=u9 e1;simp only [Option.some.injEq] at hf;subst hf;refine pe.ok ((va1.up E1).view _) (hd.up E1) e5 λz G2 E2 D2 _=>?_;simp only [E2 _ _ (E1 _ _ gp)];have W:E0 p G2 (gu G2 p (.lst (ys++[z]))):=E0.wr;refine ⟨?_,?_⟩
   ·rw [hy.length];rw [← hl] at hfin;simp at hfin;omega
   ·refine qfe pg pc pe hs hm fin hfin k ds items (ys++[z]) (es++[y]) jC _ _ hr (((va2.up E1).up E2).upx W.rs) ((E.trans (E0.of (E1.trans E2))).trans W) (qgf ((hd.up E1).up E2)) qy ((((hy.up (zK E1)).up (zK E2)).append (.cons D2 .nil)).up W.rs) e2 ?_;rw [← hl];simp
  |false=>
   rw [if_neg y6];simp at e1;subst e1;simp only [Option.some.injEq] at hf;subst hf;exact qfe pg pc pe hs hm fin hfin k ds items ys es jC _ G1 hr (va2.up E1) (E.trans (E0.of E1)) (hd.up E1) (E1 _ _ gp) (hy.up (zK E1)) e2 hl
def qeX (h:PyData->Option (Option (List PyData))):List PyData->Option (List PyData)
 |[]=>some []
 |d::r=>(h d).bind λo=>(qeX h r).bind λys=>some (match o with|some y=>y++ys|none=>ys)
def qhQ (gf:PyData->Option (List (Nat×PyData))) (cf:Rho->Option Bool) (it:Rho->Option (List PyData)) (h:Rho->PyData->Option (Option PyData)) (ρ:Rho) (d:PyData):Option (Option (List PyData)):=
 (gf d).bind λbs=>(cf (jq ρ bs)).bind λk=>if k then ((it (jq ρ bs)).bind λds=>lcP (h (jq ρ bs)) ds).map some else some none
theorem RO:∀ {bs:List (Nat×PyData)} {ρ:Rho} {i:Nat},(∀ p∈bs,p.1≠i)->vw (jq ρ bs) i=vw ρ i
 |[],_,_,_=>rfl
 |p::r,ρ,i,h=>by
  unfold jq;rw [RO (λq hq=>h q (by simp [hq])),qc7,if_neg (h p (by simp))]
theorem SE:∀ (bs:List (Nat×PyData)) (ρ:Rho),(jq ρ bs).length=ρ.length
 |[],τ=>rfl
 |p::r,τ=>by unfold jq;rw [SE r];simp
theorem qaU {p:Addr} {stay:Gp->Prop} {g g2:TG3} {tif tif2:TT3} {wi2:TI3} {te:TE3} {q:Q3} (pg:PuG g) (pc:PuC tif) (pi2:PuI wi2) (pg2:PuG g2) (pc2:PuC tif2) (pe:PuE te) {D:Addr->Prop} {ρ0:Rho} {G0:Gp} (hs:∀ G,Ex (rs (λb=>D b\/b=p) G0) G->stay G) (hm:∀ i∈pg.tg,vw ρ0 i=none) (hm2:∀ i∈pg2.tg,vw ρ0 i=none) (hdj:∀ i∈pg2.tg,i∉pg.tg) (fin:List PyData) (hfin:fin.length<=sizeLine)
  (k:∀ G ys,E0 p G0 G->G p=some (.lst ys)->Dqs (rs (λb=>D b\/b=p) G) ys fin->q (.ref p) G) :
  ∀ (ds:List PyData) (items ys:List T) (es fs:List PyData) (τ:St3) (G:Gp),Dqs (rs (λb=>D b\/b=p) G0) items ds->VA (λb=>D b\/b=p) G τ ρ0->E0 p G0 G->Dom (λb=>D b\/b=p) G->G p=some (.lst ys)->Dqs (rs (λb=>D b\/b=p) G) ys es->qeX (qhQ pg.f pc.f pi2.f (lcH pg2.f pc2.f pe.f) ρ0) ds=some fs->es++fs=fin->qal p stay g tif wi2 g2 tif2 te q items τ G
 |_,_,ys,es,fs,τ,G,.nil,va,E,hd,gp,hy,hf,hl=>by
  cases hf;rw [List.append_nil] at hl;subst hl;exact ⟨hs G (E.rs.trans YI),k G ys E gp hy⟩
 |d::ds,x::items,ys,es,fs,τ,G,.cons hx hr,va,E,hd,gp,hy,hf,hl=>by
  unfold qeX at hf;obtain ⟨o,e1,hf⟩:=obb hf;obtain ⟨jC,e2,hf⟩:=obb hf;unfold qhQ at e1;obtain ⟨bs,e3,e1⟩:=obb e1;obtain ⟨c,e4,e1⟩:=obb e1;obtain ⟨ts,bd,kg⟩:=pg.ok (hx.up E.rs) e3;refine ⟨hs G (E.rs.trans YI),kg τ G _ ?_⟩;have va1:=va.sets bd;have va2:=va.keep (ts:=ts) λp hp=>by
   obtain ⟨q,hq,e⟩:=qbm bd p hp;rw [← e];exact hm _ (pg.at' e3 q hq)
  refine pc.ok (va1.view _) hd e4 λG1 E1=>?_;cases c with
  |true=>
   rw [if_pos rfl];rw [if_pos rfl] at e1;obtain ⟨y,e5,rfl⟩:=u9 e1;obtain ⟨ds2,e6,e5⟩:=obb e5;simp only [Option.some.injEq] at hf;subst hf;refine pi2.ok ((va1.up E1).view _) (hd.up E1) e6 λitems2 stay2 G2 E2 D2 hs2 _=>?_;have l2:(es++y).length<=sizeLine:=by
    rw [← hl] at hfin;simp at hfin ⊢;omega
   refine qfe pg2 pc2 pe (ρ0:=jq ρ0 bs) (G0:=G2) (λG3 E3=>hs2 G3 (.inr E3)) (λi hi=>?_) (es++y) l2 (λτ3 G3 zs va3 E3 hd3 gp3 hz=>?_) ds2 items2 ys es y _ G2 D2 ((va1.up E1).up E2) E0.refl ((hd.up E1).up E2) (E2 _ _ (E1 _ _ gp)) ((hy.up (zK E1)).up (zK E2)) e5 rfl
   ·rw [RO λq hq e=>hdj i hi (by rw [← e];exact pg.at' e3 q hq)];exact hm2 i hi
   ·have E4:E0 p G G3:=(E0.of (E1.trans E2)).trans E3;have va4:VA (λb=>D b\/b=p) G3 τ3 ρ0:=⟨by rw [← va3.len,SE],λi d' hd'=>va3.vw i d' (by
     rw [RO λq hq e=>?_];exact hd';rw [← e,hm _ (pg.at' e3 q hq)] at hd';cases hd')⟩
    exact qaU pg pc pi2 pg2 pc2 pe hs hm hm2 hdj fin hfin k ds items zs (es++y) jC τ3 G3 hr va4 (E.trans E4) hd3 gp3 hz e2 (by rw [← hl];simp)
  |false=>
   rw [if_neg y6];simp at e1;subst e1;simp only [Option.some.injEq] at hf;subst hf;exact qaU pg pc pi2 pg2 pc2 pe hs hm hm2 hdj fin hfin k ds items ys es jC _ G1 hr (va2.up E1) (E.trans (E0.of E1)) (hd.up E1) (E1 _ _ gp) (hy.up (zK E1)) e2 hl
def qgq (pi:Rho->Option (List PyData)) (h:Rho->PyData->Option (Option (List PyData))) (m:List (Option Nat)) (ρ:Rho):Option PyData:=
 (pi ρ).bind λds=>(qeX (h (CT m ρ)) ds).bind λfs=>cif (fs.length<=sizeLine) (some (.list fs)) none
def qbX {h:PyData->Option (Option (List PyData))} {α:Type} {g:α->PyData} {k:α->List PyData} {xs:List α} (hh:∀ a∈xs,h (g a)=some (some (k a))):qeX h (xs.map g)=some (xs.flatMap k):=by
 induction xs with
 |nil=>rfl
 |cons a r ih=>simp only [map_cons,qeX,hh a (by simp),Option.bind_some,ih λb hb=>hh b (by simp [hb]),List.flatMap_cons]
def qkP {wi wi2:TI3} {g g2:TG3} {tif tif2:TT3} {te:TE3} (pi:PuI wi) (pg:PuG g) (pc:PuC tif) (pi2:PuI wi2) (pg2:PuG g2) (pc2:PuC tif2) (pe:PuE te) (m:List (Option Nat)) (hm:Tru (pg.tg.all λi=>m[i]?==some none)) (hm2:Tru (pg2.tg.all λi=>m[i]?==some none)) (hdj:Tru (pg2.tg.all λi=>!pg.tg.contains i)):PuE (qjA wi g tif wi2 g2 tif2 te m):=
 ⟨qgq pi.f (qhQ pg.f pc.f pi2.f (lcH pg2.f pc2.f pe.f)) m,pi.fv++m.filterMap id,true,λ{D τ ρ G q d} hv hd hf k=>by
  unfold qgq at hf;obtain ⟨ds,e1,hf⟩:=obb hf;obtain ⟨fs,e2,hf⟩:=obb hf;unfold cif at hf;split at hf
  ·rename_i hl;cases hf;refine pi.ok hv.l hd e1 λitems stay G1 E1 D1 hs _ p hp=>?_;have va:=(VA.cap (m:=m) hv.r).up E1;have np:∀ {b o},G1 b=some o->b≠p:=λe=>by rintro rfl;rw [hp] at e;cases e
   have X1:Ex (rs D G1) (rs (λb=>D b\/b=p) (gu G1 p (.lst []))):=λb o e=>by
    obtain ⟨n,e⟩:=qo e;rw [zB (by rintro (z|z);exact n z;exact np e z),zJ (np e)];exact e
   refine qaU pg pc pi2 pg2 pc2 pe (D:=D) (ρ0:=CT m ρ) (G0:=gu G1 p (.lst [])) (p:=p) (λG2 E2=>hs G2 (.inr (X1.trans E2))) (λi hi=>C5 ?_) (λi hi=>C5 ?_) (λi hi hj=>?_) fs hl (λG2 ys E2 gp D2=>?_) ds items [] [] fs _ _ (D1.up X1) ⟨va.len,λi d hd=>let ⟨t,a,b⟩:=va.vw i d hd;⟨t,a,b.up X1⟩⟩ E0.refl ?_ qy .nil e2 (by simp)
   ·simpa using List.all_eq_true.mp hm.h i hi
   ·simpa using List.all_eq_true.mp hm2.h i hi
   ·have:=List.all_eq_true.mp hdj.h i hi;simp at this;exact this hj
   ·have EE:Ex G1 G2:=λb o e=>E2 b o (np e) (by rw [zJ (np e)];exact e);have hdp:¬ D p:=λz=>(hd.up E1) p z hp;refine k _ _ (E1.trans EE) (.lst (by rw [zB hdp];exact gp) (D2.up (zh λb z=>.inl z))) λ_=>Nw.back (.inr ⟨p,ys,fs,rfl,rfl,hp,gp,D2⟩) E1
   ·intro b hb z;by_cases e:b=p
    ·subst e;rw [qy] at z;cases z
    ·rw [zJ e] at z;rcases hb with hb|hb
     ·exact (hd.up E1) b hb z
     ·exact e hb
  ·cases hf⟩
def AD (D:Addr->Prop) (A:Nat->Addr->Prop) (b:Addr):Prop:=D b\/∃ i,A i b
def Ons (R G:Gp) (B:Addr->Prop) (qs:List Addr) (dss:List (List PyData)):Prop:=qs.length=dss.length/\∀ (j:Nat) (q:Addr) (ds:List PyData),qs[j]?=some q->dss[j]?=some ds->B q/\∃ ys,G q=some (.lst ys)/\Dqs R ys ds
def SlR (R G:Gp) (B:Addr->Prop) (t:Option (Option T)):Sl->Prop
 |.un=>True
 |.sh d=>∃ x,t=some (some x)/\Dq R x d
 |.ow ds=>∃ p xs,B p/\t=some (some (.ref p))/\G p=some (.lst xs)/\Dqs R xs ds
 |.dc kvs=>∃ p ks,B p/\t=some (some (.ref p))/\G p=some (.dct ks)/\ks.map (λq=>q.1)=kvs.map (λq=>q.1)/\Dqs R (ks.map λq=>q.2) (kvs.map λq=>q.2)
 |.on dss=>∃ p qs,B p/\t=some (some (.ref p))/\G p=some (.lst (qs.map T.ref))/\(p::qs).Nodup/\Ons R G B qs dss
 |.rg d=>∃ x,t=some (some x)/\Dq (rs (λb=>¬ B b) G) x d
section
variable {R R' G G':Gp} {B B':Addr->Prop} {t:Option (Option T)} {s:Sl}
def Ons.mono {qs:List Addr} {dss:List (List PyData)} (h:Ons R G B qs dss) (hr:Ex R R') (hg:∀ q∈qs,∀ o,B q->G q=some o->G' q=some o) (hb:∀ p,B p->B' p):Ons R' G' B' qs dss:=
 ⟨h.1,λj q ds a b=>let ⟨c,ys,d,e⟩:=h.2 j q ds a b;⟨hb _ c,ys,hg _ (v9 a) _ c d,e.up hr⟩⟩
theorem SlR.mono (h:SlR R G B t s) (hr:Ex R R') (hg:s≠.un->∀ p o,B p->G p=some o->G' p=some o) (hb:∀ p,B p->B' p):SlR R' G' B' t s:=by
 by_cases n:s=.un
 ·subst n;trivial
 replace hg:=hg n
 cases s with
 |un=>trivial
 |sh d=>obtain ⟨x,a,b⟩:=h;exact ⟨x,a,b.up hr⟩
 |ow ds=>obtain ⟨p,xs,a,b,c,d⟩:=h;exact ⟨p,xs,hb _ a,b,hg _ _ a c,d.up hr⟩
 |dc ds=>obtain ⟨p,xs,a,b,c,d,e⟩:=h;exact ⟨p,xs,hb _ a,b,hg _ _ a c,d,e.up hr⟩
 |on ds=>obtain ⟨p,xs,a,b,c,d,e⟩:=h;exact ⟨p,xs,hb _ a,b,hg _ _ a c,d,e.mono hr (λq _=>hg q) hb⟩
 |rg d=>obtain ⟨x,a,b⟩:=h;exact ⟨x,a,b.up λq o e=>by
   obtain ⟨n,e⟩:=qo e;rw [zB λz=>n λy=>z (hb q y)];exact hg q o (Classical.not_not.mp n) e⟩
theorem Ons.dqs:∀ {qs:List Addr} {dss:List (List PyData)},Ons R G B qs dss->Ex R R'->(∀ p o,B p->G p=some o->R' p=some o)->Dqs R' (qs.map T.ref) (dss.map PyData.list)
 |[],[],_,_,_=>.nil
 |q::qs,ds::dss,h,hr,hg=>by
  obtain ⟨a,ys,b,c⟩:=h.2 0 q ds rfl rfl;exact .cons (.lst (hg _ _ a b) (c.up hr)) (Ons.dqs ⟨by simpa using h.1,λj q ds x y=>h.2 (j+1) q ds x y⟩ hr hg)
 |[],_::_,h,_,_=>by cases h.1
 |_::_,[],h,_,_=>by cases h.1
def SlR.vis (h:SlR R G B t s) {d:PyData} (hs:s.d=some d) (hr:Ex R R') (hg:∀ p o,B p->G p=some o->R' p=some o):∃ x,t=some (some x)/\Dq R' x d:=by
 cases s with
 |un=>cases hs
 |sh d=>cases hs;obtain ⟨x,a,b⟩:=h;exact ⟨x,a,b.up hr⟩
 |ow ds=>cases hs;obtain ⟨p,xs,a,b,c,d⟩:=h;exact ⟨_,b,.lst (hg _ _ a c) (d.up hr)⟩
 |dc ds=>cases hs
 |on ds=>cases hs;obtain ⟨p,xs,a,b,c,d,e⟩:=h;exact ⟨_,b,.lst (hg _ _ a c) (e.dqs hr hg)⟩
 |rg d=>cases hs;obtain ⟨x,a,b⟩:=h;exact ⟨x,a,b.up λq o e=>by
   obtain ⟨n,e⟩:=qo e;exact hg q o (Classical.not_not.mp n) e⟩
end
structure RS (D:Addr->Prop) (G0:Gp) (A:Nat->Addr->Prop) (τ:St3) (ρ:Rho) (G:Gp):Prop where
 ex:Ex G0 G
 dm:Dom D G0
 fr:∀ i p,A i p->G0 p=none
 da:∀ i p,A i p->G p≠none
 inj:∀ i j p,A i p->A j p->i=j
 len:ρ.length=τ.length
 sl:∀ (i:Nat) (s:Sl),ρ[i]?=some s->SlR (rs (AD D A) G) G (A i) τ[i]? s
section
variable {D:Addr->Prop} {G0 G G':Gp} {A A':Nat->Addr->Prop} {τ:St3} {ρ:Rho}
theorem RS.sh (h:RS D G0 A τ ρ G) (i:Nat) (d:PyData) (e:ρ[i]?=some (Sl.sh d)):∃ t,τ[i]?=some (some t)/\Dq (rs (AD D A) G) t d:=h.sl i _ e
theorem RS.ow (h:RS D G0 A τ ρ G) (i:Nat) (ds:List PyData) (e:ρ[i]?=some (Sl.ow ds)):∃ p xs,A i p/\τ[i]?=some (some (.ref p))/\G p=some (.lst xs)/\Dqs (rs (AD D A) G) xs ds:=h.sl i _ e
def RS.nd (h:RS D G0 A τ ρ G) {i:Nat} {p:Addr} (e:A i p):¬ D p:=λz=>h.dm p z (h.fr i p e)
def RS.dom (h:RS D G0 A τ ρ G):Dom (AD D A) G:=λb hb=>by
 rcases hb with hb|⟨i,hi⟩
 ·exact (h.dm.up h.ex) b hb
 ·exact h.da i b hi
def RS.domD (h:RS D G0 A τ ρ G):Dom D G:=h.dm.up h.ex
def RS.keep (h:RS D G0 A τ ρ G) {W:Addr->Prop} (hg:∀ b o,¬ W b->G b=some o->G' b=some o) (hW:∀ b,W b->∃ j,A j b/\ρ[j]?=some Sl.un/\G' b≠none):RS D G0 A τ ρ G':=by
 have out:∀ b,W b->AD D A b:=λb z=>let ⟨j,a,_⟩:=hW b z;.inr ⟨j,a⟩
 have X:Ex (rs (AD D A) G) (rs (AD D A) G'):=λb o e=>by
  obtain ⟨n,e⟩:=qo e;rw [zB n];exact hg b o (λz=>n (out b z)) e
 refine ⟨λb o e=>hg b o (λz=>?_) (h.ex b o e),h.dm,h.fr,λi p a z=>?_,h.inj,h.len,λi s e=>(h.sl i s e).mono X (λnu p o a g=>hg p o (λz=>?_) g) λ_ z=>z⟩
 ·obtain ⟨j,a,_⟩:=hW b z;rw [h.fr j b a] at e;cases e
 ·by_cases c:W p
  ·obtain ⟨j,_,_,n⟩:=hW p c;exact n z
  ·cases g:G p with
   |none=>exact h.da i p a g
   |some o=>rw [hg p o c g] at z;cases z
 ·obtain ⟨j,b,u,_⟩:=hW p z;have:=h.inj i j p a b;subst this;rw [u] at e;cases e;exact nu rfl
def RS.up (h:RS D G0 A τ ρ G) (e:Ex G G'):RS D G0 A τ ρ G':=h.keep (W:=λ_=>False) (λb o _ z=>e b o z) λ_ z=>z.elim
def RS.viewAll (h:RS D G0 A τ ρ G) (fv:List Nat):ES fv D G τ ρ:=λi _ d hd=>by
 unfold vw at hd;obtain ⟨s,e,hd⟩:=obb hd;exact (h.sl i s e).vis hd (zh λb z=>.inl z) λp o a g=>by rw [zB (h.nd a)];exact g
def RS.view (h:RS D G0 A τ ρ G) {fv:List Nat} (hn:∀ i∈fv,∀ p,¬ A i p):ES fv (AD D A) G τ ρ:=λi hi d hd=>by
 unfold vw at hd;obtain ⟨s,e,hd⟩:=obb hd;exact (h.sl i s e).vis hd (λ_ _ z=>z) λp o a=>(hn i hi p a).elim
def Sl.dem:Sl->Sl
 |.ow ds=>.sh (.list ds)
 |.dc _=>.un
 |.on dss=>.sh (.list (dss.map PyData.list))
 |.rg d=>.sh d
 |s=>s
def dm:List Bool->Rho->Rho
 |b::m,s::r=>(match b with|true=>s.dem|false=>s)::dm m r
 |_,r=>r
def mkb (m:List Bool) (i:Nat):Bool:=(m[i]?).getD false
theorem qbf:∀ (m:List Bool) (ρ:Rho) (i:Nat),(dm m ρ)[i]?=(ρ[i]?).map λs=>if mkb m i=true then s.dem else s
 |[],ρ,i=>by simp [dm,mkb]
 |b::m,[],i=>by simp [dm]
 |b::m,s::r,0=>by cases b<;>simp [dm,mkb]
 |b::m,s::r,i+1=>by
  have:=qbf m r i;simp only [dm,getElem?_cons_succ,mkb] at this ⊢;exact this
def qkb (s:Sl):s.dem.d=s.d:=by cases s<;>rfl
def qlP (m:List Bool) (ρ:Rho) (i:Nat):vw (dm m ρ) i=vw ρ i:=by
 unfold vw;rw [qbf];cases ρ[i]? with
 |none=>rfl
 |some s=>
  simp only [Option.map_some,Option.bind_some];split
  ·exact qkb s
  ·rfl
theorem qdu:∀ (m:List Bool) (ρ:Rho),(dm m ρ).length=ρ.length
 |[],ρ=>rfl
 |b::m,[]=>rfl
 |b::m,s::r=>by simp [dm,qdu m r]
def Ad (m:List Bool) (A:Nat->Addr->Prop):Nat->Addr->Prop:=λi p=>A i p/\mkb m i=false
def qi4 (s:Sl):s.dem=.un\/∃ d,s.dem=.sh d/\s.d=some d:=by cases s<;>simp [Sl.dem,Sl.d]
def RS.dem (h:RS D G0 A τ ρ G) (m:List Bool):RS D G0 (Ad m A) τ (Pu.dm m ρ) G:=by
 have less:Ex (rs (AD D A) G) (rs (AD D (Ad m A)) G):=zh λb z=>by
  rcases z with z|⟨i,z⟩
  ·exact .inl z
  ·exact .inr ⟨i,z.1⟩
 refine ⟨h.ex,h.dm,λi p e=>h.fr i p e.1,λi p e=>h.da i p e.1,λi j p a b=>h.inj i j p a.1 b.1,by rw [qdu];exact h.len,λi s e=>?_⟩;rw [qbf] at e;obtain ⟨s',e1,rfl⟩:=u9 e;have q:=h.sl i s' e1;split
 ·rename_i hm;rcases qi4 s' with z|⟨d,z,hd⟩<;>rw [z]
  ·trivial
  ·refine q.vis hd less λp o a g=>?_;rw [zB]
   ·exact g
   ·rintro (z|⟨j,z⟩)
    ·exact h.nd a z
    ·have:=h.inj i j p a z.1;subst this;rw [z.2] at hm;cases hm
 ·rename_i hm;exact q.mono less (λ_ _ _ _ z=>z) λp z=>⟨z,by simpa using hm⟩
def RS.viewD (h:RS D G0 A τ ρ G) {m:List Bool} {fv:List Nat} (hm:Tru (fv.all (mkb m))):ES fv (AD D (Ad m A)) G τ ρ:=by
 have:=(h.dem m).view (fv:=fv) λi hi p z=>by have q:=List.all_eq_true.mp hm.h i hi;rw [z.2] at q;cases q
 intro i hi d hd;exact this i hi d (by rw [qlP];exact hd)
def Rg (A:Nat->Addr->Prop) (i:Nat) (B:Addr->Prop):Nat->Addr->Prop:=λj p=>(j=i/\B p)\/(j≠i/\A j p)
def RS.upd (h:RS D G0 A τ ρ G) (i:Nat) {x:T} {s:Sl} {B W:Addr->Prop} (hg:∀ b o,¬ W b->G b=some o->G' b=some o) (hW:∀ b,W b->∃ j,A j b/\(j=i\/(ρ[j]?=some Sl.un/\G' b≠none))) (hB:∀ b,B b->(A i b\/G b=none)/\G' b≠none)
  (hs:Ex (rs (AD D A) G) (rs (AD D (Rg A i B)) G')->SlR (rs (AD D (Rg A i B)) G') G' B (some (some x)) s):RS D G0 (Rg A i B) (τ.set i (some x)) (ρ.set i s) G':=by
 have X:Ex (rs (AD D A) G) (rs (AD D (Rg A i B)) G'):=λb o e=>by
  obtain ⟨n,e⟩:=qo e;rw [zB]
  ·exact hg b o (λz=>let ⟨j,a,_⟩:=hW b z;n (.inr ⟨j,a⟩)) e
  ·rintro (z|⟨j,⟨rfl,z⟩|⟨_,z⟩⟩)
   ·exact n (.inl z)
   ·rcases (hB b z).1 with z|z
    ·exact n (.inr ⟨j,z⟩)
    ·rw [z] at e;cases e
   ·exact n (.inr ⟨j,z⟩)
 have ng:∀ p,G p=none->G0 p=none:=λp g=>by
  cases z:G0 p with
  |none=>rfl
  |some o=>rw [h.ex _ _ z] at g;cases g
 refine ⟨λb o e=>hg b o (λz=>?_) (h.ex b o e),h.dm,λj p e=>?_,λj p e=>?_,λj k p a b=>?_,by simp [h.len],λj s' e=>?_⟩
 ·obtain ⟨j,a,_⟩:=hW b z;rw [h.fr j b a] at e;cases e
 ·rcases e with ⟨rfl,z⟩|⟨_,z⟩
  ·rcases (hB p z).1 with z|z
   ·exact h.fr j p z
   ·exact ng p z
  ·exact h.fr j p z
 ·rcases e with ⟨rfl,z⟩|⟨n,z⟩
  ·exact (hB p z).2
  ·intro g;by_cases c:W p
   ·obtain ⟨k,a,b|⟨_,b⟩⟩:=hW p c
    ·exact n ((h.inj j k p z a).trans b)
    ·exact b g
   ·cases g':G p with
    |none=>exact h.da j p z g'
    |some o=>rw [hg p o c g'] at g;cases g
 ·rcases a with ⟨rfl,a⟩|⟨n,a⟩<;>rcases b with ⟨rfl,b⟩|⟨n',b⟩
  ·rfl
  ·rcases (hB p a).1 with z|z
   ·exact h.inj _ _ p z b
   ·exact absurd z (h.da k p b)
  ·rcases (hB p b).1 with z|z
   ·exact h.inj _ _ p a z
   ·exact absurd z (h.da j p a)
  ·exact h.inj j k p a b
 ·rw [getElem?_set] at e ⊢;split at e
  ·rename_i hj;subst hj;split at e
   ·rename_i hl;cases e;rw [if_pos rfl,if_pos (by rw [← h.len];exact hl)];exact (hs X).mono (λ_ _ z=>z) (λ_ _ _ _ z=>z) λp z=>.inl ⟨rfl,z⟩
   ·cases e
  ·rename_i hj;rw [if_neg hj];refine (h.sl j s' e).mono X (λnu p o a g=>hg p o (λz=>?_) g) λp z=>.inr ⟨λy=>hj y.symm,z⟩;obtain ⟨k,b,y|⟨y,_⟩⟩:=hW p z
   ·exact hj ((h.inj j k p a b).trans y).symm
   ·have:=h.inj j k p a b;subst this;rw [e] at y;cases y;exact nu rfl
abbrev Er (A:Nat->Addr->Prop) (i:Nat):Nat->Addr->Prop:=Rg A i λ_=>False
def qdn {i j:Nat} {p:Addr} (h:Er A i j p):A j p/\j≠i:=by
 rcases h with ⟨_,z⟩|⟨n,z⟩
 ·exact z.elim
 ·exact ⟨z,n⟩
def RS.put (h:RS D G0 A τ ρ G) (i:Nat) {x:T} {d:PyData} (hx:Dq (rs (AD D A) G) x d):RS D G0 (Er A i) (τ.set i (some x)) (ρ.set i (.sh d)) G:=
 h.upd i (W:=λ_=>False) (λ_ _ _ z=>z) (λ_ z=>z.elim) (λ_ z=>z.elim) λX=>⟨x,rfl,hx.up X⟩
theorem RS.puts:∀ {ts:List (Nat×T)} {bs:List (Nat×PyData)} {A:Nat->Addr->Prop} {τ:St3} {ρ:Rho},RS D G0 A τ ρ G->Bd (rs (AD D A) G) ts bs->∃ A',RS D G0 A' (sets τ ts) (jq ρ bs) G
 |_,_,A,_,_,h,.nil=>⟨A,h⟩
 |_,_,A,_,_,h,.cons (i:=i) a b=>by
  unfold sets jq;exact RS.puts (h.put i a) (b.up (zh λb z=>by
   rcases z with z|⟨j,z⟩
   ·exact .inl z
   ·exact .inr ⟨j,(qdn z).1⟩))
def RS.putN (h:RS D G0 A τ ρ G) (i:Nat) {x:T} {d:PyData} {ds:List PyData} (hd:d=.list ds) (E:Ex G G') (hx:Nw (AD D A) G G' x d):RS D G0 (Rg A i λb=>x=.ref b) (τ.set i (some x)) (ρ.set i (.ow ds)) G':=by
 rcases hx with hx|⟨p,xs,ds',rfl,e',gp,gp',hs⟩
 ·rw [hd] at hx;cases hx
 rw [hd] at e';cases e';refine h.upd i (W:=λ_=>False) (λb o _ z=>E b o z) (λ_ z=>z.elim) (λb z=>by cases z;exact ⟨.inr gp,by rw [gp'];simp⟩) λ_=>⟨p,xs,rfl,rfl,gp',hs.up (zh λb z=>?_)⟩
 rcases z with z|⟨j,⟨_,z⟩|⟨_,z⟩⟩
 ·exact .inl (.inl z)
 ·cases z;exact .inr rfl
 ·exact .inl (.inr ⟨j,z⟩)
def qbO {i:Nat} {t:Option T} (h:τ[i]?=some t):τ.set i t=τ:=by
 apply List.ext_getElem?;intro j;rw [getElem?_set];split
 ·rename_i e;subst e;split
  ·exact h.symm
  ·rename_i n;rw [List.getElem?_eq_none (by omega)] at h;cases h
 ·rfl
def qeZ {i:Nat}:Rg A i (A i)=A:=funext λj=>funext λp=>propext ⟨λz=>by
 rcases z with ⟨rfl,z⟩|⟨_,z⟩<;>exact z,λz=>by
 by_cases c:j=i
 ·subst c;exact .inl ⟨rfl,z⟩
 ·exact .inr ⟨c,z⟩⟩
def RS.wr (h:RS D G0 A τ ρ G) {i:Nat} {p:Addr} {xs:List T} {ds:List PyData} (hi:A i p) (ht:τ[i]?=some (some (.ref p))) (hs:Dqs (rs (AD D A) G) xs ds):RS D G0 A τ (ρ.set i (.ow ds)) (gu G p (.lst xs)):=by
 have:=h.upd i (G':=gu G p (.lst xs)) (x:=.ref p) (s:=.ow ds) (B:=A i) (W:=λb=>b=p) (λb o n z=>by rw [zJ n];exact z) (λb z=>⟨i,by rw [z];exact hi,.inl rfl⟩) (λb z=>⟨.inl z,by
  by_cases c:b=p
  ·rw [c,qy];simp
  ·rw [zJ c];exact h.da i b z⟩) λX=>⟨p,xs,hi,rfl,qy,hs.up X⟩
 rw [qbO ht,qeZ] at this;exact this
def RS.base {Gb:Gp} (h:RS D Gb A τ ρ G) (e:Ex G0 Gb) (hd:Dom D G0):RS D G0 A τ ρ G:=
 ⟨e.trans h.ex,hd,(λi p a=>by
  cases z:G0 p with
  |none=>rfl
  |some o=>have:=h.fr i p a;rw [e _ _ z] at this;cases this),h.da,h.inj,h.len,h.sl⟩
end
inductive Ot where
 |nx (ρ:Rho)|bk (ρ:Rho)|ct (ρ:Rho)|rt (d:PyData) (fr:Bool)
def qf9 (D:Addr->Prop) (G0:Gp) (e:Ends3):Ot->Prop
 |.nx ρ=>∀ A τ G,RS D G0 A τ ρ G->e.nx τ G
 |.bk ρ=>∀ A τ G,RS D G0 A τ ρ G->e.bk τ G
 |.ct ρ=>∀ A τ G,RS D G0 A τ ρ G->e.ct τ G
 |.rt d fr=>∀ x G,Ex G0 G->Dq (rs D G) x d->(fr=true->Nw D G0 G x d)->e.rt x G
theorem qf9.base {D:Addr->Prop} {G0 Gb:Gp} {e:Ends3} {o:Ot} (h:qf9 D G0 e o) (x:Ex G0 Gb) (hd:Dom D G0):qf9 D Gb e o:=by
 cases o with
 |nx ρ=>exact λA τ G r=>h A τ G (r.base x hd)
 |bk ρ=>exact λA τ G r=>h A τ G (r.base x hd)
 |ct ρ=>exact λA τ G r=>h A τ G (r.base x hd)
 |rt d fr=>exact λy G a b c=>h y G (x.trans a) b λz=>(c z).back x
structure PuS (t:TS3) where
 f:Nat->Rho->Option Ot
 ok:∀ {D G0 A τ ρ G n o} {e:Ends3},RS D G0 A τ ρ G->f n ρ=some o->qf9 D G0 e o->t e τ G
def JQ:PuS zk:=⟨λ_ ρ=>some (.nx ρ),λh hf k=>by cases hf;exact k _ _ _ h⟩
def qjB (a b:Nat->Rho->Option Ot) (n:Nat) (ρ:Rho):Option Ot:=(a n ρ).bind λo=>match o with|.nx ρ'=>b n ρ'|o=>some o
def QL {t u:TS3} (a:PuS t) (b:PuS u):PuS (qP t u):=⟨qjB a.f b.f,λ{D G0 A τ ρ G n o e} h hf k=>by
 unfold qjB at hf;obtain ⟨o1,e1,hf⟩:=obb hf;refine a.ok h e1 ?_;cases o1 with
 |nx ρ'=>exact λA' τ' G' h'=>b.ok h' hf k
 |bk ρ'=>cases hf;exact k
 |ct ρ'=>cases hf;exact k
 |rt d fr=>cases hf;exact k⟩
def sIf {c:TT3} {t u:TS3} (pc:PuC c) (a:PuS t) (b:PuS u):PuS (ZE c t u):=⟨λn ρ=>(pc.f ρ).bind λk=>if k then a.f n ρ else b.f n ρ,λh hf k=>by
 obtain ⟨o1,e1,hf⟩:=obb hf;refine pc.ok (h.viewAll _) h.domD e1 λG1 E1=>?_;cases o1 with
 |true=>exact a.ok (h.up E1) hf k
 |false=>exact b.ok (h.up E1) hf k⟩
def YN {t:TE3} (a:PuE t):PuS (zm t):=⟨λ_ ρ=>(a.f ρ).map λd=>.rt d a.nw,λh hf k=>by
 obtain ⟨d,e1,rfl⟩:=u9 hf;exact a.ok (h.viewAll _) h.domD e1 λx G1 E1 D1 N1=>k x G1 (h.ex.trans E1) D1 λz=>(N1 z).back h.ex⟩
def qa4 (ρ:Rho) (i:Nat):Option Ot:=match ρ[i]? with|some (.ow ds)=>some (.rt (.list ds) true)|some (.sh d)=>some (.rt d false)|_=>none
def KO (i:Nat):PuS (zm (v3 i)):=⟨λ_ ρ=>qa4 ρ i,λh hf k=>by
 unfold qa4 at hf;split at hf
 ·rename_i ds e;cases hf;obtain ⟨p,xs,b,c,g,f⟩:=h.ow i _ e;simp only [zm,v3,c];refine k _ _ h.ex (.lst (by rw [zB (h.nd b)];exact g) (f.up (zh λb z=>.inl z))) λ_=>.inr ⟨p,xs,ds,rfl,rfl,h.fr i p b,g,f.up (zh λq z=>?_)⟩;rcases z with z|z
  ·exact .inl z
  ·subst z;exact .inr ⟨i,b⟩
 ·rename_i d e;cases hf;obtain ⟨t,b,c⟩:=h.sh i _ e;simp only [zm,v3,b];exact k _ _ h.ex (c.up (zh λb z=>.inl z)) (λz=>by cases z)
 ·cases hf⟩
def DB {H H':Gp} {x:T} {d:PyData} (h:Dq H x d) (s:XH d=true):Dq H' x d:=by
 cases h<;>first|(constructor;done)|(simp [XH] at s;done)
def qnd:PyData->Sl
 |.list ds=>.ow ds
 |d=>.sh d
def LI (m:List Bool) (nw:Bool) (i:Nat) (d:PyData) (ρ:Rho):Rho:=if XH d then ρ.set i (.sh d) else (dm m ρ).set i (if nw then qnd d else .sh d)
def EB {t:TE3} (a:PuE t) (i:Nat) (m:List Bool) (hm:Tru (a.fv.all (mkb m))):PuS (zC t (gn3 i)):=⟨λ_ ρ=>(a.f ρ).map λd=>.nx (LI m a.nw i d ρ),λ{D G0 A τ ρ G n o e} h hf k=>by
 obtain ⟨d,e1,rfl⟩:=u9 hf;refine a.ok (h.viewD hm) (h.dem m).dom e1 λx G1 E1 D1 N1=>?_;unfold LI at k;show e.nx (τ.set i (some x)) G1;split at k
 ·rename_i hs;exact k _ _ _ ((h.up E1).put i (DB D1 hs))
 ·split at k
  ·rename_i hn;have N:=N1 hn;rcases id N with h2|⟨p,xs,ds,h1,h2,_⟩
   ·exact absurd h2 (by assumption)
   subst h2;exact k _ _ _ ((h.dem m).putN i rfl E1 N)
  ·exact k _ _ _ (((h.dem m).up E1).put i D1)⟩
def qd6 {t:TE3} {g:TG3} (a:PuE t) (pg:PuG g) (m:List Bool) (hm:Tru (a.fv.all (mkb m))):PuS (zC t g):=⟨λ_ ρ=>(a.f ρ).bind λd=>(pg.f d).map λbs=>.nx (jq (dm m ρ) bs),λ{D G0 A τ ρ G n o e} h hf k=>by
 obtain ⟨d,e1,hf⟩:=obb hf;obtain ⟨bs,e2,rfl⟩:=u9 hf;refine a.ok (h.viewD hm) (h.dem m).dom e1 λx G1 E1 D1 N1=>?_;obtain ⟨ts,bd,kg⟩:=pg.ok D1 e2;refine kg _ _ _ ?_;obtain ⟨A',h'⟩:=((h.dem m).up E1).puts bd;exact k _ _ _ h'⟩
def qjy (i j:Nat) (m:List Bool) (ds:List PyData) (ρ:Rho):Option Ot:=match ds with
 |[d,e]=>if XH d&&XH e then some (.nx ((ρ.set i (.sh d)).set j (.sh e))) else some (.nx (((dm m ρ).set i (.sh d)).set j (.sh e)))
 |_=>none
def qge {D:Addr->Prop} {A:Nat->Addr->Prop} {G:Gp} {i:Nat}:Ex (rs (AD D A) G) (rs (AD D (Er A i)) G):=zh λb z=>by
 rcases z with z|⟨j,z⟩
 ·exact .inl z
 ·exact .inr ⟨j,(qdn z).1⟩
def slot (ρ:Rho) (i:Nat):Option (List PyData):=match ρ[i]? with|some (.ow ds)=>some ds|_=>none
def U4 {ρ:Rho} {i:Nat} {ds:List PyData} (h:slot ρ i=some ds):ρ[i]?=some (.ow ds):=by
 unfold slot at h;split at h
 ·rename_i e;cases h;exact e
 ·cases h
def dmS (m:List Bool) (d:PyData) (ρ:Rho):Rho:=if XH d then ρ else dm m ρ
def RS.evalS {D:Addr->Prop} {G0 G:Gp} {A:Nat->Addr->Prop} {τ:St3} {ρ:Rho} (h:RS D G0 A τ ρ G) {t:TE3} (a:PuE t) (m:List Bool) (hm:Tru (a.fv.all (mkb m))) {d:PyData} (hf:a.f ρ=some d):∃ A1,RS D G0 A1 τ (dmS m d ρ) G/\∀ q:Q3,(∀ x G',Ex G G'->Dq (rs (AD D A1) G') x d->q x G')->t τ G q:=by
 unfold dmS;by_cases hs:XH d=true
 ·rw [if_pos hs];exact ⟨A,h,λq k=>a.ok (h.viewAll _) h.domD hf λx G1 E1 D1 _=>k x G1 E1 (DB D1 hs)⟩
 ·rw [if_neg hs];exact ⟨Ad m A,h.dem m,λq k=>a.ok (h.viewD hm) (h.dem m).dom hf λx G1 E1 D1 _=>k x G1 E1 D1⟩
def qjc (i:Nat) (d:PyData) (ρ:Rho):Option Ot:=(slot ρ i).bind λds=>cif (ds.length<sizeLine) (some (.nx (ρ.set i (.ow (ds++[d]))))) none
def qlz {t:TE3} (a:PuE t) (i:Nat) (m:List Bool) (hm:Tru (a.fv.all (mkb m))):PuS (YD (bm3 LL (v3 i) (qc t qk))):=⟨λ_ ρ=>(a.f ρ).bind λd=>qjc i d (dmS m d ρ),λ{D G0 A τ ρ G n o e} h hf k=>by
 obtain ⟨d,e1,hf⟩:=obb hf;obtain ⟨A1,h1,ev⟩:=h.evalS a m hm e1;unfold qjc at hf;obtain ⟨ds,e2,hf⟩:=obb hf;unfold cif at hf;split at hf
 ·rename_i hl;cases hf;obtain ⟨p,xs,b,c,g,f⟩:=h1.ow i _ (U4 e2);simp only [YD,bm3,v3,c,qT g];refine ⟨rfl,ev _ λx G1 E1 D1=>?_⟩;simp only [qk,LL,E1 _ _ g];exact ⟨by rw [f.length];exact hl,k _ _ _ ((h1.up E1).wr b c ((f.up (zK E1)).append (.cons D1 .nil)))⟩
 ·cases hf⟩
def qjz (i:Nat) (d:PyData) (ρ:Rho):Option Ot:=match d with|.list es=>(slot ρ i).bind λds=>cif (ds.length+es.length<=sizeLine) (some (.nx (ρ.set i (.ow (ds++es))))) none|_=>none
def qmA {t:TE3} (a:PuE t) (i:Nat) (m:List Bool) (hm:Tru (a.fv.all (mkb m))):PuS (YD (bm3 qem (v3 i) (qc t qk))):=⟨λ_ ρ=>(a.f ρ).bind λd=>qjz i d (dmS m d ρ),λ{D G0 A τ ρ G n o e} h hf k=>by
 obtain ⟨d,e1,hf⟩:=obb hf;obtain ⟨A1,h1,ev⟩:=h.evalS a m hm e1;unfold qjz at hf;split at hf
 ·obtain ⟨ds,e2,hf⟩:=obb hf;unfold cif at hf;split at hf
  ·rename_i hl;cases hf;obtain ⟨p,xs,b,c,g,f⟩:=h1.ow i _ (U4 e2);simp only [YD,bm3,v3,c,qT g];refine ⟨rfl,ev _ λx G1 E1 D1=>?_⟩;cases D1 with
   |lst g2 hs2=>
    simp only [qk,qem,E1 _ _ g,(qo g2).2];exact ⟨by rw [f.length,hs2.length];exact hl,k _ _ _ ((h1.up E1).wr b c ((f.up (zK E1)).append hs2))⟩
  ·cases hf
 ·cases hf⟩
def W2 (gf:PyData->Option (List (Nat×PyData))) (bf:Rho->Option Ot):List PyData->Rho->Option Ot
 |[],ρ=>some (.nx ρ)
 |d::r,ρ=>(gf d).bind λbs=>(bf (jq ρ bs)).bind λo=>match o with
  |.nx ρ'=>W2 gf bf r ρ'
  |.ct ρ'=>W2 gf bf r ρ'
  |.bk ρ'=>some (.nx ρ')
  |.rt d b=>some (.rt d b)
theorem S8 {stay:Gp->Prop} {g:TG3} {tb:TS3} {e:Ends3} (pg:PuG g) (pb:PuS tb) {D:Addr->Prop} {G0:Gp} {n:Nat} {o:Ot} {items0:List T} (hs:∀ A τ ρ G,RS D G0 A τ ρ G->stay G) (k:qf9 D G0 e o) :
  ∀ (ds:List PyData) (items:List T),(∀ A τ ρ G,RS D G0 A τ ρ G->Dqs (rs (AD D A) G) items ds)->∀ A τ ρ G,RS D G0 A τ ρ G->W2 pg.f (pb.f n) ds ρ=some o->WS stay g tb e items τ G
 |[],items,hi,A,τ,ρ,G,h,hf=>by
  cases hf;have:=hi _ _ _ _ h;cases this;exact ⟨hs _ _ _ _ h,k _ _ _ h⟩
 |d::ds,items,hi,A,τ,ρ,G,h,hf=>by
  have hh:=hi _ _ _ _ h;cases hh with
  |cons hx hr=>
   rename_i x items;unfold W2 at hf;obtain ⟨bs,e1,hf⟩:=obb hf;obtain ⟨o1,e2,hf⟩:=obb hf;obtain ⟨ts,bd,kg⟩:=pg.ok hx e1;refine ⟨hs _ _ _ _ h,kg _ _ _ ?_⟩;obtain ⟨A',h'⟩:=h.puts bd;refine pb.ok h' e2 ?_;have hi':∀ A τ ρ G,RS D G0 A τ ρ G->Dqs (rs (AD D A) G) items ds:=λA τ ρ G h=>by
    have:=hi _ _ _ _ h;cases this with
    |cons a b=>exact b
   cases o1 with
   |nx ρ'=>exact λA2 τ2 G2 h2=>S8 (items0:=items0) pg pb hs k ds items hi' _ _ _ _ h2 hf
   |ct ρ'=>exact λA2 τ2 G2 h2=>S8 (items0:=items0) pg pb hs k ds items hi' _ _ _ _ h2 hf
   |bk ρ'=>cases hf;exact k
   |rt d fr=>cases hf;exact k
def qgb (pi:Rho->Option (List PyData)) (nm:Bool) (m:List Bool) (gf:PyData->Option (List (Nat×PyData))) (bf:Nat->Rho->Option Ot) (n:Nat) (ρ:Rho):Option Ot:=(pi ρ).bind λds=>W2 gf (bf n) ds (if nm then ρ else dm m ρ)
def LJ {wi:TI3} {g:TG3} {tb:TS3} (pi:PuI wi) (pg:PuG g) (pb:PuS tb) (m:List Bool) (hm:Tru (pi.fv.all (mkb m))):PuS (DF wi g tb):=⟨qgb pi.f pi.nm m pg.f pb.f,λ{D G0 A τ ρ G n o e} h hf k=>by
 unfold qgb at hf;obtain ⟨ds,e1,hf⟩:=obb hf;refine pi.ok (h.viewD hm) (h.dem m).dom e1 λitems stay G1 E1 D1 hs hnm=>?_;cases hb:pi.nm with
 |true=>
  rw [hb,if_pos rfl] at hf;obtain ⟨ns,rfl⟩:=hnm hb;have:=D1.ints;subst this;exact S8 (items0:=[]) pg pb (λ_ _ _ _ _=>hs _ (.inl hb)) k _ _ (λA τ ρ G _=>Dqs.ofInts _) _ _ _ _ (h.up E1) hf
 |false=>
  rw [hb,if_neg y6] at hf;have h1:=(h.dem m).up E1;have b1:Ex G0 (rs (λb=>∃ i,Ad m A i b) G1):=λb o e=>by
   rw [zB]
   ·exact h1.ex _ _ e
   ·rintro ⟨i,z⟩;rw [h1.fr i _ z] at e;cases e
  have h2:RS D (rs (λb=>∃ i,Ad m A i b) G1) (Ad m A) τ (dm m ρ) G1:=⟨YI,h.dm.up b1,λi p z=>by unfold rs;exact qU ⟨i,z⟩,h1.da,h1.inj,h1.len,h1.sl⟩
  have X:∀ A2 τ2 ρ2 G2,RS D (rs (λb=>∃ i,Ad m A i b) G1) A2 τ2 ρ2 G2->Ex (rs (AD D (Ad m A)) G1) (rs (AD D A2) G2):=λA2 τ2 ρ2 G2 r b o e=>by
   obtain ⟨n1,e⟩:=qo e;have eb:rs (λb=>∃ i,Ad m A i b) G1 b=some o:=by rw [zB (λz=>n1 (.inr z))];exact e
   rw [zB]
   ·exact r.ex _ _ eb
   ·rintro (z|⟨i,z⟩)
    ·exact n1 (.inl z)
    ·rw [r.fr i _ z] at eb;cases eb
  exact S8 (items0:=[]) pg pb (λA2 τ2 ρ2 G2 r=>hs _ (.inr ((X _ _ _ _ r).trans YI))) (k.base b1 h.dm) _ _ (λA2 τ2 ρ2 G2 r=>D1.up (X _ _ _ _ r)) _ _ _ _ h2 hf⟩
def j2 (fr:Bool):Option Ot->Option PyData
 |some (.rt d b)=>if fr=true/\b=false then (match d with|.none=>some .none|_=>none) else some d
 |some (.nx _)=>if fr then none else some .none
 |_=>none
def st (ds:List PyData) (N:Nat):Rho:=ds.map Sl.sh++List.replicate (N-ds.length) .un
def qlW {D:Addr->Prop} {G:Gp} {ts:List T} {ds:List PyData} (N:List Str) (hs:Dqs (rs D G) ts ds) (hd:Dom D G):RS D G (λ_ _=>False) (qv N ts) (st ds N.length) G:=by
 refine ⟨Ex.refl,hd,(λi p e=>e.elim),(λi p e=>e.elim),(λi j p e=>e.elim),(by simp [st,qv,hs.length]),λi s e=>?_⟩;unfold st at e;unfold qv;by_cases hi:i<ds.length
 ·rw [List.getElem?_append_left (by simpa using hi),getElem?_map] at e;obtain ⟨d2,e3,rfl⟩:=u9 e;obtain ⟨x,e5,hx⟩:=hs.get e3;refine ⟨x,?_,hx.up (zh λb z=>?_)⟩
  ·rw [List.getElem?_append_left (by simp [hs.length];exact hi),getElem?_map,e5];rfl
  ·rcases z with z|⟨i,z⟩
   ·exact z
   ·exact z.elim
 ·rw [List.getElem?_append_right (by simpa using hi),List.getElem?_replicate] at e;split at e<;>cases e
  trivial
def run (f:Nat->Rho->Option Ot) (k N n:Nat) (fr:Bool) (ds:List PyData):Option PyData:=if ds.length=k then j2 fr (f n (st ds N)) else none
def qK {t:TS3} (b:PuS t) (N:List Str) (k n:Nat) (fr:Bool):∀ ts G q,PSp (run b.f k N.length n fr) fr ts G q->ts.length=k/\t { nx:=λ_ G'=>q .non G',rt:=q } (qv N ts) G:=by
 rintro ts G q ⟨D,ds,d,hs,hd,hf,h⟩;unfold run at hf;split at hf
 ·rename_i hk;refine ⟨by rw [hs.length];exact hk,?_⟩;have r:=qlW N hs hd;unfold j2 at hf;split at hf
  ·rename_i d' b' e;split at hf
   ·split at hf
    ·cases hf;exact b.ok r e λx G' a c z=>h x G' a c λ_=>.inl rfl
    ·cases hf
   ·rename_i hb;cases hf;exact b.ok r e λx G' a c z=>h x G' a c λw=>z (by
     cases b' with
     |true=>rfl
     |false=>exact absurd ⟨w,rfl⟩ hb)
  ·rename_i ρ' e;split at hf
   ·cases hf
   ·rename_i hb;cases hf;exact b.ok r e λA τ G' r'=>h .non G' r'.ex .non λw=>absurd w hb
  ·cases hf
 ·cases hf
def qbj {fr:Bool}:∀ ts G q,PSp (λ_=>none) fr ts G q->False:=λts G q ⟨_,_,_,_,_,h,_⟩=>by cases h
def Fn3.pz {P:Program} {w:World} {K:Frg} {mg:Str->Option Value} {base:Heap} {k:Nat} {x:Str} {sp:Sp3} (F:Fn3 P w K mg base k x sp) (fr:Bool):Fn3 P w K mg base k x (PSp (λ_=>none) fr):=F.imp λts G q h=>(qbj ts G q h).elim
def ql6 {i:Nat}:(bV i).f=λρ=>vw ρ i:=id rfl
def qco {i:Int}:(zv i).f=λ_=>some (.int i):=id rfl
def qgz {i:Bool}:(bBl i).f=λ_=>some (.bool i):=id rfl
def qc4 {i:Str}:(qb0 i).f=λ_=>some (.str i):=id rfl
def qcz:qjK.f=λ_=>some .none:=id rfl
def qme {r:R3} {ta tb:TE3} {R:OpD r} {a:PuE ta} {b:PuE tb}:(bO R a b).f=λρ=>(a.f ρ).bind λx=>(b.f ρ).bind λy=>R.f x y:=id rfl
def qde:qz.f=λ_=>some []:=id rfl
def NX {ta:TE3} {tr:TA3} {a:PuE ta} {r:PuA tr}:(qe a r).f=λρ=>(a.f ρ).bind λx=>(r.f ρ).bind λxs=>some (x::xs):=id rfl
def qdi {t:TA3} {a:PuA t} {hn:Tru (Nat.ble a.n 1000)}:(qfE a hn).f=λρ=>(a.f ρ).map .tuple:=id rfl
def qdx {t:TA3} {a:PuA t} {hn:Tru (Nat.ble a.n 1000)}:(EU a hn).f=λρ=>(a.f ρ).map .list:=id rfl
def qay {r:List T->Gp->Q3->Prop} {t:TA3} {R:FnD r} {a:PuA t}:(qx R a).f=λρ=>(a.f ρ).bind R.f:=id rfl
def qhf {t:TE3} {a:PuE t}:(bTb a).f=λρ=>(a.f ρ).bind asB:=id rfl
def qcY {t u:TT3} {a:PuC t} {b:PuC u}:(qmb a b).f=λρ=>(a.f ρ).bind λk=>if k then b.f ρ else some false:=id rfl
def qht {t u:TT3} {a:PuC t} {b:PuC u}:(bOr a b).f=λρ=>(a.f ρ).bind λk=>if k then some true else b.f ρ:=id rfl
def qcN {t:TT3} {a:PuC t}:(qa2 a).f=λρ=>(a.f ρ).map (! ·):=id rfl
def qi1:bTt.f=λ_=>some true:=id rfl
def LZ {ta tb:TE3} {a:PuE ta} {b:PuE tb}:(CW a b).f=λρ=>((a.f ρ).bind asB).bind λk=>if k then b.f ρ else some (.bool false):=id rfl
def M2 {ta:TE3} {a:PuE ta}:(qeB a).f=λρ=>((a.f ρ).bind asB).map λk=>.bool (!k):=id rfl
def qgV {r r':R3} {ta tb tc:TE3} {R:OpD r} {R':OpD r'} {a:PuE ta} {b:PuE tb} {c:PuE tc}:(bCh R R' a b c).f=λρ=>(a.f ρ).bind λx=>(b.f ρ).bind λy=>((R.f x y).bind asB).bind λk=>if k then (c.f ρ).bind λz=>R'.f y z else some (.bool false):=id rfl
def qdj {ta:TE3} {a:PuE ta}:(qkr a).f=λρ=>((a.f ρ).bind asI).map λi=>.int (Builtin.Int.intBits i):=id rfl
def qdH {ta:TE3} {g:String->Bool} {a:PuE ta}:(qcw g a).f=λρ=>(a.f ρ).bind λd=>(tyD d).map λt=>.bool (g t):=id rfl
def qiT:bNp.f=λ_=>some none:=id rfl
def qh1 {t:TE3} {a:PuE t}:(bSp a).f=λρ=>((a.f ρ).bind asI).map some:=id rfl
def qiA {te:TE3} {tl th:TO3} {a:PuE te} {l:PuO tl} {h:PuO th}:(bSl a l h).f=λρ=>(a.f ρ).bind λd=>(l.f ρ).bind λlo=>(h.f ρ).bind λhi=>slD d lo hi:=id rfl
def qjj {wi:TI3} {g:TG3} {tif:TT3} {te:TE3} {pi:PuI wi} {pg:PuG g} {pc:PuC tif} {pe:PuE te} {m:List (Option Nat)} {hm:Tru (pg.tg.all λi=>m[i]?==some none)}:(bLc pi pg pc pe m hm).f=lcF pi.f (lcH pg.f pc.f pe.f) m:=id rfl
def qcK {wi wi2:TI3} {g g2:TG3} {tif tif2:TT3} {te:TE3} {pi:PuI wi} {pg:PuG g} {pc:PuC tif} {pi2:PuI wi2} {pg2:PuG g2} {pc2:PuC tif2} {pe:PuE te} {m:List (Option Nat)} {hm:Tru (pg.tg.all λi=>m[i]?==some none)} {hm2:Tru (pg2.tg.all λi=>m[i]?==some none)} {hdj:Tru (pg2.tg.all λi=>!pg.tg.contains i)}:(qkP pi pg pc pi2 pg2 pc2 pe m hm hm2 hdj).f=qgq pi.f (qhQ pg.f pc.f pi2.f (lcH pg2.f pc2.f pe.f)) m:=id rfl
def qcm:qa9.f=qgE:=id rfl
def qc3:qjE.f=qjR:=id rfl
def qcl:qma.f=qjt:=id rfl
def qc1:qmc.f=qjM:=id rfl
def qcq:qmi.f=qjC:=id rfl
def qcn:ql4.f=qjN:=id rfl
def qcS:qj6.f=qgn:=id rfl
def qaX:qch.f=mxD:=id rfl
def MY {F:List PyData->Option PyData} {fr:Bool}:(qV F fr).f=F:=id rfl
def qfX {g:Int->Int->Int} {i j:Int}:(opI g).f (.int i) (.int j)=some (.int (g i j)):=id rfl
def qhZ {g:Int->Int->Bool} {i j:Int}:(opB g).f (.int i) (.int j)=some (.bool (g i j)):=id rfl
def qid {C:Int->Int->Prop} {g:Int->Int->Int}:(opC C g).f=cI C g:=id rfl
def qds {n:Bool}:(W7 n).f=eqD n:=id rfl
def qaJ {n:Bool}:(qgp n).f=qjS n:=id rfl
def qaQ {n:Bool}:(qf2 n).f=qjv n:=id rfl
def qdh {n:Bool}:(qjL n).f=inD n:=id rfl
def qd4:qdE.f=ixD:=id rfl
def qao:WM.f=qjF:=id rfl
def R8:YS.f=TV:=id rfl
def qdW {t:TE3} {a:PuE t}:(NP a).f=λρ=>(a.f ρ).bind qbw:=id rfl
def qdQ {t:TA3} {a:PuA t}:(qjl a).f=λρ=>(a.f ρ).bind qd3:=id rfl
def qak {t:TA3} {a:PuA t}:(RT a).f=λρ=>(a.f ρ).bind λds=>match ds with|[d]=>(qbw d).map λus=>enD 0 us|_=>none:=id rfl
def L6 {t:TE3} {a:PuE t}:(NP a).nm=false:=id rfl
def SQ {t:TA3} {a:PuA t}:(RT a).nm=false:=id rfl
def N4 {t:TA3} {a:PuA t}:(qjl a).nm=true:=id rfl
def ql7 {i:Nat}:(gN i).f=λd=>some [(i,d)]:=id rfl
def qdK:M0.f []=some []:=id rfl
def ND {t:TG3} {u:CS} {a:PuG t} {b:PuGs u} {d:PyData} {r:List PyData}:(jE a b).f (d::r)=(a.f d).bind λx=>(b.f r).map λy=>x++y:=id rfl
def qcD {u:CS} {n:Nat} {b:PuGs u} {ds:List PyData}:(MQ n b).f (.tuple ds)=if ds.length=n then b.f ds else none:=id rfl
def qaa:JQ.f=λ_ ρ=>some (.nx ρ):=id rfl
def qdZ {t u:TS3} {a:PuS t} {b:PuS u}:(QL a b).f=qjB a.f b.f:=id rfl
def qii {c:TT3} {t u:TS3} {pc:PuC c} {a:PuS t} {b:PuS u}:(sIf pc a b).f=λn ρ=>(pc.f ρ).bind λk=>if k then a.f n ρ else b.f n ρ:=id rfl
def qdL {t:TE3} {a:PuE t}:(YN a).f=λ_ ρ=>(a.f ρ).map λd=>.rt d a.nw:=id rfl
def qa0 {i:Nat}:(KO i).f=λ_ ρ=>qa4 ρ i:=id rfl
def qdN {t:TE3} {a:PuE t} {i:Nat} {m:List Bool} {hm:Tru (a.fv.all (mkb m))}:(EB a i m hm).f=λ_ ρ=>(a.f ρ).map λd=>.nx (LI m a.nw i d ρ):=id rfl
def MB {t:TE3} {g:TG3} {a:PuE t} {pg:PuG g} {m:List Bool} {hm:Tru (a.fv.all (mkb m))}:(qd6 a pg m hm).f=λ_ ρ=>(a.f ρ).bind λd=>(pg.f d).map λbs=>.nx (jq (dm m ρ) bs):=id rfl
def qd0 {t:TE3} {a:PuE t} {i:Nat} {m:List Bool} {hm:Tru (a.fv.all (mkb m))}:(qlz a i m hm).f=λ_ ρ=>(a.f ρ).bind λd=>qjc i d (dmS m d ρ):=id rfl
def qdt {t:TE3} {a:PuE t} {i:Nat} {m:List Bool} {hm:Tru (a.fv.all (mkb m))}:(qmA a i m hm).f=λ_ ρ=>(a.f ρ).bind λd=>qjz i d (dmS m d ρ):=id rfl
def qcJ {wi:TI3} {g:TG3} {tb:TS3} {pi:PuI wi} {pg:PuG g} {pb:PuS tb} {m:List Bool} {hm:Tru (pi.fv.all (mkb m))}:(LJ pi pg pb m hm).f=qgb pi.f pi.nm m pg.f pb.f:=id rfl
def qaY {i:Int}:(zv i).nw=false:=id rfl
def qcE {i:Bool}:(bBl i).nw=false:=id rfl
def MT:qjK.nw=false:=id rfl
def qf0 {r:R3} {ta tb:TE3} {R:OpD r} {a:PuE ta} {b:PuE tb}:(bO R a b).nw=R.nw:=id rfl
def qaR {t:TA3} {a:PuA t} {hn:Tru (Nat.ble a.n 1000)}:(qfE a hn).nw=false:=id rfl
def NG {t:TA3} {a:PuA t} {hn:Tru (Nat.ble a.n 1000)}:(EU a hn).nw=true:=id rfl
def TB {r:List T->Gp->Q3->Prop} {t:TA3} {R:FnD r} {a:PuA t}:(qx R a).nw=R.nw:=id rfl
def TF {F:List PyData->Option PyData} {fr:Bool}:(qV F fr).nw=fr:=id rfl
def SD {ta tb:TE3} {a:PuE ta} {b:PuE tb}:(CW a b).nw=false:=id rfl
def qaN {wi wi2:TI3} {g g2:TG3} {tif tif2:TT3} {te:TE3} {pi:PuI wi} {pg:PuG g} {pc:PuC tif} {pi2:PuI wi2} {pg2:PuG g2} {pc2:PuC tif2} {pe:PuE te} {m:List (Option Nat)} {hm:Tru (pg.tg.all λi=>m[i]?==some none)} {hm2:Tru (pg2.tg.all λi=>m[i]?==some none)} {hdj:Tru (pg2.tg.all λi=>!pg.tg.contains i)}:(qkP pi pg pc pi2 pg2 pc2 pe m hm hm2 hdj).nw=true:=id rfl
def NJ:qjE.nw=false:=id rfl
def qac:qj6.nw=false:=id rfl
def SO:qch.nw=false:=id rfl
def qat:qdE.nw=false:=id rfl
def TY:WM.nw=false:=id rfl
def CN:YS.nw=true:=id rfl
def qcM {g:Int->Int->Int}:(opI g).nw=false:=id rfl
def qda {C:Int->Int->Prop} {g:Int->Int->Int}:(opC C g).nw=false:=id rfl
def qmL {s:Sl} {r:Rho}:vw (s::r) 0=s.d:=id rfl
def qmt {s:Sl} {r:Rho} {i:Nat}:vw (s::r) (i+1)=vw r i:=id rfl
def qh2 {d:PyData}:(Sl.sh d).d=some d:=id rfl
def qir {ds:List PyData}:(Sl.ow ds).d=some (.list ds):=id rfl
def LS {r:Rho} {ds:List PyData}:slot (.ow ds::r) 0=some ds:=id rfl
def qcL {s:Sl} {r:Rho} {i:Nat}:slot (s::r) (i+1)=slot r i:=id rfl
def LO {r:Rho} {ds:List PyData}:qa4 (.ow ds::r) 0=some (.rt (.list ds) true):=id rfl
def M7 {r:Rho} {d:PyData}:qa4 (.sh d::r) 0=some (.rt d false):=id rfl
def qdX {s:Sl} {r:Rho} {i:Nat}:qa4 (s::r) (i+1)=qa4 r i:=id rfl
def qiR {xs:List PyData} {i:Int}:ixD (.tuple xs) (.int i)=L2.atI xs i:=id rfl
def qgD {xs:List PyData} {i:Int}:ixD (.list xs) (.int i)=L2.atI xs i:=id rfl
def at0 {α:Type} {a:α} {r:List α}:L2.atI (a::r) 0=some a:=by simp [L2.atI,ixN]
def at1 {α:Type} {a b:α} {r:List α}:L2.atI (a::b::r) 1=some b:=by
 have h:ixN (a::b::r).length 1=some 1:=by unfold ixN;rw [if_pos (by omega),if_pos (by simp;omega)];rfl
 unfold L2.atI;rw [h];rfl
def at2 {α:Type} {a b c:α} {r:List α}:L2.atI (a::b::c::r) 2=some c:=by
 have h:ixN (a::b::c::r).length 2=some 2:=by unfold ixN;rw [if_pos (by omega),if_pos (by simp;omega)];rfl
 unfold L2.atI;rw [h];rfl
def eqS {n:Bool} {a b:Str}:eqD n (.str a) (.str b)=some (.bool (if n then !decide (a=b) else decide (a=b))):=id rfl
def eqI {n:Bool} {a b:Int}:eqD n (.int a) (.int b)=some (.bool (if n then !decide (a=b) else decide (a=b))):=id rfl
def NU {C:Int->Int->Prop} {g:Int->Int->Int} {i j:Int} (h:C i j):cI C g (.int i) (.int j)=some (.int (g i j)):=by simp only [cI];exact qU h
def TZ {i j:Int} (h:-1000000<j/\j<1000000):cI VC (·*·) (.int i) (.int j)=some (.int (i*j)):=NU (.inr ⟨by omega,by omega⟩)
def qdO {i j:Int} (h:0<j):cI (λ_ j=>0<j) (·%·) (.int i) (.int j)=some (.int (i%j)):=NU h
def qdc {i j:Int} (h:0<j/\j<1073741824):cI qa5 (·/·) (.int i) (.int j)=some (.int (i/j)):=NU h
def qi5 {i j:Int} (h:0<=j/\j<=1000000/\i.natAbs<2 ^ 64):cI T9 (λi j=>i*2 ^ j.toNat) (.int i) (.int j)=some (.int (i*2 ^ j.toNat)):=NU h
def qiM {i j:Int} (h:0<=j):cI (λ_ j=>0<=j) (λi j=>i/2 ^ j.toNat) (.int i) (.int j)=some (.int (i/2 ^ j.toNat)):=NU h
def qmj {i j:Int}:qjF (.int i) (.int j)=some (.int (i+j)):=id rfl
def qhv {xs ys:List PyData} (h:xs.length+ys.length<=16777216):TV (.list xs) (.list ys)=some (.list (xs++ys)):=by simp only [TV];exact qU h
def qja {j:Int} (h:-1000000000<=j/\j<1000000000):qd3 [.int j]=some ((CQ 0 j.toNat).map PyData.int):=by simp only [qd3];exact qU ⟨by omega,by omega⟩
def SU {pi:Rho->Option (List PyData)} {h:Rho->PyData->Option (Option PyData)} {m:List (Option Nat)} {ρ:Rho} {ds fs:List PyData} (h1:pi ρ=some ds) (h2:lcP (h (CT m ρ)) ds=some fs) (h3:fs.length<=16777216):lcF pi h m ρ=some (.list fs):=by unfold lcF;rw [h1];simp only [Option.bind_some,h2];exact qU h3
def qex {pi:Rho->Option (List PyData)} {h:Rho->PyData->Option (Option (List PyData))} {m:List (Option Nat)} {ρ:Rho} {ds fs:List PyData} (h1:pi ρ=some ds) (h2:qeX (h (CT m ρ)) ds=some fs) (h3:fs.length<=16777216):qgq pi h m ρ=some (.list fs):=by unfold qgq;rw [h1];simp only [Option.bind_some,h2];exact qU h3
def UI {i:Nat} {d:PyData} {ρ:Rho} {ds:List PyData} (h:slot ρ i=some ds) (hl:ds.length<16777216):qjc i d ρ=some (.nx (ρ.set i (.ow (ds++[d])))):=by unfold qjc;rw [h];simp only [Option.bind_some];exact qU hl
def qbl {gf:PyData->Option (List (Nat×PyData))} {bf:Rho->Option Ot} {α:Type} {g:α->PyData} (xs:List α) (I:Nat->Rho->Prop) {ρ:Rho} (h0:I 0 ρ)
  (hs:∀ i x ρ,xs[i]?=some x->I i ρ->∃ bs ρ',gf (g x)=some bs/\(bf (jq ρ bs)=some (.nx ρ')\/bf (jq ρ bs)=some (.ct ρ'))/\I (i+1) ρ'):∃ ρ',W2 gf bf (xs.map g) ρ=some (.nx ρ')/\I xs.length ρ':=by
 have key:∀ (r:List α) (i:Nat) (ρ:Rho),xs.drop i=r->i<=xs.length->I i ρ->∃ ρ',W2 gf bf (r.map g) ρ=some (.nx ρ')/\I xs.length ρ':=by
  intro r;induction r with
  |nil=>
   intro i ρ e hi h;have:i=xs.length:=by
    have:=congrArg List.length e;simp at this;omega
   subst this;exact ⟨ρ,rfl,h⟩
  |cons x r ih=>
   intro i ρ e hi h;have hl:i<xs.length:=by
    have:=congrArg List.length e;simp at this;omega
   have e':=List.drop_eq_getElem_cons hl;rw [e] at e';injection e' with e1 e2;obtain ⟨bs,ρ',h1,h2,h3⟩:=hs i x ρ (by rw [y9 hl,e1]) h;obtain ⟨ρ2,h4,h5⟩:=ih (i+1) ρ' e2.symm hl h3;refine ⟨ρ2,?_,h5⟩;simp only [map_cons,W2,h1,Option.bind_some];rcases h2 with h2|h2<;>(rw [h2];exact h4)
 exact key xs 0 ρ (by simp) (Nat.zero_le _) h0
def MW {gf:PyData->Option (List (Nat×PyData))} {bf:Rho->Option Ot} {α:Type} {g:α->PyData} (xs:List α) (n:Nat) (x:α) (hn:xs[n]?=some x) (I:Nat->Rho->Prop) {ρ:Rho} {o:Ot} (h0:I 0 ρ)
  (hs:∀ i x ρ,i<n->xs[i]?=some x->I i ρ->∃ bs ρ',gf (g x)=some bs/\(bf (jq ρ bs)=some (.nx ρ')\/bf (jq ρ bs)=some (.ct ρ'))/\I (i+1) ρ')
  (he:∀ ρ,I n ρ->∃ bs,gf (g x)=some bs/\((∃ d b,o=.rt d b/\bf (jq ρ bs)=some (.rt d b))\/∃ ρ',o=.nx ρ'/\bf (jq ρ bs)=some (.bk ρ'))):W2 gf bf (xs.map g) ρ=some o:=by
 have hl:=(za0 hn).1;have key:∀ (k i:Nat) (ρ:Rho),i+k=n->I i ρ->W2 gf bf ((xs.drop i).map g) ρ=some o:=by
  intro k;induction k with
  |zero=>
   intro i ρ e h;have:i=n:=by omega
   subst this;obtain ⟨bs,h1,h2⟩:=he ρ h;rw [List.drop_eq_getElem_cons hl];have ex:xs[i]=x:=by
    rw [y9 hl] at hn;exact Option.some.inj hn
   rw [ex];simp only [map_cons,W2,h1,Option.bind_some];rcases h2 with ⟨d,b,rfl,h2⟩|⟨ρ',rfl,h2⟩<;>(rw [h2];rfl)
  |succ k ih=>
   intro i ρ e h;have hi:i<xs.length:=by omega
   obtain ⟨bs,ρ',h1,h2,h3⟩:=hs i xs[i] ρ (by omega) (y9 hi) h;rw [List.drop_eq_getElem_cons hi];simp only [map_cons,W2,h1,Option.bind_some];rcases h2 with h2|h2<;>(rw [h2];exact ih (i+1) ρ' (by omega) h3)
 exact key n 0 ρ (by omega) h0
def sqk (b:Nat->Rho->Option Ot) (n:Nat) (o:Ot):Option Ot:=match o with|.nx ρ'=>b n ρ'|o=>some o
def qcx {a b:Nat->Rho->Option Ot} {n:Nat} {ρ:Rho}:qjB a b n ρ=(a n ρ).bind (sqk b n):=id rfl
def qc5 {b:Nat->Rho->Option Ot} {n:Nat} {ρ:Rho}:sqk b n (.nx ρ)=b n ρ:=id rfl
def qcF {b:Nat->Rho->Option Ot} {n:Nat} {d:PyData} {f:Bool}:sqk b n (.rt d f)=some (.rt d f):=id rfl
def qaf {d:PyData}:j2 true (some (.rt d true))=some d:=id rfl
def qcG {d:PyData} {b:Bool}:j2 false (some (.rt d b))=some d:=by simp [j2]
def qh9 {b:Bool}:asB (.bool b)=some b:=id rfl
def qhq {b:Int}:asI (.int b)=some b:=id rfl
def qdd {xs:List PyData}:qgE [.tuple xs]=some (.int xs.length):=id rfl
def qc9 {xs:List PyData}:qgE [.list xs]=some (.int xs.length):=id rfl
def qck {i j:Int}:qjR [.int i,.int j]=some (.int (if j<i then j else i)):=id rfl
def qcC {i j:Int}:qjt [.int i,.int j]=some (.int (if j > i then j else i)):=id rfl
def qcR {i:Bool}:qjM [.bool i]=some (.int (if i then 1 else 0)):=id rfl
def qcQ {xs:List PyData}:qjC [.list xs]=some (.tuple xs):=id rfl
def qdI {xs:List PyData}:qjN [.list xs]=some (.list xs):=id rfl
def qaP {xs:List Bool}:qgn [.list (xs.map PyData.bool)]=some (.bool (xs.all id)):=by simp only [qgn,qbp,Option.map_some]
def qhj {xs:List Int} (h:xs≠[]):mxD [.list (xs.map PyData.int)]=some (.int (mx xs)):=by simp only [mxD,UF,Option.bind_some];exact qU h
def qcH {xs:List PyData}:qbw (.tuple xs)=some xs:=id rfl
def qcU {xs:List PyData}:qbw (.list xs)=some xs:=id rfl
def qh8 {i:Int}:tyD (.int i)=some "int" := id rfl
def qiV {i:List PyData}:tyD (.tuple i)=some "tuple" := id rfl
def qdo {n a b:Bool}:qjv n (.bool a) (.bool b)=some (.bool (if n then a != b else a==b)):=id rfl
def qg1 {m:List Bool} {nw:Bool} {i:Nat} {v:Int} {ρ:Rho}:LI m nw i (.int v) ρ=ρ.set i (.sh (.int v)):=id rfl
def qi2 {m:List Bool} {nw:Bool} {i:Nat} {v:Bool} {ρ:Rho}:LI m nw i (.bool v) ρ=ρ.set i (.sh (.bool v)):=id rfl
def qfY {m:List Bool} {nw:Bool} {i:Nat} {v:List PyData} {ρ:Rho}:LI m nw i (.tuple v) ρ=(dm m ρ).set i (.sh (.tuple v)):=by cases nw<;>rfl
def qdy {m:List Bool} {i:Nat} {v:List PyData} {ρ:Rho}:LI m true i (.list v) ρ=(dm m ρ).set i (.ow v):=id rfl
def qhn {m:List Bool} {v:Int} {ρ:Rho}:dmS m (.int v) ρ=ρ:=id rfl
def qjn {m:List Bool} {v:List PyData} {ρ:Rho}:dmS m (.list v) ρ=dm m ρ:=id rfl
def qml {ρ:Rho}:dm [] ρ=ρ:=id rfl
def qmq {m:List Bool} {s:Sl} {ρ:Rho}:dm (true::m) (s::ρ)=s.dem::dm m ρ:=id rfl
def qmd {m:List Bool} {s:Sl} {ρ:Rho}:dm (false::m) (s::ρ)=s::dm m ρ:=id rfl
def qic {ds:List PyData}:(Sl.ow ds).dem=.sh (.list ds):=id rfl
def qfV {d:PyData}:(Sl.sh d).dem=.sh d:=id rfl
def qfW {ρ:Rho}:CT [] ρ=[]:=id rfl
def qhr {m:List (Option Nat)} {ρ:Rho}:CT (none::m) ρ=.un::CT m ρ:=id rfl
def cp (o:Option PyData):Sl:=match o with|some d=>.sh d|none=>.un
def qg3 {m:List (Option Nat)} {j:Nat} {ρ:Rho}:CT (some j::m) ρ=cp (vw ρ j)::CT m ρ:=id rfl
def qmE {d:PyData}:cp (some d)=.sh d:=id rfl
def qcu {pi:Rho->Option (List PyData)} {m:List Bool} {gf:PyData->Option (List (Nat×PyData))} {bf:Nat->Rho->Option Ot} {n:Nat} {ρ:Rho}:qgb pi true m gf bf n ρ=(pi ρ).bind λds=>W2 gf (bf n) ds ρ:=id rfl
def qdb {pi:Rho->Option (List PyData)} {m:List Bool} {gf:PyData->Option (List (Nat×PyData))} {bf:Nat->Rho->Option Ot} {n:Nat} {ρ:Rho}:qgb pi false m gf bf n ρ=(pi ρ).bind λds=>W2 gf (bf n) ds (dm m ρ):=id rfl
def qdP {ρ:Rho}:jq ρ []=ρ:=id rfl
def qdm {ρ:Rho} {i:Nat} {d:PyData} {r:List (Nat×PyData)}:jq ρ ((i,d)::r)=jq (ρ.set i (.sh d)) r:=id rfl
def N0 {gf:PyData->Option (List (Nat×PyData))} {cf:Rho->Option Bool} {ef:Rho->Option PyData} {ρ:Rho} {d:PyData}:lcH gf cf ef ρ d=(gf d).bind λbs=>(cf (jq ρ bs)).bind λk=>if k then (ef (jq ρ bs)).map some else some none:=id rfl
def qg6 {gf:PyData->Option (List (Nat×PyData))} {cf:Rho->Option Bool} {it:Rho->Option (List PyData)} {h:Rho->PyData->Option (Option PyData)} {ρ:Rho} {d:PyData}:qhQ gf cf it h ρ d=(gf d).bind λbs=>(cf (jq ρ bs)).bind λk=>if k then ((it (jq ρ bs)).bind λds=>lcP (h (jq ρ bs)) ds).map some else some none:=id rfl
def Nx (o:Option Ot) (P:Rho->Prop):Prop:=match o with|some (.nx ρ)=>P ρ|some (.ct ρ)=>P ρ|_=>False
def qf5 {ρ:Rho} {P:Rho->Prop}:Nx (some (.nx ρ)) P=P ρ:=id rfl
def qin {o:Option Ot} {P:Rho->Prop} (h:Nx o P):∃ ρ,(o=some (.nx ρ)\/o=some (.ct ρ))/\P ρ:=by
 unfold Nx at h;split at h
 ·exact ⟨_,.inl rfl,h⟩
 ·exact ⟨_,.inr rfl,h⟩
 ·exact h.elim
section
variable {gf:PyData->Option (List (Nat×PyData))} {bf:Rho->Option Ot} {α:Type} {g:α->PyData} {ρ:Rho} {Q:Option Ot->Prop} {F:Ot->Option Ot}
def qb8 (xs:List α) (I:Nat->Rho->Prop) (h0:I 0 ρ) (hs:∀ i x ρ,xs[i]?=some x->I i ρ->Nx ((gf (g x)).bind λbs=>bf (jq ρ bs)) (I (i+1))) (k:∀ ρ',I xs.length ρ'->Q (some (.nx ρ'))):Q (W2 gf bf (xs.map g) ρ):=by
 obtain ⟨ρ',e,h⟩:=qbl (gf:=gf) (bf:=bf) (g:=g) xs I h0 λi x ρ hx hi=>by
  obtain ⟨ρ2,e,h⟩:=qin (hs i x ρ hx hi);cases e1:gf (g x) with
  |none=>rw [e1] at e;rcases e with e|e<;>cases e
  |some bs=>rw [e1] at e;exact ⟨bs,ρ2,rfl,e,h⟩
 rw [e];exact k ρ' h
def je (xs:List α) (I:Nat->Rho->Prop) (h0:I 0 ρ) (hs:∀ i x ρ,xs[i]?=some x->I i ρ->Nx ((gf (g x)).bind λbs=>bf (jq ρ bs)) (I (i+1))) (k:∀ ρ',I xs.length ρ'->Q (F (.nx ρ'))):Q ((W2 gf bf (xs.map g) ρ).bind F):=
 qb8 (Q:=λo=>Q (o.bind F)) xs I h0 hs k
def W6 (xs:List α) (n:Nat) (x:α) (d:PyData) (b:Bool) (hn:xs[n]?=some x) (I:Nat->Rho->Prop) (h0:I 0 ρ) (hs:∀ i x ρ,i<n->xs[i]?=some x->I i ρ->Nx ((gf (g x)).bind λbs=>bf (jq ρ bs)) (I (i+1))) (he:∀ ρ,I n ρ->((gf (g x)).bind λbs=>bf (jq ρ bs))=some (.rt d b)) (k:Q (some (.rt d b))):Q (W2 gf bf (xs.map g) ρ):=by
 rw [MW (gf:=gf) (bf:=bf) (g:=g) xs n x hn I h0 (λi x ρ hi hx hI=>by
  obtain ⟨ρ2,e,h⟩:=qin (hs i x ρ hi hx hI);cases e1:gf (g x) with
  |none=>rw [e1] at e;rcases e with e|e<;>cases e
  |some bs=>rw [e1] at e;exact ⟨bs,ρ2,rfl,e,h⟩) (o:=.rt d b) λρ hI=>by
  have:=he ρ hI;cases e1:gf (g x) with
  |none=>rw [e1] at this;cases this
  |some bs=>rw [e1] at this;exact ⟨bs,rfl,.inl ⟨d,b,rfl,this⟩⟩]
 exact k
def WR (xs:List α) (n:Nat) (x:α) (d:PyData) (b:Bool) (hn:xs[n]?=some x) (I:Nat->Rho->Prop) (h0:I 0 ρ) (hs:∀ i x ρ,i<n->xs[i]?=some x->I i ρ->Nx ((gf (g x)).bind λbs=>bf (jq ρ bs)) (I (i+1))) (he:∀ ρ,I n ρ->((gf (g x)).bind λbs=>bf (jq ρ bs))=some (.rt d b)) (k:Q (F (.rt d b))):Q ((W2 gf bf (xs.map g) ρ).bind F):=
 W6 (Q:=λo=>Q (o.bind F)) xs n x d b hn I h0 hs he k
end
def qif {α:Type} {us:List α} (h:us.length=1):∃ a0,us=[a0]:=List.length_eq_one_iff.mp h
def qk9 {α:Type} {us:List α} (h:us.length=2):∃ a0 a1,us=[a0,a1]:=by
 obtain ⟨a0,r,rfl⟩:=List.exists_cons_of_length_pos (show 0<us.length by omega);obtain ⟨a1,rfl⟩:=qif (show r.length=1 by simpa using h);exact ⟨a0,a1,rfl⟩
def qmM {α:Type} {us:List α} (h:us.length=3):∃ a0 a1 a2,us=[a0,a1,a2]:=by
 obtain ⟨a0,r,rfl⟩:=List.exists_cons_of_length_pos (show 0<us.length by omega);obtain ⟨a1,a2,rfl⟩:=qk9 (show r.length=2 by simpa using h);exact ⟨a0,a1,a2,rfl⟩
def qmK {α:Type} {us:List α} (h:us.length=4):∃ a0 a1 a2 a3,us=[a0,a1,a2,a3]:=by
 obtain ⟨a0,r,rfl⟩:=List.exists_cons_of_length_pos (show 0<us.length by omega);obtain ⟨a1,a2,a3,rfl⟩:=qmM (show r.length=3 by simpa using h);exact ⟨a0,a1,a2,a3,rfl⟩
def qmo {α:Type} {us:List α} (h:us.length=5):∃ a0 a1 a2 a3 a4,us=[a0,a1,a2,a3,a4]:=by
 obtain ⟨a0,r,rfl⟩:=List.exists_cons_of_length_pos (show 0<us.length by omega);obtain ⟨a1,a2,a3,a4,rfl⟩:=qmK (show r.length=4 by simpa using h);exact ⟨a0,a1,a2,a3,a4,rfl⟩
def qng {α:Type} {us:List α} (h:us.length=6):∃ a0 a1 a2 a3 a4 a5,us=[a0,a1,a2,a3,a4,a5]:=by
 obtain ⟨a0,r,rfl⟩:=List.exists_cons_of_length_pos (show 0<us.length by omega);obtain ⟨a1,a2,a3,a4,a5,rfl⟩:=qmo (show r.length=5 by simpa using h);exact ⟨a0,a1,a2,a3,a4,a5,rfl⟩
end Pu
namespace L3
open PySem PySem.Spec PyProof.Rows L2
def qfr:Sp3:=λ_ _ _=>False
def WV {P:Program} {w:World} {K:Frg} {mg:Str->Option Value} {base:Heap} {x qual:Str} {st:Stmt} {f:Addr} {fd:FuncData} {ps:List Str} (F:Fun K x qual st f fd) (bd:U1 K fd ps []) (hm:mg x=some (.ref f)):Fn3 P w K mg base 0 x qfr:=
 ⟨f,fd,ps,⟨λvs H Q E ⟨_,_,_,_,_,h,_⟩=>h.elim,λA outer s H args us vs Q E _ _ _ _ ⟨_,_,_,_,_,h,_⟩=>h.elim⟩,bd,F.kp,hm⟩
def ixR (p:Addr) (i:Int) (G:Gp) (q:Q3):ix3 (.ref p) (.int i) G q=(match getL G p with|some xs=>(match L2.atI xs i with|some z=>q z G|none=>False)|none=>False):=rfl
def cm {i j:Int} (h1:-1000000<j) (h2:j<1000000):VC i j:=.inr ⟨by omega,by omega⟩
def qen {lo:Int} {n i:Nat} {x:T} (h:(qab lo n)[i]?=some x):i<n/\x=T.int (lo+(i:Int)):=by
 unfold qab at h;rw [getElem?_map] at h;cases e:(List.range n)[i]? with
 |none=>rw [e] at h;cases h
 |some k=>
  rw [e] at h;obtain ⟨hi,hk⟩:=za0 e;simp at hi hk;subst hk;exact ⟨hi,by simpa using h.symm⟩
end L3
namespace Bk
open PySem L2 L3
def zL:TS3:=(zm (R5 (qdv (λt=>EK t "int") (v3 0)) (qbt (qdv (λt=>EK t "bool") (v3 0)))))
def V2:TS3:=(qP (zC (o3 (iC (λ_ j=>0<j) (·%·)) (o3 (iC VC (·*·)) (o3 j7 (o3 j7 (o3 (iC (λ_ j=>0<j) (·%·)) (v3 0) (c3 (.int 2147483629))) (o3 (iC VC (·*·)) (o3 (iC VC (·*·)) (v3 1) (v3 1)) (c3 (.int 7919)))) (c3 (.int 11))) (c3 (.int 48271))) (c3 (.int 2147483647))) (gn3 2)) (zm (o3 (iC (λ_ j=>0<j) (·%·)) (o3 (iC VC (·*·)) (v3 2) (v3 2)) (c3 (.int 1999999973)))))
def JX:TS3:=(qP (zC (if3 (tb3 (o3 (iB λi j=>decide (i<j)) (v3 1) (cb3 DI (qc (v3 0) qk)))) (o3 ix3 (v3 0) (v3 1)) (c3 (.int 0))) (gn3 2)) (qP (zC (if3 (tb3 (o3 (iB λi j=>decide (j<=i)) (cb3 qiQ (qc (v3 2) qk)) (o3 (iC T9 (λi j=>i ^ j.toNat)) (c3 (.int 10)) (c3 (.int 18))))) (cb3 qiQ (qc (v3 2) qk)) (c3 (.int 0))) (gn3 3)) (zm (YQ (qc (v3 3) (qc (o3 j7 (v3 2) (o3 (iC VC (·*·)) (c3 (.int 1000003)) (v3 1))) (qc (c3 (.int 0)) qk)))))))
def J0 (za8:Sp3):TS3:=(qP (zC (o3 j7 (o3 ix3 (v3 0) (c3 (.int 2))) (c3 (.int 1))) (WZ (v3 0) (c3 (.int 2)))) (qP (ZE (tb3 (o3 (iB λi j=>decide (j<i)) (o3 ix3 (v3 0) (c3 (.int 0))) (c3 (.int 0)))) (qP (zC (o3 (iC (λ_ j=>0<j) (·%·)) (o3 ix3 (v3 0) (c3 (.int 0))) (v3 1)) (gn3 2)) (qP (zC (o3 (iC qa5 (·/·)) (o3 ix3 (v3 0) (c3 (.int 0))) (v3 1)) (WZ (v3 0) (c3 (.int 0)))) (zm (v3 2)))) zk) (zm (o3 (iC (λ_ j=>0<j) (·%·)) (o3 (iC qa5 (·/·)) (cb3 za8 (qc (cb3 za8 (qc (o3 ix3 (v3 0) (c3 (.int 1))) (qc (o3 ix3 (v3 0) (c3 (.int 2))) qk))) (qc (o3 j7 (o3 ix3 (v3 0) (c3 (.int 2))) (c3 (.int 64))) qk))) (c3 (.int 64))) (v3 1)))))
abbrev qki (q:Q3):Ends3:={ nx:=λ_ G'=>q .non G',rt:=q }
def qjo {A B:TS3} {d:Ends3} {τ:St3} {G:Gp} (h:∀ nx,nx=B d->A { d with nx:=nx } τ G):qP A B d τ G:=h _ rfl
def Lf (G:Gp) (a:Addr) (n:Int):Prop:=∃ o c m,G a=some (.lst [.int o,.int c,.int m])/\0<=o/\0<=m/\m<=n
def Ext (a:Addr) (G G':Gp):Prop:=∀ b o,b≠a->G b=some o->G' b=some o
def Lf.new {G:Gp} {a p:Addr} {n:Int} {ob:O} (h:Lf G a n) (hp:p≠a):Lf (gu G p ob) a n:=by
 obtain ⟨o,c,m,e,r⟩:=h;exact ⟨o,c,m,by rw [zJ (Ne.symm hp)];exact e,r⟩
def Lf.mono {G:Gp} {a:Addr} {n k:Int} (h:Lf G a n) (hk:n<=k):Lf G a k:=by
 obtain ⟨o,c,m,e,h1,h2,h3⟩:=h;exact ⟨o,c,m,e,h1,h2,by omega⟩
def Lf.ex {G G':Gp} {a:Addr} {n:Int} (h:Lf G a n) (e:Ex G G'):Lf G' a n:=by
 obtain ⟨o,c,m,e1,h1⟩:=h;exact ⟨o,c,m,e _ _ e1,h1⟩
def Ext.trans {a:Addr} {G G1 G2:Gp} (x:Ext a G G1) (y:Ext a G1 G2):Ext a G G2:=λb o hb e=>y b o hb (x b o hb e)
def XN {a:Addr} {G G':Gp} (h:Ex G G'):Ext a G G':=λb o _ e=>h b o e
def DH:Sp3:=λts G q=>∃ c k,ts=[.int c,.int k]/\0<=k/\k<4294967296/\∀ m,0<=m->m<1999999973->q (.int m) G
def jP:Sp3:=λts G q=>∃ (a:Addr) (k:Int) (ns:List Int),ts=[.ref a,.int k]/\G a=some (.frz (ns.map T.int))/\ns.length<=63/\0<=k/\k<=63/\∀ p o c,G p=none->0<=o->q (.ref p) (gu G p (.lst [.int o,.int c,.int 0]))
def qX:Sp3:=λts G q=>∃ a n many,ts=[.ref a,.int many]/\1<=many/\many<1073741824/\Lf G a n/\n<1073741824/\∀ d G',0<=d->d<many->Lf G' a (n+1)->Ext a G G'->q (.int d) G'
def K5:∀ ts G q,DH ts G q->ts.length=2/\V2 (qki q) (qv ["_law_cell","_law_k","_law_m"] ts) G:=by
 rintro ts G q ⟨c,k,rfl,h1,h2,h⟩;refine ⟨rfl,?_⟩;simp only [V2,qP,zC,o3,v3,qv,map_cons,List.map_nil,length_cons,length_nil,Nat.zero_add,Nat.reduceAdd,Nat.reduceSub,List.replicate_one,cons_append,List.nil_append,v4,getElem?_pos,x5,c3,iC,Int.reduceLT,Nat.reduceLT,x6,j7,gn3,zm,set_cons_succ,set_cons_zero,u5,true_and];exact ⟨.inl ⟨by omega,by omega⟩,cm (by omega) (by omega),cm (by omega) (by omega),.inl ⟨by omega,by omega⟩,h _ (Int.emod_nonneg _ (by omega)) (Int.emod_lt_of_pos _ (by omega))⟩
def cp:T9 10 18:=⟨by decide,by decide,by decide⟩
def RC:∀ ts G q,jP ts G q->ts.length=2/\JX (qki q) (qv ["_law_script","_law_k","_law_cell","_law_own"] ts) G:=by
 rintro ts G q ⟨a,k,ns,rfl,hG,hl,h1,h2,h⟩;refine ⟨rfl,?_⟩;simp only [JX,qP,zC,if3,tb3,o3,v3,qv,map_cons,List.map_nil,length_cons,length_nil,Nat.zero_add,Nat.reduceAdd,Nat.reduceSub,List.reduceReplicate,cons_append,List.nil_append,Nat.reduceLT,getElem?_pos,x6,x5,cb3,qc,v4,qk,DI,getL,hG,iB,length_map,decide_eq_true_eq,gn3,set_cons_succ,set_cons_zero,qiQ,c3,iC,Int.reduceToNat,Int.reducePow,zm,YQ,u5,j7,ne_eq,y8,Nat.reduceLeDiff,true_and,gu,ixR,atI,ixN,getElem?_map,Int.lt_irrefl,↓reduceIte,Int.reduceLE,decide_false,Bool.false_eq_true,Int.zero_add];have ck:VC 1000003 k:=cm (by omega) (by omega);by_cases hk:k<ns.length
 ·have hk':k.toNat<ns.length:=by omega
  simp [hk,h1,hk',cp,ck];split
  ·split
   ·exact λp hp=>h p (-ns[k.toNat]) _ hp (by omega)
   ·exact λp hp=>h p 0 _ hp (by omega)
  ·split
   ·exact λp hp=>h p ns[k.toNat] _ hp (by omega)
   ·exact λp hp=>h p 0 _ hp (by omega)
 ·simp [hk,cp,ck];exact λp hp=>h p 0 _ hp (by omega)
def CY:∀ ts G q,qX ts G q->ts.length=2/\J0 DH (qki q) (qv ["_law_left_here","_law_many","_law_digit"] ts) G:=by
 rintro ts G q ⟨a,n,many,rfl,m1,m2,⟨o,c,m,hG,ho,hm,hn⟩,h3,h⟩;refine ⟨rfl,?_⟩;unfold J0;refine qjo λnx1 q1=>?_;simp only [zC,o3,v3,qv,map_cons,List.map_nil,length_cons,length_nil,Nat.zero_add,Nat.reduceAdd,Nat.reduceSub,List.replicate_one,cons_append,List.nil_append,v4,getElem?_pos,x5,c3,j7,ne_eq,y8,WZ,qeU,ixN,Int.zero_le_ofNat,↓reduceIte,Int.reduceToNat,tb3,iB,decide_eq_true_eq,Nat.reduceLT,x6,iC,gn3,set_cons_succ,set_cons_zero,Std.le_refl,Int.natCast_pos,Int.toNat_zero,zm,u5,ixR,getL,atI,zk,cb3,qc,qk,Int.toNat_one,List.length_set,hG,Int.cast_ofNat_Int,Int.reduceLT,Option.bind_some,qy];rw [q1];clear q1;refine qjo λnx2 q2=>?_;simp only [ZE,zC,o3,v3,qv,map_cons,List.map_nil,length_cons,length_nil,Nat.zero_add,Nat.reduceAdd,Nat.reduceSub,List.replicate_one,cons_append,List.nil_append,v4,getElem?_pos,x5,c3,j7,ne_eq,y8,WZ,qeU,ixN,Int.zero_le_ofNat,↓reduceIte,Int.reduceToNat,tb3,iB,decide_eq_true_eq,Nat.reduceLT,x6,iC,gn3,set_cons_succ,set_cons_zero,Std.le_refl,Int.natCast_pos,Int.toNat_zero,zm,u5,ixR,getL,atI,zk,cb3,qc,qk,Int.toNat_one,List.length_set,hG,Int.cast_ofNat_Int,Int.reduceLT,Option.bind_some,qy];split
 ·simp only [qP,zC,o3,v3,length_cons,length_nil,Nat.zero_add,Nat.reduceAdd,v4,getElem?_pos,x5,c3,Nat.reduceLT,x6,iC,gn3,set_cons_succ,set_cons_zero,WZ,qeU,ixN,Std.le_refl,↓reduceIte,Int.natCast_pos,Int.toNat_zero,zm,u5,ixR,getL,atI,qy,Int.cast_ofNat_Int,Int.reduceLT,Option.bind_some];refine ⟨by omega,⟨by omega,m2⟩,h _ _ (Int.emod_nonneg _ (by omega)) (Int.emod_lt_of_pos _ (by omega)) ⟨o/many,c,m+1,qy,Int.ediv_nonneg ho (by omega),by omega,by omega⟩ λb ob hb e=>?_⟩;rw [zJ hb,zJ hb];exact e
 ·rw [q2];clear q2;simp only [zC,o3,v3,qv,map_cons,List.map_nil,length_cons,length_nil,Nat.zero_add,Nat.reduceAdd,Nat.reduceSub,List.replicate_one,cons_append,List.nil_append,v4,getElem?_pos,x5,c3,j7,ne_eq,y8,WZ,qeU,ixN,Int.zero_le_ofNat,↓reduceIte,Int.reduceToNat,tb3,iB,decide_eq_true_eq,Nat.reduceLT,x6,iC,gn3,set_cons_succ,set_cons_zero,Std.le_refl,Int.natCast_pos,Int.toNat_zero,zm,u5,ixR,getL,atI,zk,cb3,qc,qk,Int.toNat_one,List.length_set,hG,Int.cast_ofNat_Int,Int.reduceLT,Option.bind_some,qy];refine ⟨c,m+1,rfl,by omega,by omega,λu u1 u2=>?_⟩;simp only [zC,o3,v3,qv,map_cons,List.map_nil,length_cons,length_nil,Nat.zero_add,Nat.reduceAdd,Nat.reduceSub,List.replicate_one,cons_append,List.nil_append,v4,getElem?_pos,x5,c3,j7,ne_eq,y8,WZ,qeU,ixN,Int.zero_le_ofNat,↓reduceIte,Int.reduceToNat,tb3,iB,decide_eq_true_eq,Nat.reduceLT,x6,iC,gn3,set_cons_succ,set_cons_zero,Std.le_refl,Int.natCast_pos,Int.toNat_zero,zm,u5,ixR,getL,atI,zk,cb3,qc,qk,Int.toNat_one,List.length_set,hG,Int.cast_ofNat_Int,Int.reduceLT,Option.bind_some,qy];refine ⟨u,m+1+64,rfl,by omega,by omega,λv v1 v2=>?_⟩;refine ⟨⟨by omega,by omega⟩,by omega,h _ _ (Int.emod_nonneg _ (by omega)) (Int.emod_lt_of_pos _ (by omega)) ⟨o,c,m+1,qy,ho,by omega,by omega⟩ λb ob hb e=>?_⟩;rw [zJ hb];exact e
theorem _root_.L3.Dps.append {G:Gp}:∀ {xs ys:List T} {ds es:List PyData},Dps G xs ds->Dps G ys es->Dps G (xs++ys) (ds++es)
 |_,_,_,_,.nil,b=>b
 |_,_,_,_,.cons a t,b=>.cons a (L3.Dps.append t b)
theorem _root_.L3.Dps.take {G:Gp}:∀ {xs:List T} {ds:List PyData} (i:Nat),Dps G xs ds->Dps G (xs.take i) (ds.take i)
 |_,_,0,_=>.nil
 |_,_,_+1,.nil=>.nil
 |_,_,i+1,.cons a t=>.cons a (L3.Dps.take i t)
theorem _root_.L3.Dps.drop {G:Gp}:∀ {xs:List T} {ds:List PyData} (i:Nat),Dps G xs ds->Dps G (xs.drop i) (ds.drop i)
 |_,_,0,h=>h
 |_,_,_+1,.nil=>.nil
 |_,_,i+1,.cons a t=>L3.Dps.drop i t
end Bk
namespace Pv
open PySem L2 L3 Pu
def RZ:TS3:=(qP (zC (YQ (qc (c3 (.int 0)) qk)) (gn3 1)) (qP (DF (Z0 (v3 0)) (gn3 2) (zC (o3 j7 (v3 1) (lc3 (Z0 (v3 1)) (gn3 0) tt3 (o3 (iI Builtin.bitXor) (v3 0) (v3 1)) [none,some 2])) (gn3 1))) (zm (v3 1))))
def D0:PuS (Pv.RZ):=(QL (EB (EU (qe (zv 0) qz) ⟨rfl⟩) 1 [] ⟨rfl⟩) (QL (LJ (NP (bV 0)) (gN 2) (EB (bO YS (bV 1) (bLc (NP (bV 1)) (gN 0) bTt (bO (opI Builtin.bitXor) (bV 0) (bV 1)) [none,some 2] ⟨rfl⟩)) 1 [false,true,true] ⟨rfl⟩) [true] ⟨rfl⟩) (KO 1)))
def J4:List PyData->Option PyData:=run (D0).f 1 3 1000000000 true
def qb3:∀ ts G q,PSp (J4) true ts G q->ts.length=1/\Pv.RZ { nx:=λ_ G'=>q .non G',rt:=q } (qv ["marks","told","mark"] ts) G:=qK (D0) ["marks","told","mark"] 1 1000000000 true
def qbR {x0:PyData}:J4 [x0]=j2 true ((D0).f 1000000000 [.sh x0,.un,.un]):=id rfl
end Pv
namespace Pu
open PySem L2 L3
end Pu
namespace Hd
open PySem L2 L3 PySem.W
def oF (x:Str) (st:Stmt) (pm cd:Value):Obj:=⟨.type "function",none,.func (PySem.W.fnOf x x (jA st) (qS st) (qf st) .none .none .none pm none cd .none),#[]⟩
def oC (vs:List Value):Obj:=⟨.type "code",none,.fields vs.toArray,#[]⟩
def eD (P:Params):Value×Value->DictEntry
 | (.str x t,v)=>⟨PyData.keyHash P x,.str x t,v⟩
 | (u,v)=>⟨0,u,v⟩
def oD (P:Params) (n:Nat) (es:List (Value×Value)):Obj:=⟨.type "dict",none,.dict (es.map (eD P)).toArray n,#[]⟩
abbrev nd (o:Obj) (l r:PySem.W.BT):PySem.W.BT:=.node o l r
abbrev lf (o:Obj):PySem.W.BT:=.node o .nil .nil
def ql2 {K:Frg} (x:Str) (st:Stmt) (f:Addr) (pm cd:Value) (l:K.lookup f=some (oF x st pm cd)) (c:PySem.W.codeIn K cd x=true) (k:PySem.W.keepIn K (.ref f)=true) :
  Fun K x x st f (PySem.W.fnOf x x (jA st) (qS st) (qf st) .none .none .none pm none cd .none):=LP l c k
def qk1 {K:Frg} {h:Heap} {mg:Str->Option Value} (X:K.In h) (G:h.Ns mainGlobals mg) (n:Str) (v:Value) (e:PySem.W.nsIn K mainGlobals n=some (some v)):mg n=some v:=PySem.W.mg_of X G e
end Hd
namespace Hd
open PySem L2 L3 PySem.W PySem.Spec PySem.Calls PyProof.Rows
structure Fb (K:Frg) (mg:Str->Option Value) (x:Str) (st:Stmt) (ps:List Str) (f:Addr) (fd:FuncData):Prop where
 F:Fun K x x st f fd
 b:U1 K fd ps []
 m:mg x=some (.ref f)
def sc0 {N ps:List Str} {s:Scope} (h1:s.kind=.function:=by rfl) (h2:s.isCoroutine=false:=by rfl) (h3:s.isGenerator=false:=by rfl) (h4:N.Nodup:=by decide +kernel) (h5:N.take ps.length=ps:=by rfl) (h6:∀ x∈ps,s.names.lookup x=some .local\/s.names.lookup x=some .cell:=by decide +kernel) (h7:∀ y∈s.names,y.2≠.free:=by decide +kernel):FnScope N ps s:=⟨h1,h2,h3,h4,h5,h6,h7⟩
def jfE {P:Program} {w:World} {K:Frg} {mg:Str->Option Value} {base:Heap} {x:Str} {st:Stmt} {f:Addr} {fd:FuncData} {N ps:List Str} {k:Nat} {sp:Sp3} {t3:TS3} (E:Fb K mg x st ps f fd) (S:FnScope N ps (qf st))
  (read:∀ ts G q,sp ts G q->ts.length=ps.length/\t3 { nx:=λ_ G'=>q .non G',rt:=q } (qv N ts) G)
  (body:∀ (cdv:Value) (A:Around) (outer:List Env) (s:Shared) (H:Hp) (E:XK),Room k (A.deeper (envOfC x (qf st) s.heap.objs.size f cdv)) ->
   jB3 (LK CX0 P w K mg base N x (qf st) f cdv A outer s H E).nox (qS st) t3):Fn3 P w K mg base (k+1) x sp:=qfA E.F S E.b E.m body read
def no {K:Frg} {h:Heap} {mg:Str->Option Value} (X:K.In h) (G:h.Ns mainGlobals mg) (n:Str) (e:PySem.W.nsIn K mainGlobals n=some none:=by kernel_rfl):mg n=none:=PySem.W.mg_none_of X G e
end Hd
namespace L3
open PySem PySem.Spec PyProof.Rows L2
def K0 {pos:Pos} {a b:Int} {c cv:Value} (l:List Value) (h:TriplesOk l) (e:codeAmong pos (l++[rawInt a,rawInt b,c])=some cv):codeAmong pos l=some cv\/cv=c:=by
 fun_induction TriplesOk l with
 |case1=>
  simp only [List.nil_append,codeAmong,rawInt] at e;split at e
  ·cases e;exact .inr rfl
  ·cases e
 |case2 x t y u z jC ih=>
  simp only [cons_append,codeAmong] at e ⊢;split at e
  ·rename_i q;rw [if_pos q];exact .inl e
  ·rename_i q;rw [if_neg q];exact ih h e
 |case3=>exact h.elim
def qcb (mg:Str->Option Value) (h:Heap):Prop:=∃ bm o,mg "__builtins__" = some (.ref bm)/\bm≠builtinsNs/\bm≠mainGlobals/\h.get? bm=some o/\o.cls=.type "module"/\o.dict=some builtinsNs/\o.data=.plain
def qfa {H:Hp} {a b:Addr} {o:HO} {u:HO} (h:upd H a o b=some u):(b=a/\o=u)\/(b≠a/\H b=some u):=by
 by_cases z:b=a
 ·subst z;rw [qG] at h;cases h;exact .inl ⟨rfl,rfl⟩
 ·rw [qm z] at h;exact .inr ⟨z,h⟩
structure LamO (o:Obj) (params:Arguments) (body:Expr) (scope:Scope) (clos:List (Str×Addr)) (qual:Str) (c:Addr):Prop where
 ex:∃ pm ctv,o=PySem.W.kla_obj "<lambda>" qual params body scope clos pm c ctv
structure LamNew (H H':Hp) (P f c:Addr) (fo oc:Obj) (q:Str):Prop where
 f0:H f=none
 f1:H' f=some (.frz fo (.own f))
 c1:H' c=some (.frz oc (.own c))
 cr:CdR oc q
 tab:RG H' P q
 old:∀ b o,C2 o=false->H b=some o->H' b=some o
 oldP:∀ b o,b≠P->H b=some o->H' b=some o
 new:∀ b o,C2 o=false->H' b=some o->H b=some o\/(∃ ob,o=.frz ob (.own b))
section
variable {X:Cx} {pins:List (Addr×Obj)} {σ:L2.St} {H:Hp} {s:Shared}
def qbh (I:Inv X pins σ H s) {c P:Addr} {q:Str} {params:Arguments} {body:Expr} {scope:Scope} {pos:Pos} {clos:List (Str×Addr)} (hc:X.env.code=.ref c) (C:PySem.W.CodeHd X.base c P) (B:qcb X.mg X.base) (T:RG H P q) (hq:X.env.qual++"<lambda>" = q)
  (hdef:defaultsOf params X.env=([],[])) (hcl:closureFor scope X.env=pure clos) :
  wpAny (model X.prog X.w) X.A (eval (.Lambda params body scope pos) X.env) (λv s'=>∃ f c' fo oc H',v=.ref f/\Inv X pins σ H' s'/\LamNew H H' P f c' fo oc q/\LamO fo params body scope clos q c') X.xe s:=by
 obtain ⟨ps,tP,ht,val⟩:=T;have hP:s.heap.get? P=some (PySem.W.tabObj ps):=I.hok P _ tP;have hgs:s.heap.Ns mainGlobals X.mg:=I.mod.glob.keeps I.bk;have hgP:mainGlobals≠P:=λz=>by
  obtain ⟨o,es,ep,e,d,_⟩:=hgs;rw [z,hP] at e;cases e;cases d
 have hLP:X.env.locals≠P:=λz=>by have:=I.free;rw [z,tP] at this;cases this
 obtain ⟨bm,ob,b1,b2,b3,b4,b5,b6,b7⟩:=B;have b4':=I.bk _ _ b4;have hbP:bm≠P:=λz=>by rw [z,hP] at b4';cases b4';cases b5
 have hb:s.heap.BuiltinsAt X.mg P:=⟨bm,ob,b1,b2,b3,hbP,b4',b5,b6,b7⟩
 refine PySem.W.kla_eval hdef ?_;rw [hq];cases hf:codeAmong pos ps.toList with
 |none=>
  refine PySem.W.kla_makeFunction hcl I.ok.glob hgs hc (C.keeps I.bk) hP ht hf hgP hb λc' ctv h' tk hx hge hlt hrec htb=>?_;obtain ⟨c2,oc,vs,t,e2,hoc,hd,hv⟩:=hrec;cases e2;have nP:∀ {b o},H b=some o->C2 o=false->b≠P:=λe z y=>by subst y;rw [tP] at e;cases e;cases z
  have cP:c'≠P:=Ne.symm (u4 (v8 (y4 hP) hge));have fP:h'.objs.size≠P:=Ne.symm (u4 (Nat.lt_trans (v8 (y4 hP) hge) hlt));have fc:h'.objs.size≠c':=Ne.symm (u4 hlt);have old:∀ b o,b≠P->s.heap.get? b=some o->(h'.push (PySem.W.kla_obj "<lambda>" q params body scope clos ((X.mg "__name__").getD .none) c' ctv)).get? b=some o:=λb o n e=>y2 _ (hx b o n e);have lt:∀ {b o},s.heap.get? b=some o->b≠c'/\b≠h'.objs.size:=λe=>⟨u4 (v8 (y4 e) hge),u4 (Nat.lt_trans (v8 (y4 e) hge) hlt)⟩
  have ltH:∀ {b o},H b=some o->b≠c'/\b≠h'.objs.size:=λe=>⟨u4 (v8 (I.hok.lt e) hge),u4 (Nat.lt_trans (v8 (I.hok.lt e) hge) hlt)⟩
  let fo:=PySem.W.kla_obj "<lambda>" q params body scope clos ((X.mg "__name__").getD .none) c' ctv
  let H':=upd (upd (upd H P (.tbl (ps++#[rawInt pos.line,rawInt pos.col,.ref c']))) c' (.frz oc (.own c'))) h'.objs.size (.frz fo (.own h'.objs.size))
  have same:∀ b,b≠P->b≠c'->b≠h'.objs.size->H' b=H b:=λb n1 n2 n3=>by
   show upd (upd (upd H P _) c' _) _ _ b=_;rw [qm n3,qm n2,qm n1]
  have atP:H' P=some (.tbl (ps++#[rawInt pos.line,rawInt pos.col,.ref c'])):=by
   show upd (upd (upd H P _) c' _) _ _ P=_;rw [qm (Ne.symm fP),qm (Ne.symm cP),qG]
  have atC:H' c'=some (.frz oc (.own c')):=by
   show upd (upd (upd H P _) c' _) _ _ c'=_;rw [qm (Ne.symm fc),qG]
  have atF:H' h'.objs.size=some (.frz fo (.own h'.objs.size)):=qG;have oldH:∀ b o,C2 o=false->H b=some o->H' b=some o:=λb o z e=>(same b (nP e z) (ltH e).1 (ltH e).2).trans e;refine ⟨h'.objs.size,c',fo,oc,H',rfl,?_,⟨?_,atF,atC,⟨vs,t,hd,hv⟩,⟨_,atP,?_,λpos' cv e=>?_⟩,oldH,λb o n e=>(same b n (ltH e).1 (ltH e).2).trans e,λb o z e=>?_⟩,⟨_,_,rfl⟩⟩
  ·refine I.step (g':=s.gens) (d':=s.drawn) (ch:=[]) (λ_ z=>nomatch z) (λb o _ _ _ e n=>old b o (λz=>by rw [z,tP] at n;cases n) e) (λb o _ _ _ e n=>⟨o.slots,old b o (λz=>by rw [z,tP] at n;cases n) e⟩) (λb o _ e n=>?_) (λb o _ e=>?_) (λb xs e=>oldH b _ rfl e) (λb o u e=>oldH b _ rfl e) (λb qs e=>?_) (λm hm=>(hm.extBut hx hLP).push _) (λa u e=>?_) I.bare
   ·rw [same b (λz=>by rw [z,tP] at n;cases n) (lt e).1 (lt e).2];exact n
   ·by_cases z:b=P
    ·subst z;exact ⟨_,y2 _ htb⟩
    ·exact ⟨o,old b o z e⟩
   ·by_cases z:b=P
    ·subst z;rw [tP] at e;cases e;exact ⟨_,atP⟩
    ·exact ⟨#[],by rw [same b z (ltH e).1 (ltH e).2,e];simp⟩
   ·by_cases z1:a=h'.objs.size
    ·subst z1;rw [atF] at e;cases e;exact ⟨y3 _ rfl,_,y3 _ rfl⟩
    ·by_cases z2:a=c'
     ·subst z2;rw [atC] at e;cases e;exact ⟨y2 _ hoc,_,y2 _ hoc⟩
     ·by_cases z3:a=P
      ·subst z3;rw [atP] at e;cases e;exact y2 _ htb
      ·rw [same a z3 z2 z1] at e;refine (I.hok a u e).stay (λb v hb y=>old b v (λz=>?_) y) (λb y=>oldH b _ rfl y) λb xs y=>oldH b _ rfl y;rcases hb with rfl|hb
       ·exact z3 z
       ·rw [z,tP] at hb;cases hb
  ·cases z:H h'.objs.size with
   |none=>rfl
   |some o=>exact absurd rfl (u4 (Nat.lt_trans (v8 (I.hok.lt z) hge) hlt))
  ·rw [Array.toList_append];exact TriplesOk_snoc _ _ _ _ ht
  ·rw [Array.toList_append] at e;rcases K0 ps.toList ht e with e|rfl
   ·obtain ⟨c3,oc3,a1,a2,a3⟩:=val pos' cv e;exact ⟨c3,oc3,a1,oldH _ _ rfl a2,a3⟩
   ·exact ⟨c',oc,rfl,atC,vs,t,hd,hv⟩
  ·by_cases z1:b=h'.objs.size
   ·subst z1;rw [atF] at e;cases e;exact .inr ⟨_,rfl⟩
   ·by_cases z2:b=c'
    ·subst z2;rw [atC] at e;cases e;exact .inr ⟨_,rfl⟩
    ·by_cases z3:b=P
     ·subst z3;rw [atP] at e;cases e;cases z
     ·rw [same b z3 z2 z1] at e;exact .inl e
 |some cv=>
  obtain ⟨c',oc,rfl,hC,hr⟩:=val pos cv hf;refine PySem.W.kla_makeFunctionHit hcl I.ok.glob hgs hc (C.keeps I.bk) hP ht hf hb λctv h' tk hk hsz=>?_;have old:∀ b o,s.heap.get? b=some o->(h'.push { cls:=.type "function",data:=.func (PySem.W.kla_fn "<lambda>" q params body scope clos ((X.mg "__name__").getD .none) (.ref c') ctv) }).get? b=some o:=λb o e=>y2 _ (hk b o e);have hn:H h'.objs.size=none:=I.hok.fresh hsz;have oldH:∀ b o,H b=some o->upd H h'.objs.size (.frz (PySem.W.kla_obj "<lambda>" q params body scope clos ((X.mg "__name__").getD .none) c' ctv) (.own h'.objs.size)) b=some o:=λb o e=>by rw [qm (qr e hn)];exact e
  refine ⟨h'.objs.size,c',PySem.W.kla_obj "<lambda>" q params body scope clos ((X.mg "__name__").getD .none) c' ctv,oc,upd H h'.objs.size (.frz _ (.own h'.objs.size)),rfl,?_,⟨hn,qG,oldH _ _ hC,hr,⟨ps,oldH _ _ tP,ht,λpos' cv e=>?_⟩,λb o _ e=>oldH b o e,λb o _ e=>oldH b o e,λb o z e=>?_⟩,⟨_,_,rfl⟩⟩
  ·exact I.laid (t':=tk) old hsz ⟨y3 _ rfl,_,y3 _ rfl⟩
  ·obtain ⟨c3,oc3,a1,a2,a3⟩:=val pos' cv e;exact ⟨c3,oc3,a1,oldH _ _ a2,a3⟩
  ·rcases qfa e with ⟨rfl,rfl⟩|⟨_,e⟩
   ·exact .inr ⟨_,rfl⟩
   ·exact .inl e
end
section
variable {P:Program} {w:World} {H H2:Hp} {h h':Heap} {S:List Addr} {fs:List Addr}
def rem (S:List Addr) (H:Hp):Hp:=λb=>if b∈S then none else H b
def add (S:List Addr) (H H2:Hp):Hp:=λb=>if b∈S then H b else H2 b
def fzS (S:List Addr) (h:Heap) (H:Hp):Hp:=λb=>if b∈S then (h.get? b).map λo=>.frz o (.own b) else H b
def qgK (u:Un fs [] (rem S H) H2 h h') (fr:∀ b∈S,∃ o,H b=some (.frz o (.own b))) (nf:∀ b∈S,b∉fs) (ok:HOk P w H h) (ok2:HOk P w H2 h'):Un fs [] H (add S H H2) h h'/\HOk P w (add S H H2) h'/\∀ b∈S,H2 b=none:=by
 have r1:∀ {b},b∈S->rem S H b=none:=λz=>if_pos z;have r2:∀ {b},b∉S->rem S H b=H b:=λz=>if_neg z;have a1:∀ {b},b∈S->add S H H2 b=H b:=λz=>if_pos z;have a2:∀ {b},b∉S->add S H H2 b=H2 b:=λz=>if_neg z;have get:∀ {b o},b∈S->H b=some (.frz o (.own b))->h.get? b=some o:=λ_ e=>(ok _ _ e).1;have kept:∀ {b o},b∈S->H b=some (.frz o (.own b))->h'.get? b=some o:=λz e=>u.keep _ _ (get z e) (r1 z) (nf _ z) (by simp);have gone:∀ {b},b∈S->H2 b=none:=λ{b} z=>by
  obtain ⟨o,e⟩:=fr b z;exact u.free b o (get z e) (r1 z) (by simp)
 have nS:∀ {b},H b=none->b∉S:=λ{b} n z=>by obtain ⟨o,e⟩:=fr b z;rw [n] at e;cases e
 have oS:∀ {b o},H b=some o->(∀ x,o≠.frz x (.own b))->b∉S:=λ{b o} e n z=>by obtain ⟨x,e'⟩:=fr b z;rw [e] at e';cases e';exact n x rfl
 have ns:∀ {b o},H2 b=some o->b∉S:=λe z=>by rw [gone z] at e;cases e
 refine ⟨⟨λb o q n hb hx=>u.keep b o q ((r2 (nS n)).trans n) hb hx,λb o q n hb hx=>u.slot b o q ((r2 (nS n)).trans n) hb hx,λb o q n hx=>(a2 (nS n)).trans (u.free b o q ((r2 (nS n)).trans n) hx),u.there,λb xs q=>?_,λb o v q=>?_,λb ps q=>?_⟩,λa o e=>?_,λ_ z=>gone z⟩
 ·have z:=oS q λx y=>nomatch y;exact (a2 z).trans (u.tups b xs ((r2 z).trans q))
 ·by_cases z:b∈S
  ·exact (a1 z).trans q
  ·exact (a2 z).trans (u.frzs b o v ((r2 z).trans q))
 ·have z:=oS q λx y=>nomatch y;obtain ⟨m,e⟩:=u.tbls b ps ((r2 z).trans q);exact ⟨m,(a2 z).trans e⟩
 ·by_cases z:a∈S
  ·rw [a1 z] at e;obtain ⟨x,e'⟩:=fr a z;rw [e] at e';cases e';exact ⟨kept z e,_,kept z e⟩
  ·rw [a2 z] at e;exact (ok2 a o e).stay (λ_ _ _ q=>q) (λb q=>(a2 (ns q)).trans q) λb xs q=>(a2 (ns q)).trans q
def qiF (fr:∀ b∈S,∃ o,H b=some (.frz o (.own b))) (ok:HOk P w H h):HOk P w (rem S H) h:=λa o e=>by
 have z:a∉S:=λz=>by rw [show rem S H a=none from if_pos z] at e;cases e
 have oS:∀ {b o},H b=some o->(∀ x,o≠.frz x (.own b))->b∉S:=λ{b o} e n z=>by obtain ⟨x,e'⟩:=fr b z;rw [e] at e';cases e';exact n x rfl
 rw [show rem S H a=H a from if_neg z] at e;exact (ok a o e).stay (λ_ _ _ q=>q) (λb q=>(if_neg (oS q λx y=>nomatch y)).trans q) λb xs q=>(if_neg (oS q λx y=>nomatch y)).trans q
def qk2 (n:∀ b∈S,H b=none) (t:∀ b∈S,∃ o,h.get? b=some o) (ok:HOk P w H h):HOk P w (fzS S h H) h:=λa o e=>by
 by_cases z:a∈S
 ·rw [show fzS S h H a=(h.get? a).map λo=>.frz o (.own a) from if_pos z] at e;obtain ⟨x,q,rfl⟩:=u9 e;exact ⟨q,_,q⟩
 ·rw [show fzS S h H a=H a from if_neg z] at e;have nS:∀ {b o},H b=some o->b∉S:=λq y=>by rw [n _ y] at q;cases q
  exact (ok a o e).stay (λ_ _ _ q=>q) (λb q=>(if_neg (nS q)).trans q) λb xs q=>(if_neg (nS q)).trans q
def qgF (u:Un fs [] (fzS S h H) H2 h h') (n:∀ b∈S,H b=none) (t:∀ b∈S,∃ o,h.get? b=some o) (ok2:HOk P w H2 h'):Un fs [] H (rem S H2) h h'/\HOk P w (rem S H2) h'/\∀ b∈S,∀ o,h.get? b=some o->h'.get? b=some o/\H2 b=some (.frz o (.own b)):=by
 have f1:∀ {b o},b∈S->h.get? b=some o->fzS S h H b=some (.frz o (.own b)):=λ{b o} z e=>by
  show (if b∈S then _ else _)=_;rw [if_pos z,e];rfl
 have f2:∀ {b},b∉S->fzS S h H b=H b:=λz=>if_neg z;have m1:∀ {b},b∈S->rem S H2 b=none:=λz=>if_pos z;have m2:∀ {b},b∉S->rem S H2 b=H2 b:=λz=>if_neg z;have k:∀ b∈S,∀ o,h.get? b=some o->h'.get? b=some o/\H2 b=some (.frz o (.own b)):=λb z o e=>by
  have y:=u.frzs b o _ (f1 z e);exact ⟨(ok2 b _ y).1,y⟩
 have nS:∀ {b o},H b=some o->b∉S:=λq y=>by rw [n _ y] at q;cases q
 have oS:∀ {b o},H2 b=some o->(∀ x,o≠.frz x (.own b))->b∉S:=λ{b o} e nn z=>by
  obtain ⟨x,q⟩:=t b z;rw [(k b z x q).2] at e;cases e;exact nn x rfl
 refine ⟨⟨λb o q nn hb hx=>?_,λb o q nn hb hx=>?_,λb o q nn hx=>?_,u.there,λb xs q=>?_,λb o v q=>?_,λb ps q=>?_⟩,λa o e=>?_,k⟩
 ·by_cases z:b∈S
  ·exact (k b z o q).1
  ·exact u.keep b o q ((f2 z).trans nn) hb hx
 ·by_cases z:b∈S
  ·exact ⟨o.slots,(k b z o q).1⟩
  ·exact u.slot b o q ((f2 z).trans nn) hb hx
 ·by_cases z:b∈S
  ·exact m1 z
  ·exact (m2 z).trans (u.free b o q ((f2 z).trans nn) hx)
 ·have y:=u.tups b xs ((f2 (nS q)).trans q);exact (m2 (nS q)).trans y
 ·exact (m2 (nS q)).trans (u.frzs b o v ((f2 (nS q)).trans q))
 ·obtain ⟨m,y⟩:=u.tbls b ps ((f2 (nS q)).trans q);exact ⟨m,(m2 (nS q)).trans y⟩
 ·have z:a∉S:=λz=>by rw [m1 z] at e;cases e
  rw [m2 z] at e;exact (ok2 a o e).stay (λ_ _ _ q=>q) (λb q=>(m2 (oS q λx y=>nomatch y)).trans q) λb xs q=>(m2 (oS q λx y=>nomatch y)).trans q
end
def cxL (P:Program) (w:World) (K:Frg) (mg:Str->Option Value) (base:Heap) (N:List Str) (qual:Str) (scope:Scope) (f:Addr) (cd:Value) (clos:List (Str×Addr)) (A:Around) (outer:List Env) (s:Shared) (H:Hp) (E:XK):Cx where
 prog:=P
 w:=w
 K:=K
 mg:=mg
 base:=base
 A:=A.deeper (PySem.W.envX qual scope s.heap.objs.size f cd clos)
 N:=N
 s₀:=s
 H₀:=H
 env:=PySem.W.envX qual scope s.heap.objs.size f cd clos
 outer:=outer
 stack:=PySem.W.envX qual scope s.heap.objs.size f cd clos::outer
 ex:=[]
 calm:=true
 fn:=λ_=>false
 pn:=[]
 xe:=λe s'=>wpAny (model P w) (A.deeper (PySem.W.envX qual scope s.heap.objs.size f cd clos)) (leaving (PySem.W.envX qual scope s.heap.objs.size f cd clos) e) (λ_ s''=>CX0 outer H s E e s'') (λe' s''=>CX0 outer H s E e' s'') s'
structure LamScope (ps fr:List Str) (scope:Scope):Prop where
 kind:scope.kind=.function
 co:scope.isCoroutine=false
 gen:scope.isGenerator=false
 nocell:∀ x∈scope.names,x.2≠.cell
 par:∀ p∈ps,scope.names.lookup p=some .local
 free:∀ x,scope.names.lookup x=some .free->x∈fr
 frf:∀ x∈fr,scope.names.lookup x=some .free
 nd:ps.Nodup
theorem zy {α:Type} {x:Str} {v:α}:∀ {l:List (Str×α)},(l.map λp=>p.1).Nodup->(x,v)∈l->l.lookup x=some v
 |[],_,h=>by cases h
 | (y,u)::l,nd,h=>by
  rcases mem_cons.mp h with e|h
  ·cases e;simp [List.lookup]
  ·have n:x≠y:=λz=>(List.nodup_cons.mp nd).1 (mem_map.mpr ⟨(x,v),h,z⟩);have:(x==y)=false:=by simpa using n
   rw [List.lookup,this];exact zy (List.nodup_cons.mp nd).2 h
def KK {x:Str} {u:Value} {ps:List Str} {us:List Value} {i:Nat} (nd:ps.Nodup) (h1:ps[i]?=some x) (h2:us[i]?=some u) (hl:ps.length=us.length):(ps.zip us).reverse.lookup x=some u:=by
 refine zy ?_ (List.mem_reverse.mpr (v9 (List.getElem?_zip_eq_some.mpr ⟨h1,h2⟩)));rw [List.map_reverse,List.map_fst_zip (by omega)];exact List.pairwise_reverse.mpr (nd.imp λh=>Ne.symm h)
def qf7 {P:Program} {w:World} {K:Frg} {mg:Str->Option Value} {base:Heap} {k:Nat} {f c:Addr} {qual:Str} {params:Arguments} {body:Expr} {scope:Scope} {clos:List (Str×Addr)} {pm ctv:Value} {ps fr:List Str} {t:TE} (S:LamScope ps fr scope)
  (inj:∀ x y a,clos.lookup x=some a->clos.lookup y=some a->x=y) (has:∀ x∈fr,∃ a,clos.lookup x=some a) (ndc:(clos.map λp=>p.1).Nodup)
  (hbody:∀ (A:Around) (outer:List Env) (s:Shared) (H:Hp) (E:XK),Room k (A.deeper (PySem.W.envX qual scope s.heap.objs.size f (.ref c) clos))->PE (cxL P w K mg base (ps++fr) qual scope f (.ref c) clos A outer s H E) body t) :
  FnOk P w K mg base CX0 (k+1) f (PySem.W.kla_fn "<lambda>" qual params body scope clos pm (.ref c) ctv) ps (λvs H Q _=>vs.length=ps.length/\H f=some (.frz (PySem.W.kla_obj "<lambda>" qual params body scope clos pm c ctv) (.own f))/\(∃ oc,H c=some (.frz oc (.own c))/\CdR oc qual) /\
   ∃ ws,qj8 H clos fr ws/\t ((vs++ws).map some) (rem (clos.map λp=>p.2) H) λv H2=>(∀ b∈clos.map (λp=>p.2),H2 b=none)->Q v (add (clos.map λp=>p.2) H H2)):=by
 refine ⟨λvs H Q E h=>h.1,λA outer s H args us vs Q E hr e0 hb r ⟨hl,hf,⟨oc,hc,hcr⟩,ws,caps,hq⟩=>?_⟩;have lim:s.heap.NoLimit:=e0.mod.nolimit.keeps λb o e=>(e0.bs b o e).1;have gf:=(e0.hok f _ hf).1;have gc:s.heap.get? c=some oc:=(e0.hok c _ hc).1;have hrec:s.heap.CodeRec (.ref c) qual:=let ⟨vs',t',d,v⟩:=hcr;⟨c,oc,vs',t',rfl,gc,d,v⟩
 have ul:=r.length;obtain ⟨wl,call,cget⟩:=caps;have mem:∀ {x a},clos.lookup x=some a->a∈clos.map λp=>p.2:=λ{x a} e=>mem_map.mpr ⟨(x,a),PySem.mem_of_lookup e,rfl⟩;have frz:∀ b∈clos.map (λp=>p.2),∃ o,H b=some (.frz o (.own b)):=λb hb=>by
  obtain ⟨⟨x,a⟩,hm,rfl⟩:=mem_map.mp hb;obtain ⟨o,v,e,_⟩:=call x a (zy ndc hm);exact ⟨o,e⟩
 have r0:∀ {b},H b=none->rem (clos.map λp=>p.2) H b=none:=λ{b} e=>by
  unfold rem;split
  ·rfl
  ·exact e
 refine PySem.W.kla_callFunE hr.depth gf rfl S.co S.gen rfl hrec (hb _ _ _ _ ?_);refine wpAny_newFunctionEnv S.nocell (λy hy=>S.par _ (List.of_mem_zip hy).1) (λh1 hns hsb=>⟨lim.fresh _ hsb,?_⟩) S.kind;have hk:∀ b o,s.heap.get? b=some o->h1.get? b=some o:=λb o e=>hsb.extBut b o (u4 (y4 e)) (y2 _ e);have I:Inv (cxL P w K mg base (ps++fr) qual scope f (.ref c) clos A outer s (rem (clos.map λp=>p.2) H) E) [] ((vs++ws).map some) (rem (clos.map λp=>p.2) H) { s with heap:=h1,toks:=s.toks+(ps.zip us).length }:=by
  refine ⟨⟨e0.mod,S.kind,rfl,rfl,v5 _,inj,λx hx=>?_,λx a z=>(nomatch z),λ_=>hr.hd,Around.frames_deeper e0.frames,.inr ⟨rfl,rfl⟩,λb z=>absurd z (by simp [cxL]),λb o e=>⟨(e0.bs b o e).1,r0 (e0.bs b o e).2⟩,e0.bsz,λb o e=>by simp [cxL],λb z=>absurd z (by simp [cxL]),e0.funs,λb z=>r0 (e0.frf b z)⟩,
   rfl,e0.bare,Un.kept hk,⟨_,hns,λi x v h2 h3 h4=>?_⟩,λx a e=>?_,r0 (e0.hok.fresh (v5 _)),λx a e=>if_pos (mem e),λp hp=>absurd (show p∈([]:List (Addr×Obj)) from hp) (by simp),(qiF frz e0.hok).kept hk,?_⟩
  ·have hx:scope.names.lookup x=some .cell\/scope.names.lookup x=some .free:=hx;rcases hx with hx|hx
   ·exact absurd rfl (S.nocell _ (PySem.mem_of_lookup hx))
   ·exact has x (S.free x hx)
  ·have h2:(ps++fr)[i]?=some x:=h2;by_cases c1:i<ps.length
   ·rw [List.getElem?_append_left c1] at h2;rw [getElem?_map,List.getElem?_append_left (by omega)] at h3;obtain ⟨v',e,z⟩:=u9 h3;cases z;obtain ⟨u,hu,rv⟩:=r.get e;exact ⟨u,rv,.inl ⟨S.par x (v9 h2),KK S.nd h2 hu (by omega)⟩⟩
   ·rw [List.getElem?_append_right (by omega)] at h2;rw [getElem?_map,List.getElem?_append_right (by omega),hl] at h3;obtain ⟨v',e,z⟩:=u9 h3;cases z;obtain ⟨a,o,u,l,e1,d,rv⟩:=cget _ x v h2 e;exact ⟨u,rv,.inr ⟨.inr (S.frf x (v9 h2)),a,l,o,hk _ _ (e0.hok a _ e1).1,d⟩⟩
  ·obtain ⟨o,v,e1,d⟩:=call x a e;exact ⟨v,o,hk _ _ (e0.hok a _ e1).1,d⟩
  ·show _=(ps++fr).length;rw [length_map,length_append,length_append,hl,wl]
 refine PySem.W.kla_codeExpr (y0 (hbody A outer s _ E (hr.deeper _) [] _ _ _ _ I hq) (λv s' ⟨x,H2,J,rx,q⟩=>?_) λe s' z=>z);obtain ⟨un,ok,go⟩:=qgK (H:=H) J.base frz (λb hb z=>by
  obtain ⟨o,e⟩:=frz b hb;rw [e0.frf b z] at e;cases e) e0.hok J.hok
 exact ⟨x,_,J.os,J.bare,un,ok,rx,q go⟩
def CZ (G:Gp):Gp:=λb=>match G b with
 |some (.clo _ _)=>none
 |x=>x
def qdY (G G2:Gp):Gp:=λb=>match G b with
 |some (.clo i ts)=>some (.clo i ts)
 |_=>G2 b
def qb4 {G:Gp} {b:Addr} {o:O} (h:CZ G b=some o):G b=some o/\∀ i ts,o≠.clo i ts:=by
 unfold CZ at h;split at h
 ·cases h
 ·rename_i n;exact ⟨h,λi ts z=>n i ts (by rw [h,z])⟩
def SF {G:Gp} {b:Addr} (h:G b=none):CZ G b=none:=by unfold CZ;rw [h]
def M5 {G:Gp} {b:Addr} {i:Nat} {ts:List T} (h:G b=some (.clo i ts)):CZ G b=none:=by unfold CZ;rw [h]
def qaM {G G2:Gp} {b:Addr} {i:Nat} {ts:List T} (h:G b=some (.clo i ts)):qdY G G2 b=some (.clo i ts):=by unfold qdY;rw [h]
def SX {G G2:Gp} {b:Addr} (h:∀ i ts,G b≠some (.clo i ts)):qdY G G2 b=G2 b:=by
 unfold qdY;split
 ·rename_i e;exact absurd e (h _ _)
 ·rfl
def FzC (H:Hp) (S:List Addr):Prop:=∀ b∈S,∃ o v,H b=some (.frz o (.own b))/\o.data=.cell v
section
variable {K:Frg} {G G2:Gp} {H H2:Hp} {S:List Addr}
def ZI {b:Addr} {o:HO} (z:FzC H S) (h:H b=some o) (n:∀ x v,x.data=.cell v->o≠.frz x (.own b)):rem S H b=some o:=by
 unfold rem;split
 ·rename_i m;obtain ⟨x,v,e,d⟩:=z b m;rw [h] at e;cases e;exact absurd rfl (n x v d)
 ·exact h
def SS (z:FzC H S) {a:Addr} {vs:List V} (h:SqT K H a vs):SqT K (rem S H) a vs:=by
 rcases h with h|h
 ·rcases h with h|⟨o,h⟩
  ·exact .inl (.inl (ZI z h λx v d y=>nomatch y))
  ·exact .inl (.inr ⟨o,ZI z h λx v d y=>by cases y⟩)
 ·exact .inr h
mutual
theorem Rp.mapS (z:∀ a vs,SqT K H a vs->SqT K H2 a vs):∀ {x:T} {v:V},Rp K H x v->Rp K H2 x v
 |_,_,.non=>.non
 |_,_,.bl b=>.bl b
 |_,_,.int i=>.int i
 |_,_,.str x=>.str x
 |_,_,.ref a=>.ref a
 |_,_,.tup h hs=>.tup (z _ _ h) (Rps.mapS z hs)
theorem Rps.mapS (z:∀ a vs,SqT K H a vs->SqT K H2 a vs):∀ {x:List T} {v:List V},Rps K H x v->Rps K H2 x v
 |_,_,.nil=>.nil
 |_,_,.cons a b=>.cons (Rp.mapS z a) (Rps.mapS z b)
end
theorem HR.rem (hr:HR K G H) (z:FzC H S):HR K (CZ G) (rem S H):=⟨λa o e=>by
 obtain ⟨g,n⟩:=qb4 e;have q:=hr a o g;have m:=λ{x v}=>Rps.mapS (K:=K) (H:=H) (H2:=L3.rem S H) (λa vs h=>SS z h) (x:=x) (v:=v);cases o with
 |lst xs=>obtain ⟨vs,h1,h2⟩:=q;exact ⟨vs,ZI z h1 λx v d y=>(nomatch y),m h2⟩
 |frz xs=>obtain ⟨vs,⟨o,h1⟩,h2⟩:=q;exact ⟨vs,⟨o,ZI z h1 λx v d y=>by cases y⟩,m h2⟩
 |dct kvs=>obtain ⟨vs,h1,h2⟩:=q;exact ⟨vs,ZI z h1 λx v d y=>(nomatch y),m h2⟩
 |tab ks xs=>obtain ⟨vs,h1,h2⟩:=q;exact ⟨vs,ZI z h1 λx v d y=>(nomatch y),m h2⟩
 |exn C=>exact ZI z q λx v d y=>nomatch y
 |clo i ts=>exact absurd rfl (n i ts),λt ht=>(hr.tabs t ht).keep (λps e=>ZI z e λx v d y=>nomatch y) λc oc e r=>ZI z e λx v d y=>by
  obtain ⟨vs,t,w,_⟩:=r;cases y;rw [w] at d;cases d⟩
def zd (go:∀ b∈S,H2 b=none) {b:Addr} {o:HO} (h:H2 b=some o):add S H H2 b=some o:=by
 unfold add;split
 ·rename_i m;rw [go b m] at h;cases h
 ·exact h
def MH (go:∀ b∈S,H2 b=none) {a:Addr} {vs:List V} (h:SqT K H2 a vs):SqT K (add S H H2) a vs:=by
 rcases h with h|h
 ·rcases h with h|⟨o,h⟩
  ·exact .inl (.inl (zd go h))
  ·exact .inl (.inr ⟨o,zd go h⟩)
 ·exact .inr h
def qg4 (hr:HR K G H) (z:FzC H S) (hr2:HR K G2 H2) (k:Kp (CZ G) (rem S H) G2 H2) (go:∀ b∈S,H2 b=none):HR K (qdY G G2) (add S H H2)/\Kp G H (qdY G G2) (add S H H2):=by
 have m2:=λ{x v}=>Rps.mapS (K:=K) (H:=H2) (H2:=add S H H2) (λa vs h=>MH go h) (x:=x) (v:=v);have s1:∀ a vs,SqT K H a vs->SqT K (add S H H2) a vs:=λa vs h=>MH go (VR (hr.rem z) k (SS z h));have fz:∀ b o,(∀ fd,o.data≠.func fd)->H b=some (.frz o (.own b))->add S H H2 b=some (.frz o (.own b)):=λb o n q=>by
  by_cases m:b∈S
  ·exact (if_pos m).trans q
  ·exact zd go (k b _ ((if_neg m).trans q) (SF (hr.noneC q n)) rfl).1
 refine ⟨⟨λa o e=>?_,λt ht=>(hr2.tabs t ht).keep (λps e=>zd go e) λc oc e r=>zd go e⟩,λa o q g t=>?_⟩
 ·by_cases c:∃ i ts,G a=some (.clo i ts)
  ·obtain ⟨i,ts,c⟩:=c;rw [qaM c] at e;cases e;obtain ⟨fd,body,clos,cc,ws,l,f,r⟩:=hr a _ c;refine ⟨fd,body,clos,cc,ws,l,f.keep λb o n q=>?_,r.mapS s1⟩;rcases n with rfl|n
   ·have m:b∉S:=λm=>by
     obtain ⟨x,v,e,d⟩:=z b m;obtain ⟨pm,ctv,e2⟩:=f.fo;rw [e] at e2;cases e2;cases d
    exact zd go (k b _ ((if_neg m).trans q) (M5 c) rfl).1
   ·exact fz b o n q
  ·rw [SX λi ts y=>c ⟨i,ts,y⟩] at e;have q:=hr2 a o e;cases o with
   |lst xs=>obtain ⟨vs,h1,h2⟩:=q;exact ⟨vs,zd go h1,m2 h2⟩
   |frz xs=>obtain ⟨vs,⟨o,h1⟩,h2⟩:=q;exact ⟨vs,⟨o,zd go h1⟩,m2 h2⟩
   |dct kvs=>obtain ⟨vs,h1,h2⟩:=q;exact ⟨vs,zd go h1,m2 h2⟩
   |tab ks xs=>obtain ⟨vs,h1,h2⟩:=q;exact ⟨vs,zd go h1,m2 h2⟩
   |exn C=>exact zd go q
   |clo i ts=>
    obtain ⟨fd,body,clos,cc,ws,l,f,r⟩:=q;exact ⟨fd,body,clos,cc,ws,l,f.keep λb o n q=>zd go q,m2 r⟩
 ·have ng:∀ i ts,G a≠some (.clo i ts):=λi ts y=>by rw [g] at y;cases y
  rw [SX ng];by_cases m:a∈S
  ·exact ⟨(if_pos m).trans q,hr2.free (go a m)⟩
  ·obtain ⟨h1,h2⟩:=k a o ((if_neg m).trans q) (SF g) t;exact ⟨zd go h1,h2⟩
end
structure Lam3 (P:Program) (w:World) (K:Frg) (mg:Str->Option Value) (base:Heap) (k:Nat) (i:Nat) (S:Sp3):Prop where
 ex:∃ fd body t3,RY K i=some fd/\fd.body=.expr body/\LamScope (psN fd.scope) (frN fd.scope) fd.scope /\
  (∀ clos pm c ctv us,us.length=(psN fd.scope).length->bindArgs (PySem.W.kla_fn "<lambda>" fd.qualname fd.params body fd.scope clos pm (.ref c) ctv) ⟨us,[]⟩=pure ((psN fd.scope).zip us)) /\
  (∀ A outer s H E f c clos,Room k (A.deeper (PySem.W.envX fd.qualname fd.scope s.heap.objs.size f (.ref c) clos))->E3 (cxL P w K mg base (psN fd.scope++frN fd.scope) fd.qualname fd.scope f (.ref c) clos A outer s H E) body t3) /\
  ∀ ts G q,S ts G q->ts.length=(psN fd.scope).length+(frN fd.scope).length/\t3 (ts.map some) G q
def qfq {X:Cx} {pins:List (Addr×Obj)} {σ:L2.St} {H:Hp} {s:Shared} {k i:Nat} {S:Sp3} {G:Gp} {a:Addr} {ts xs:List T} {vs:List V} {us:List Value} {q:Q3} {Q:VK} (L:Lam3 X.prog X.w X.K X.mg X.base k i S) (hr:Room (k+1) X.A) (I:Inv X pins σ H s) (hr3:HR X.K G H)
  (g:G a=some (.clo i ts)) (rx:Rps X.K H xs vs) (r:qQ vs us) (h:S (xs++ts) (CZ G) λy G2=>(∀ b i ts,G b=some (.clo i ts)->G2 b=none)->q y (qdY G G2)) (af:Aft X.K G H q Q):wpAny (model X.prog X.w) X.A (call (.ref a) us) (EP X pins σ Q) X.xe s:=by
 obtain ⟨fd,body,t3,l,bd,sc,bi,hb,rd⟩:=L.ex;obtain ⟨fd',body',clos,c,ws,l',f,rts⟩:=hr3 a _ g;rw [l] at l';cases l';have bd':=f.bd;rw [bd] at bd';cases bd';obtain ⟨pm,ctv,fo⟩:=f.fo;obtain ⟨hl,ht⟩:=rd _ _ _ h;have wl:=f.caps.1;have tl:=rts.length;have xl:=rx.length;rw [length_append] at hl;have z:FzC H (clos.map λp=>p.2):=λb hb=>by
  obtain ⟨⟨x,a⟩,hm,rfl⟩:=mem_map.mp hb;obtain ⟨o,v,e,d⟩:=f.caps.2.1 x a (zy f.ok.nd hm);exact ⟨o,v,e,d⟩
 have F:=qf7 (P:=X.prog) (w:=X.w) (K:=X.K) (mg:=X.mg) (base:=X.base) (k:=k) (f:=a) (c:=c) (qual:=fd.qualname) (params:=fd.params) (body:=body) (scope:=fd.scope) (clos:=clos) (pm:=pm) (ctv:=ctv) (t:=lE X.K t3) sc f.ok.inj f.ok.has f.ok.nd λA outer s H E hr=>hb A outer s H E a c clos hr;refine qcI (E:=E0) F hr (U1.all λus hu=>bi clos pm c ctv us hu) .nil qjp I r ?_;rw [List.append_nil];refine ⟨by omega,fo,f.co,ws,f.caps,(xs++ts).map some,CZ G,_,⟨hr3.rem z,by simp [xl,tl],λj t e=>?_⟩,ht,λy G2 hq v H2 ry hr2 k2 go=>?_⟩
 ·have ra:=(rx.append rts).mapS (H2:=rem (clos.map λp=>p.2) H) λa vs h=>SS z h;rw [getElem?_map] at e;obtain ⟨t',e',y⟩:=u9 e;cases y;obtain ⟨v,e2,rv⟩:=ra.get e';exact ⟨v,by rw [getElem?_map,e2];rfl,rv⟩
 ·obtain ⟨a1,a2⟩:=qg4 hr3 z hr2 k2 go;refine af y _ (hq λb i ts e=>?_) v _ (Rp.mapS (λa vs h=>MH go h) ry) a1 a2;obtain ⟨fd',body',clos',c',ws',_,f',_⟩:=hr3 b _ e;obtain ⟨pm',ctv',fo'⟩:=f'.fo;exact (k2 b _ (ZI z fo' λx v d y=>by cases y;cases d) (M5 e) rfl).2
def spV (Φ:Nat->Option Sp3) (a:Addr):Sp3:=λxs G q=>match G a with
 |some (.clo i ts)=>(match Φ i with|some S=>S (xs++ts) (CZ G) (λy G2=>(∀ b i ts,G b=some (.clo i ts)->G2 b=none)->q y (qdY G G2))|none=>False)
 |_=>False
def cv3 (Φ:Nat->Option Sp3) (tf:TE3) (ta:TA3):TE3:=λτ G q=>tf τ G λx G1=>match x with
 |.ref a=>ta τ G1 λxs G2=>spV Φ a xs G2 q
 |_=>False
def qeM {X:Cx} {Φ:Nat->Option Sp3} {k:Nat} {x:Str} {p pos:Pos} {e:Expr} {es:List Expr} {tf:TE3} {ta:TA3} (hΦ:∀ i S,Φ i=some S->∃ k0,k0+1<=k/\Lam3 X.prog X.w X.K X.mg X.base k0 i S) (hr:Room k X.A) (hf:E3 X (.Name x p) tf) (ha:A3 X (e::es) ta)
  (he:starEach (e::es) X.env=(false,eval e X.env)::starEach es X.env:=by rfl) (hpl:(backTo pos (starEach es X.env)).any (·.1)=false:=by rfl):E3 X (.Call (.Name x p) (e::es) [] pos) (cv3 Φ tf ta):=by
 intro pins s σ H Q I ⟨τ,G,q,rl,h,af⟩;refine wpAny_Call_Name_kw (thn (hf pins s σ H (λv H1=>∃ a G1,v=.ref a/\Rel X.K τ G1 σ H1/\Kp G H G1 H1/\ta τ G1 λxs G2=>spV Φ a xs G2 q) I (qZ rl h λy G1 h1 v H1 rv hr1 k1 rl1=>?_)) λv s1 ⟨v',H1,I1,rv,a,G1,e1,rl1,k1,h1⟩=>?_)
 ·cases y with
  |ref a=>cases rv;exact ⟨a,G1,rfl,rl1,k1,h1⟩
  |_=>exact h1.elim
 ·subst e1;cases (show v=Value.ref a from rv);have key:=ha pos pins s1 σ H1 (λvs H2=>∃ xs G2,Rps X.K H2 xs vs/\HR X.K G2 H2/\Kp G H G2 H2/\spV Φ a xs G2 q) I1 (QN rl1 h1 λxs G2 h2 vs H2 rs hr2 k2 rl2=>⟨xs,G2,rs,hr2,k1.trans k2,h2⟩);rw [he] at key ⊢;refine PySem.W.callWith_of (P:=PySem.W.FnAt a) (by show ((false||(backTo pos (starEach es X.env)).any (·.1))||false)=false;rw [hpl];rfl) PySem.W.keeps_F (Calls.evalArgs_plain (thn key λus s2 ⟨vs,H2,I2,r,xs,G2,rs,hr2,k2,h2⟩=>?_));unfold spV at h2;split at h2
  ·rename_i i ts g;split at h2
   ·rename_i S hS;obtain ⟨k0,hk,L⟩:=hΦ i S hS;refine ⟨?_,qfq L (hr.mono hk) I2 hr2 g rs r h2 (af.back k2)⟩;obtain ⟨fd,body,clos,c,ws,_,f,_⟩:=hr2 a _ g;obtain ⟨pm,ctv,fo⟩:=f.fo;exact ⟨_,_,_,_,(I2.hok a _ fo).1⟩
   ·exact h2.elim
  ·exact h2.elim
def qlw (P:Addr) (q:Str) (params:Arguments) (body:Expr) (scope:Scope) (clos:List (Str×Addr)):TE:=λ_ H Q=>RG H P q/\∀ f c fo oc H',LamNew H H' P f c fo oc q->LamO fo params body scope clos q c->Q (.ref f) H'
section
variable {K:Frg} {G:Gp} {H H':Hp} {P f c:Addr} {fo oc:Obj} {q:Str}
def OR.mono (m:∀ b o,C2 o=false->H b=some o->H' b=some o) {a:Addr} {o:O} (x:OR K H a o):OR K H' a o:=by
 have sq:∀ a vs,SqT K H a vs->SqT K H' a vs:=λa vs h=>by
  rcases h with h|h
  ·rcases h with h|⟨o,h⟩
   ·exact .inl (.inl (m _ _ rfl h))
   ·exact .inl (.inr ⟨o,m _ _ rfl h⟩)
  ·exact .inr h
 cases o with
 |lst xs=>obtain ⟨vs,h1,h2⟩:=x;exact ⟨vs,m _ _ rfl h1,h2.mapS sq⟩
 |frz xs=>obtain ⟨vs,⟨o,h1⟩,h2⟩:=x;exact ⟨vs,⟨o,m _ _ rfl h1⟩,h2.mapS sq⟩
 |dct kvs=>obtain ⟨vs,h1,h2⟩:=x;exact ⟨vs,m _ _ rfl h1,h2.mapS sq⟩
 |tab ks xs=>obtain ⟨vs,h1,h2⟩:=x;exact ⟨vs,m _ _ rfl h1,h2.mapS sq⟩
 |exn C=>exact m _ _ rfl x
 |clo i ts=>
  obtain ⟨fd,body,clos,c,ws,l,f,r⟩:=x;exact ⟨fd,body,clos,c,ws,l,f.keep λb o _ q=>m _ _ rfl q,r.mapS sq⟩
theorem LamNew.hr (N:LamNew H H' P f c fo oc q) (hr:HR K G H) (one:∀ t∈WH K,t.2.1=P->t.2.2=q):HR K G H'/\Kp G H G H':=by
 refine ⟨⟨λa o e=>(hr a o e).mono N.old,λt ht=>?_⟩,λa o h g t=>⟨N.old a o t h,g⟩⟩;by_cases z:t.2.1=P
 ·rw [z,one t ht z];exact N.tab
 ·exact (hr.tabs t ht).keep (λps e=>N.oldP _ _ z e) λc oc e _=>N.old _ _ rfl e
end
def qa6 (G G3:Gp):Gp:=λb=>match G3 b with
 |some (.clo _ _)=>G b
 |x=>x
def ExG (G G':Gp):Prop:=∀ b o,G b=some o->G' b=some o
def qh3 {G G3:Gp} {b:Addr} {o:O} (h:qa6 G G3 b=some o):(G3 b=some o/\∀ i ts,o≠.clo i ts)\/(∃ i ts,G3 b=some (.clo i ts))/\G b=some o:=by
 unfold qa6 at h;split at h
 ·rename_i i ts e;exact .inr ⟨⟨i,ts,e⟩,h⟩
 ·rename_i n;exact .inl ⟨h,λi ts z=>n i ts (by rw [h,z])⟩
theorem UV {env:Env}:∀ (l:List (Str×NameKind)) (cs:List (Str×Addr)),(l.map λp=>p.1).Nodup->(cs.map λp=>p.1).Nodup->(∀ x∈cs.map (λp=>p.1),x∉l.map λp=>p.1)->((clos env l cs).map λp=>p.1).Nodup
 |[],_,_,h,_=>h
 | (n,k)::r,cs,h1,h2,h3=>by
  have a:=List.nodup_cons.mp h1;unfold clos;split
  ·refine UV r _ a.2 (List.nodup_cons.mpr ⟨λz=>h3 n z (by simp),h2⟩) λx hx=>?_;rcases mem_cons.mp hx with rfl|hx
   ·exact a.1
   ·exact λz=>h3 x hx (v6 _ z)
  ·exact UV r _ a.2 h2 λx hx z=>h3 x hx (v6 _ z)
def D7 {sc:Scope} {x:Str}:x∈frN sc↔(x,NameKind.free)∈sc.names:=by
 unfold frN;constructor
 ·intro h;obtain ⟨⟨y,k⟩,hm,rfl⟩:=mem_map.mp h;obtain ⟨h1,h2⟩:=List.mem_filter.mp hm;have:k=.free:=by simpa using h2
  subst this;exact h1
 ·intro h;exact mem_map.mpr ⟨(x,.free),List.mem_filter.mpr ⟨h,by simp⟩,rfl⟩
structure LamArg (X:Cx) (q:Str) (i:Nat) (m:List Nat) (params:Arguments) (body:Expr) (scope:Scope):Prop where
 fd:∃ fd,RY X.K i=some fd/\fd.params=params/\fd.body=.expr body/\fd.scope=scope/\fd.qualname=q
 dfl:defaultsOf params X.env=([],[])
 kind:∀ y∈scope.names,y.2=.free->X.env.kindOf y.1=some .cell
 nd:(scope.names.map λp=>p.1).Nodup
 at':m.map (λj=>X.N[j]?)=(frN scope).map some
def qa3 (τ:St3):List Nat->Option (List T)
 |[]=>some []
 |j::r=>match τ[j]? with
  |some (some t)=>(qa3 τ r).map λts=>t::ts
  |_=>none
theorem SL {K:Frg} {τ:St3} {G:Gp} {σ:L2.St} {H:Hp} (rl:Rel K τ G σ H):∀ {m:List Nat} {ts:List T},qa3 τ m=some ts->∃ ws,Rps K H ts ws/\ws.length=m.length/\∀ (i j:Nat) (w:V),m[i]?=some j->ws[i]?=some w->σ[j]?=some (some w)
 |[],ts,h=>by cases h;exact ⟨[],.nil,rfl,λi j w e=>by simp at e⟩
 |j::r,ts,h=>by
  unfold qa3 at h;split at h
  ·rename_i t e;obtain ⟨ts',h',rfl⟩:=u9 h;obtain ⟨v,e1,rv⟩:=rl.st j t e;obtain ⟨ws,rs,l,a⟩:=SL rl h';refine ⟨v::ws,.cons rv rs,by simp [l],λi j' w e2 e3=>?_⟩;cases i with
   |zero=>simp at e2 e3;subst e2;subst e3;exact e1
   |succ i=>exact a i j' w (by simpa using e2) (by simpa using e3)
  ·cases h
def cl2 (sp:Sp3) (t1:TE3) (tr:TA3) (i1 i2:Nat) (m1 m2:List Nat):TE3:=λτ G q=>t1 τ G λx1 G1=>tr τ G1 λrs G2=>∃ c1 c2,qa3 τ m1=some c1/\qa3 τ m2=some c2/\∀ f1 f2,G2 f1=none->G2 f2=none->f1≠f2 ->
 sp (x1::.ref f1::.ref f2::rs) (gu (gu G2 f1 (.clo i1 c1)) f2 (.clo i2 c2)) λy G3=>ExG (gu (gu G2 f1 (.clo i1 c1)) f2 (.clo i2 c2)) G3/\q y (qa6 G2 G3)
section
variable {X:Cx} {pins:List (Addr×Obj)} {σ:L2.St} {H:Hp} {s:Shared} {q:Str} {i:Nat} {m:List Nat} {params:Arguments} {body:Expr} {scope:Scope}
theorem LamArg.has (L:LamArg X q i m params body scope) (I:Inv X pins σ H s):∀ y∈scope.names,y.2=.free->∃ c,X.env.cells.lookup y.1=some c:=λy hy e=>I.ok.has y.1 (.inl (L.kind y hy e))
def LamArg.look (L:LamArg X q i m params body scope) (I:Inv X pins σ H s) {x:Str} {c:Addr} (h:(clos X.env scope.names []).lookup x=some c):X.env.cells.lookup x=some c:=QA _ _ _ _ (L.has I) (λ_ _ z=>by simp at z) h
def LamArg.clo (L:LamArg X q i m params body scope) (I:Inv X pins σ H s):CloOk (clos X.env scope.names []) (frN scope):=⟨λx y a h1 h2=>I.ok.inj x y a (L.look I h1) (L.look I h2),λx hx=>JC _ _ _ (.inl (D7.mp hx)),UV _ _ L.nd (by simp) (by simp)⟩
def LamArg.caps (L:LamArg X q i m params body scope) (I:Inv X pins σ H s) {S:List Addr} (hS:∀ x c,(clos X.env scope.names []).lookup x=some c->c∈S) {ws:List V} (hl:ws.length=m.length) (hw:∀ (i j:Nat) (w:V),m[i]?=some j->ws[i]?=some w->σ[j]?=some (some w)):qj8 (fzS S s.heap H) (clos X.env scope.names []) (frN scope) ws:=by
 have fz:∀ {b o},b∈S->s.heap.get? b=some o->fzS S s.heap H b=some (.frz o (.own b)):=λ{b o} z e=>by
  show (if b∈S then _ else _)=_;rw [if_pos z,e];rfl
 have ml:=congrArg List.length L.at';rw [length_map,length_map] at ml;refine ⟨by omega,λx c e=>?_,λj x v e1 e2=>?_⟩
 ·obtain ⟨v,o,ho,hd⟩:=I.cell x c (L.look I e);exact ⟨o,v,fz (hS x c e) ho,hd⟩
 ·have at1:=congrArg (λl=>l[j]?) L.at';simp only [getElem?_map,e1,Option.map_some] at at1;obtain ⟨n,hn,an⟩:=u9 at1;have k:=L.kind (x,.free) (D7.mp (v9 e1)) rfl;obtain ⟨mm,_,hl2⟩:=I.loc;obtain ⟨u,rv,lk⟩:=hl2 n x v an (hw j n v hn e2) (.inr (.inl k));rcases lk with ⟨lk,_⟩|⟨_,c,hc,o,ho,hd⟩
  ·rw [k] at lk;cases lk
  ·obtain ⟨c',hc'⟩:=(L.clo I).has x (v9 e1);have:=L.look I hc';rw [hc] at this;cases this;exact ⟨c,o,u,hc',fz (hS x c hc') ho,hd,rv⟩
end
def OR.cloM {K:Frg} {H H':Hp} {a:Addr} {i:Nat} {ts:List T} (fz:∀ b o u,H b=some (.frz o u)->H' b=some (.frz o u)) (tu:∀ b xs,H b=some (.tup xs)->H' b=some (.tup xs)) (x:OR K H a (.clo i ts)):OR K H' a (.clo i ts):=by
 obtain ⟨fd,body,clos,c,ws,l,f,r⟩:=x;refine ⟨fd,body,clos,c,ws,l,f.keep λb o _ q=>fz _ _ _ q,r.mapS λa vs h=>?_⟩;rcases h with h|h
 ·rcases h with h|⟨o,h⟩
  ·exact .inl (.inl (tu _ _ h))
  ·exact .inl (.inr ⟨o,fz _ _ _ h⟩)
 ·exact .inr h
def TR {G:Gp} {b:Addr} {o:O} (h:G b=some o) (n:∀ i ts,o≠.clo i ts):CZ G b=some o:=by
 unfold CZ;split
 ·rename_i i ts e;rw [h] at e;cases e;exact absurd rfl (n i ts)
 ·exact h
def M3 {K:Frg} {H H':Hp} (m:∀ b o,C2 o=false->H b=some o->H' b=some o):∀ a vs,SqT K H a vs->SqT K H' a vs:=λa vs h=>by
 rcases h with h|h
 ·rcases h with h|⟨o,h⟩
  ·exact .inl (.inl (m _ _ rfl h))
  ·exact .inl (.inr ⟨o,m _ _ rfl h⟩)
 ·exact .inr h
def LamArg.or {X:Cx} {pins:List (Addr×Obj)} {σ:L2.St} {H:Hp} {s:Shared} {q:Str} {i:Nat} {m:List Nat} {params:Arguments} {body:Expr} {scope:Scope} (L:LamArg X q i m params body scope) (I:Inv X pins σ H s) {S:List Addr} (hS:∀ x c,(clos X.env scope.names []).lookup x=some c->c∈S) (hn:∀ b∈S,H b=none)
  {τ:St3} {G:Gp} (rl:Rel X.K τ G σ H) {ts:List T} (hc:qa3 τ m=some ts) {f c:Addr} {fo oc:Obj} (hf:H f=some (.frz fo (.own f))) (hcc:H c=some (.frz oc (.own c))) (cr:CdR oc q) (O:LamO fo params body scope (clos X.env scope.names []) q c):OR X.K (fzS S s.heap H) f (.clo i ts):=by
 obtain ⟨fd,l,e1,e2,e3,e4⟩:=L.fd;obtain ⟨ws,rs,wl,hw⟩:=SL rl hc;have fz:∀ {b o},H b=some o->fzS S s.heap H b=some o:=λ{b o} h=>(if_neg (λz=>by rw [hn b z] at h;cases h)).trans h;obtain ⟨pm,ctv,rfl⟩:=O.ex;have cl:=L.clo I;have cp:=L.caps I hS wl hw;subst e1 e3 e4;exact ⟨fd,body,_,c,ws,l,⟨e2,⟨pm,ctv,fz hf⟩,⟨oc,fz hcc,cr⟩,cl,cp⟩,rs.mapS (M3 λb o _ h=>fz h)⟩
def qkR {X:Cx} {k:Nat} {x:Str} {p pos:Pos} {e1:Expr} {pr1 pr2:Arguments} {b1 b2:Expr} {sA sB:Scope} {o1 o2:Pos} {es:List Expr} {sp:Sp3} {t1:TE3} {tr:TA3} {c P:Addr} {q:Str} {i1 i2:Nat} {m1 m2:List Nat}
  (F:Fn3 X.prog X.w X.K X.mg X.base k x sp) (hr:Room k X.A) (hg:Gl X x) (h1:E3 X e1 t1) (hrs:A3 X es tr) (hc:X.env.code=.ref c) (C:PySem.W.CodeHd X.base c P) (B:qcb X.mg X.base) (hq:X.env.qual++"<lambda>" = q) (tk:(c,P,q)∈WH X.K) (one:∀ t∈WH X.K,t.2.1=P->t.2.2=q)
  (L1:LamArg X q i1 m1 pr1 b1 sA) (L2:LamArg X q i2 m2 pr2 b2 sB) (fnT:∀ x,X.fn x=true) (hdb:(x==("__debug__" : Str))=false:=by decide)
  (he:starEach (e1::.Lambda pr1 b1 sA o1::.Lambda pr2 b2 sB o2::es) X.env=(false,eval e1 X.env)::starEach (.Lambda pr1 b1 sA o1::.Lambda pr2 b2 sB o2::es) X.env:=by rfl)
  (hpl:(backTo pos (starEach (.Lambda pr1 b1 sA o1::.Lambda pr2 b2 sB o2::es) X.env)).any (·.1)=false:=by rfl):E3 X (.Call (.Name x p) (e1::.Lambda pr1 b1 sA o1::.Lambda pr2 b2 sB o2::es) [] pos) (cl2 sp t1 tr i1 i2 m1 m2):=by
 obtain ⟨f,fd,ps,F,b,kp,mm⟩:=F;intro pins s σ H Q I ⟨τ,G,qq,rl,h,af⟩;have pl:∀ {i:Nat} {m:List Nat} {pr:Arguments} {bd:Expr} {sc:Scope} {o:Pos},LamArg X q i m pr bd sc->PE X (.Lambda pr bd sc o) (qlw P q pr bd sc (clos X.env sc.names [])):=λ{i m pr bd sc o} L pins s σ H Q I ⟨T,h⟩=>
  thn (qbh I hc C B T hq L.dfl (j9 (L.has I))) λv s' ⟨f,c',fo,oc,H',e,I',N,O⟩=>⟨.ref f,H',I',e,h f c' fo oc H' N O⟩
 have hA:PA X (e1::.Lambda pr1 b1 sA o1::.Lambda pr2 b2 sB o2::es) (qbs (lE X.K t1) (qbs (qlw P q pr1 b1 sA (clos X.env sA.names [])) (qbs (qlw P q pr2 b2 sB (clos X.env sB.names [])) (lA X.K tr)))):=YG h1 (YG (pl L1) (YG (pl L2) hrs (by rfl)) (by rfl)) he;refine wpAny_Call_Name_kw (L5 I hg mm ?_ hdb);refine PySem.W.callWith_K (h₀:=X.base) I.ok.mod.kin kp (thn (hA pos pins s σ H (λvs H4=>∃ x1 rs G2 f1 f2 c1 c2 fo1 fo2 oc1 oc2 v1 vr,vs=v1::.ref f1::.ref f2::vr/\Rps X.K H4 (x1::rs) (v1::vr)/\Rel X.K τ G2 σ H4/\Kp G H G2 H4/\(H4 f1=some (.frz fo1 (.own f1))/\H4 c1=some (.frz oc1 (.own c1))/\CdR oc1 q/\LamO fo1 pr1 b1 sA (clos X.env sA.names []) q c1/\G2 f1=none) /\
   (H4 f2=some (.frz fo2 (.own f2))/\H4 c2=some (.frz oc2 (.own c2))/\CdR oc2 q/\LamO fo2 pr2 b2 sB (clos X.env sB.names []) q c2/\G2 f2=none)/\f1≠f2/\∃ d1 d2,qa3 τ m1=some d1/\qa3 τ m2=some d2/\sp (x1::.ref f1::.ref f2::rs) (gu (gu G2 f1 (.clo i1 d1)) f2 (.clo i2 d2)) λy G3=>ExG (gu (gu G2 f1 (.clo i1 d1)) f2 (.clo i2 d2)) G3/\qq y (qa6 G2 G3)) I ?_) λus s1 ⟨vs,H4,I1,r,x1,rs,G2,f1,f2,c1,c2,fo1,fo2,oc1,oc2,v1,vr,ev,rrs,rl4,k4,⟨hf1,hc1,cr1,O1,g1⟩,⟨hf2,hc2,cr2,O2,g2⟩,nf,d1,d2,cp1,cp2,hsp⟩=>⟨I1.kIn,?_⟩) he hpl
 ·-- the arguments
  refine qZ rl h λx1 G1 h1 v1 H1 rx1 hr1 k1 rl1=>⟨hr1.tabs _ tk,λf1 c1 fo1 oc1 H2 N1 O1=>?_⟩
  obtain ⟨hr2,k2⟩:=N1.hr hr1 one;have rl2:=rl1.next hr2 k2;refine ⟨hr2.tabs _ tk,λf2 c2 fo2 oc2 H3 N2 O2=>?_⟩;obtain ⟨hr3,k3⟩:=N2.hr hr2 one;have rl3:=rl2.next hr3 k3;have g1:G1 f1=none:=hr1.free N1.f0;have g2:G1 f2=none:=hr2.free N2.f0;have nf:f1≠f2:=λz=>by have:=N2.f0;rw [← z,N1.f1] at this;cases this
  have hf1:=N2.old _ _ rfl N1.f1;have hc1:=N2.old _ _ rfl N1.c1;refine QN rl3 h1 λrs G2 h2 vr H4 rrs hr4 k4 rl4=>?_;obtain ⟨d1,d2,cp1,cp2,hs⟩:=h2;have gf:∀ {a:Addr} {o:Obj},G1 a=none->H3 a=some (.frz o (.own a))->H4 a=some (.frz o (.own a))/\G2 a=none:=λz e=>k4 _ _ e z rfl;obtain ⟨a1,a2⟩:=gf g1 hf1;obtain ⟨a3,a4⟩:=gf g2 N2.f1;obtain ⟨a5,_⟩:=gf (hr3.noneC hc1 N1.cr.nf) hc1;obtain ⟨a6,_⟩:=gf (hr3.noneC N2.c1 N2.cr.nf) N2.c1;exact ⟨x1,rs,G2,f1,f2,c1,c2,fo1,fo2,oc1,oc2,v1,vr,rfl,.cons (((rx1.keep hr1 k2).keep hr2 k3).keep hr3 k4) rrs,rl4,((k1.trans k2).trans k3).trans k4,⟨a1,a5,N1.cr,O1,a2⟩,⟨a3,a6,N2.cr,O2,a4⟩,nf,d1,d2,cp1,cp2,hs f1 f2 a2 a4 nf⟩
 ·-- the call
  subst ev;have hr4:=rl4.hp
  let S:List Addr:=(clos X.env sA.names []).map (λp=>p.2)++(clos X.env sB.names []).map λp=>p.2
  have inS:∀ b∈S,∃ x,X.env.cells.lookup x=some b:=λb hb=>by
   rcases List.mem_append.mp hb with hb|hb
   ·obtain ⟨⟨x,a⟩,hm,rfl⟩:=mem_map.mp hb;exact ⟨x,L1.look I1 (zy (L1.clo I1).nd hm)⟩
   ·obtain ⟨⟨x,a⟩,hm,rfl⟩:=mem_map.mp hb;exact ⟨x,L2.look I1 (zy (L2.clo I1).nd hm)⟩
  have S1:∀ x c,(clos X.env sA.names []).lookup x=some c->c∈S:=λx c e=>List.mem_append_left _ (mem_map.mpr ⟨(x,c),PySem.mem_of_lookup e,rfl⟩);have S2:∀ x c,(clos X.env sB.names []).lookup x=some c->c∈S:=λx c e=>v7 _ (mem_map.mpr ⟨(x,c),PySem.mem_of_lookup e,rfl⟩);have hn:∀ b∈S,H4 b=none:=λb hb=>let ⟨x,e⟩:=inS b hb;I1.freeC x b e
  have th:∀ b∈S,∃ o,s1.heap.get? b=some o:=λb hb=>let ⟨x,e⟩:=inS b hb;let ⟨v,o,ho,_⟩:=I1.cell x b e;⟨o,ho⟩
  have ce:∀ b∈S,∃ o v,s1.heap.get? b=some o/\o.data=.cell v:=λb hb=>let ⟨x,e⟩:=inS b hb;let ⟨v,o,ho,d⟩:=I1.cell x b e;⟨o,v,ho,d⟩
  have ge:∀ b∈S,X.s₀.heap.objs.size<=b:=λb hb=>let ⟨x,e⟩:=inS b hb;I1.ok.cab x b (fnT x) e
  have nst:∀ b∈S,b∉frs X.stack:=λb hb z=>by
   obtain ⟨x,e⟩:=inS b hb;rcases mem_cons.mp (I1.stkSub b z) with z|z
   ·exact I1.cne x b e z
   ·obtain ⟨_,o,ho,_⟩:=I1.ok.funs.mem z;exact absurd (v8 (y4 ho) (ge b hb)) (Nat.lt_irrefl _)
  have fz:∀ {b o},H4 b=some o->fzS S s1.heap H4 b=some o:=λ{b o} h=>(if_neg (λz=>by rw [hn b z] at h;cases h)).trans h;have fn0:∀ {b},H4 b=none->b∉S->fzS S s1.heap H4 b=none:=λ{b} h z=>(if_neg z).trans h;have hok':=qk2 hn th I1.hok;have hrG:HR X.K (gu (gu G2 f1 (.clo i1 d1)) f2 (.clo i2 d2)) (fzS S s1.heap H4):=⟨λa o e=>by
   by_cases z2:a=f2
   ·subst z2;rw [qy] at e;cases e;exact L2.or I1 S2 hn rl4 cp2 hf2 hc2 cr2 O2
   ·rw [zJ z2] at e;by_cases z1:a=f1
    ·subst z1;rw [qy] at e;cases e;exact L1.or I1 S1 hn rl4 cp1 hf1 hc1 cr1 O1
    ·rw [zJ z1] at e;exact (hr4 a o e).mono λb o _ h=>fz h,λt ht=>(hr4.tabs t ht).keep (λps e=>fz e) λc oc e _=>fz e⟩
  have e0:=I1.env0;have bsS:∀ b o,X.base.get? b=some o->b∉S:=λb o e z=>absurd (v8 (v8 (y4 e) I1.ok.bsz) (ge b z)) (Nat.lt_irrefl _);have E0':Env0 X.prog X.w X.K X.mg X.base X.A X.stack s1 (fzS S s1.heap H4):=⟨e0.frames,e0.mod,λb o e=>⟨(e0.bs b o e).1,fn0 (e0.bs b o e).2 (bsS b o e)⟩,e0.bsz,e0.funs,λb z=>fn0 (e0.frf b z) λy=>nst b y z,hok',e0.bare⟩
  have rr:Rps X.K (fzS S s1.heap H4) (x1::.ref f1::.ref f2::rs) (v1::.ref f1::.ref f2::vr):=by
   have:=rrs.mapS (H2:=fzS S s1.heap H4) (M3 λb o _ h=>fz h);cases this with
   |cons a b=>exact .cons a (.cons (.ref f1) (.cons (.ref f2) b))
  let Qc:VK:=λv H2=>∃ y G3,(ExG (gu (gu G2 f1 (.clo i1 d1)) f2 (.clo i2 d2)) G3/\qq y (qa6 G2 G3))/\Rp X.K H2 y v/\HR X.K G3 H2/\Kp (gu (gu G2 f1 (.clo i1 d1)) f2 (.clo i2 d2)) (fzS S s1.heap H4) G3 H2
  have spec:lSp X.K sp (v1::.ref f1::.ref f2::vr) (fzS S s1.heap H4) Qc (λ_ _ _=>False):=⟨_,_,_,hrG,rr,hsp,λy G3 hq v H2 ry hr3 k3=>⟨y,G3,hq,ry,hr3,k3⟩⟩
  have hl:(us++[]).length=ps.length:=by rw [List.append_nil,← r.length];exact F.len _ _ _ _ spec
  have bb:=b s1 us I1.kIn hl;rw [List.append_nil] at bb;refine wpAny_call (codeAny_mono (F.run X.A X.stack s1 _ ⟨us,[]⟩ us _ Qc (λ_ _ _=>False) hr E0' bb r spec) λres s' hq=>?_);cases res with
  |error e=>exact False.elim hq
  |ok fl=>
   cases fl with
   |ret u=>
    obtain ⟨v,H2,os,bare,un,ok2,rv,y,G3,⟨ex,hqq⟩,ry,hr3,k3⟩:=hq;obtain ⟨un2,ok3,kk⟩:=qgF un hn th ok2;have z:FzC H2 S:=λb hb=>let ⟨o,v,g,d⟩:=ce b hb;⟨o,v,(kk b hb o g).2,d⟩
    have hrm:=hr3.rem z;have J:Inv X pins σ (rem S H2) s':=I1.call' (ch:=[]) os un2 ok3 bare λb z=>absurd z (by simp);have exo:∀ {b o},G2 b=some o->G3 b=some o:=λ{b o} g=>ex b o (by
     rw [zJ (by rintro rfl;rw [g2] at g;cases g),zJ (by rintro rfl;rw [g1] at g;cases g)];exact g)
    have exf:∀ {a},a=f1\/a=f2->∃ i ts,G3 a=some (.clo i ts):=λ{a} w=>by
     rcases w with rfl|rfl
     ·exact ⟨i1,d1,ex _ _ (by rw [zJ nf];exact qy)⟩
     ·exact ⟨i2,d2,ex _ _ qy⟩
    refine ⟨v,_,J,rv,af y _ hqq v _ (ry.mapS λa vs h=>SS z h) ⟨λa o e=>?_,hrm.tabs⟩ (k4.trans λa o e g t=>?_)⟩
    ·rcases qh3 e with ⟨e1,n⟩|⟨⟨i,ts,e1⟩,e2⟩
     ·exact hrm a o (TR e1 n)
     ·have:=exo e2;rw [e1] at this;cases this;exact (hr4 a _ e2).cloM un2.frzs un2.tups
    ·have nS:a∉S:=λw=>by rw [hn a w] at e;cases e
     by_cases w:a=f1\/a=f2
     ·obtain ⟨i,ts,y1⟩:=exf w;refine ⟨?_,?_⟩
      ·rcases w with rfl|rfl
       ·rw [hf1] at e;cases e;exact un2.frzs _ _ _ hf1
       ·rw [hf2] at e;cases e;exact un2.frzs _ _ _ hf2
      ·unfold qa6;rw [y1];exact g
     ·have w1:a≠f1:=λz=>w (.inl z);have w2:a≠f2:=λz=>w (.inr z);obtain ⟨h1,h2⟩:=k3 a o (fz e) (by rw [zJ w2,zJ w1];exact g) t;exact ⟨(if_neg nS).trans h1,by unfold qa6;rw [h2]⟩
   |_=>exact False.elim hq
end L3
namespace Pu
open PySem L2 L3
abbrev PhD:=Nat->Option (List PyData->Option PyData)
def UZ (i:Nat) (cs:List PyData):PyData:=.dict [(.int (i:Int),.tuple cs)]
def phS (Φ:PhD):Nat->Option Sp3:=λi=>(Φ i).map λF=>PSp F false
def Fv (Φ:PhD):PyData->List PyData->Option PyData
 |.dict [(.int i,.tuple cs)],ds=>if 0<=i/\EA (ds++cs)=true then (Φ i.toNat).bind λF=>(F (ds++cs)).bind λv=>if noC v=true then some v else none else none
 |_,_=>none
mutual
theorem Dq.noc {G G':Gp} (h:∀ p xs,G p=some (.lst xs)->G' p=some (.lst xs)):∀ {x:T} {d:PyData},Dq G x d->noC d=true->Dq G' x d
 |_,_,.non,_=>.non
 |_,_,.bl b,_=>.bl b
 |_,_,.int i,_=>.int i
 |_,_,.str x,_=>.str x
 |_,_,.tup hs,n=>.tup (Dqs.noc h hs (by unfold noC at n;exact n))
 |_,_,.lst g hs,n=>.lst (h _ _ g) (Dqs.noc h hs (by unfold noC at n;exact n))
 |_,_,.clo _ _,n=>by unfold noC at n;cases n
theorem Dqs.noc {G G':Gp} (h:∀ p xs,G p=some (.lst xs)->G' p=some (.lst xs)):∀ {x:List T} {d:List PyData},Dqs G x d->EA d=true->Dqs G' x d
 |_,_,.nil,_=>.nil
 |_,_,.cons a b,n=>by
  unfold EA at n;have:=Bool.and_eq_true_iff.mp n;exact .cons (Dq.noc h a this.1) (Dqs.noc h b this.2)
end
def bCv {tf:TE3} {ta:TA3} (Φ:PhD) (a:PuE tf) (r:PuA ta):PuE (cv3 (phS Φ) tf ta):=⟨λρ=>(a.f ρ).bind λd=>(r.f ρ).bind λds=>Fv Φ d ds,a.fv++r.fv,false,λ{D τ ρ G q v} hv hd hf k=>by
 obtain ⟨d,e1,hf⟩:=obb hf;obtain ⟨ds,e2,hf⟩:=obb hf;refine a.ok hv.l hd e1 λx G1 E1 D1 _=>?_;unfold Fv at hf;split at hf
 ·rename_i i cs _ _;split at hf
  ·rename_i hc;obtain ⟨F,e3,hf⟩:=obb hf;obtain ⟨w,e4,hf⟩:=obb hf;split at hf
   ·rename_i hw;cases hf;cases D1 with
    |@clo p j ts _ g hs=>
     refine r.ok (hv.r.up E1) (hd.up E1) e2 λxs G2 E2 D2=>?_;have g2:G2 p=some (.clo j ts):=E2 _ _ (qo g).2;have hs2:=hs.up (zK E2);simp only [spV,g2,phS];rw [Int.toNat_natCast] at e3;rw [e3];have hd2:=(hd.up E1).up E2
     let D':Addr->Prop:=λb=>D b/\CZ G2 b≠none
     have same:∀ p xs,rs D G2 p=some (.lst xs)->rs D' (CZ G2) p=some (.lst xs):=λp xs h=>by
      obtain ⟨n,h⟩:=qo h;rw [zB λz=>n z.1];exact TR h λ_ _ y=>nomatch y
     refine ⟨D',ds++cs,v,(D2.append hs2).noc same hc.2,λb z=>z.2,e4,λy G3 E3 D3 _ fact=>?_⟩;refine k y _ ((E1.trans E2).trans λb o h=>?_) (D3.noc (λb xs h=>?_) hw) λz=>by cases z
     ·by_cases c:∃ i ts,G2 b=some (.clo i ts)
      ·obtain ⟨i,ts,c⟩:=c;rw [c] at h;cases h;exact qaM c
      ·rw [SX λi ts y=>c ⟨i,ts,y⟩];exact E3 _ _ (TR h λi ts y=>c ⟨i,ts,by rw [h,y]⟩)
     ·obtain ⟨n,h⟩:=qo h;have c:∀ i ts,G2 b≠some (.clo i ts):=λi ts y=>by rw [fact b i ts y] at h;cases h
      have nD:¬ D b:=λz=>n ⟨z,λw=>by
       have:=hd2 b z;cases e:G2 b with
       |none=>exact this e
       |some o=>rw [TR e λi ts y=>c i ts (by rw [e,y])] at w;cases w⟩
      rw [zB nD,SX c];exact h
   ·cases hf
  ·cases hf
 ·cases hf⟩
def LF {tf:TE3} {ta:TA3} {Φ:PhD} {a:PuE tf} {r:PuA ta}:(bCv Φ a r).f=λρ=>(a.f ρ).bind λd=>(r.f ρ).bind λds=>Fv Φ d ds:=id rfl
def DG {tf:TE3} {ta:TA3} {Φ:PhD} {a:PuE tf} {r:PuA ta}:(bCv Φ a r).nw=false:=id rfl
def qbG (ρ:Rho):List Nat->Option (List PyData)
 |[]=>some []
 |j::r=>(vw ρ j).bind λd=>(qbG ρ r).map λds=>d::ds
theorem RA {D:Addr->Prop} {G:Gp} {τ:St3} {ρ:Rho}:∀ {m:List Nat} {ds:List PyData},ES m D G τ ρ->qbG ρ m=some ds->∃ ts,qa3 τ m=some ts/\Dqs (rs D G) ts ds
 |[],_,_,h=>by cases h;exact ⟨[],rfl,.nil⟩
 |j::r,ds,hv,h=>by
  unfold qbG at h;obtain ⟨d,e1,h⟩:=obb h;obtain ⟨ds',e2,rfl⟩:=u9 h;obtain ⟨t,a,b⟩:=hv j (by simp) d e1;obtain ⟨ts,c,e⟩:=RA (λi hi=>hv i (by simp [hi])) e2;exact ⟨t::ts,by unfold qa3;rw [a];simp [c],.cons b e⟩
def qlo {t1:TE3} {tr:TA3} (F:List PyData->Option PyData) (fr:Bool) (a:PuE t1) (r:PuA tr) (i1 i2:Nat) (m1 m2:List Nat):PuE (cl2 (PSp F fr) t1 tr i1 i2 m1 m2):=⟨λρ=>(a.f ρ).bind λd=>(r.f ρ).bind λds=>(qbG ρ m1).bind λc1=>(qbG ρ m2).bind λc2=>(F (d::UZ i1 c1::UZ i2 c2::ds)).bind λv=>if noC v=true then some v else none,a.fv++(r.fv++(m1++m2)),false,λ{D τ ρ G q v} hv hd hf k=>by
 obtain ⟨d,e1,hf⟩:=obb hf;obtain ⟨ds,e2,hf⟩:=obb hf;obtain ⟨c1,e3,hf⟩:=obb hf;obtain ⟨c2,e4,hf⟩:=obb hf;obtain ⟨w,e5,hf⟩:=obb hf;split at hf
 ·rename_i hw;cases hf;refine a.ok hv.l hd e1 λx G1 E1 D1 _=>r.ok (hv.r.l.up E1) (hd.up E1) e2 λxs G2 E2 D2=>?_;have E12:=E1.trans E2;obtain ⟨t1,a1,a2⟩:=RA (hv.r.r.l.up E12) e3;obtain ⟨t2,b1,b2⟩:=RA (hv.r.r.r.up E12) e4;have hd2:=(hd.up E1).up E2;refine ⟨t1,t2,a1,b1,λf1 f2 g1 g2 nf=>?_⟩;have X1:Ex G2 (gu G2 f1 (.clo i1 t1)):=QH g1;have X2:Ex (gu G2 f1 (.clo i1 t1)) (gu (gu G2 f1 (.clo i1 t1)) f2 (.clo i2 t2)):=QH (by rw [zJ (Ne.symm nf)];exact g2);have X:=X1.trans X2;have n1:¬ D f1:=λz=>hd2 f1 z g1;have n2:¬ D f2:=λz=>hd2 f2 z g2;have r1:rs D (gu (gu G2 f1 (.clo i1 t1)) f2 (.clo i2 t2)) f1=some (.clo i1 t1):=by rw [zB n1,zJ nf,qy]
  have r2:rs D (gu (gu G2 f1 (.clo i1 t1)) f2 (.clo i2 t2)) f2=some (.clo i2 t2):=by rw [zB n2,qy]
  refine ⟨D,_,v,.cons ((D1.up (zK E2)).up (zK X)) (.cons (.clo r1 (a2.up (zK X))) (.cons (.clo r2 (b2.up (zK X))) (D2.up (zK X)))),hd2.up X,e5,λy G3 E3 D3 _=>⟨λb o h=>E3 b o h,?_⟩⟩;have eq:∀ {b o},(∀ i ts,o≠.clo i ts)->G3 b=some o->qa6 G2 G3 b=some o:=λ{b o} n h=>by
   unfold qa6;split
   ·rename_i i ts e;rw [h] at e;cases e;exact absurd rfl (n i ts)
   ·exact h
  refine k y _ (E12.trans λb o h=>?_) (D3.noc (λb xs h=>?_) hw) λz=>by cases z
  ·have h3:=E3 _ _ (X _ _ h);by_cases c:∃ i ts,o=.clo i ts
   ·obtain ⟨i,ts,rfl⟩:=c;unfold qa6;rw [h3];exact h
   ·exact eq (λi ts y=>c ⟨i,ts,y⟩) h3
  ·obtain ⟨n,h⟩:=qo h;rw [zB n];exact eq (λi ts y=>nomatch y) h
 ·cases hf⟩
def qd1 {t1:TE3} {tr:TA3} {F:List PyData->Option PyData} {fr:Bool} {a:PuE t1} {r:PuA tr} {i1 i2:Nat} {m1 m2:List Nat}:(qlo F fr a r i1 i2 m1 m2).f=λρ=>(a.f ρ).bind λd=>(r.f ρ).bind λds=>(qbG ρ m1).bind λc1=>(qbG ρ m2).bind λc2=>(F (d::UZ i1 c1::UZ i2 c2::ds)).bind λv=>if noC v=true then some v else none:=id rfl
end Pu
namespace L3
open PySem PySem.Spec PyProof.Rows L2
def qfg (ts:List Addr) (H:Hp):Prop:=∀ b,(b∉ts/\(H b=none\/∃ o xs,H b=some (.frz o (.lst xs))))\/(b∈ts/\H b=some (.tbl #[]))
def CV {K:Frg} {H:Hp} {a:Addr} {ns:List Int} {ts:List Addr} (hK:JW K=true) (hO:qfg ts H) (hS:SqL K H a (ns.map V.int)):∃ o,H a=some (.frz o (.lst (ns.map V.int))):=by
 rcases hS with (h|h)|⟨o,its,n,h1,h2,_⟩
 ·rcases hO a with ⟨_,z|⟨o,xs,z⟩⟩|⟨_,z⟩<;>(rw [h] at z;cases z)
 ·exact h
 ·exact absurd h2 (EZ hK h1)
def M4 {P:Program} {w:World} {K:Frg} {mg mb:Str->Option Value} {CX:CXT} {k:Nat} {fa a:Addr} {fd:FuncData} {x:Str} {sp:Sp} {s₁:Shared} {vs:List Value} {ns:List Int} {ts:List (Addr×Addr)}
  (KX:K.In s₁.heap) (hns:s₁.heap.Ns mainGlobals mg) (hb:s₁.heap.Ns builtinsNs mb) (hbb:∀ x:Str,x≠"__name__" -> mb x=bootBuiltins x) (hlim:s₁.heap.NoLimit) (hg:s₁.gens=#[])
  (bm:∃ bm ob,mg "__builtins__" = some (.ref bm)/\bm≠builtinsNs/\s₁.heap.get? bm=some ob/\ob.cls=.type "module"/\ob.dict=some builtinsNs/\ob.data=.plain)
  (hT:∀ t∈ts,PySem.W.CodeHd s₁.heap t.1 t.2/\s₁.heap.get? t.2=some (PySem.W.tabObj #[])/\K.lookup t.2=none)
  (ha:s₁.heap.get? a=some { cls:=.type "list",data:=.seq vs.toArray }) (hi:IntsAre vs ns) (hl:ns.length<=sizeLine) (hr:Room k callerA)
  (F:∀ base:Heap,K.In base->base.Ns mainGlobals mg->qcb mg base->FnOk P w K mg base CX k fa fd [x] sp) (hbind:∀ (s:Shared) (u:Value),BindsTo s fd ⟨[u],[]⟩ [(x,u)])
  (hsp:∀ H:Hp,qfg (ts.map (·.2)) H->SqL K H a (ns.map V.int)->sp [.ref a] H (λv _=>v=.bl true) λ_ _ _=>False)
  (hCX:∀ H e s',CX [] H s₁ (λ_ _ _=>False) e s'->False) :
  codeAny (model P w) callerA (.call (.ref fa) ⟨[.ref a],[]⟩) (λr s'=>r=.ok (.ret (.bool true))/\OldK s₁.heap s'.heap/\s'.os=s₁.os/\AllBare s'.gens) s₁:=by
 have rv:=XF hi;have lenV:=hi.length;have tObj:∀ b,b∈ts.map (·.2)->s₁.heap.get? b=some (PySem.W.tabObj #[])/\K.lookup b=none:=λb hb=>by
  obtain ⟨t,ht,rfl⟩:=mem_map.mp hb;exact (hT t ht).2
 have aT:a∉ts.map (·.2):=λz=>by
  have:=(tObj a z).1;rw [ha] at this;have:=congrArg Obj.cls (Option.some.inj this);exact nomatch this
 have core:∀ H:Hp,qfg (ts.map (·.2)) H->SqL K H a (ns.map V.int)->HOk P w H s₁.heap->(∀ b,H b≠none->b=a\/b∈ts.map (·.2))->(H a≠none->K.lookup a=none) ->
   codeAny (model P w) callerA (.call (.ref fa) ⟨[.ref a],[]⟩) (λr s'=>r=.ok (.ret (.bool true))/\OldK s₁.heap s'.heap/\s'.os=s₁.os/\AllBare s'.gens) s₁:=by
  intro H hO hS hok hA hK;have base_of:∀ {b:Addr} {o:Obj},s₁.heap.get? b=some o->H b=none->(qa1 s₁.heap H).get? b=some o:=λe n=>qbA e n;have noA:∀ {b:Addr} {o:Obj},s₁.heap.get? b=some o->(∀ vs n,o.data≠.seq vs n)->(∀ vs,o.data≠.fields vs)->H b=none:=λ{b o} e d1 d2=>by
   cases q:H b with
   |none=>rfl
   |some u=>
    rcases hA b (by rw [q];simp) with e'|e'
    ·subst e';rw [ha] at e;cases e;exact absurd rfl (d1 _ _)
    ·rw [(tObj b e').1] at e;cases e;exact absurd rfl (d2 _)
  have nsK:∀ {b:Addr} {m:Str->Option Value},s₁.heap.Ns b m->(qa1 s₁.heap H).Ns b m:=λ{b m} ⟨o,es,ep,e,d,r⟩=>⟨o,es,ep,base_of e (noA e (λ_ _ z=>by rw [d] at z;cases z) λ_ z=>by rw [d] at z;cases z),d,r⟩
  have hKb:K.In (qa1 s₁.heap H):=λb o e=>base_of (KX b o e) (by
   cases q:H b with
   |none=>rfl
   |some u=>
    rcases hA b (by rw [q];simp) with e'|e'
    ·subst e';rw [hK (by rw [q];simp)] at e;cases e
    ·rw [(tObj b e').2] at e;cases e)
  have hM:Mod K mg (qa1 s₁.heap H):=⟨hKb,nsK hns,⟨mb,nsK hb,hbb⟩,let ⟨mc,h1,h2⟩:=hlim;⟨mc,nsK h1,h2⟩⟩
  have hB:qcb mg (qa1 s₁.heap H):=by
   obtain ⟨bm,ob,b1,b2,b3,b4,b5,b6⟩:=bm;refine ⟨bm,ob,b1,b2,λz=>?_,base_of b3 (noA b3 (λ_ _ z=>by rw [b6] at z;cases z) λ_ z=>by rw [b6] at z;cases z),b4,b5,b6⟩;obtain ⟨o,es,ep,e,d,_⟩:=hns;rw [z,e] at b3;cases b3;rw [d] at b6;cases b6
  have e0:Env0 P w K mg (qa1 s₁.heap H) callerA [] s₁ H:=⟨rfl,hM,λb o e=>qea e,Nat.le_of_eq (qaG _ _),trivial,λb hb=>absurd (show b∈([]:List Addr) from hb) (by simp),hok,.of_eq hg⟩
  refine codeAny_mono ((F _ hKb (nsK hns) hB).run callerA [] s₁ H ⟨[.ref a],[]⟩ [.ref a] [.ref a] _ _ hr e0 (hbind s₁ (.ref a)) (.cons rfl .nil) (hsp H hO hS)) λr s' h=>?_;cases r with
  |error e=>exact (hCX H e s' h).elim
  |ok fl=>
   cases fl with
   |next=>exact False.elim h
   |brk=>exact False.elim h
   |cont=>exact False.elim h
   |ret u=>
    obtain ⟨v,H',os,bare,un,hok',r',q⟩:=h;have q':v=.bl true:=q;subst q';obtain rfl:u=Value.bool true:=r';refine ⟨rfl,⟨λb o e=>?_,λb o e=>un.there b o e (by simp)⟩,os,bare⟩;rcases hO b with ⟨_,z|⟨ob,xs,z⟩⟩|⟨m,z⟩
    ·exact .inl (un.keep b o e z (by intro z;exact absurd (show b∈([]:List Addr) from z) (by simp)) (by simp))
    ·have z2:=un.frzs b ob _ z;obtain ⟨e1,_⟩:=hok b _ z;obtain ⟨e2,_⟩:=hok' b _ z2;rw [e] at e1;cases e1;exact .inl e2
    ·obtain ⟨more,z2⟩:=un.tbls b _ z;obtain ⟨t,ht,rfl⟩:=mem_map.mp m;obtain ⟨c,h0,_⟩:=hT t ht;rw [h0] at e;cases e;exact .inr (.inl ⟨(c.tab h0).isCodeTable,rfl,#[],more,rfl,hok' _ _ z2⟩)
 cases hk:K.lookup a with
 |some o=>
  have e:=KX a o hk;rw [ha] at e;cases e;refine core (λb=>if b∈ts.map (·.2) then some (.tbl #[]) else none) (λb=>?_) (.inr ⟨_,vs.toArray,_,hk,rfl,rfl,rfl,by rw [size_toArray,lenV];exact hl,by simpa using rv⟩) (λb u z=>?_) (λb z=>.inr ?_) λz=>absurd (if_neg aT) z
  ·by_cases m:b∈ts.map (·.2)
   ·exact .inr ⟨m,if_pos m⟩
   ·exact .inl ⟨m,.inl (if_neg m)⟩
  ·by_cases m:b∈ts.map (·.2)
   ·have z':=(if_pos m).symm.trans z;cases z';exact (tObj b m).1
   ·have z':=(if_neg m).symm.trans z;cases z'
  ·by_cases m:b∈ts.map (·.2)
   ·exact m
   ·exact absurd (if_neg m) z
 |none=>
  refine core (λb=>if b∈ts.map (·.2) then some (.tbl #[]) else if b=a then some (.frz { cls:=.type "list",data:=.seq vs.toArray } (.lst (ns.map V.int))) else none) (λb=>?_) (.inl (.inr ⟨{ cls:=.type "list",data:=.seq vs.toArray },(if_neg aT).trans (if_pos rfl)⟩)) (λb u z=>?_) (λb z=>?_) λ_=>hk
  ·by_cases m:b∈ts.map (·.2)
   ·exact .inr ⟨m,if_pos m⟩
   ·by_cases hb:b=a
    ·exact .inl ⟨m,.inr ⟨_,_,(if_neg m).trans (if_pos hb)⟩⟩
    ·exact .inl ⟨m,.inl ((if_neg m).trans (if_neg hb))⟩
  ·by_cases m:b∈ts.map (·.2)
   ·have z':=(if_pos m).symm.trans z;cases z';exact (tObj b m).1
   ·by_cases hb:b=a
    ·have z':=((if_neg m).trans (if_pos hb)).symm.trans z;cases z';subst hb;exact ⟨ha,by rw [length_map];exact hl,vs,_,rv,ha⟩
    ·have z':=((if_neg m).trans (if_neg hb)).symm.trans z;cases z'
  ·by_cases m:b∈ts.map (·.2)
   ·exact .inr m
   ·by_cases hb:b=a
    ·exact .inl hb
    ·exact absurd ((if_neg m).trans (if_neg hb)) z
def qhG {l:PySem.W.OpenLaw} {k:Nat} {q:Program} {loose:List Str} {XP:(Str->Option Value)->Heap->Prop} {YP:World->Heap->Prop} {d:DefRec} {K:Params->PySem.W.Frag} {x:Str} {ts:List (Addr×Addr×Str)} (hn:l.most=some 63) (hdf:d.params.defaults=[]) (hr:Room k callerA)
  (hY:∀ (w:World) (h:Heap),YP w h->(K w.params).In h/\∀ t∈ts,h.get? t.2.1=some (PySem.W.tabObj #[])) (hK:∀ w:World,JW (K w.params)=true) (hT:∀ w:World,WH (K w.params)=ts)
  (hC:∀ w:World,∀ t∈ts,PySem.W.codeHdIn (K w.params) t.1 t.2.1=true/\(K w.params).lookup t.2.1=none)
  (F:∀ (w:World) (mg:Str->Option Value) (fa:Addr) (h:Heap),(K w.params).In h->h.Ns mainGlobals mg->mg d.name=some (.ref fa) ->
   ∃ fd:FuncData,(∀ (s:Shared) (u:Value),BindsTo s fd ⟨[u],[]⟩ [(x,u)])/\∀ base:Heap,(K w.params).In base->base.Ns mainGlobals mg->qcb mg base->FnOk l.prog w (K w.params) mg base CX0 k fa fd [x] (lSp (K w.params) XD)) :
  PySem.W.WalkO q loose XP YP l.row.toRowW d [] (λf vs=>PySem.call f vs):=by
 refine Att.RK hn hdf λw s₀ s₁ mg mb fa o pm cd doc a vs ns G Y ho hd hcd hmg hobj hints hlen hg=>?_;obtain ⟨KX,KT⟩:=hY w _ Y;obtain ⟨fd,hb,hF⟩:=F w mg fa _ KX G.T.g hmg;refine M4 (ts:=ts.map λt=>(t.1,t.2.1)) KX G.T.g G.T.b G.T.builtins G.T.nolimit hg G.T.bmain (λt ht=>?_) hobj hints (u3 hlen (by decide)) hr hF hb (λH hO hS=>?_) λH e s' z=>z
 ·obtain ⟨t',ht',rfl⟩:=mem_map.mp ht;exact ⟨PySem.W.codeHd_of_K KX (hC w t' ht').1,KT t' ht',(hC w t' ht').2⟩
 ·refine ⟨[.ref a],only a ns,λt _=>t=.bl true,qfo (CV (hK w) hO hS) (λt ht=>?_),.cons (.ref a) .nil,⟨a,ns,rfl,by simp [only],hlen,λ_=>rfl⟩,λt G' e v H' r _ _=>by subst e;cases r;rfl⟩;rw [hT w] at ht;have m:t.2.1∈(ts.map λt=>(t.1,t.2.1)).map (·.2):=mem_map.mpr ⟨_,mem_map.mpr ⟨t,ht,rfl⟩,rfl⟩;rcases hO t.2.1 with ⟨n,_⟩|⟨_,z⟩
  ·exact absurd m n
  ·exact ⟨#[],z,trivial,λpos cv e=>by cases e⟩
end L3
namespace Hd
open PySem L2 L3 PySem.W
def LM (a:Addr) (fds:List FuncData) (ts:List (Addr×Addr×Str)):Frag:=(fds.map λfd=>(a,(⟨.str "" 0,none,.func fd,#[]⟩:Obj)))++ts.map λt=>(t.1,(⟨.str "" 0,none,.fields #[.ref t.2.1,.str t.2.2 0],#[]⟩:Obj))
def jF {K D:Frag} {b:Addr}:(K++D).lookup b=(K.lookup b).or (D.lookup b):=by
 induction K with
 |nil=>rfl
 |cons p r ih=>
  obtain ⟨a,o⟩:=p;rw [cons_append,List.lookup_cons,List.lookup_cons];split
  ·rfl
  ·exact ih
def RD {K:Frag} {a:Addr} {fds:List FuncData} {ts:List (Addr×Addr×Str)} (h0:(K.lookup a).isSome=true) (h1:(ts.all λt=>(K.lookup t.1).isSome)=true) (b:Addr):(K++LM a fds ts).lookup b=K.lookup b:=by
 rw [jF];cases e:K.lookup b with
 |some o=>rfl
 |none=>
  cases e2:(LM a fds ts).lookup b with
  |none=>rfl
  |some o=>
   rcases List.mem_append.mp (PySem.W.mem_of_lookupK e2) with m|m
   ·obtain ⟨fd,_,y⟩:=mem_map.mp m;cases y;rw [e] at h0;cases h0
   ·obtain ⟨t,ht,y⟩:=mem_map.mp m;cases y;have:=List.all_eq_true.mp h1 t ht;rw [e] at this;cases this
def qkV {l:OpenLaw} {q:Program} {loose:List Str} {K:Params->Frag} {as:List Addr} {d:DefRec} {N:Nat} {k:Nat} {x:Str} {a₀:Addr} {fds:List FuncData} {ts:List (Addr×Addr×Str)} {tp:List Addr} (ha:∀ P,as=(K P).map (·.1)) (htp:tp=ts.map λt=>t.2.1)
  (ok:l.wellSaid=true)
  (left:LeftO l.prog q loose (λs=>xlAt q [] s&&recOk [] s) (λs=>(as.map s.heap.get?,tp.map s.heap.get?)) (λw=>((K w.params).map λp=>some p.2,tp.map λ_=>some (tabObj #[]))) N)
  (hdef:defOf q l.name=some (d,[])) (hp:l.prog.theDef l.name=some (d.params,d.body,d.scope)) (hk:kwWritten? d.params.kwonlyargs d.params.kw_defaults=some [])
  (hwr:(!l.row.writes||l.row.records.isEmpty)=true) (ok2:(chainsOk q&&opensWell l.prog&&(frees l.row.toRowW&&l.row.within.isEmpty))=true) (hb:l.prog.bare) (hw:l.row.toRowW.promised)
  (hn:l.most=some 63) (hdf:d.params.defaults=[]) (hr:Room k callerA) (hK:∀ w:World,JW (K w.params++LM a₀ fds ts)=true) (hT:∀ w:World,WH (K w.params++LM a₀ fds ts)=ts)
  (h0:∀ w:World,(((K w.params).lookup a₀).isSome&&ts.all λt=>((K w.params).lookup t.1).isSome)=true)
  (hC:∀ w:World,(ts.all λt=>codeHdIn (K w.params++LM a₀ fds ts) t.1 t.2.1&&((K w.params++LM a₀ fds ts).lookup t.2.1).isNone)=true)
  (F:∀ (w:World) (mg:Str->Option Value) (fa:Addr) (h:Heap),Frag.In (K w.params++LM a₀ fds ts) h->h.Ns mainGlobals mg->mg d.name=some (.ref fa) ->
   ∃ fd:FuncData,(∀ (s:Shared) (u:Value),BindsTo s fd ⟨[u],[]⟩ [(x,u)])/\∀ base:Heap,Frag.In (K w.params++LM a₀ fds ts) base->base.Ns mainGlobals mg->qcb mg base->FnOk l.prog w (K w.params++LM a₀ fds ts) mg base CX0 k fa fd [x] (lSp (K w.params++LM a₀ fds ts) XD)):l.Holds:=by
 refine holds_law ok λsaid=>?_;refine holds_open (q:=q) (loose:=loose) (Xt:=λs=>xlAt q [] s&&recOk [] s) (XP:=XL q []) (Yf:=Hook.obs (kmHook K as ha tp)) (Ya:=Hook.val (kmHook K as ha tp)) (YP:=Hook.says (kmHook K as ha tp)) (N:=N) left
  (Hook.of (kmHook K as ha tp)) (Hook.keeps (kmHook K as ha tp)) (λs e=>xl_of s (Bool.and_eq_true_iff.mp e).1) XL.keeps hdef hp hk (λs e=>recFacts_of (Bool.and_eq_true_iff.mp e).2) hwr said ok2 hb hw
  (L3.qhG (l:=l) (k:=k) (x:=x) (K:=λP=>K P++LM a₀ fds ts) (ts:=ts) hn hdf hr (λw h Y=>⟨λb o e=>?_,λt ht=>?_⟩) hK hT (λw t ht=>?_) F)
 ·have z:=Bool.and_eq_true_iff.mp (h0 w);rw [RD z.1 z.2] at e;exact km_in_of Y b o e
 ·exact km_tabs_of Y _ (by rw [htp];exact mem_map.mpr ⟨t,ht,rfl⟩)
 ·have z:=Bool.and_eq_true_iff.mp (List.all_eq_true.mp (hC w) t ht);exact ⟨z.1,Option.isNone_iff_eq_none.mp z.2⟩
end Hd
namespace L3
open PySem PySem.Spec PyProof.Rows L2
def VS (P:Program) (w:World) (K:Frg) (mg:Str->Option Value) (base:Heap) (k:Nat) (Φ:Nat->Option Sp3):Prop:=∀ i S,Φ i=some S->∃ k0,k0+1<=k/\Lam3 P w K mg base k0 i S
def VS.mono {P:Program} {w:World} {K:Frg} {mg:Str->Option Value} {base:Heap} {k k':Nat} {Φ:Nat->Option Sp3} (h:VS P w K mg base k Φ) (le:k<=k'):VS P w K mg base k' Φ:=λi S e=>let ⟨k0,a,b⟩:=h i S e;⟨k0,u3 a le,b⟩
def VP {X:Cx} {Φ:Nat->Option Sp3} {k:Nat} {x:Str} {p pos:Pos} {e:Expr} {es:List Expr} {tf:TE3} {ta:TA3} (hΦ:VS X.prog X.w X.K X.mg X.base k Φ) (hr:Room k X.A) (hf:jE3 X (.Name x p) tf) (ha:jA3 X (e::es) ta)
  (he:starEach (e::es) X.env=(false,eval e X.env)::starEach es X.env:=by rfl) (hpl:(backTo pos (starEach es X.env)).any (·.1)=false:=by rfl):jE3 X (.Call (.Name x p) (e::es) [] pos) (cv3 Φ tf ta):=⟨qeM hΦ hr hf.h ha.h he hpl⟩
structure TabAt (K:Frg) (mg:Str->Option Value) (base:Heap) (c:Addr) (q:Str):Prop where
 ex:∃ P,PySem.W.CodeHd base c P/\qcb mg base/\(c,P,q)∈WH K/\∀ t∈WH K,t.2.1=P->t.2.2=q
def SZ (X:Cx) (m:List Nat) (params:Arguments) (scope:Scope):Bool:=
 (scope.names.all λy=>match y.2 with|.free=>(match X.env.kindOf y.1 with|some .cell=>true|_=>false)|_=>true)&&decide (scope.names.map λp=>p.1).Nodup&&(m.map (λj=>X.N[j]?)==(frN scope).map some)
def LamArg.of {X:Cx} {q:Str} {i:Nat} {m:List Nat} {params:Arguments} {body:Expr} {scope:Scope} {fd:FuncData} (l:RY X.K i=some fd) (e:(fd.params,fd.body,fd.scope,fd.qualname)=(params,.expr body,scope,q)) (d:defaultsOf params X.env=([],[])) (c:SZ X m params scope=true):LamArg X q i m params body scope:=by
 unfold SZ at c;obtain ⟨c1,c2⟩:=Bool.and_eq_true_iff.mp c;obtain ⟨c3,c4⟩:=Bool.and_eq_true_iff.mp c1;have e1:=congrArg (λz=>z.1) e;have e2:=congrArg (λz=>z.2.1) e;have e3:=congrArg (λz=>z.2.2.1) e;have e4:=congrArg (λz=>z.2.2.2) e;refine ⟨⟨fd,l,e1,e2,e3,e4⟩,d,λy hy z=>?_,of_decide_eq_true c4,by simpa using c2⟩;have:=List.all_eq_true.mp c3 y hy;rw [z] at this;split at this
 ·split at this
  ·assumption
  ·cases this
 ·rename_i n;exact absurd rfl n
def qc2 {X:Cx} {k:Nat} {x:Str} {p pos:Pos} {e1:Expr} {pr1 pr2:Arguments} {b1 b2:Expr} {sA sB:Scope} {o1 o2:Pos} {es:List Expr} {sp:Sp3} {t1:TE3} {tr:TA3} {c:Addr} {q:Str} {i1 i2:Nat} {fd1 fd2:FuncData} (m1 m2:List Nat)
  (F:Fn3 X.prog X.w X.K X.mg X.base k x sp) (hr:Room k X.A) (hg:Gl X x) (T:TabAt X.K X.mg X.base c q) (l1:RY X.K i1=some fd1) (l2:RY X.K i2=some fd2) (h1:jE3 X e1 t1) (hrs:jA3 X es tr)
  (hc:X.env.code=.ref c:=by rfl) (hq:X.env.qual++"<lambda>" = q:=by kernel_rfl)
  (f1:(fd1.params,fd1.body,fd1.scope,fd1.qualname)=(pr1,.expr b1,sA,q):=by kernel_rfl) (f2:(fd2.params,fd2.body,fd2.scope,fd2.qualname)=(pr2,.expr b2,sB,q):=by kernel_rfl)
  (d1:defaultsOf pr1 X.env=([],[]):=by rfl) (d2:defaultsOf pr2 X.env=([],[]):=by rfl) (c1:SZ X m1 pr1 sA=true:=by kernel_rfl) (c2:SZ X m2 pr2 sB=true:=by kernel_rfl) (fnT:∀ x,X.fn x=true:=by exact λ_=>rfl) (hdb:(x==("__debug__" : Str))=false:=by decide)
  (he:starEach (e1::.Lambda pr1 b1 sA o1::.Lambda pr2 b2 sB o2::es) X.env=(false,eval e1 X.env)::starEach (.Lambda pr1 b1 sA o1::.Lambda pr2 b2 sB o2::es) X.env:=by rfl)
  (hpl:(backTo pos (starEach (.Lambda pr1 b1 sA o1::.Lambda pr2 b2 sB o2::es) X.env)).any (·.1)=false:=by rfl):jE3 X (.Call (.Name x p) (e1::.Lambda pr1 b1 sA o1::.Lambda pr2 b2 sB o2::es) [] pos) (cl2 sp t1 tr i1 i2 m1 m2):=by
 obtain ⟨P,C,B,tk,one⟩:=T.ex;exact ⟨qkR F hr hg h1.h hrs.h hc C B hq tk one (LamArg.of l1 f1 d1 c1) (LamArg.of l2 f2 d2 c2) fnT hdb he hpl⟩
def qel (sc:Scope):Bool:=
 (match sc.kind with|.function=>true|_=>false)&&!sc.isCoroutine&&!sc.isGenerator&&(sc.names.all λy=>match y.2 with|.cell=>false|_=>true)&&decide (sc.names.map λp=>p.1).Nodup
def LamScope.of {sc:Scope} (c:qel sc=true):LamScope (psN sc) (frN sc) sc:=by
 unfold qel at c;obtain ⟨c,c5⟩:=Bool.and_eq_true_iff.mp c;obtain ⟨c,c4⟩:=Bool.and_eq_true_iff.mp c;obtain ⟨c,c3⟩:=Bool.and_eq_true_iff.mp c;obtain ⟨c1,c2⟩:=Bool.and_eq_true_iff.mp c;have nd:(sc.names.map λp=>p.1).Nodup:=of_decide_eq_true c5;have mem:∀ {x k},sc.names.lookup x=some k->(x,k)∈sc.names:=λh=>PySem.mem_of_lookup h;refine ⟨(by split at c1<;>first|assumption|exact nomatch c1),by simpa using c2,by simpa using c3,λx hx z=>?_,λp hp=>?_,λx h=>D7.mpr (mem h),λx h=>zy nd (D7.mp h),?_⟩
 ·have:=List.all_eq_true.mp c4 x hx;rw [z] at this;cases this
 ·unfold psN at hp;obtain ⟨⟨y,k⟩,hm,rfl⟩:=mem_map.mp hp;obtain ⟨h1,h2⟩:=List.mem_filter.mp hm;have:k=.local:=by simpa using h2
  subst this;exact zy nd h1
 ·unfold psN;exact List.Sublist.nodup (List.Sublist.map _ List.filter_sublist) nd
def WI {P:Program} {w:World} {K:Frg} {mg:Str->Option Value} {base:Heap} {k i:Nat} {S:Sp3} {fd:FuncData} {body:Expr} {t3:TE3} (l:RY K i=some fd) (bd:fd.body=.expr body) (sc:qel fd.scope=true)
  (bi:∀ clos pm c ctv us,us.length=(psN fd.scope).length->bindArgs (PySem.W.kla_fn "<lambda>" fd.qualname fd.params body fd.scope clos pm (.ref c) ctv) ⟨us,[]⟩=pure ((psN fd.scope).zip us))
  (hb:∀ (A:Around) (outer:List Env) (s:Shared) (H:Hp) (E:XK) (f c:Addr) (clos:List (Str×Addr)),Room k (A.deeper (PySem.W.envX fd.qualname fd.scope s.heap.objs.size f (.ref c) clos))->jE3 (cxL P w K mg base (psN fd.scope++frN fd.scope) fd.qualname fd.scope f (.ref c) clos A outer s H E) body t3)
  (rd:∀ ts G q,S ts G q->ts.length=(psN fd.scope).length+(frN fd.scope).length/\t3 (ts.map some) G q):Lam3 P w K mg base k i S:=⟨⟨fd,body,t3,l,bd,LamScope.of sc,bi,λA outer s H E f c clos hr=>(hb A outer s H E f c clos hr).h,rd⟩⟩
end L3
namespace Hd
open PySem L2 L3 PySem.W PySem.Spec PySem.Calls PyProof.Rows
def qne (q:Str):Expr->Option FuncData
 |.Lambda pr body sc _=>some (kla_fn "<lambda>" q pr body sc [] .none .none .none)
 |_=>none
def qmy (q:Str):Expr->List FuncData
 |.Call _ as _ _=>as.filterMap (qne q)
 |_=>[]
def qm7 (q:Str):Stmt->List FuncData
 |.Assign _ e _=>qmy q e
 |.Return (some e) _=>qmy q e
 |_=>[]
def qk0 (q:Str) (st:Stmt):List FuncData:=(qS st).flatMap (qm7 q)
def W5 (q:Str) (st:Stmt) (j:Nat):FuncData:=(qk0 q st).getD j default
end Hd
namespace Pu
open PySem L2 L3
def qfM (f:Rho->Option PyData) (n:Nat) (ds:List PyData):Option PyData:=if ds.length=n then f (ds.map .sh) else none
def WY {t:TE3} (b:PuE t) (n:Nat):∀ ts G q,PSp (qfM b.f n) false ts G q->ts.length=n/\t (ts.map some) G q:=by
 rintro ts G q ⟨D,ds,d,hs,hd,hf,h⟩;unfold qfM at hf;split at hf
 ·rename_i hk;refine ⟨by rw [hs.length];exact hk,b.ok (D:=D) (ρ:=ds.map .sh) (λi _ d2 e=>?_) hd hf λx G' e dx _=>h x G' e dx λz=>by cases z⟩;unfold vw at e;rw [getElem?_map] at e;obtain ⟨s,e1,e2⟩:=obb e;obtain ⟨d3,e3,rfl⟩:=u9 e1;cases e2;obtain ⟨x,e5,hx⟩:=hs.get e3;exact ⟨x,by rw [getElem?_map,e5];rfl,hx⟩
 ·cases hf
def zc (P:Program) (w:World) (K:Frg) (mg:Str->Option Value) (base:Heap) (k n:Nat) (L:List (List PyData->Option PyData)):Prop:=∀ i F,L[i]?=some F->Lam3 P w K mg base k (n+i) (PSp F false)
section
variable {P:Program} {w:World} {K:Frg} {mg:Str->Option Value} {base:Heap} {k n:Nat} {L:List (List PyData->Option PyData)} {F:List PyData->Option PyData}
def zc.nil:zc P w K mg base k n []:=λi F e=>by cases e
def zc.cons (l:Lam3 P w K mg base k n (PSp F false)) (h:zc P w K mg base k (n+1) L):zc P w K mg base k n (F::L):=λi F' e=>by
 cases i with
 |zero=>cases e;exact l
 |succ i=>have:=h i F' e;rw [show n+(i+1)=n+1+i by omega];exact this
def zc.ok (h:zc P w K mg base k 0 L):VS P w K mg base (k+1) (phS λi=>L[i]?):=λi S e=>by
 obtain ⟨F,e1,rfl⟩:=u9 e;have:=h i F e1;rw [Nat.zero_add] at this;exact ⟨k,v5 _,this⟩
end
end Pu
namespace Hd
open PySem L2 L3 PySem.W PySem.Spec PySem.Calls PyProof.Rows
def qmw {P:Program} {w:World} {K:Frg} {mg:Str->Option Value} {base:Heap} {x:Str} {st:Stmt} {f:Addr} {fd:FuncData} {N ps:List Str} {k:Nat} {sp:Sp3} {t3:TS3} {c:Addr} (E:Fb K mg x st ps f fd) (hc:fd.code=.ref c) (S:FnScope N ps (qf st))
  (read:∀ ts G q,sp ts G q->ts.length=ps.length/\t3 { nx:=λ_ G'=>q .non G',rt:=q } (qv N ts) G)
  (body:∀ (A:Around) (outer:List Env) (s:Shared) (H:Hp) (E:XK),Room k (A.deeper (envOfC x (qf st) s.heap.objs.size f (.ref c))) ->
   jB3 (LK CX0 P w K mg base N x (qf st) f (.ref c) A outer s H E).nox (qS st) t3):Fn3 P w K mg base (k+1) x sp:=by
 have F:=E.F;have kp:=F.kp;have bd:=E.b;obtain ⟨oc,od,kV,doc,pm,an,cdv,ct,osl,e,lk,hcd⟩:=F.ex;subst e;obtain rfl:cdv=.ref c:=hc;refine ⟨f,_,ps,qhw lk hcd S (λvs H Q E ⟨ts,G,q,h1,h2,h3,h4⟩=>by rw [← h2.length];exact (read ts G q h3).1) λA outer s H vs Q E hr ⟨ts,G,q,h1,h2,h3,h4⟩=>?_,bd,kp,E.m⟩;refine ⟨_,PSs.nox (body A outer s H E hr).h,?_⟩;exact ⟨qv N ts,G,_,U5 h1 h2,(read ts G q h3).2,⟨λτ' G' h' σ' H' rl' k'=>h4 _ G' h' _ H' .non rl'.hp k',h4,λ_ _ z=>z.elim,λ_ _ z=>z.elim⟩⟩
def qga {K:Frg} {mg:Str->Option Value} {base:Heap} {ts:List (Addr×Addr×Str)} {c P:Addr} {q:Str} (X:K.In base) (B:qcb mg base) (hT:WH K=ts) (hc:codeHdIn K c P=true:=by kernel_rfl) (m:ts.contains (c,P,q)=true:=by kernel_rfl) (one:(ts.all λt=>t.2.1 != P||t.2.2==q)=true:=by kernel_rfl):TabAt K mg base c q:=by
 subst hT;refine ⟨P,codeHd_of_K X hc,B,List.contains_iff_mem.mp m,λt ht z=>?_⟩;have:=List.all_eq_true.mp one t ht;rw [z] at this;simpa using this
end Hd
namespace HT
open PySem PySem.Spec PyProof.Rows
section
variable {prog:Program} {w:World} {A:Around} {E:Value->Shared->Prop} {s:Shared}
end
end HT
namespace L3
open PySem PySem.Spec PyProof.Rows L2
section
variable {X:Cx} {e ek:Expr} {p2 pos:Pos}
end
section
variable {X:Cx} {a b:Expr} {ta tb:TE3} {pos:Pos}
end
abbrev Rd (sp:Sp3) (n:Nat) (t:TS3) (N:List Str):Prop:=∀ ts G q,sp ts G q->ts.length=n/\t { nx:=λ_ G'=>q .non G',rt:=q } (qv N ts) G
def jgn {pos:Pos} {X:Cx} {x:Str} (i:Nat) (hN:decide X.N.Nodup=true:=by kernel_rfl) (hi:X.N[i]?=some x:=by rfl) (hx:Loc X.env.scope x:=by first|exact Or.inl rfl|exact Or.inr rfl) (hf:X.fn x=true\/X.env.scope.names.lookup x=some .local:=by first|exact .inl rfl|exact .inr rfl):jG3 X (.Name x pos) (gn3 i):=
 qw (of_decide_eq_true hN) hi hx hf
end L3
namespace L2
open PySem PySem.Spec PyProof.Rows
section
variable {X:Cx} {pos:Pos}
end
end L2
namespace L3
open PySem PySem.Spec PyProof.Rows L2
section
variable {X:Cx} {pos:Pos}
end
end L3
namespace HT
open PySem PyProof.Rows
section
variable {prog:Program} {w:World} {A:Around} {E:Value->Shared->Prop} {s:Shared}
abbrev oS (led:Bool):Obj:={ cls:=.type "set",dict:=none,data:=.set #[] 0 (.fresh 0 0 led) }
end
end HT
namespace L3
open PySem PySem.Spec PyProof.Rows L2
section
variable {X:Cx}
end
end L3
namespace Tb8
open PySem PySem.SetTable
def Up (xs:Array Nat):Prop:=∀ a b,a<b->b<xs.size->xs.getD a 0<xs.getD b 0
def gD {xs:Array Nat} {i d e:Nat} (h:i<xs.size):xs.getD i d=xs.getD i e:=by simp [Array.getD,h]
def Up.le {xs:Array Nat} (u:Up xs) {a b:Nat} (h:a<=b) (hb:b<xs.size):xs.getD a 0<=xs.getD b 0:=by
 rcases Nat.lt_or_ge a b with z|z
 ·exact Nat.le_of_lt (u a b z hb)
 ·rw [show a=b by omega];exact v5 _
structure Bel (xs:Array Nat) (j r:Nat):Prop where
 le:r<=xs.size
 lo:∀ i,i<r->xs.getD i 0<j
 hi:∀ i,r<=i->i<xs.size->j<=xs.getD i 0
theorem WT {xs:Array Nat} {j:Nat} (u:Up xs):∀ (fuel lo hi:Nat),lo<=hi->hi<=xs.size->hi-lo<=fuel->(∀ i,i<lo->xs.getD i 0<j)->(∀ i,hi<=i->i<xs.size->j<=xs.getD i 0)->Bel xs j (below.go xs j fuel lo hi)
 |0,lo,hi,h1,h2,h3,h4,h5=>by
  obtain rfl:lo=hi:=by omega
  exact ⟨h2,h4,h5⟩
 |fuel+1,lo,hi,h1,h2,h3,h4,h5=>by
  unfold below.go;by_cases c:lo<hi
  ·have hm:(lo+hi)/2<xs.size:=by omega
   rw [if_pos c];simp only;rw [gD (e:=0) hm];by_cases c2:xs.getD ((lo+hi)/2) 0<j
   ·rw [if_pos c2];exact WT u fuel _ _ (by omega) h2 (by omega) (λi hi'=>Nat.lt_of_le_of_lt (u.le (show i<=(lo+hi)/2 by omega) hm) c2) h5
   ·rw [if_neg c2];exact WT u fuel _ _ (by omega) (by omega) (by omega) h4 λi hi' hs=>u3 (Nat.le_of_not_lt c2) (u.le hi' hs)
  ·rw [if_neg c];obtain rfl:lo=hi:=by omega
   exact ⟨h2,h4,h5⟩
def DX {xs:Array Nat} {j:Nat} (u:Up xs):Bel xs j (below xs j):=WT u _ _ _ (Nat.zero_le _) (v5 _) (v5 _) (λi h=>absurd h (Nat.not_lt_zero i)) λi h hs=>absurd hs (by omega)
def qec {xs:Array Nat} {i j:Nat} (h:xs[i]?=some j):i<xs.size/\xs.getD i 0=j:=by
 obtain ⟨h1,h2⟩:=Array.getElem?_eq_some_iff.mp h;exact ⟨h1,by simp [Array.getD,h1,h2]⟩
def WE {xs:Array Nat} {i:Nat} (h:i<xs.size):xs[i]?=some (xs.getD i 0):=by simp [Array.getD,h]
def qbI {xs:Array Nat} {i j:Nat} (u:Up xs) (h:xs[i]?=some j):below xs j=i:=by
 obtain ⟨h1,h2⟩:=qec h;have B:=DX (j:=j) u;rcases Nat.lt_trichotomy (below xs j) i with z|z|z
 ·have:=B.hi _ (v5 _) (by omega);have:=u _ _ z h1;omega
 ·exact z
 ·have:=B.lo i z;omega
def VX {t:SetTable} {i j:Nat} (u:Up t.place) (h:t.place[i]?=some j):t.slot j=.live i:=by
 unfold SetTable.slot;simp only;rw [qbI u h,h];simp
def DM {t:SetTable} {j:Nat} (d:t.dummies=#[]) (h:∀ i:Nat,t.place[i]?≠some j):t.slot j=.empty:=by
 unfold SetTable.slot;simp only;rw [if_neg (by simpa using h _),if_neg];unfold has;rw [d];simp
def MJ {t:SetTable} (u:Up t.place) (d:t.dummies=#[]) (j:Nat):(t.slot j=.empty/\∀ i:Nat,t.place[i]?≠some j)\/∃ i:Nat,t.slot j=.live i/\t.place[i]?=some j:=by
 by_cases c:∃ i:Nat,t.place[i]?=some j
 ·obtain ⟨i,h⟩:=c;exact .inr ⟨i,VX u h,h⟩
 ·have c':∀ i:Nat,t.place[i]?≠some j:=λi h=>c ⟨i,h⟩;exact .inl ⟨DM d c',c'⟩
def adv (M:Nat) (p:Probe):Probe:=
 if p.more > 0 then { p with j:=p.j+1,more:=p.more-1 } else
 { p with j:=(leap M p.i p.perturb).1,more:=runEnd M (leap M p.i p.perturb).1-(leap M p.i p.perturb).1,i:=(leap M p.i p.perturb).1,perturb:=(leap M p.i p.perturb).2 }
def qha (t:SetTable) (p:Probe):t.advance p=adv t.mask p:=rfl
def st (M:Nat) (h:Int):Probe:={ j:=bits h%(M+1),more:=runEnd M (bits h%(M+1))-bits h%(M+1),i:=bits h%(M+1),perturb:=bits h,dummy:=none }
def pth (M:Nat) (h:Int):Nat->Probe
 |0=>st M h
 |n+1=>adv M (pth M h n)
theorem CD (M:Nat) (h:Int):∀ n,(pth M h n).dummy=none
 |0=>rfl
 |n+1=>by
  have:=CD M h n;simp only [pth,adv];split<;>exact this
def R7 {M i:Nat} (h:i<=M):runEnd M i<=M/\i<=runEnd M i/\runEnd M i<=i+9:=by unfold runEnd;split<;>omega
theorem qdf (M:Nat) (h:Int):∀ n,(pth M h n).j+(pth M h n).more<=M
 |0=>by
  have:=Nat.mod_lt (bits h) (show 0<M+1 by omega);have:=R7 (M:=M) (i:=bits h%(M+1)) (by omega);simp only [pth,st];omega
 |n+1=>by
  have ih:=qdf M h n;simp only [pth,adv];split
  ·simp only;omega
  ·have:(leap M (pth M h n).i (pth M h n).perturb).1<M+1:=Nat.mod_lt _ (by omega);have:=R7 (M:=M) (i:=(leap M (pth M h n).i (pth M h n).perturb).1) (by omega);simp only;omega
def hd (M i p:Nat):Probe:={ j:=i,more:=runEnd M i-i,i:=i,perturb:=p,dummy:=none }
def lv (M:Nat) (h:Int):Nat->Nat×Nat
 |0=>(bits h%(M+1),bits h)
 |k+1=>leap M (lv M h k).1 (lv M h k).2
theorem qk5 {M:Nat} {h:Int} {i p:Nat}:∀ (m n j:Nat),pth M h n={ j:=j,more:=m,i:=i,perturb:=p,dummy:=none }->pth M h (n+m)={ j:=j+m,more:=0,i:=i,perturb:=p,dummy:=none }
 |0,n,j,e=>e
 |m+1,n,j,e=>by
  have e2:pth M h (n+1)={ j:=j+1,more:=m,i:=i,perturb:=p,dummy:=none }:=by
   rw [pth,e,adv];simp
  have:=qk5 m (n+1) (j+1) e2;rw [show n+1+m=n+(m+1) by omega,show j+1+m=j+(m+1) by omega] at this;exact this
def qcc (M:Nat) (h:Int):∀ k,(lv M h k).1<=M
 |0=>by have:=Nat.mod_lt (bits h) (show 0<M+1 by omega);simp only [lv];omega
 |k+1=>by
  have:(leap M (lv M h k).1 (lv M h k).2).1<M+1:=Nat.mod_lt _ (by omega);simp only [lv];omega
theorem qih (M:Nat) (h:Int):∀ k,∃ n,n<=10*k/\pth M h n=hd M (lv M h k).1 (lv M h k).2
 |0=>⟨0,by omega,rfl⟩
 |k+1=>by
  obtain ⟨n,hn,e⟩:=qih M h k;have r:=R7 (qcc M h k);have w:=qk5 _ n _ e;refine ⟨n+(runEnd M (lv M h k).1-(lv M h k).1)+1,by omega,?_⟩;rw [pth,w];rfl
theorem NT (M:Nat) (h:Int):∀ k,(lv M h k).2=bits h/32 ^ k
 |0=>by simp [lv]
 |k+1=>by
  show (lv M h k).2/32=_;rw [NT M h k,Nat.div_div_eq_div_mul,Nat.pow_succ]
def qfm (h:Int):bits h<2 ^ 64:=by
 unfold bits;have:=Int.emod_lt_of_pos h (show (0:Int)<2 ^ 64 by decide);have:=Int.emod_nonneg h (show (2 ^ 64:Int)≠0 by decide);omega
def stp (M x:Nat):Nat:=(x*5+1)%(M+1)
def its (M:Nat):Nat->Nat->Nat
 |0,x=>x
 |t+1,x=>stp M (its M t x)
theorem L9 (M:Nat) (h:Int):∀ t,(lv M h (13+t)).1=its M t (lv M h 13).1
 |0=>rfl
 |t+1=>by
  have z:(lv M h (13+t)).2/32=0:=by
   rw [NT,Nat.div_div_eq_div_mul,← Nat.pow_succ];refine Nat.div_eq_of_lt (v8 (qfm h) ?_);exact u3 (show 2 ^ 64<=32 ^ 14 by decide) (Nat.pow_le_pow_right (by omega) (by omega))
  show ((lv M h (13+t)).1*5+1+(lv M h (13+t)).2/32)%(M+1)=stp M (its M t _);rw [z,L9 M h t];rfl
def KS (M:Nat):Prop:=∀ x,x<=M->∀ c,c<=M->∃ t,t<=M/\its M t x=c
def qkk:KS 7:=by
 have:∀ x:Fin 8,∀ c:Fin 8,∃ t:Fin 8,its 7 t.val x.val=c.val:=by decide +kernel
 intro x hx c hc;obtain ⟨t,ht⟩:=this ⟨x,by omega⟩ ⟨c,by omega⟩;exact ⟨t.val,by omega,ht⟩
def qim:KS 31:=by
 have:∀ x:Fin 32,∀ c:Fin 32,∃ t:Fin 32,its 31 t.val x.val=c.val:=by decide +kernel
 intro x hx c hc;obtain ⟨t,ht⟩:=this ⟨x,by omega⟩ ⟨c,by omega⟩;exact ⟨t.val,by omega,ht⟩
theorem ZR (M:Nat) (x t:Nat):∀ s,its M (s+t) x=its M s (its M t x)
 |0=>by rw [Nat.zero_add];rfl
 |s+1=>by rw [Nat.succ_add];show stp M (its M (s+t) x)=stp M _;rw [ZR M x t s]
def qeh:KS 127:=by
 have h:∀ c:Fin 128,∃ t:Fin 128,its 127 t.val 0=c.val:=by decide +kernel
 have z:its 127 128 0=0:=by decide +kernel
 intro x hx c hc;obtain ⟨a,ha⟩:=h ⟨x,by omega⟩;obtain ⟨b,hb⟩:=h ⟨c,by omega⟩;simp only at ha hb;have la:=a.isLt;have lb:=b.isLt;by_cases q:a.val<=b.val
 ·refine ⟨b.val-a.val,by omega,?_⟩;have:=ZR 127 0 a.val (b.val-a.val);rw [Nat.sub_add_cancel q,hb,ha] at this;exact this.symm
 ·refine ⟨b.val+128-a.val,by omega,?_⟩;have:=ZR 127 0 a.val (b.val+128-a.val);rw [Nat.sub_add_cancel (by omega),ZR 127 0 128,z,hb,ha] at this;exact this.symm
def qee:KS 511:=by
 have h:∀ c:Fin 512,∃ t:Fin 512,its 511 t.val 0=c.val:=by decide +kernel
 have z:its 511 512 0=0:=by decide +kernel
 intro x hx c hc;obtain ⟨a,ha⟩:=h ⟨x,by omega⟩;obtain ⟨b,hb⟩:=h ⟨c,by omega⟩;simp only at ha hb;have la:=a.isLt;have lb:=b.isLt;by_cases q:a.val<=b.val
 ·refine ⟨b.val-a.val,by omega,?_⟩;have:=ZR 511 0 a.val (b.val-a.val);rw [Nat.sub_add_cancel q,hb,ha] at this;exact this.symm
 ·refine ⟨b.val+512-a.val,by omega,?_⟩;have:=ZR 511 0 a.val (b.val+512-a.val);rw [Nat.sub_add_cancel (by omega),ZR 511 0 512,z,hb,ha] at this;exact this.symm
def qhe {M:Nat} (F:KS M) (h:Int) {c:Nat} (hc:c<=M):∃ n,n<10*turns M/\(pth M h n).j=c:=by
 obtain ⟨t,ht,e⟩:=F _ (qcc M h 13) c hc;obtain ⟨n,hn,e2⟩:=qih M h (13+t);refine ⟨n,by unfold turns;omega,?_⟩;rw [e2,hd,L9,e]
def qcT {P:Nat->Prop} {n:Nat} (h:P n):∃ m,m<=n/\P m/\∀ k,k<m->¬ P k:=by
 induction n using Nat.strongRecOn with
 |_ n ih=>
  by_cases c:∃ k,k<n/\P k
  ·obtain ⟨k,hk,pk⟩:=c;obtain ⟨m,hm,r⟩:=ih k hk pk;exact ⟨m,by omega,r⟩
  ·exact ⟨n,v5 _,h,λk hk pk=>c ⟨k,hk,pk⟩⟩
def qe1 {xs:Array Nat} {M:Nat} (u:Up xs) (h:xs.size<=M):∃ c,c<=M/\∀ i:Nat,xs[i]?≠some c:=by
 by_cases c:∃ c,c<=M/\∀ i:Nat,xs[i]?≠some c
 ·exact c
 exfalso;have all:∀ c,c<=M->∃ i:Nat,xs[i]?=some c:=λd hd=>by
  by_cases z:∃ i:Nat,xs[i]?=some d
  ·exact z
  ·exact absurd ⟨d,hd,λi e=>z ⟨i,e⟩⟩ c
 have ge:∀ i,i<xs.size->i<=xs.getD i 0:=by
  intro i;induction i with
  |zero=>intro _;exact Nat.zero_le _
  |succ i ih=>
   intro hi;have:=ih (by omega);have:=u i (i+1) (by omega) hi;omega
 obtain ⟨i,hi⟩:=all M (v5 _);obtain ⟨i1,i2⟩:=qec hi;obtain ⟨m,hm,⟨m1,m2⟩,hl⟩:=qcT (P:=λi=>i<xs.size/\i<xs.getD i 0) (n:=i) ⟨i1,by omega⟩;obtain ⟨k,hk⟩:=all m (by omega);obtain ⟨k1,k2⟩:=qec hk;rcases Nat.lt_or_ge k m with z|z
 ·have a:=ge k k1;have b:=hl k z;have:¬ k<xs.getD k 0:=λq=>b ⟨k1,q⟩;omega
 ·have:=u.le z k1;omega
def K7 {t:SetTable} {h:Int} (F:KS t.mask) (u:Up t.place) (d:t.dummies=#[]) (s:t.place.size<=t.mask):∃ e,e<10*turns t.mask/\t.slot (pth t.mask h e).j=.empty/\∀ k,k<e->t.slot (pth t.mask h k).j≠.empty:=by
 obtain ⟨c,hc,hf⟩:=qe1 u s;obtain ⟨n,hn,e⟩:=qhe F h hc;obtain ⟨m,hm,pm,hl⟩:=qcT (P:=λn=>t.slot (pth t.mask h n).j=.empty) (n:=n) (by rw [e];exact DM d hf);exact ⟨m,by omega,pm,hl⟩
theorem LR {t:SetTable} {hA:Nat->Int} {h:Int}:∀ (m fuel n:Nat),(∀ k,k<m->∃ i,t.slot (pth t.mask h (n+k)).j=.live i/\(hA i==h)=false)->m<=fuel->probe.go t hA h fuel (pth t.mask h n)=probe.go t hA h (fuel-m) (pth t.mask h (n+m))
 |0,fuel,n,_,_=>rfl
 |m+1,0,n,_,hf=>by omega
 |m+1,fuel+1,n,hs,hf=>by
  obtain ⟨i,e1,e2⟩:=hs 0 (by omega);rw [Nat.add_zero] at e1;rw [probe.go,e1];simp only [e2,Bool.false_eq_true,if_false];have:=LR m fuel (n+1) (λk hk=>by rw [show n+1+k=n+(k+1) by omega];exact hs (k+1) (by omega)) (by omega);rw [qha,← pth,this,show n+1+m=n+(m+1) by omega,show fuel+1-(m+1)=fuel-m by omega]
def qbr {t:SetTable} {hA:Nat->Int} {h:Int} {fuel n:Nat} (e:t.slot (pth t.mask h n).j=.empty) (hf:0<fuel):probe.go t hA h fuel (pth t.mask h n)=some (.empty (pth t.mask h n).j none):=by
 obtain ⟨f,rfl⟩:∃ f,fuel=f+1:=⟨fuel-1,by omega⟩
 rw [probe.go,e,CD]
def ins {α:Type} (l:List α) (p:Nat) (x:α):List α:=l.take p++x::l.drop p
def JT {α:Type} {l:List α} {p:Nat} {x:α} (h:p<=l.length):(ins l p x).length=l.length+1:=by simp [ins];omega
def NZ {α:Type} {l:List α} {p:Nat} {x:α} (h:p<=l.length) (i:Nat):(ins l p x)[i]?=if i<p then l[i]? else if i=p then some x else l[i-1]?:=by
 have e:(l.take p).length=p:=by simp;omega
 unfold ins;split
 ·rename_i c;rw [List.getElem?_append_left (by omega),List.getElem?_take_of_lt c]
 ·rw [List.getElem?_append_right (by omega),e];split
  ·rename_i c;subst c;simp
  ·rename_i c1 c2;obtain ⟨k,rfl⟩:∃ k,i=p+(k+1):=⟨i-p-1,by omega⟩
   rw [show p+(k+1)-p=k+1 by omega,getElem?_cons_succ,List.getElem?_drop,show p+(k+1)-1=p+k by omega]
def Q5 {α:Type} (xs:Array α) (p:Nat) (x:α) (h:p<=xs.size):(insertAt xs p x).toList=ins xs.toList p x:=by
 unfold insertAt ins;simp;exact List.take_of_length_le (by simp)
structure Ok8 (t:SetTable) (hs:List Int):Prop where
 up:Up t.place
 dm:t.dummies=#[]
 sz:t.place.size=hs.length
 fl:hs.length<=t.mask
 le:∀ (i j:Nat),t.place[i]?=some j->j<=t.mask
 fu:KS t.mask
 od:t.mask%2=1
 wy:∀ (i j:Nat) (h:Int),t.place[i]?=some j->hs[i]?=some h->∃ m,(pth t.mask h m).j=j/\∀ k,k<m->t.slot (pth t.mask h k).j≠.empty
def Ok8.ne {t:SetTable} {hs:List Int} (o:Ok8 t hs) {j:Nat}:t.slot j≠.empty↔∃ i:Nat,t.place[i]?=some j:=by
 rcases MJ o.up o.dm j with ⟨e,h⟩|⟨i,e,h⟩
 ·exact ⟨λz=>absurd e z,λ⟨i,z⟩=>absurd z (h i)⟩
 ·exact ⟨λ_=>⟨i,h⟩,λ_ z=>by rw [e] at z;cases z⟩
def CF {α:Type} (xs:Array α) (i:Nat):xs[i]?=xs.toList[i]?:=by simp
theorem Ok8.put {t:SetTable} {hs:List Int} (o:Ok8 t hs) {j:Nat} {h:Int} (he:t.slot j=.empty) (hj:j<=t.mask) (hf:hs.length+1<=t.mask) (w:∃ m,(pth t.mask h m).j=j/\∀ k,k<m->t.slot (pth t.mask h k).j≠.empty) :
  (t.put j).2<=hs.length/\Ok8 (t.put j).1 (ins hs (t.put j).2 h)/\(t.put j).1.mask=t.mask:=by
 have hn:∀ i:Nat,t.place[i]?≠some j:=λi z=>(o.ne.mpr ⟨i,z⟩) he;have B:=DX (j:=j) o.up;obtain ⟨p,hp⟩:∃ p,p=below t.place j:=⟨_,rfl⟩
 have hd:has t.dummies j=false:=by unfold has;rw [o.dm];simp
 have e1:(t.put j).1={ t with place:=insertAt t.place p j }:=by
  unfold SetTable.put;simp only [hd,hp];rfl
 have e2:(t.put j).2=p:=by unfold SetTable.put;rw [hp]
 rw [← hp] at B;have pl:p<=t.place.size:=B.le;have pl':p<=hs.length:=by rw [← o.sz];exact pl
 have gt:∀ i:Nat,(insertAt t.place p j)[i]?=if i<p then t.place[i]? else if i=p then some j else t.place[i-1]?:=λi=>by
  rw [CF,Q5 _ _ _ pl,NZ (by simpa using pl),CF,CF]
 have hz:(insertAt t.place p j).size=t.place.size+1:=by
  rw [← Array.length_toList,Q5 _ _ _ pl,JT (by simpa using pl),Array.length_toList]
 rw [e1,e2];have up':Up (insertAt t.place p j):=by
  intro a b hab hb;rw [hz] at hb;have ga:=gt a;have gb:=gt b;have da:(insertAt t.place p j)[a]?=some ((insertAt t.place p j).getD a 0):=WE (by rw [hz];omega);have db:(insertAt t.place p j)[b]?=some ((insertAt t.place p j).getD b 0):=WE (by rw [hz];omega);rw [da] at ga;rw [db] at gb;generalize (insertAt t.place p j).getD a 0=x at ga ⊢;generalize (insertAt t.place p j).getD b 0=y at gb ⊢;have gtj:∀ i:Nat,p<=i->i<t.place.size->j<t.place.getD i 0:=λi h1 h2=>by
   have a1:=B.hi i h1 h2;have a2:t.place.getD i 0≠j:=λz=>hn i (by rw [WE h2,z]);omega
  by_cases c1:a<p
  ·rw [if_pos c1,WE (by omega)] at ga;cases ga;by_cases c2:b<p
   ·rw [if_pos c2,WE (by omega)] at gb;cases gb;exact o.up a b hab (by omega)
   ·rw [if_neg c2] at gb;by_cases c3:b=p
    ·rw [if_pos c3] at gb;cases gb;exact B.lo a c1
    ·rw [if_neg c3,WE (by omega)] at gb;cases gb;exact Nat.lt_trans (B.lo a c1) (gtj _ (by omega) (by omega))
  ·rw [if_neg c1] at ga;have c2:¬ b<p:=by omega
   have c3:¬ b=p:=by omega
   rw [if_neg c2,if_neg c3,WE (by omega)] at gb;cases gb;by_cases c4:a=p
   ·rw [if_pos c4] at ga;cases ga;exact gtj _ (by omega) (by omega)
   ·rw [if_neg c4,WE (by omega)] at ga;cases ga;exact o.up _ _ (by omega) (by omega)
 have ne':∀ j',t.slot j'≠.empty->SetTable.slot { t with place:=insertAt t.place p j } j'≠.empty:=λj' z=>by
  obtain ⟨i,hi⟩:=o.ne.mp z;have:∃ i':Nat,(insertAt t.place p j)[i']?=some j':=by
   by_cases c:i<p
   ·exact ⟨i,by rw [gt,if_pos c,hi]⟩
   ·exact ⟨i+1,by rw [gt,if_neg (by omega),if_neg (by omega),Nat.add_sub_cancel,hi]⟩
  obtain ⟨i',hi'⟩:=this;rw [VX (t:={ t with place:=insertAt t.place p j }) up' hi'];exact λz=>by cases z
 refine ⟨pl',⟨up',o.dm,by rw [JT pl'];simp only;rw [hz,o.sz],by rw [JT pl'];exact hf,λi j' hi=>?_,o.fu,o.od,λi j' h' hi hh=>?_⟩,rfl⟩
 ·simp only at hi;rw [gt] at hi;split at hi
  ·exact o.le _ _ hi
  ·split at hi
   ·cases hi;exact hj
   ·exact o.le _ _ hi
 ·simp only at hi;rw [gt] at hi;rw [NZ pl'] at hh;have go:∀ i0:Nat,t.place[i0]?=some j'->hs[i0]?=some h'->∃ m,(pth t.mask h' m).j=j'/\∀ k,k<m->SetTable.slot { t with place:=insertAt t.place p j } (pth t.mask h' k).j≠.empty:=λi0 a b=>by
   obtain ⟨m,m1,m2⟩:=o.wy i0 j' h' a b;exact ⟨m,m1,λk hk=>ne' _ (m2 k hk)⟩
  split at hi
  ·rename_i c;rw [if_pos c] at hh;exact go i hi hh
  ·rename_i c;rw [if_neg c] at hh;split at hi
   ·rename_i c2;rw [if_pos c2] at hh;cases hi;cases hh;obtain ⟨m,m1,m2⟩:=w;exact ⟨m,m1,λk hk=>ne' _ (m2 k hk)⟩
   ·rename_i c2;rw [if_neg c2] at hh;exact go _ hi hh
theorem Ok8.fresh (f m:Nat) (led:Bool):Ok8 (SetTable.fresh f m led) []:=by
 refine ⟨λa b h hb=>?_,rfl,rfl,Nat.zero_le _,λi j h=>?_,qkk,(by show 7%2=1;rfl),λi j h a b=>?_⟩
 ·simp [SetTable.fresh] at hb
 ·simp [SetTable.fresh] at h
 ·simp at b
end Tb8
namespace Tb8
open PySem PyProof.Rows
section
variable {prog:Program} {w:World} {A:Around} {E:Value->Shared->Prop} {s:Shared}
abbrev hsh (prog:Program) (w:World) (k:List Int):Int:=tupleKeyHash (intKind prog w) k
def SJ {k:Int} {v:Value} (h:(intKind prog w).is k v=true):∃ t,v=.int k t:=by
 cases v<;>first|(cases h;done)|skip
 case int i t=>
  have:i=k:=by simpa [intKind,Value.isInt] using h
  exact ⟨t,by rw [this]⟩
end
end Tb8
namespace Tb8
open PySem PyProof.Rows PySem.SetTable
section
variable {prog:Program} {w:World} {A:Around} {E:Value->Shared->Prop} {s:Shared}
end
end Tb8
namespace Tb8
open PySem PySem.SetTable
def own (ow:Array (Option Nat)) (j:Nat):Option Nat:=ow.getD j (some 0)
def TK {M:Nat} {h:Int} {c n:Nat} (e:pth M h n=hd M (lv M h c).1 (lv M h c).2) {k:Nat} (hk:(lv M h c).1+k<=runEnd M (lv M h c).1):(pth M h (n+k)).j=(lv M h c).1+k:=by
 have key:∀ k,(lv M h c).1+k<=runEnd M (lv M h c).1->pth M h (n+k)={ j:=(lv M h c).1+k,more:=runEnd M (lv M h c).1-((lv M h c).1+k),i:=(lv M h c).1,perturb:=(lv M h c).2,dummy:=none }:=by
  intro k;induction k with
  |zero=>intro _;exact e
  |succ k ih=>
   intro hk;have:=ih (by omega);rw [← Nat.add_assoc,pth,this,adv];simp only;rw [if_pos (by omega)];congr 1
 rw [key k hk]
def qci {M:Nat} {h:Int} {c n:Nat} (e:pth M h n=hd M (lv M h c).1 (lv M h c).2):pth M h (n+(runEnd M (lv M h c).1-(lv M h c).1)+1)=hd M (lv M h (c+1)).1 (lv M h (c+1)).2:=by
 rw [pth,qk5 _ n _ e];rfl
def XC {n:Nat} {P:Nat->Bool} (h:(List.range n).find? P=none):∀ k,k<n->P k=false:=λk hk=>by
 have:=List.find?_eq_none.mp h k (mem_range.mpr hk);simpa using this
def qau {P:Nat->Bool}:∀ {n k:Nat},(List.range n).find? P=some k->k<n/\P k=true/\∀ i,i<k->P i=false:=by
 intro n;induction n with
 |zero=>intro k h;simp at h
 |succ n ih=>
  intro k h;rw [List.range_succ,List.find?_append] at h;cases e:(List.range n).find? P with
  |some k'=>
   rw [e] at h;simp at h;subst h;obtain ⟨a,b,c⟩:=ih e;exact ⟨by omega,b,c⟩
  |none=>
   rw [e] at h;simp [List.find?_cons] at h;split at h
   ·rename_i z;cases h;exact ⟨by omega,z,XC e⟩
   ·cases h
theorem qil {M:Nat} {h:Int} {ow:Array (Option Nat)}:∀ (fuel c n:Nat),pth M h n=hd M (lv M h c).1 (lv M h c).2->(∀ m,m<n->own ow (pth M h m).j≠none)->(∃ c',c<=c'/\c'<c+fuel/\own ow (lv M h c').1=none) ->
  ∃ m,layClean.free M ow fuel (lv M h c).1 (lv M h c).2=some (pth M h m).j/\own ow (pth M h m).j=none/\∀ m',m'<m->own ow (pth M h m').j≠none
 |0,c,n,_,_,⟨c',h1,h2,_⟩=>by omega
 |fuel+1,c,n,e,hn,⟨c',h1,h2,h3⟩=>by
  have r:=R7 (qcc M h c);rw [layClean.free];cases f:(List.range (runEnd M (lv M h c).1+1-(lv M h c).1)).find? (λk=>(ow.getD ((lv M h c).1+k) (some 0)).isNone) with
  |some k=>
   obtain ⟨k1,k2,k3⟩:=qau f;refine ⟨n+k,?_,?_,λm' hm'=>?_⟩
   ·simp only;rw [TK e (by omega)]
   ·rw [TK e (by omega)];unfold own;exact Option.isNone_iff_eq_none.mp k2
   ·rcases Nat.lt_or_ge m' n with z|z
    ·exact hn m' z
    ·obtain ⟨x,rfl⟩:∃ x,m'=n+x:=⟨m'-n,by omega⟩
     rw [TK e (by omega)];have:=k3 x (by omega);unfold own;intro q;rw [q] at this;cases this
  |none=>
   have k3:=XC f;have all:∀ m,m<n+(runEnd M (lv M h c).1-(lv M h c).1)+1->own ow (pth M h m).j≠none:=λm hm=>by
    rcases Nat.lt_or_ge m n with z|z
    ·exact hn m z
    ·obtain ⟨x,rfl⟩:∃ x,m=n+x:=⟨m-n,by omega⟩
     rw [TK e (by omega)];have:=k3 x (by omega);unfold own;intro q;rw [q] at this;cases this
   have ne:c'≠c:=λz=>by
    subst z;have:=k3 0 (by omega);rw [Nat.add_zero] at this;unfold own at h3;rw [h3] at this;cases this
   exact qil fuel (c+1) _ (qci e) all ⟨c',by omega,by omega,h3⟩
structure Lay (M:Nat) (ow:Array (Option Nat)) (hs:List Int):Prop where
 sz:ow.size=M+1
 lt:∀ (j k:Nat),ow[j]?=some (some k)->k<hs.length
 ex:∀ k,k<hs.length->∃ j:Nat,ow[j]?=some (some k)
 un:∀ (j j' k:Nat),ow[j]?=some (some k)->ow[j']?=some (some k)->j=j'
 wy:∀ (j k:Nat) (h:Int),ow[j]?=some (some k)->hs[k]?=some h->∃ m,(pth M h m).j=j/\∀ x,x<m->own ow (pth M h x).j≠none
def YY {ow:Array (Option Nat)} {j:Nat} (h:j<ow.size):ow[j]?=some (own ow j):=by simp [own,Array.getD,h]
def N6 {M:Nat} {h:Int} {n:Nat}:(pth M h n).j<=M:=by have:=qdf M h n;omega
theorem pig:∀ (b:Nat) (l:List Nat),(∀ x∈l,x<b)->l.Nodup->l.length<=b
 |0,l,h,_=>by
  cases l with
  |nil=>simp
  |cons a r=>exact absurd (h a (by simp)) (Nat.not_lt_zero a)
 |b+1,l,h,nd=>by
  have ih:=pig b (l.erase b) (λx hx=>by
   have q:=(List.Nodup.mem_erase_iff nd).mp hx;have:=h x q.2;have:=q.1;omega) (nd.erase b)
  rw [List.length_erase] at ih;split at ih<;>omega
def Lay.free {M:Nat} {ow:Array (Option Nat)} {hs:List Int} (l:Lay M ow hs) (hl:hs.length<=M):∃ c,c<=M/\own ow c=none:=by
 by_cases z:∃ c,c<=M/\own ow c=none
 ·exact z
 exfalso;have all:∀ c,c<=M->∃ k,ow[c]?=some (some k):=λc hc=>by
  have:=YY (ow:=ow) (j:=c) (by rw [l.sz];omega);cases q:own ow c with
  |none=>exact absurd ⟨c,hc,q⟩ z
  |some k=>exact ⟨k,by rw [this,q]⟩
 have inj:((List.range (M+1)).map λc=>(own ow c).getD 0).Nodup:=by
  rw [List.nodup_iff_pairwise_ne,List.pairwise_map];refine List.Pairwise.imp_of_mem (R:=(·<·)) (λ{a b} ha hb hab e=>?_) (List.pairwise_lt_range);obtain ⟨k1,h1⟩:=all a (by have:=mem_range.mp ha;omega);obtain ⟨k2,h2⟩:=all b (by have:=mem_range.mp hb;omega);have e1:=YY (ow:=ow) (j:=a) (by rw [l.sz];have:=mem_range.mp ha;omega);have e2:=YY (ow:=ow) (j:=b) (by rw [l.sz];have:=mem_range.mp hb;omega);rw [h1] at e1;rw [h2] at e2;rw [← Option.some.inj e1,← Option.some.inj e2] at e;simp only [Option.getD_some] at e;subst e;have:=l.un a b k1 h1 h2;omega
 have sub:∀ x∈((List.range (M+1)).map λc=>(own ow c).getD 0),x∈List.range hs.length:=λx hx=>by
  obtain ⟨c,hc,rfl⟩:=mem_map.mp hx;obtain ⟨k,hk⟩:=all c (by have:=mem_range.mp hc;omega);have e1:=YY (ow:=ow) (j:=c) (by rw [l.sz];have:=mem_range.mp hc;omega);rw [hk] at e1;rw [← Option.some.inj e1];exact mem_range.mpr (l.lt c k hk)
 have:=pig hs.length _ (λx hx=>mem_range.mp (sub x hx)) inj;simp at this;omega
def Lay.next {M:Nat} {ow:Array (Option Nat)} {hs:List Int} (F:KS M) (l:Lay M ow hs) (hl:hs.length<=M) (h:Int):∃ j,layClean.free M ow (turns M) (bits h%(M+1)) (bits h)=some j/\Lay M (ow.setIfInBounds j (some hs.length)) (hs++[h]):=by
 obtain ⟨c,hc,hf⟩:=l.free hl;obtain ⟨t,ht,e⟩:=F _ (qcc M h 13) c hc;obtain ⟨m,m1,m2,m3⟩:=qil (M:=M) (h:=h) (ow:=ow) (turns M) 0 0 rfl (λm hm=>absurd hm (Nat.not_lt_zero m)) ⟨13+t,by omega,by unfold turns;omega,by rw [L9,e];exact hf⟩;refine ⟨_,m1,?_⟩;obtain ⟨j,hj⟩:∃ j,j=(pth M h m).j:=⟨_,rfl⟩
 have jl:j<ow.size:=by rw [l.sz,hj];have:=N6 (M:=M) (h:=h) (n:=m);omega
 rw [← hj] at m2 ⊢;have gt:∀ i:Nat,(ow.setIfInBounds j (some hs.length))[i]?=if j=i then some (some hs.length) else ow[i]?:=λi=>by
  rw [Array.getElem?_setIfInBounds];by_cases c:j=i
  ·rw [if_pos c,if_pos c,if_pos (by omega)]
  ·rw [if_neg c,if_neg c]
 have jn:ow[j]?=some none:=by rw [YY jl,m2]
 have on:∀ i,i<=M->own ow i≠none->own (ow.setIfInBounds j (some hs.length)) i≠none:=λi hi hn q=>by
  have s2:(ow.setIfInBounds j (some hs.length)).size=ow.size:=by simp
  have e1:=YY (ow:=ow.setIfInBounds j (some hs.length)) (j:=i) (by rw [s2,l.sz];omega);rw [gt,q] at e1;split at e1
  ·cases e1
  ·rw [YY (by rw [l.sz];omega)] at e1;exact hn (Option.some.inj e1)
 refine ⟨by simp [l.sz],λi k hk=>?_,λk hk=>?_,λi i' k h1 h2=>?_,λi k h' h1 h2=>?_⟩
 ·rw [gt] at hk;rw [length_append,List.length_singleton];split at hk
  ·cases hk;omega
  ·have:=l.lt i k hk;omega
 ·rw [length_append,List.length_singleton] at hk;rcases Nat.lt_or_ge k hs.length with z|z
  ·obtain ⟨i,hi⟩:=l.ex k z;refine ⟨i,?_⟩;rw [gt,if_neg (λq=>by rw [← q,jn] at hi;cases hi),hi]
  ·obtain rfl:k=hs.length:=by omega
   exact ⟨j,by rw [gt,if_pos rfl]⟩
 ·rw [gt] at h1 h2;split at h1
  ·rename_i q1;split at h2
   ·rename_i q2;omega
   ·cases h1;have:=l.lt i' _ h2;omega
  ·split at h2
   ·cases h2;have:=l.lt i _ h1;omega
   ·exact l.un i i' k h1 h2
 ·rw [gt] at h1;split at h1
  ·rename_i q;cases h1;rw [List.getElem?_append_right (by omega),Nat.sub_self] at h2;cases h2;exact ⟨m,by rw [← hj,q],λx hx=>on _ N6 (m3 x hx)⟩
  ·have kl:=l.lt i k h1;rw [List.getElem?_append_left kl] at h2;obtain ⟨m',w1,w2⟩:=l.wy i k h' h1 h2;exact ⟨m',w1,λx hx=>on _ N6 (w2 x hx)⟩
def Lay.start (M:Nat):Lay M (Array.replicate (M+1) none) []:=by
 have g:∀ j k:Nat,¬ (Array.replicate (M+1) (none:Option Nat))[j]?=some (some k):=λj k h=>by
  rw [Array.getElem?_replicate] at h;split at h<;>cases h
 exact ⟨by simp,λj k h=>absurd h (g j k),λk hk=>absurd hk (by simp),λj j' k h=>absurd h (g j k),λj k h q=>absurd q (g j k)⟩
theorem qaB {M:Nat} (F:KS M):∀ (hs r:List Int) (ow:Array (Option Nat)),Lay M ow r->r.length+hs.length<=M+1 ->
  ∃ ow',hs.foldl (λacc h=>do
   let (owner,k)←acc
   let j←layClean.free M owner (turns M) (bits h%(M+1)) (bits h)
   pure (owner.setIfInBounds j (some k),k+1)) (some (ow,r.length))=some (ow',(r++hs).length)/\Lay M ow' (r++hs)
 |[],r,ow,l,_=>⟨ow,by simp,by simpa using l⟩
 |h::hs,r,ow,l,hl=>by
  rw [length_cons] at hl;obtain ⟨j,h1,h2⟩:=l.next F (by omega) h;have ih:=qaB F hs (r++[h]) _ h2 (by rw [length_append,List.length_singleton];omega);rw [length_append,List.length_singleton,List.append_assoc] at ih;obtain ⟨ow',e1,e2⟩:=ih;refine ⟨ow',?_,e2⟩;rw [List.foldl_cons];simp only [Option.bind_eq_bind,Option.bind_some,h1,Option.pure_def];exact e1
def qiK {M:Nat} (F:KS M) {hs:Array Int} (hl:hs.size<=M+1):∃ ow,layClean M hs=some ow/\Lay M ow hs.toList:=by
 obtain ⟨ow,e1,e2⟩:=qaB F hs.toList [] _ (Lay.start M) (by simpa using hl);refine ⟨ow,?_,by simpa using e2⟩;unfold layClean;rw [← Array.foldl_toList];rw [length_nil] at e1;rw [e1];rfl
def liv (M:Nat) (ow:Array (Option Nat)):List (Nat×Nat):=(List.range (M+1)).filterMap λj=>(ow.getD j none).map (j,·)
def ZN {M:Nat} {ow:Array (Option Nat)} {hs:List Int} (l:Lay M ow hs) {j k:Nat}:(j,k)∈liv M ow↔ow[j]?=some (some k):=by
 unfold liv;rw [List.mem_filterMap];constructor
 ·rintro ⟨x,hx,e⟩;obtain ⟨k',e1,e2⟩:=u9 e;cases e2;have:=mem_range.mp hx;have:j<ow.size:=by rw [l.sz];exact this
  have z:ow.getD j none=ow[j]:=by simp [Array.getD,this]
  rw [Array.getElem?_eq_getElem this,← z,e1]
 ·intro e;obtain ⟨h1,h2⟩:=Array.getElem?_eq_some_iff.mp e;refine ⟨j,mem_range.mpr (by rw [← l.sz];exact h1),?_⟩;have z:ow.getD j none=ow[j]:=by simp [Array.getD,h1]
  rw [z,h2];rfl
def qdl (M:Nat) (ow:Array (Option Nat)):((liv M ow).map (·.1)).Pairwise (·<·):=by
 unfold liv;rw [List.pairwise_map,List.pairwise_filterMap];refine List.Pairwise.imp (λ{a b} hab x hx y hy=>?_) List.pairwise_lt_range;obtain ⟨_,_,rfl⟩:=u9 hx;obtain ⟨_,_,rfl⟩:=u9 hy;exact hab
def qkA {l:List Nat} (h:l.Pairwise (·<·)):Up l.toArray:=by
 intro a b hab hb;have hb':b<l.length:=by simpa using hb
 have:=List.pairwise_iff_getElem.mp h a b (by omega) hb' hab;simpa [Array.getD,hb',show a<l.length by omega] using this
def SW {M:Nat} {ow:Array (Option Nat)} {hs:List Int} (l:Lay M ow hs):((liv M ow).map (·.2)).Perm (List.range hs.length):=by
 have nd:((liv M ow).map (·.2)).Nodup:=by
  rw [List.nodup_iff_pairwise_ne,List.pairwise_map];have u:=qdl M ow;rw [List.pairwise_map] at u;refine List.Pairwise.imp_of_mem (λ{a b} ha hb hab e=>?_) u;obtain ⟨a1,a2⟩:=a;obtain ⟨b1,b2⟩:=b;simp only at e hab;subst e;have:=l.un a1 b1 a2 ((ZN l).mp ha) ((ZN l).mp hb);omega
 refine (List.perm_ext_iff_of_nodup nd List.nodup_range).mpr λk=>?_;rw [mem_range,mem_map];constructor
 ·rintro ⟨⟨j,k'⟩,hq,rfl⟩;exact l.lt j _ ((ZN l).mp hq)
 ·intro hk;obtain ⟨j,hj⟩:=l.ex k hk;exact ⟨(j,k),(ZN l).mpr hj,rfl⟩
def qe3 {M f mv:Nat} {led pl:Bool} {ow:Array (Option Nat)} {hs:List Int} (F:KS M) (od:M%2=1) (l:Lay M ow hs) (hl:hs.length<=M) :
  Ok8 { mask:=M,place:=((liv M ow).map (·.1)).toArray,dummies:=#[],finger:=f,led:=led,moves:=mv,plain:=pl } (((liv M ow).map (·.2)).map λk=>hs.getD k 0):=by
 have pm:=SW l;have ll:(liv M ow).length=hs.length:=by have:=pm.length_eq;simpa using this
 have up:Up ((liv M ow).map (·.1)).toArray:=qkA (qdl M ow);have at_:∀ (i j:Nat),((liv M ow).map (·.1)).toArray[i]?=some j->∃ k,(liv M ow)[i]?=some (j,k):=λi j h=>by
  rw [CF,getElem?_map] at h;obtain ⟨⟨a,b⟩,e1,e2⟩:=u9 h;exact ⟨b,by rw [e1];simp only at e2;rw [e2]⟩
 refine ⟨up,rfl,by simp [ll],by simp [ll];exact hl,λi j h=>?_,F,od,λi j h h1 h2=>?_⟩
 ·obtain ⟨k,hk⟩:=at_ i j h;have:=(ZN l).mp (v9 hk);have:=(Array.getElem?_eq_some_iff.mp this).1;rw [l.sz] at this;simp only;omega
 ·obtain ⟨k,hk⟩:=at_ i j h1;have o1:=(ZN l).mp (v9 hk);rw [getElem?_map,getElem?_map,hk] at h2;simp only [Option.map_some,Option.some.injEq] at h2;have kl:=l.lt j k o1;obtain ⟨m,m1,m2⟩:=l.wy j k h o1 (by rw [← h2,getD_eq_getElem?_getD,y9 kl];rfl);refine ⟨m,m1,λx hx=>?_⟩;have n1:=m2 x hx;have jl:(pth M h x).j<ow.size:=by rw [l.sz];have:=N6 (M:=M) (h:=h) (n:=x);omega
  cases q:own ow (pth M h x).j with
  |none=>exact absurd q n1
  |some k'=>
   have o2:ow[(pth M h x).j]?=some (some k'):=by rw [YY jl,q]
   obtain ⟨i',hi'⟩:=List.mem_iff_getElem?.mp ((ZN l).mpr o2);have:((liv M ow).map (·.1)).toArray[i']?=some (pth M h x).j:=by rw [CF,getElem?_map,hi'];rfl
   rw [VX (t:={ mask:=M,place:=((liv M ow).map (·.1)).toArray,dummies:=#[],finger:=f,led:=led,moves:=mv,plain:=pl }) up this];exact λz=>by cases z
end Tb8
namespace Tb8
open PySem PyProof.Rows PySem.SetTable
section
variable {prog:Program} {w:World} {A:Around} {E:Value->Shared->Prop} {s:Shared}
def WQ {α β:Type} {l:List α} {f:α->β} {g:α->Option β}:(∀ x∈l,g x=some (f x))->l.filterMap g=l.map f:=by
 induction l with
 |nil=>intro _;rfl
 |cons x r ih=>
  intro h;rw [List.filterMap_cons,h x (by simp),map_cons,ih λy hy=>h y (by simp [hy])]
def Gd (t:SetTable) (n:Nat):Prop:=(t.mask=7/\n<=4)\/(t.mask=31/\n<=18)\/(t.mask=127/\n<=76)\/(t.mask=511/\n<=306)
end
theorem Ok8.fits {t:SetTable} {hs:List Int} (o:Ok8 t hs):t.fits hs.length=true:=by
 have c:t.fill=t.place.size:=by unfold SetTable.fill;rw [o.dm];rfl
 unfold SetTable.fits;rw [c,o.sz];simp [o.fl]
def MG {t:SetTable} {hs:List Int} (o:Ok8 t hs) (h:Int) (tm:t.mask<=511):∃ e,t.freeSlot h=some ((pth t.mask h e).j,false)/\t.slot (pth t.mask h e).j=.empty/\∀ k,k<e->t.slot (pth t.mask h k).j≠.empty:=by
 obtain ⟨e,e0,e1,e2⟩:=K7 (t:=t) (h:=h) o.fu o.up o.dm (by have:=o.sz;have:=o.fl;omega);refine ⟨e,?_,e1,e2⟩;unfold SetTable.freeSlot SetTable.probe;have h0:t.probeStart h=pth t.mask h 0:=rfl;have ev:∀ k,k<e->∃ i,t.slot (pth t.mask h (0+k)).j=.live i/\((λ_:Nat=>h+1) i==h)=false:=λk hk=>by
  rw [Nat.zero_add];rcases MJ o.up o.dm (pth t.mask h k).j with ⟨z,_⟩|⟨i,z,_⟩
  ·exact absurd z (e2 k hk)
  ·exact ⟨i,z,by show (h+1==h)=false;rw [beq_eq_false_iff_ne];omega⟩
 have g:=LR (t:=t) (hA:=λ_=>h+1) (h:=h) e (10*turns t.mask) 0 ev (by omega);rw [h0,g,Nat.zero_add,qbr e1 (by omega)];rfl
def qfD {t:SetTable} {hs:List Int} (o:Ok8 t hs) {es:Array (Int×Value)} (ez:es.size=hs.length) (h:Int) (x:Value) (tm:t.mask<=511) (hf:hs.length+1<=t.mask) :
  ∃ p t1,layNew t es h x=(insertAt es p (h,x),t1,false,false)/\p<=hs.length/\Ok8 t1 (ins hs p h)/\t1.mask=t.mask/\t1.led=t.led/\t1.plain=t.plain:=by
 obtain ⟨e,e1,e2,e3⟩:=MG o h tm;obtain ⟨pl,ok1,mk1⟩:=o.put (h:=h) e2 N6 hf ⟨e,rfl,λk hk=>e3 k hk⟩;refine ⟨(t.put (pth t.mask h e).j).2,(t.put (pth t.mask h e).j).1,?_,pl,ok1,mk1,rfl,rfl⟩;have il:(ins hs (t.put (pth t.mask h e).j).2 h).length=hs.length+1:=JT pl;have iz:(insertAt es (t.put (pth t.mask h e).j).2 (h,x)).size=hs.length+1:=by
  rw [← Array.length_toList,Q5 _ _ _ (by rw [ez];exact pl),JT (by simpa [ez] using pl),Array.length_toList,ez]
 have ft:(t.put (pth t.mask h e).j).1.fits (insertAt es (t.put (pth t.mask h e).j).2 (h,x)).size=true:=by
  rw [iz,← il];exact ok1.fits
 unfold layNew;rw [e1];simp only;unfold SetTable.orStandIn;rw [ft];rfl
def TQ {α β:Type} {f:α->β} {l:List β} {r:List α} (h:l.Perm (r.map f)):∃ r':List α,l=r'.map f/\r'.Perm r:=by
 generalize e:r.map f=m at h;induction h generalizing r with
 |nil=>cases r with
  |nil=>exact ⟨[],rfl,.nil⟩
  |cons a r=>cases e
 |cons x _ ih=>cases r with
  |nil=>cases e
  |cons a r=>
   obtain ⟨e1,e2⟩:=List.cons.inj e;obtain ⟨r',a1,a2⟩:=ih e2;exact ⟨a::r',by rw [map_cons,e1,a1],a2.cons _⟩
 |swap x y l=>match r,e with
  |a::b::r,e=>
   obtain ⟨e1,e2⟩:=List.cons.inj e;obtain ⟨e3,e4⟩:=List.cons.inj e2;exact ⟨b::a::r,by rw [map_cons,map_cons,e1,e3,e4],.swap ..⟩
 |trans _ _ ih1 ih2=>
  obtain ⟨r1,a1,a2⟩:=ih2 e;obtain ⟨r2,b1,b2⟩:=ih1 a1.symm;exact ⟨r2,b1,b2.trans a2⟩
def MX {t:SetTable} {es:Array (Int×Value)} {n M:Nat} (hM:sizeAbove n-1=M) (F:KS M) (od:M%2=1) (hl:es.size<=M) :
  ∃ es' t',relayAll t es n=(es',t',false)/\es'.toList.Perm es.toList/\Ok8 t' (es'.toList.map (·.1))/\t'.mask=M/\t'.led=t.led/\t'.plain=t.plain:=by
 obtain ⟨ow,c1,c2⟩:=qiK F (hs:=es.map (·.1)) (by simpa using (by omega:es.size<=M+1));have pm:((liv M ow).map (·.2)).Perm (List.range es.size):=by have:=SW c2;simpa using this
 have ok:=qe3 (f:=t.finger) (mv:=t.movedTo M) (led:=t.led) (pl:=t.plain) F od c2 (by simpa using hl);have e1:t.relaid (es.map (·.1)) n=some ({ mask:=M,place:=((liv M ow).map (·.1)).toArray,dummies:=#[],finger:=t.finger,led:=t.led,moves:=t.movedTo M,plain:=t.plain },((liv M ow).map (·.2)).toArray):=by
  unfold SetTable.relaid SetTable.laid;rw [hM,c1];rfl
 obtain ⟨ord,ho⟩:∃ ord,ord=((liv M ow).map (·.2)).toArray:=⟨_,rfl⟩
 have pm':ord.toList.Perm (List.range es.size):=by rw [ho];simpa using pm
 obtain ⟨es',he'⟩:∃ es',es'=ord.filterMap (es[·]?):=⟨_,rfl⟩
 have gl:∀ k∈ord.toList,k<es.size:=λk hk=>mem_range.mp (pm'.mem_iff.mp hk);have hes:es'.toList=ord.toList.map λk=>es.getD k (0,.none):=by
  rw [he',Array.toList_filterMap];exact WQ λk hk=>by simp [Array.getD,gl k hk]
 have pe:es'.toList.Perm es.toList:=by
  rw [hes];refine (pm'.map _).trans ?_;have:(List.range es.size).map (λk=>es.getD k (0,.none))=es.toList:=by
   refine List.ext_getElem (by simp) λi h1 h2=>?_;have:i<es.size:=by simpa using h2
   simp [Array.getD,this]
  rw [this]
 have ez:es'.size=es.size:=by rw [← Array.length_toList,pe.length_eq,Array.length_toList]
 have hh:es'.toList.map (·.1)=((liv M ow).map (·.2)).map λk=>(es.map (·.1)).toList.getD k 0:=by
  rw [hes,ho,map_map];refine List.map_congr_left λk hk=>?_;have:=gl k (by rw [ho];exact hk);simp [Array.getD,getD_eq_getElem?_getD,this]
 rw [← hh] at ok;refine ⟨es',_,?_,pe,ok,rfl,rfl,rfl⟩;have ft:=ok.fits;rw [length_map,Array.length_toList] at ft;have cv:coversAll ord es.size=true:=by unfold coversAll;exact List.isPerm_iff.mpr pm'
 unfold relayAll;rw [e1];simp only;rw [← ho,← he',cv,ft];rfl
section
variable {prog:Program} {w:World} {A:Around} {E:Value->Shared->Prop} {s:Shared}
structure IS (prog:Program) (w:World) (h:Heap) (S:Addr) (en:List (Int×Value)) (ld:Bool) (o:Obj) (es:Array (Int×Value)) (ep:Nat) (t:SetTable):Prop where
 ho:h.get? S=some o
 hc:o.ExactSet
 hd:o.data=.set es ep t
 he:es.toList=en.map λq=>((intKind prog w).hash q.1,q.2)
 hI:∀ q∈en,(intKind prog w).is q.1 q.2=true/\q.2.scannable=true
 ok:Ok8 t (en.map λq=>(intKind prog w).hash q.1)
 nd:(en.map (·.1)).Nodup
 ld:t.led=ld
 pl:t.plain=true
section
variable {h:Heap} {S:Addr} {en:List (Int×Value)} {ld:Bool} {o:Obj} {es:Array (Int×Value)} {ep:Nat} {t:SetTable}
def IS.sz (p:IS prog w h S en ld o es ep t):es.size=en.length:=by
 have:=congrArg List.length p.he;simpa using this
theorem IS.fits (p:IS prog w h S en ld o es ep t):t.fits es.size=true:=by
 have:=p.ok.fits;rw [length_map] at this;rw [p.sz];exact this
def IS.el (p:IS prog w h S en ld o es ep t):ElemsOf (intKind prog w) es.toList:=λe he=>by
 rw [p.he] at he;obtain ⟨q,hq,rfl⟩:=mem_map.mp he;exact ⟨⟨q.1,(p.hI q hq).1,rfl⟩,(p.hI q hq).2⟩
def IS.store (p:IS prog w h S en ld o es ep t) {es':Array (Int×Value)} {en':List (Int×Value)} {t':SetTable} (he:es'.toList=en'.map λq=>((intKind prog w).hash q.1,q.2)) (hI:∀ q∈en',(intKind prog w).is q.1 q.2=true/\q.2.scannable=true) (ok:Ok8 t' (en'.map λq=>(intKind prog w).hash q.1)) (nd:(en'.map (·.1)).Nodup) (l:t'.led=ld) (pl:t'.plain=true) :
  ∃ o',IS prog w (h.update S (Obj.putSet es' t')) S en' ld o' es' (ep+1) t':=by
 have hp:Obj.putSet es' t' o={ o with data:=.set es' (ep+1) t' }:=by
  obtain ⟨c,d,da,sl⟩:=o;have hd:da=.set es ep t:=p.hd;subst hd;rfl
 have hg:(h.update S (Obj.putSet es' t')).get? S=some { o with data:=.set es' (ep+1) t' }:=by
  have:=Heap.get?_update_self (Obj.putSet es' t') p.ho (by rw [hp];rfl);rw [hp] at this;exact this
 exact ⟨_,hg,p.hc,rfl,he,hI,ok,nd,l,pl⟩
def IS.keep {h':Heap} (p:IS prog w h S en ld o es ep t) (k:h'.get? S=some o):IS prog w h' S en ld o es ep t:=⟨k,p.hc,p.hd,p.he,p.hI,p.ok,p.nd,p.ld,p.pl⟩
end
def qfC {k k':Int} {v:Value} (h:(intKind prog w).is k v=true) (h':(intKind prog w).is k' v=true):k=k':=by
 obtain ⟨t,rfl⟩:=SJ h;obtain ⟨t',e⟩:=SJ h';cases e;rfl
def qmW {S:Addr} {en:List (Int×Value)} {ld:Bool} {o:Obj} {es:Array (Int×Value)} {ep:Nat} {t:SetTable} {k:Int} {x:Value} {Q:Bool->Shared->Prop} (p:IS prog w s.heap S en ld o es ep t) (g:Gd t en.length) (hn:en.length<306) (hk:(intKind prog w).is k x=true) (hsc:x.scannable=true)
  (h:∀ b h' en' o' es' ep' t',IS prog w h' S en' ld o' es' ep' t'->Gd t' en'.length->(∀ x,x∈en'.map (·.1)↔x∈en.map (·.1)\/x=k)->en'.length<=en.length+1->Heap.SameBut S s.heap h'->Q b { s with heap:=h' }) :
  wpAny (model prog w) A (setAddHashed S x ((intKind prog w).hash k)) Q E s:=by
 have tm:t.mask<=511:=by rcases g with g|g|g|g<;>omega
 have hb:es.size<scanBound:=by rw [p.sz];unfold scanBound;omega
 unfold setAddHashed setAddHashedIn;refine wpAny_holding (x8 (wpAny_setState_of p.ho p.hd p.fits ?_));dsimp only;rw [byScan_of hsc hb p.el];simp only [↓reduceIte];unfold setAddByScan;refine x8 ?_;refine x8 (wpAny_rule ?_);refine x8 (wpAny_setScan_of hk p.ho p.hd p.fits p.el ?_);cases hr:List.findIdx? (λe=>(intKind prog w).is k e.2) es.toList with
 |some j=>
  dsimp only;obtain ⟨hj,hpj,_⟩:=List.findIdx?_eq_some_iff_getElem.mp hr;have hm:∀ y,y∈es.toList->y∈en.map λq=>((intKind prog w).hash q.1,q.2):=λy hy=>by rw [← p.he];exact hy
  obtain ⟨q,hq,e⟩:=mem_map.mp (hm _ (List.getElem_mem hj));have e2:(es.toList[j]).2=q.2:=by rw [← e]
  rw [e2] at hpj;have:q.1=k:=qfC (p.hI q hq).1 hpj;have hin:k∈en.map (·.1):=mem_map.mpr ⟨q,hq,this⟩;refine x9 (x9 ?_);have e:s={ s with heap:=s.heap }:=by cases s;rfl
  rw [e];exact h _ s.heap en o es ep t p g (λx=>⟨.inl,λz=>z.elim id λz=>z▸hin⟩) (by omega) (.refl ..)
 |none=>
  dsimp only;have hin:k∉en.map (·.1):=λz=>by
   obtain ⟨q,hq,rfl⟩:=mem_map.mp z;have:=List.findIdx?_eq_none_iff.mp hr ((intKind prog w).hash q.1,q.2) (by rw [p.he];exact mem_map.mpr ⟨q,hq,rfl⟩);rw [(p.hI q hq).1] at this;cases this
  have hgw:∀ (b:Bool) {s₁:Shared} {Q':Unit->Shared->Prop},Q' () s₁->wpAny (model prog w) A (match b with|true=>rule "set.scan.the-table-gave-way" |false=>pure ()) Q' E s₁:=
   λb s₁ Q' hq=>by cases b<;>first|exact x9 hq|exact wpAny_rule hq
  obtain ⟨pp,t1,eL,pl,ok1,mk1,ld1,pl1⟩:=qfD p.ok (es:=es) (by rw [length_map];exact p.sz) ((intKind prog w).hash k) x tm (by rw [length_map];rcases g with g|g|g|g<;>omega);rw [length_map] at pl;rw [eL];dsimp only;have hes:(insertAt es pp ((intKind prog w).hash k,x)).toList=(ins en pp (k,x)).map λq=>((intKind prog w).hash q.1,q.2):=by
   rw [Q5 _ _ _ (by rw [p.sz];exact pl),p.he];unfold ins;rw [List.map_append,map_cons,List.map_take,List.map_drop]
  have hhs:(ins en pp (k,x)).map (λq=>(intKind prog w).hash q.1)=ins (en.map λq=>(intKind prog w).hash q.1) pp ((intKind prog w).hash k):=by
   unfold ins;rw [List.map_append,map_cons,List.map_take,List.map_drop]
  have pm:(ins en pp (k,x)).Perm ((k,x)::en):=by
   unfold ins;refine List.perm_middle.trans ?_;rw [List.take_append_drop]
  have il:(ins en pp (k,x)).length=en.length+1:=JT pl;have hI:∀ q∈ins en pp (k,x),(intKind prog w).is q.1 q.2=true/\q.2.scannable=true:=λq hq=>by
   rcases mem_cons.mp (pm.mem_iff.mp hq) with rfl|z
   ·exact ⟨hk,hsc⟩
   ·exact p.hI q z
  have nd:((ins en pp (k,x)).map (·.1)).Nodup:=by
   rw [(pm.map _).nodup_iff,map_cons,List.nodup_cons];exact ⟨hin,p.nd⟩
  have mem:∀ y,y∈(ins en pp (k,x)).map (·.1)↔y∈en.map (·.1)\/y=k:=λy=>by
   rw [(pm.map _).mem_iff,map_cons,mem_cons];exact ⟨λz=>z.elim .inr .inl,λz=>z.elim .inr .inl⟩
  rw [← hhs] at ok1;obtain ⟨o',q⟩:=p.store (t':=t1) hes hI ok1 nd (ld1.trans p.ld) (pl1.trans p.pl);have iz:(insertAt es pp ((intKind prog w).hash k,x)).size=en.length+1:=by rw [← Array.length_toList,hes,length_map,il]
  refine x8 (hgw false ?_);have pt:t1.plain=true:=pl1.trans p.pl;rw [pt];simp only [if_true];refine x8 ?_;rw [hashByValue_scannable 8 hsc];refine x9 ?_;have pk:plainKind x=true:=by obtain ⟨t,rfl⟩:=SJ hk;rfl
  rw [pk];simp only [if_true];refine x8 (wpAny_storeSet_of p.ho p.hd ?_ (by rw [iz,y8];omega));have fl:t1.fill=en.length+1:=by
   have z:=ok1.sz;rw [length_map,il] at z;unfold SetTable.fill;rw [ok1.dm,z];rfl
  have tf:t1.tooFull=decide ((en.length+1)*5 ≥ t.mask*3):=by
   unfold SetTable.tooFull;rw [fl,mk1]
  rw [tf];by_cases c:(en.length+1)*5 ≥ t.mask*3
  ·rw [u8 c];simp only [Bool.not_false,Bool.and_self,if_true];have n5:∃ M,sizeAbove (grown (en.length+1))-1=M/\KS M/\M%2=1/\en.length+1<=M/\((M=31/\en.length+1<=18)\/(M=127/\en.length+1<=76)\/(M=511/\en.length+1<=306)):=by
    have:(en.length=4/\t.mask=7)\/(en.length=18/\t.mask=31)\/(en.length=76/\t.mask=127):=by rcases g with g|g|g|g<;>omega
    rcases this with z|z|z
    ·exact ⟨31,by rw [z.1];rfl,qim,rfl,by omega,.inl ⟨rfl,by omega⟩⟩
    ·exact ⟨127,by rw [z.1];rfl,qeh,rfl,by omega,.inr (.inl ⟨rfl,by omega⟩)⟩
    ·exact ⟨511,by rw [z.1];rfl,qee,rfl,by omega,.inr (.inr ⟨rfl,by omega⟩)⟩
   obtain ⟨M,hM,F,od,hl,gd⟩:=n5;obtain ⟨es2,t2,e2,pe,ok2,mk2,ld2,pl2⟩:=MX (t:=t1) (es:=insertAt es pp ((intKind prog w).hash k,x)) (n:=grown (insertAt es pp ((intKind prog w).hash k,x)).size) (M:=M) (by rw [iz];exact hM) F od (by rw [iz];exact hl);rw [e2];dsimp only;rw [hes] at pe;obtain ⟨en2,he2,pe2⟩:=TQ pe;have ez2:es2.size=en.length+1:=by rw [← Array.length_toList,pe.length_eq,length_map,il]
   rw [he2,map_map] at ok2;obtain ⟨o2,q2⟩:=q.store (t':=t2) he2 (λy hy=>hI y (pe2.mem_iff.mp hy)) ok2 ((pe2.map _).nodup_iff.mpr nd) (ld2.trans (ld1.trans p.ld)) (pl2.trans (pl1.trans p.pl));refine x8 (hgw false ?_);refine x8 (wpAny_storeSet_of q.ho q.hd ?_ (by rw [ez2,y8];omega));refine x9 (x9 (h _ _ _ _ _ _ _ q2 ?_ (λy=>by rw [(pe2.map _).mem_iff];exact mem y) (by rw [pe2.length_eq,il];exact v5 _) ((Heap.SameBut.update ..).trans (.update ..))));unfold Gd;rw [mk2,pe2.length_eq,il];rcases gd with gd|gd|gd
   ·exact .inr (.inl gd)
   ·exact .inr (.inr (.inl gd))
   ·exact .inr (.inr (.inr gd))
  ·rw [u7 c];simp only [Bool.not_false,Bool.and_false,Bool.false_eq_true,if_false];refine x9 (x9 (h _ _ _ _ _ _ _ q ?_ mem (by rw [il];exact v5 _) (.update ..)));unfold Gd;rw [mk1,il];rcases g with g|g|g|g<;>omega
end
def cnt (key:Nat->List Int):Nat->Nat
 |0=>0
 |j+1=>if ∃ i,i<j/\key i=key j then cnt key j else cnt key j+1
section
variable {prog:Program} {w:World} {A:Around} {R:Result->Shared->Prop} {I:Addr} {fp wr:List Addr} {n:Nat} {P:Nat->Value->Prop} {St:Nat->Heap->Prop}
end
section
variable {prog:Program} {w:World} {A:Around} {E:Value->Shared->Prop} {s:Shared}
end
end Tb8
namespace L3
open PySem PySem.Spec PyProof.Rows L2
section
variable {X:Cx}
end
end L3
namespace Tb8
open PySem PyProof.Rows PySem.SetTable
section
variable {prog:Program} {w:World} {A:Around} {E:Value->Shared->Prop} {s:Shared}
end
end Tb8
namespace L3
open PySem PySem.Spec PyProof.Rows L2
section
variable {X:Cx}
end
end L3
namespace Tb8
open PySem PyProof.Rows PySem.SetTable
abbrev EC (w:World):Bool:=!w.params.followText "set-order"
def qjD (prog:Program) (w:World) (h:Heap) (S:Addr) (M:Int->Prop):Prop:=∃ en o es ep t,IS prog w h S en (EC w) o es ep t/\en.length<=306/\∀ x,x∈en.map (·.1)↔M x
section
variable {prog:Program} {w:World} {A:Around} {R:Result->Shared->Prop} {I:Addr} {fp wr:List Addr} {n:Nat} {P:Nat->Value->Prop} {St:Nat->Heap->Prop}
def qli (W:Walks prog w A.in1 I fp wr n P St) (val:Nat->Int) (hval:∀ i v,P i v->∃ t,v=.int (val i) t) (S:Addr) (hSf:S∉fp) (hn:n<=306) :
  ∀ (k j:Nat) (s:Shared) (en:List (Int×Value)) (o:Obj) (es:Array (Int×Value)) (ep:Nat) (t:SetTable),n-j=k->j<=n->St j s.heap->IS prog w s.heap S en (EC w) o es ep t->Gd t en.length ->
  (∀ x,x∈en.map (·.1)↔∃ i,i<j/\val i=x)->en.length<=j ->
  (∀ h' tk,qjD prog w h' S (λx=>∃ i,i<n/\val i=x)->(∀ b o,b∉wr->b≠S->s.heap.get? b=some o->h'.get? b=some o)->R (.ok (.ret .none)) { s with heap:=h',toks:=tk }) ->
  codeAny (model prog w) A (.builtin "set.update.loop" ⟨[.ref S,.ref I],[]⟩) R s:=by
 have hSw:S∉wr:=λh=>hSf (W.sub _ h);intro k;induction k with
 |zero=>
  intro j s en o es ep t hk hj hst p g hm hc hR;obtain rfl:j=n:=by omega
  refine codeAny_builtin F.entry_set_update_loop ?_;rw [Around.under_plainId F.plain_set_update_loop _];show wpAny _ A.in1 (pyNext (.ref I) >>= _) _ _ s;refine x8 (W.done s _ _ hst λh' tk kp=>?_);show wpAny _ A.in1 (ret Value.none) _ _ _;exact x9 (hR h' tk ⟨en,o,es,ep,t,p.keep (kp S _ hSw p.ho),by omega,hm⟩ λb o hb _ e=>kp b o hb e)
 |succ k ih=>
  intro j s en o es ep t hk hj hst p g hm hc hR;have lt:j<n:=by omega
  refine codeAny_builtin F.entry_set_update_loop ?_;rw [Around.under_plainId F.plain_set_update_loop _];show wpAny _ A.in1 (pyNext (.ref I) >>= _) _ _ s;refine x8 (W.item j s _ _ lt hst λv h' tk hv hst' kp=>?_);obtain ⟨tt,rfl⟩:=hval j v hv;have p':IS prog w h' S en (EC w) o es ep t:=p.keep (kp S _ hSw p.ho);show wpAny _ A.in1 (holding [Value.int (val j) tt] (setAdd S (.int (val j) tt)) >>= _) _ _ _;refine x8 (wpAny_holding ?_);unfold setAdd;refine wpAny_holding ?_;refine x8 ((intKind prog w).pyHash (k:=val j) (intKind_is _ _ _ _) ?_);refine qmW (s:={ s with heap:=h',toks:=tk+1 }) p' g (by omega) (intKind_is _ _ _ _) rfl λb h'' en' o' es' ep' t' q g' mem l1 sb=>?_;refine x9 ⟨plainId_quiet F.plain_set_update_loop _,ih (j+1) _ en' o' es' ep' t' (by omega) lt (W.frame _ _ _ hst' λb hb o e=>?_) q g' (λx=>?_) (by omega) λh3 tk3 hS3 kp3=>?_⟩
  ·exact (sb.2 b (λz:b=S=>hSf (by rw [← z];exact hb))).trans e
  ·rw [mem,hm];constructor
   ·rintro (⟨i,h1,h2⟩|rfl)
    ·exact ⟨i,by omega,h2⟩
    ·exact ⟨j,by omega,rfl⟩
   ·rintro ⟨i,h1,h2⟩;rcases Nat.lt_or_ge i j with z|z
    ·exact .inl ⟨i,z,h2⟩
    ·obtain rfl:i=j:=by omega
     exact .inr h2.symm
  ·exact hR h3 tk3 hS3 λb o hb hbS e=>kp3 b o hb hbS ((sb.2 b hbS).trans (kp b o hb e))
end
section
variable {prog:Program} {w:World} {A:Around} {E:Value->Shared->Prop} {s:Shared}
def qbP (a:Value) {Q₁:Value->Shared->Prop} (h:Q₁ (.ref s.heap.objs.size) { s with heap:=s.heap.push (HT.oS (EC w)) }) :
  codeAny (model prog w) A (.call (.builtin "set.__new__") ⟨[.type "set",a],[]⟩) (wants Q₁ E) s:=by
 refine codeAny_of_tree ?_;show wpAny _ A.in1 (do checkBuiltinCall "set.__new__" ⟨[.type "set",a],[]⟩;again (.builtin "set.__new__" ⟨[.type "set",a],[]⟩)) _ _ s;refine x8 (wpAny_of_eq (F.newCall_set_1 a) (x9 ⟨plainId_quiet F.plain_set_new _,codeAny_builtin F.entry_set_new ?_⟩));rw [Around.under_plainId F.plain_set_new _];unfold Builtin.«set.__new__» Builtin.Frozenset.newClass;have hsub:=sub_set_self;obtain ⟨hp,g,d,tk,os⟩:=s;dsimp only
 wp_walk
 refine wpAny_askSetting (x9 ?_);dsimp only;simp only [newObj];refine x8 (wpAny_alloc (x9 ?_));exact x9 h
theorem qaT:∀ {vs:List Value} {ns:List Int},IntsAre vs ns->∀ {i:Nat} {v:Value},vs[i]?=some v->∃ t,v=.int (ns.getD i 0) t
 |_,_,.nil,i,v,e=>by simp at e
 |_,_,.cons n t h,0,v,e=>by cases e;exact ⟨t,rfl⟩
 |_,_,.cons n t h,i+1,v,e=>qaT h (i:=i) (by simpa using e)
def qkB {l:Addr} {vs:Array Value} {ns:List Int} {Q:PySem.Fin->Shared->Prop} {E':Value->Shared->Prop} (hh:A.handled=none) (hl:s.heap.IsList l vs) (hi:IntsAre vs.toList ns) (hb:vs.size<=306)
  (h:∀ h' tk,qjD prog w h' s.heap.objs.size (·∈ns)->(∀ b o,b<s.heap.objs.size->s.heap.get? b=some o->h'.get? b=some o)->wpAny (model prog w) A (ret Value.none) Q E' { s with heap:=h',toks:=tk }) :
  wpAny (model prog w) A (Builtin.«set.__init__» ⟨[.ref s.heap.objs.size,.ref l],[]⟩) Q E' { s with heap:=s.heap.push (HT.oS (EC w)) }:=by
 have len:=hi.length;have sv:ns.length=vs.size:=by simp at len;omega
 have at_:∀ (i:Nat) v,vs[i]?=some v->∃ t,v=.int (ns.getD i 0) t:=λi v e=>qaT hi (by rw [CF] at e;exact e);obtain ⟨⟨oc,od,da,os⟩,hg,hc,nl,hd⟩:=id hl;simp only at hc hd;subst hc hd;have hS:(s.heap.push (HT.oS (EC w))).get? s.heap.objs.size=some (HT.oS (EC w)):=y3 _ rfl;have hg':(s.heap.push (HT.oS (EC w))).get? l=some { cls:=.type "list",dict:=od,data:=.seq vs nl,slots:=os }:=y2 _ hg;have h1:=F.sub_list_set;have h2:=F.sub_list_frozenset;have ne:(Value.type "list" == Value.type "dict")=false:=by decide
 have hl1:=hl.push (HT.oS (EC w));unfold Builtin.«set.__init__» noKeywords Builtin.Frozenset.updateFrom;generalize hPI:pyIter=PI
 wp_walk
 subst hPI;refine wpAny_pyIter_list hl1 ?_;refine x8 (wpAny_runValue ?_);have ll:l<s.heap.objs.size:=y4 hg;have sz:(s.heap.push (HT.oS (EC w))).objs.size=s.heap.objs.size+1:=Heap.size_push ..;refine qli (Walks.list (show A.in1.handled=none by simp [hh]) (s.heap.push (HT.oS (EC w))).objs.size l (by rw [sz];exact u4 (Nat.lt_succ_of_lt ll)) vs) (λi=>ns.getD i 0) at_ s.heap.objs.size
  (by rw [sz];simp only [mem_cons,not_mem_nil,or_false,not_or];exact ⟨u4 (Nat.lt_succ_self _),Nat.ne_of_gt ll⟩) hb vs.size 0 _ [] (HT.oS (EC w)) #[] 0 (.fresh 0 0 (EC w)) rfl (Nat.zero_le _) ⟨⟨_,y3 _ rfl,rfl,rfl⟩,hl1.push _⟩ ?_ (.inl ⟨rfl,Nat.zero_le _⟩) (λx=>?_) (Nat.zero_le _) ?_
 ·exact ⟨y2 _ hS,⟨rfl,rfl,rfl⟩,rfl,rfl,λq hq=>(by cases hq),Ok8.fresh ..,by simp,rfl,rfl⟩
 ·simp
 ·intro h' tk hS' kp;show wpAny _ _ _ _ _ _;obtain ⟨en,o,es,ep,t,q1,q2,q3⟩:=hS';refine x9 (h h' tk ⟨en,o,es,ep,t,q1,q2,λx=>(q3 x).trans ?_⟩ λb o hb e=>kp b o ?_ ?_ (y2 _ (y2 _ e)))
  ·show (∃ i,i<vs.size/\ns.getD i 0=x)↔x∈ns;rw [List.mem_iff_getElem?];constructor
   ·rintro ⟨i,h1,h2⟩;exact ⟨i,by rw [← h2,getD_eq_getElem?_getD,y9 (by omega)];rfl⟩
   ·rintro ⟨i,h1⟩;obtain ⟨h2,h3⟩:=za0 h1;exact ⟨i,by omega,by rw [getD_eq_getElem?_getD,h1];rfl⟩
  ·rw [sz];simp only [mem_cons,not_mem_nil,or_false];exact u4 (Nat.lt_succ_of_lt hb)
  ·exact u4 hb
def NQ {l:Addr} {vs:Array Value} {ns:List Int} {Q:Value->Shared->Prop} (hh:A.handled=none) (hl:s.heap.IsList l vs) (hi:IntsAre vs.toList ns) (hb:vs.size<=306)
  (h:∀ h' tk,qjD prog w h' s.heap.objs.size (·∈ns)->(∀ b o,b<s.heap.objs.size->s.heap.get? b=some o->h'.get? b=some o)->Q (.ref s.heap.objs.size) { s with heap:=h',toks:=tk }) :
  wpAny (model prog w) A (call (.type "set") [.ref l]) Q E s:=by
 have C:=F.called_set;obtain ⟨c,tl,m1⟩:=C.mro;have m2:=C.made;have m3:=C.sub;have m4:=C.notType;have m5:=C.canCreate;have m6:=F.typeCall_set_1 (.ref l);refine wpAny_call (codeAny_of_tree ?_);show wpAny _ _ (callAny (.type "set") _) _ _ _;refine x9 ⟨Code.quiet_builtin _ (by decide +kernel),codeAny_builtin F.entry_type_call ?_⟩;rw [Around.under_plain (weight_type_call_type "set" [.ref l] []) rfl]
 repeat (any_goals (first|assumption|wp_step))
 refine codeAny_mono (qbP (.ref l) (E:=E) (Q₁:=λv s₁=>v=.ref s.heap.objs.size/\s₁={ s with heap:=s.heap.push (HT.oS (EC w)) }) ⟨rfl,rfl⟩) λr s₁ hr=>?_;rcases r with e|f
 ·exact hr
 cases f<;>try exact hr.elim
 obtain ⟨rfl,rfl⟩:=hr;have hT:Shared.TypeIs { s with heap:=s.heap.push (HT.oS (EC w)) } (.ref s.heap.objs.size) "set" := ⟨_,y3 _ rfl,rfl⟩
 have n1:=C.init.lookup;have n2:=C.init.bind (.ref s.heap.objs.size)
 repeat (any_goals (first|assumption|wp_step))
 refine codeAny_mono (codeAny_call_builtin (R:=wants (λr s₂=>r=.none/\∃ h' tk,s₂={ s with heap:=h',toks:=tk }/\qjD prog w h' s.heap.objs.size (·∈ns)/\∀ b o,b<s.heap.objs.size->s.heap.get? b=some o->h'.get? b=some o) E) C.init.plain F.entry_set_init (check_set_init_1 hT (qkB (by simp [hh]) hl hi hb λh' tk hS hk=>x9 ⟨rfl,h',tk,rfl,hS,hk⟩))) λr₂ s₂ hr₂=>?_;rcases r₂ with e|f
 ·exact hr₂
 cases f<;>try exact hr₂.elim
 obtain ⟨rfl,h',tk,rfl,hS,hk⟩:=hr₂
 repeat (any_goals (first|assumption|wp_step))
 exact h _ _ hS hk
end
end Tb8
namespace Tb8
open PySem PyProof.Rows PySem.SetTable PySem.Calls
theorem DK {α:Type}:∀ {l:List α} {i:Nat} (h:i<l.length),(l[i]::l.eraseIdx i).Perm l
 |[],i,h=>absurd h (Nat.not_lt_zero i)
 |a::r,0,h=>.refl _
 |a::r,i+1,h=>(List.Perm.swap ..).trans ((DK (l:=r) (i:=i) (by simpa using h)).cons a)
theorem ME {α:Type} (nx:Nat->Nat):∀ (fuel k:Nat) (l:List α) (out:Array α),l.length<=fuel->(pickOrder.go nx fuel k l out).toList.Perm (out.toList++l)
 |0,k,l,out,h=>by
  have:l=[]:=List.length_eq_zero_iff.mp (by omega);subst this;simp [pickOrder.go]
 |fuel+1,k,l,out,h=>by
  rw [pickOrder.go];cases l with
  |nil=>simp
  |cons a r=>
   have lt:nx k%(a::r).length<(a::r).length:=Nat.mod_lt _ (by simp);rw [y9 lt];simp only;have ih:=ME nx fuel (k+1) ((a::r).eraseIdx (nx k%(a::r).length)) (out.push (a::r)[nx k%(a::r).length]) (by rw [List.length_eraseIdx,if_pos lt];simp at h ⊢;omega);refine ih.trans ?_;rw [Array.toList_push,List.append_assoc];exact List.Perm.append_left _ (DK lt)
def qax {α:Type} (nx:Nat->Nat) (xs:Array α):(pickOrder nx xs).toList.Perm xs.toList:=by
 unfold pickOrder;simpa using ME nx xs.size 0 xs.toList #[] (by simp)
abbrev byT (w:World):Bool:=w.params.followText "set-order"
def wlk (w:World) (S ep:Nat) (es:Array (Int×Value)):Array (Int×Value):=if byT w then pickOrder (w.params.setOrder S ep) es else es
def SM (w:World) (S ep:Nat) (es:Array (Int×Value)):(wlk w S ep es).toList.Perm es.toList:=by
 unfold wlk;split
 ·exact qax _ _
 ·exact .refl _
def SA (w:World) (S ep:Nat) (es:Array (Int×Value)):(wlk w S ep es).size=es.size:=by
 rw [← Array.length_toList,(SM w S ep es).length_eq,Array.length_toList]
def zg:Slot "set_iterator" "__next__" "set_iterator.__next__" :=
 .of (owner:="set_iterator") (n:="__next__") (by rw [typeLookup_type,builtinLookup_eq_fast];kernel_rfl) (by decide +kernel) (by decide +kernel) (by decide +kernel)
  (by first|exact .inl (by decide +kernel)|exact .inr (by decide +kernel)) (by rw [isSubtype_type];kernel_rfl)
def JL:Slot "set_iterator" "__iter__" "set_iterator.__iter__" :=
 .of (owner:="set_iterator") (n:="__iter__") (by rw [typeLookup_type,builtinLookup_eq_fast];kernel_rfl) (by decide +kernel) (by decide +kernel) (by decide +kernel)
  (by first|exact .inl (by decide +kernel)|exact .inr (by decide +kernel)) (by rw [isSubtype_type];kernel_rfl)
def ZJ:entryFor table "set_iterator.__next__" = some Builtin.«set_iterator.__next__»:=entryFor_of_tree (by kernel_rfl)
def JN (a:Value):argsOk "set_iterator.__next__" ⟨[a],[]⟩:=by unfold argsOk;kernel_rfl
def EL:entryFor table "set.__iter__" = some Builtin.«frozenset.__iter__»:=
 entryFor_alias (id':="frozenset.__iter__") (by kernel_rfl) rfl (by decide +kernel) (by kernel_rfl)
section
variable {prog:Program} {w:World} {A:Around} {E:Value->Shared->Prop} {s:Shared}
def oIt (S n ep slot i:Nat):Obj:={ cls:=.type "set_iterator",data:=.fields #[.int slot 0,.int i 0,.ref S,.int n 0,.int ep 0] }
def IS.drawn {S:Addr} {en:List (Int×Value)} {ld:Bool} {o:Obj} {es:Array (Int×Value)} {ep:Nat} {t:SetTable} (p:IS prog w s.heap S en ld o es ep t) {Q:Bool->Shared->Prop} (h:Q false s):wpAny (model prog w) A (setDrawn S) Q E s:=by
 unfold setDrawn setsByText;refine x8 (wpAny_setState_of p.ho p.hd p.fits ?_);dsimp only;refine x8 (x8 (wpAny_askSetting (x9 ?_)));refine x9 ?_;have:(!t.plain&&decide (es.size > 1))=false:=by rw [p.pl];rfl
 show Q (!(byT w)&&(!t.plain&&decide (es.size > 1))) s;rw [this,Bool.and_false];exact h
def qlb {S:Addr} {en:List (Int×Value)} {ld:Bool} {o:Obj} {es:Array (Int×Value)} {ep:Nat} {t:SetTable} (p:IS prog w s.heap S en ld o es ep t) {Q:Value->Shared->Prop}
  (hQ:Q (.ref s.heap.objs.size) { s with heap:=s.heap.push (oIt S es.size ep 0 0) }):wpAny (model prog w) A (pyIter (.ref S)) Q E s:=by
 have hT:s.TypeIs (.ref S) "set" := ⟨o,p.ho,p.hc.1⟩
 refine wpAny_pyIter_slot hT F.slot_set_iter (wpAny_call_entry F.slot_set_iter hT EL ?_ (F.args_set_iter_1 _));unfold Builtin.«frozenset.__iter__» Builtin.Frozenset.slot0 slotArgs;simp only [List.isEmpty_nil,Bool.not_true,Bool.false_eq_true,↓reduceIte,bind_assoc,length_nil,bne_self_eq_false];unfold Builtin.Frozenset.addrOf Builtin.Frozenset.sizeOf;refine x8 (x9 ?_)
 try dsimp only
 refine x8 (x9 ?_);refine x8 (x8 (wpAny_setEntries_of p.ho p.hd p.fits (x9 ?_)));refine x8 (p.drawn ?_);simp only [Bool.false_eq_true,if_false];refine x8 (x9 ?_);refine x8 (wpAny_setEpoch_of p.ho p.hd p.fits ?_);refine x8 (wpAny_newObj_type (x9 ⟨_,rfl,"set_iterator",_,⟨_,y3 _ rfl,rfl⟩,zg.lookup,?_⟩));exact hQ
def TM (w:World) (t:SetTable) (i:Nat):Nat:=if byT w then 0 else if i=0 then 0 else t.place.getD (i-1) 0+1
def KN {t:SetTable} {hs:List Int} (ok:Ok8 t hs) {i:Nat} (hi:i<=hs.length):below t.place (if i=0 then 0 else t.place.getD (i-1) 0+1)=i:=by
 have sz:=ok.sz;have B:=DX (j:=if i=0 then 0 else t.place.getD (i-1) 0+1) ok.up;have le:=B.le;rcases Nat.lt_trichotomy (below t.place (if i=0 then 0 else t.place.getD (i-1) 0+1)) i with c|c|c
 ·have i0:i≠0:=by omega
  have h2:=B.hi _ (v5 _) (by omega);rw [if_neg i0] at h2 c;have:=ok.up.le (a:=below t.place (t.place.getD (i-1) 0+1)) (b:=i-1) (by omega) (by omega);omega
 ·exact c
 ·have h2:=B.lo i c;by_cases i0:i=0
  ·rw [if_pos i0] at h2;omega
  ·rw [if_neg i0] at h2;have:=ok.up (i-1) i (by omega) (by omega);omega
def qg2 {S:Addr} {en:List (Int×Value)} {o:Obj} {es:Array (Int×Value)} {ep:Nat} {t:SetTable} (p:IS prog w s.heap S en (EC w) o es ep t) {i:Nat} (hi:i<=es.size) {Q:Option (Value×Nat)->Shared->Prop}
  (h1:∀ v,(wlk w S ep es)[i]?.map (·.2)=some v->Q (some (v,TM w t (i+1))) s) (h2:i=es.size->Q none s):wpAny (model prog w) A (setNext S (TM w t i) i ep) Q E s:=by
 have ws:=SA w S ep es;have cs:(∃ q,(wlk w S ep es)[i]?=some q)\/i=es.size:=by
  rcases Nat.lt_or_ge i es.size with z|z
  ·exact .inl ⟨_,Array.getElem?_eq_getElem (by omega)⟩
  ·exact .inr (by omega)
 unfold setNext setsByText;refine x8 (wpAny_setState_of p.ho p.hd p.fits ?_);dsimp only;refine x8 (x8 (wpAny_askSetting (x9 ?_)));show wpAny _ _ (if byT w=true then _ else _) _ _ _;cases hb:byT w with
 |true=>
  rw [if_pos rfl];simp only [bne_self_eq_false,Bool.false_eq_true,if_false];unfold setWalk setsByText;refine x8 (x8 (wpAny_setState_of p.ho p.hd p.fits ?_));dsimp only;refine x8 (x8 (wpAny_askSetting (x9 ?_)));show wpAny _ _ (if byT w=true then _ else _) _ _ _;rw [hb,if_pos rfl];refine x8 (wpAny_askSetting (x9 ?_));refine x9 ?_;have ew:wlk w S ep es=pickOrder (w.params.setOrder S ep) es:=by unfold wlk;rw [hb,if_pos rfl]
  show Q (((pickOrder (w.params.setOrder S ep) es)[i]?).map λe=>(e.2,TM w t i)) s;have sl:TM w t i=TM w t (i+1):=by unfold TM;rw [hb,if_pos rfl,if_pos rfl]
  rw [← ew];rcases cs with ⟨q,hq⟩|hq
  ·rw [hq,sl];exact h1 q.2 (by rw [hq];rfl)
  ·rw [Array.getElem?_eq_none (by omega)];exact h2 hq
 |false=>
  rw [if_neg y6];have ew:wlk w S ep es=es:=by unfold wlk;rw [hb,if_neg y6]
  have pl:(!t.plain&&decide (es.size > 1))=false:=by rw [p.pl];rfl
  have ld:t.led=true:=by rw [p.ld];show (!(byT w))=true;rw [hb];rfl
  show wpAny _ _ (if (!t.plain&&decide (es.size > 1))=true then _ else _) _ _ _;rw [pl,if_neg y6];refine x8 ?_;show wpAny _ _ (if (!t.led&&!es.isEmpty)=true then _ else _) _ _ _;rw [ld];simp only [Bool.not_true,Bool.false_and,Bool.false_eq_true,if_false];refine x9 ?_;refine x9 ?_;have hs:TM w t i=if i=0 then 0 else t.place.getD (i-1) 0+1:=by unfold TM;rw [hb,if_neg y6]
  have lsz:=p.sz;have bl:below t.place (TM w t i)=i:=by rw [hs];exact KN p.ok (by rw [length_map];omega)
  have tsz:t.place.size=es.size:=by rw [p.ok.sz,length_map,lsz]
  rw [bl];rw [ew] at cs h1;rcases cs with ⟨q,hq⟩|hq
  ·have il:i<es.size:=(Array.getElem?_eq_some_iff.mp hq).1;have pq:t.place[i]?=some (t.place.getD i 0):=WE (by omega);have sl:TM w t (i+1)=t.place.getD i 0+1:=by unfold TM;rw [hb,if_neg y6,if_neg (by omega)];rfl
   rw [hq,pq];obtain ⟨q1,q2⟩:=q;show Q (some (q2,t.place.getD i 0+1)) s;rw [← sl];exact h1 q2 (by rw [hq];rfl)
  ·rw [Array.getElem?_eq_none (by omega)];exact h2 hq
end
end Tb8
namespace Tb8
open PySem PyProof.Rows PySem.SetTable PySem.Calls PySem.W
section
variable {prog:Program} {w:World} {A:Around} {E:Value->Shared->Prop} {s:Shared}
def qcj (w:World) (h:Heap) (I S n ep:Nat) (t:SetTable) (i:Nat):Prop:=h.get? I=some (oIt S n ep (TM w t i) i)
def qcj.typeIs {I S n ep i:Nat} {t:SetTable} (x:qcj w s.heap I S n ep t i):s.TypeIs (.ref I) "set_iterator" := ⟨_,x,rfl⟩
def qbN {I S:Addr} {en:List (Int×Value)} {o:Obj} {es:Array (Int×Value)} {ep:Nat} {t:SetTable} (p:IS prog w s.heap S en (EC w) o es ep t) {i:Nat} (hi:i<es.size) (x:qcj w s.heap I S es.size ep t i) {Q:Option Value->Shared->Prop}
  (hQ:∀ v h',(wlk w S ep es)[i]?.map (·.2)=some v->qcj w h' I S es.size ep t (i+1)->Heap.SameBut I s.heap h'->Q (some v) { s with heap:=h' }):wpAny (model prog w) A (pyNext (.ref I)) Q E s:=by
 unfold pyNext;refine x8 (wpAny_attempt (wpAny_callSpecial?_slot (name:=Str.ofString "__next__") x.typeIs zg
  (wpAny_call_entry zg x.typeIs ZJ ?_ (JN _))))
 unfold Builtin.«set_iterator.__next__» slotArgs;simp only [List.isEmpty_nil,Bool.not_true,Bool.false_eq_true,↓reduceIte,bind_assoc,length_nil,bne_self_eq_false];refine x8 (x9 ?_);refine x8 (wpAny_fieldsOf x rfl ?_);dsimp only;refine x8 (wpAny_setEntries_of p.ho p.hd p.fits ?_);rw [show ((es.size:Int) != (es.size:Int))=false from bne_self_eq_false _];simp only [Bool.false_eq_true,if_false];refine x8 ?_;simp only [Int.toNat_natCast];refine qg2 p (Nat.le_of_lt hi) (λv hv=>?_) (λz=>by omega);dsimp only;refine x8 (wpAny_setField_rec x (by simp) λh1 g1 s1=>?_);refine x8 (wpAny_setField_rec (s:={ s with heap:=h1 }) g1 (by simp) λh2 g2 s2=>?_);refine x9 ⟨v,rfl,x9 (hQ v h2 hv ?_ (s1.trans s2))⟩;exact g2
def qe4 {I S:Addr} {en:List (Int×Value)} {o:Obj} {es:Array (Int×Value)} {ep:Nat} {t:SetTable} (hh:A.handled=none) (p:IS prog w s.heap S en (EC w) o es ep t) (x:qcj w s.heap I S es.size ep t es.size) {Q:Option Value->Shared->Prop}
  (hQ:∀ h',Heap.ExtBut I s.heap h'->Q none { s with heap:=h' }):wpAny (model prog w) A (pyNext (.ref I)) Q E s:=by
 unfold pyNext;refine x8 (wpAny_attempt (wpAny_callSpecial?_slot (name:=Str.ofString "__next__") x.typeIs zg
  (wpAny_call_entry zg x.typeIs ZJ ?_ (JN _))))
 unfold Builtin.«set_iterator.__next__» slotArgs;simp only [List.isEmpty_nil,Bool.not_true,Bool.false_eq_true,↓reduceIte,bind_assoc,length_nil,bne_self_eq_false];refine x8 (x9 ?_);refine x8 (wpAny_fieldsOf x rfl ?_);dsimp only;refine x8 (wpAny_setEntries_of p.ho p.hd p.fits ?_);rw [show ((es.size:Int) != (es.size:Int))=false from bne_self_eq_false _];simp only [Bool.false_eq_true,if_false];refine x8 ?_;simp only [Int.toNat_natCast];refine qg2 p (v5 _) (λv hv=>?_) (λz=>?_)
 ·rw [Array.getElem?_eq_none (by rw [SA];exact v5 _)] at hv;cases hv
 dsimp only;refine x8 (wpAny_setField_rec x (by simp) λh1 g1 s1=>?_);show wpAny _ _ (newExc (.type "StopIteration") [] >>= _) _ _ _;refine x8 ?_;simp only [newExc,newTuple];refine x8 (wpAny_newObj_type ?_ (by size_fits));refine x8 (m:=firstArgMember _ _) (wpAny_of_eq (a:=Value.none) (by first|rfl|(simp only [firstArgMember];rfl)) ?_);refine wpAny_newObj_type ?_ (by size_fits);simp only [raiseNew];refine x8 (wpAny_handled ?_);rw [show A.in1.handled=none from hh];refine x8 (x9 (wpAny_throw ?_));refine x8 (wpAny_isInstance (T:="StopIteration") (b:=true) ⟨_,y3 _ rfl,rfl⟩ isSubtype_stop ?_);exact x9 (hQ _ ((s1.extBut.push _).push _))
end
def ED:entryFor table "set_iterator.__iter__" = some Builtin.«dict_keyiterator.__iter__»:=entryFor_alias (id':="dict_keyiterator.__iter__") (by kernel_rfl) rfl (by decide +kernel) (by kernel_rfl)
def W0 (a:Value):argsOk "set_iterator.__iter__" ⟨[a],[]⟩:=by unfold argsOk;kernel_rfl
section
variable {prog:Program} {w:World} {A:Around} {E:Value->Shared->Prop} {s:Shared}
def qkx {I S n ep i:Nat} {t:SetTable} (x:qcj w s.heap I S n ep t i) {Q:Value->Shared->Prop} (h:Q (.ref I) s):wpAny (model prog w) A (pyIter (.ref I)) Q E s:=by
 refine wpAny_pyIter_slot x.typeIs JL (wpAny_call_entry JL x.typeIs ED ?_ (W0 _));show wpAny _ _ (ret (.ref I)) _ _ s;exact x9 ⟨_,rfl,"set_iterator",_,x.typeIs,zg.lookup,h⟩
def qhW (hh:A.handled=none) {I S:Addr} (ne:S≠I) (en:List (Int×Value)) (o:Obj) (es:Array (Int×Value)) (ep:Nat) (t:SetTable) :
  Walks prog w A I [I,S] [I] es.size (λi v=>(wlk w S ep es)[i]?.map (·.2)=some v) (λi h=>qcj w h I S es.size ep t i/\IS prog w h S en (EC w) o es ep t) where
 sub:=λb hb=>by simp at hb;simp [hb]
 frame:=λ_ _ _ st hk=>⟨hk I (by simp) _ st.1,st.2.keep (hk S (by simp) _ st.2.ho)⟩
 item:=λi s Q E hi st hQ=>qbN st.2 hi st.1 λv h' hv x sb=>hQ v h' s.toks hv ⟨x,st.2.keep ((sb.2 S ne).trans st.2.ho)⟩ λb o hb e=>sb.extBut b o (λh=>hb (by simp [h])) e
 done:=λs Q E st hQ=>qe4 hh st.2 st.1 λh' he'=>hQ h' s.toks λb o hb e=>he' b o (λh=>hb (by simp [h])) e
 self:=λ_ _ _ _ st hQ=>qkx st.1 hQ
def qkY {S:Addr} {Q:Bool->Shared->Prop} (hT:s.TypeIs (.ref S) "set") (h:Q false s):wpAny (model prog w) A (Builtin.List.listLengthHint (.ref S)) Q E s:=by
 unfold Builtin.List.listLengthHint;refine x8 (wpAny_specialOf hT PySem.F.slot_set_len.lookup ?_);generalize hid:("set.__len__" : String)=id0
 wp_delta
 rw [show splitId id0=some ("set","__len__") from by subst hid;decide +kernel];subst hid;refine x8 (wpAny_isInstance (T:="set") (b:=true) hT (by rw [isSubtype_type];kernel_rfl) ?_);refine wpAny_ite_split (λhab=>absurd hab (by decide)) (λ_=>?_);refine wpAny_ite_split (λ_=>?_) (λhab=>absurd (by decide +kernel) hab);refine x8 (wpAny_typeOf hT ?_);exact x9 h
def qno (S:Addr) (en:List (Int×Value)) (o:Obj) (es:Array (Int×Value)) (ep:Nat) (t:SetTable) :
  KdlSrc prog w "set" S S es.size (λi v=>(wlk w S ep es)[i]?.map (·.2)=some v) (λh=>IS prog w h S en (EC w) o es ep t) where
 type:=λs p=>⟨o,p.ho,p.hc.1⟩
 there:=λh p=>⟨y4 p.ho,y4 p.ho⟩
 keep:=λh h' p k=>p.keep (k S (.inl rfl) _ p.ho)
 notList:=by decide
 notTuple:=by decide
 hint:=λA E s Q p h=>qkY ⟨o,p.ho,p.hc.1⟩ h
 iter:=λA s hh p=>⟨oIt S es.size ep 0 0,_,λE Q hQ=>qlb p hQ,qhW hh (u4 (y4 p.ho)) en o es ep t,by
  have z:TM w t 0=0:=by unfold TM;split<;>rfl
  refine ⟨?_,p.keep (y2 _ p.ho)⟩;unfold qcj;rw [z];exact y3 _ rfl⟩
theorem qav:∀ {en:List (Int×Value)},(∀ q∈en,(intKind prog w).is q.1 q.2=true/\q.2.scannable=true)->IntsAre (en.map (·.2)) (en.map (·.1))
 |[],_=>.nil
 |q::r,h=>by
  obtain ⟨k,v⟩:=q;obtain ⟨t,e⟩:=SJ (h (k,v) (by simp)).1;simp only at e;subst e;exact .cons k t (qav λq hq=>h q (by simp [hq]))
def qeP {R:List Value->Shared->Prop} (hh:A.handled=none) {S:Addr} {en:List (Int×Value)} {o:Obj} {es:Array (Int×Value)} {ep:Nat} {t:SetTable} (p:IS prog w s.heap S en (EC w) o es ep t) (hn:es.size<=sizeLine)
  (h:∀ (h':Heap) (tk:Nat) (acc:Array Value),(∀ b o,s.heap.get? b=some o->h'.get? b=some o)->s.heap.objs.size<h'.objs.size->ItemsOf (λi v=>(wlk w S ep es)[i]?.map (·.2)=some v) acc es.size->R acc.toList { s with heap:=h',toks:=tk }) :
  wpAny (model prog w) A (collect (.ref S)) R E s:=by
 have K:=qno (prog:=prog) (w:=w) S en o es ep t;have lt:=y4 p.ho;have gL:(s.heap.push { cls:=.type "list",data:=.seq ([]:List Value).toArray }).get? s.heap.objs.size=some { cls:=.type "list",data:=.seq #[] }:=y3 _ rfl;unfold collect;refine x8 (wpAny_runValue (codeAny_builtin entry_proto_collect' ?_));rw [Around.under_plainId PySem.F.plain_proto_collect _];show wpAny _ A.in1 (newList [] >>= λl=>again (.builtin "list.__iadd__" ⟨[l,.ref S],[]⟩)) _ _ s;refine x8 (wpAny_newObj_type ?_);refine x9 ⟨plainId_quiet PySem.F.plain_list_iadd _,codeAny_builtin entry_list_iadd' ?_⟩;rw [Around.under_plainId PySem.F.plain_list_iadd _];show wpAny _ A.in1 (Builtin.List.listExtendWith (.ref s.heap.objs.size) (.ref S) (.ref s.heap.objs.size)) _ _ _;have fin:∀ (h':Heap) (tk:Nat) (acc:Array Value) (c:Nat),(∀ b o,b≠s.heap.objs.size->(s.heap.push { cls:=.type "list",data:=.seq ([]:List Value).toArray }).get? b=some o->h'.get? b=some o)->h'.get? s.heap.objs.size=some { cls:=.type "list",dict:=none,data:=.seq acc c,slots:=#[] }->ItemsOf (λi v=>(wlk w S ep es)[i]?.map (·.2)=some v) acc es.size ->
   wpAny (model prog w) A (load s.heap.objs.size >>= λo=>match o.data with|.seq xs _=>pure xs.toList|_=>unsupported "internal:collect") R E { s with heap:=h',toks:=tk }:=λh' tk acc c k g a=>
  x8 (wpAny_load g (x9 (h h' tk acc (λb o e=>k b o (u4 (y4 e)) (y2 _ e)) (y4 g) a)))
 refine y0 (kdl_extend (A:=A) (s:={ s with heap:=s.heap.push { cls:=.type "list",data:=.seq ([]:List Value).toArray } }) (R:=λq s'=>q=.ok (.ret (.ref s.heap.objs.size))/\wpAny (model prog w) A (load s.heap.objs.size >>= λo=>match o.data with|.seq xs _=>pure xs.toList|_=>unsupported "internal:collect") R E s')
  K hh (K.keep _ _ p λb _ o e=>y2 _ e) s.heap.objs.size (Nat.ne_of_gt lt) (Nat.ne_of_gt lt) (.ref s.heap.objs.size) 0 gL (λh' tk acc c k g a=>⟨rfl,fin h' tk acc c k g a⟩) hn) (λf s' x=>?_) λe s' x=>nomatch x.1
 cases f with
 |done f=>
  obtain ⟨e,x⟩:=x;cases e;exact x
 |again c=>
  refine ⟨x.1,codeAny_mono x.2 λq s2 y=>?_⟩;obtain ⟨rfl,y⟩:=y;exact y
def qeS (hh:A.handled=none) {S:Addr} {en:List (Int×Value)} {o:Obj} {es:Array (Int×Value)} {ep:Nat} {t:SetTable} (p:IS prog w s.heap S en (EC w) o es ep t) (h64:en.length<64) {Q:Value->Shared->Prop}
  (h:∀ (h':Heap) (a:Addr) (out:Array Value) (ms:List Int) (e tk:Nat),(∀ b o,s.heap.get? b=some o->h'.get? b=some o)->s.heap.objs.size<=a->h'.get? a=some (seqObj "list" out e)->IntsAre out.toList ms->ms.Perm (en.map (·.1))->ms.Pairwise (·<=·)->Q (.ref a) { s with heap:=h',toks:=tk }) :
  wpAny (model prog w) A (call (.builtin "sorted") [.ref S]) Q E s:=by
 have ez:=p.sz;refine Calls.call_function_entry kind_sorted plain_sorted entry_sorted (args_sorted1 _) ?_;unfold Builtin.«sorted»;refine x8 (m:=checkCount "sorted" 1 1 _) (x9 ?_);refine x8 (qeP (A:=A.in1) (by simp [hh]) p (by rw [ez,y8];omega) λh' tk acc hk hlt hacc=>?_);obtain ⟨en',he',pe'⟩:=TQ ((SM w S ep es).trans (by rw [p.he]));have av:acc.toList=en'.map (·.2):=by
  refine List.ext_getElem? λj=>?_;have lz:en'.length=es.size:=by rw [pe'.length_eq,ez]
  have ws:∀ j,(wlk w S ep es)[j]?=(en'[j]?).map λ(q:Int×Value)=>((intKind prog w).hash q.1,q.2):=λj=>by rw [CF,he',getElem?_map]
  cases e:acc.toList[j]? with
  |none=>
   have:acc.size<=j:=by simpa using e
   rw [getElem?_map,List.getElem?_eq_none (by rw [lz,← hacc.1];exact this)];rfl
  |some v=>
   have:(wlk w S ep es)[j]?.map (·.2)=some v:=hacc.2 j v (by rw [CF];exact e);rw [ws] at this;rw [getElem?_map,← this,Option.map_map];rfl
 have hI:IntsAre acc.toList (en'.map (·.1)):=by
  rw [av];exact qav (prog:=prog) (w:=w) λq hq=>p.hI q (pe'.mem_iff.mp hq)
 have al:acc.toList.length<64:=by rw [av,length_map,pe'.length_eq];exact h64
 refine x8 (wpAny_newList ?_);have hoL:(h'.push (seqObj "list" acc.toList.toArray 0)).get? h'.objs.size=some (seqObj "list" acc.toList.toArray 0):=y3 _ rfl;refine x8 (wpAny_holding (wpAny_call_entry slot_list_sort ⟨_,hoL,rfl⟩ entry_list_sort (list_sort_tree hoL hI al λout ms a1 a2 a3=>⟨_,rfl,?_⟩) (args_list_sort _)));obtain ⟨e,he⟩:=sortedHeap_at (out:=out) hoL;refine x9 ⟨_,rfl,h _ h'.objs.size out ms e tk (λb o hb=>?_) ?_ he a1 (a2.trans (pe'.map _)) a3⟩
 ·have hb':=hk b o hb;rw [sortedHeap_old (u4 (y4 hb')) (y4 (y2 _ hb'))];exact y2 _ hb'
 ·exact Nat.le_of_lt hlt
end
end Tb8
namespace L3
open PySem PySem.Spec PyProof.Rows L2
def dd:List Int->List Int
 |[]=>[]
 |x::r=>if x∈dd r then dd r else x::dd r
theorem XB:∀ {l:List Int} {x:Int},x∈dd l↔x∈l
 |[],_=>Iff.rfl
 |y::r,x=>by
  unfold dd;split
  ·rename_i h;rw [XB,mem_cons];exact ⟨.inr,λz=>z.elim (λz=>z▸XB.mp h) id⟩
  ·rw [mem_cons,mem_cons,XB]
theorem qez:∀ (l:List Int),(dd l).Nodup
 |[]=>List.Pairwise.nil
 |y::r=>by
  unfold dd;split
  ·exact qez r
  ·rename_i h;exact List.nodup_cons.mpr ⟨h,qez r⟩
section
variable {X:Cx}
def K6 {e:Expr} {te:TE} {p p2 pos pos2:Pos} (hc:X.calm=true) (hg:Gl X "sorted") (hm:X.mg "sorted" = none) (hg2:Gl X "set") (hm2:X.mg "set" = none) (he:PE X e te)
  (h1:starEach [e] X.env=(false,eval e X.env)::starEach [] X.env:=by rfl) (h2:starEach [.Call (.Name "set" p2) [e] [] pos2] X.env=(false,eval (.Call (.Name "set" p2) [e] [] pos2) X.env)::starEach [] X.env:=by rfl)
  (h3:(backTo pos (starEach [] X.env)).any (·.1)=false:=by rfl) (h4:(backTo pos2 (starEach [] X.env)).any (·.1)=false:=by rfl) :
  PE X (.Call (.Name "sorted" p) [.Call (.Name "set" p2) [e] [] pos2] [] pos) (λσ H Q=>te σ H λx H1=>∃ (a:Addr) (ns:List Int),x=.ref a/\SqL X.K H1 a (ns.map V.int)/\ns.length<=306/\(dd ns).length<64/\∀ l (ms:List Int),H1 l=none->ms.Perm (dd ns)->ms.Pairwise (·<=·)->Q (.ref l) (upd H1 l (.lst (ms.map V.int)))):=by
 intro pins s σ H Q I h;refine wpAny_Call_Name_kw (YW I hg hm PyProof.Rows.boot_sorted ?_);refine PyProof.Rows.callWith_builtin1 ?_ h2 h3;rw [h2];show wpAny _ _ (spliced ((false,eval (.Call (.Name "set" p2) [e] [] pos2) X.env)::backTo pos (starEach [] X.env))) _ _ s;refine Calls.spliced_cons ?_;refine wpAny_Call_Name_kw (YW I hg2 hm2 (show bootBuiltins "set" = some (.type "set") by decide +kernel) ?_);refine PyProof.Rows.callWith_type1 ?_ h1 h4;rw [h1];show wpAny _ _ (spliced ((false,eval e X.env)::backTo pos2 (starEach [] X.env))) _ _ s;refine Calls.spliced_cons (thn (he pins s σ H _ I h) λu s1 ⟨x,H1,I1,r1,a,ns,ex,hq,hl,hd,q⟩=>?_);subst ex;cases r1;refine Calls.spliced_nil ?_;obtain ⟨its,rv,pl,hz⟩:=I1.list hq;have hlen:its.length=ns.length:=by have:=rv.length;simp at this;omega
 refine Tb8.NQ (vs:=its.toArray) (ns:=ns) (I1.ok.hd hc) pl.isList (by simpa using JY rv) (by rw [size_toArray];omega) λh' tk is kp=>?_;refine Calls.spliced_nil ?_;obtain ⟨en,o,es,ep,t,ps,e306,mm⟩:=is;have pd:(en.map (·.1)).Perm (dd ns):=(List.perm_ext_iff_of_nodup ps.nd (qez ns)).mpr λx=>(mm x).trans XB.symm;have e64:en.length<64:=by have:=pd.length_eq;rw [length_map] at this;omega
 refine Tb8.qeS (s:={ s1 with heap:=h',toks:=tk }) (I1.ok.hd hc) ps e64 λh2 b out ms ee tk2 k2 lb gb ia pm up=>?_;have szle:s1.heap.objs.size<=b:=u3 (Nat.le_of_lt (y4 ps.ho)) lb;have ml:ms.length<=sizeLine:=by have:=(pm.trans pd).length_eq;rw [y8];omega
 refine ⟨.ref b,_,I1.laid (t':=tk2) (o:=.lst (ms.map V.int)) (λb o e=>k2 b o (kp b o (y4 e) e)) szle ⟨by simpa using ml,out.toList,ee,LN ia,?_⟩,rfl,q _ ms (I1.hok.fresh szle) (pm.trans pd) up⟩;have ho:out=out.toList.toArray:=by simp
 rw [← ho];exact gb
def qfs (te:TE3):TE3:=λτ G q=>te τ G λx G1=>match x with
 |.ref p=>(match getL G1 p with|some ys=>(match DQ ys with|some ns=>ns.length<=306/\(dd ns).length<64/\∀ l (ms:List Int),G1 l=none->ms.Perm (dd ns)->ms.Pairwise (·<=·)->q (.ref l) (gu G1 l (.lst (ms.map T.int)))|none=>False)|none=>False)
 |_=>False
def KQ {e:Expr} {te:TE3} {p p2 pos pos2:Pos} (hc:X.calm=true) (hg:Gl X "sorted") (hm:X.mg "sorted" = none) (hg2:Gl X "set") (hm2:X.mg "set" = none) (he:jE3 X e te)
  (h1:starEach [e] X.env=(false,eval e X.env)::starEach [] X.env:=by rfl) (h2:starEach [.Call (.Name "set" p2) [e] [] pos2] X.env=(false,eval (.Call (.Name "set" p2) [e] [] pos2) X.env)::starEach [] X.env:=by rfl)
  (h3:(backTo pos (starEach [] X.env)).any (·.1)=false:=by rfl) (h4:(backTo pos2 (starEach [] X.env)).any (·.1)=false:=by rfl):jE3 X (.Call (.Name "sorted" p) [.Call (.Name "set" p2) [e] [] pos2] [] pos) (qfs te):=
 ⟨EQ (K6 hc hg hm hg2 hm2 he.h h1 h2 h3 h4) λ_ _ _ ⟨τ,G,q,rl,h,af⟩=>qZ rl h λx G1 h1 v H1 rx hr1 k1 rl1=>by
  split at h1
  ·rename_i l;cases rx;split at h1
   ·rename_i ys e0;split at h1
    ·rename_i ns e1;obtain ⟨us,hs,r2⟩:=zi hr1 e0;have:=VO e1;subst this;have:=VL r2;subst this;exact ⟨l,ns,rfl,hs,h1.1,h1.2.1,λb ms hl pm up=>af _ _ (h1.2.2 b ms (hr1.free hl) pm up) _ _ (.ref b) (HR.newL hr1 hl (TC ms)) (k1.trans (Kp.newL hl))⟩
    ·exact h1.elim
   ·exact h1.elim
  ·exact h1.elim⟩
end
end L3
namespace HT
open PySem PyProof.Rows
abbrev oB (xs:Array Value) (c:Nat):Obj:={ cls:=.type "list",dict:=none,data:=.seq xs c,slots:=#[] }
def Bst (val:Nat->Int) (j:Nat) (xs:Array Value):Prop:=(j=0/\xs=#[])\/(0<j/\∃ m t,xs=#[.int m t,.int m t]/\(∃ i,i<j/\val i=m)/\∀ i,i<j->val i<=m)
def qmg (val:Nat->Int) (n:Nat) (dv v:Value):Prop:=(n=0/\v=dv)\/(0<n/\∃ m t,v=.int m t/\(∃ i,i<n/\val i=m)/\∀ i,i<n->val i<=m)
section
variable {prog:Program} {w:World} {A:Around} {R:Result->Shared->Prop} {I:Addr} {fp wr:List Addr} {n:Nat} {P:Nat->Value->Prop} {St:Nat->Heap->Prop}
def LW (W:Walks prog w A.in1 I fp wr n P St) (val:Nat->Int) (hval:∀ i v,P i v->∃ t,v=.int (val i) t) (S:Addr) (dv:Value) (hSf:S∉fp) :
  ∀ (k j:Nat) (s:Shared) (xs:Array Value) (c:Nat),n-j=k->j<=n->St j s.heap->Bst val j xs->s.heap.get? S=some (oB xs c) ->
  (∀ v h' tk,qmg val n dv v->(∀ b o,b∉wr->b≠S->s.heap.get? b=some o->h'.get? b=some o)->R (.ok (.ret v)) { s with heap:=h',toks:=tk }) ->
  codeAny (model prog w) A (.builtin "max.loop" ⟨[.ref I,.none,.ref S],[("default",dv)]⟩) R s:=by
 have hSw:S∉wr:=λh=>hSf (W.sub _ h);have nm:(toString "max" ++ toString ".loop" : String)="max.loop" := by decide
 intro k;induction k with
 |zero=>
  intro j s xs c hk hj hst hb hS hR;obtain rfl:j=n:=by omega
  refine codeAny_builtin F.entry_max_loop ?_;rw [Around.under_plainId F.plain_max_loop _];show wpAny _ A.in1 (seqItems? (.ref S) >>= _) _ _ s;refine x8 (wpAny_seqItems hS rfl ?_);show wpAny _ A.in1 (tryCatch (pyNext (.ref I)) _ >>= _) _ _ s;refine x8 (wpAny_tryCatch (W.done s _ _ hst λh' tk kp=>?_));rcases hb with ⟨j0,rfl⟩|⟨j1,m,t,rfl,hm⟩
  ·show wpAny _ A.in1 (rule _ >>= _) _ _ _;refine x8 (wpAny_rule (x9 ?_));exact hR dv h' tk (.inl ⟨j0,rfl⟩) λb o hbw _ e=>kp b o hbw e
  ·show wpAny _ A.in1 (updateSeq S (λ_=>#[]) >>= _) _ _ _;refine x8 (wpAny_updateSeq (kp S _ hSw hS) rfl (x8 (wpAny_letGo (x9 ?_))));exact hR _ _ tk (.inr ⟨j1,m,t,rfl,hm⟩) λb o hbw hbS e=>(Heap.get?_update_other _ _ (Ne.symm hbS)).trans (kp b o hbw e)
 |succ k ih=>
  intro j s xs c hk hj hst hb hS hR;have lt:j<n:=by omega
  refine codeAny_builtin F.entry_max_loop ?_;rw [Around.under_plainId F.plain_max_loop _];show wpAny _ A.in1 (seqItems? (.ref S) >>= _) _ _ s;refine x8 (wpAny_seqItems hS rfl ?_);show wpAny _ A.in1 (tryCatch (pyNext (.ref I)) _ >>= _) _ _ s;refine x8 (wpAny_tryCatch (W.item j s _ _ lt hst λv h' tk hP hst' kp=>?_));have hS':=kp S _ hSw hS;obtain ⟨u,rfl⟩:=hval j v hP;rcases hb with ⟨j0,rfl⟩|⟨j1,m,t,rfl,⟨i0,hi0,e0⟩,hm⟩
  ·subst j0;show wpAny _ A.in1 (updateSeq S _ >>= _) _ _ _;refine x8 (wpAny_updateSeq hS' rfl ?_);rw [nm];refine x9 ⟨plainId_quiet F.plain_max_loop _,ih 1 _ _ _ (by omega) (by omega) (W.frame _ _ _ hst' λb hbf o e=>(Heap.get?_update_other _ _ (λh:S=b=>hSf (by rw [h];exact hbf))).trans e) (.inr ⟨by omega,_,u,rfl,⟨0,by omega,rfl⟩,λi hi=>?_⟩) (Heap.get?_update_self _ hS' rfl) λv' h'' tk'' hv kp'=>?_⟩
   ·obtain rfl:i=0:=by omega
    exact Int.le_refl _
   ·exact hR v' h'' tk'' hv λb o hbw hbS e=>kp' b o hbw hbS ((Heap.get?_update_other _ _ (Ne.symm hbS)).trans (kp b o hbw e))
  ·show wpAny _ A.in1 (tryCatch (holding _ (richCompare .Gt _ _ >>= _)) _ >>= _) _ _ _;refine x8 (wpAny_tryCatch (wpAny_holding (x8 (PyProof.Rows.gt_int (Q:=λv s=>_) ?_))));refine x8 (wpAny_holding (wpAny_truthy_bool ?_));refine x8 (wpAny_letGo (x9 ?_));by_cases hb:m<val j
   ·rw [u8 hb];simp only [if_true];refine x8 (wpAny_updateSeq hS' rfl (x8 (wpAny_letGo ?_)));rw [nm];refine x9 ⟨plainId_quiet F.plain_max_loop _,ih (j+1) _ _ _ (by omega) (by omega) (W.frame _ _ _ hst' λb hbf o e=>(Heap.get?_update_other _ _ (λh:S=b=>hSf (by rw [h];exact hbf))).trans e) (.inr ⟨by omega,_,u,rfl,⟨j,by omega,rfl⟩,λi hi=>?_⟩) (Heap.get?_update_self _ hS' rfl) λv' h'' tk'' hv kp'=>?_⟩
    ·rcases Nat.lt_or_ge i j with z|z
     ·have:=hm i z;omega
     ·obtain rfl:i=j:=by omega
      exact Int.le_refl _
    ·exact hR v' h'' tk'' hv λb o hbw hbS e=>kp' b o hbw hbS ((Heap.get?_update_other _ _ (Ne.symm hbS)).trans (kp b o hbw e))
   ·rw [u7 hb];simp only [Bool.false_eq_true,if_false];refine x8 (wpAny_letGo ?_);rw [nm];refine x9 ⟨plainId_quiet F.plain_max_loop _,ih (j+1) _ _ _ (by omega) (by omega) hst' (.inr ⟨by omega,m,t,rfl,⟨i0,by omega,e0⟩,λi hi=>?_⟩) hS' λv' h'' tk'' hv kp'=>?_⟩
    ·rcases Nat.lt_or_ge i j with z|z
     ·exact hm i z
     ·obtain rfl:i=j:=by omega
      omega
    ·exact hR v' h'' tk'' hv λb o hbw hbS e=>kp' b o hbw hbS (kp b o hbw e)
end
section
variable {prog:Program} {w:World} {A:Around} {E:Value->Shared->Prop} {s:Shared}
def qi3 {id:String} {b:Builtin} {args:List Value} {kw:List (Str×Value)} {Q:Value->Shared->Prop} (hk:builtinKind id=none) (hp:plainId id=true) (hb:entryFor table id=some b) (ha:argsOk id ⟨args,kw⟩)
  (hc:wpAny (model prog w) A.in1 (b ⟨args,kw⟩) (λfin s'=>match fin with
   |.done f=>(match (Except.ok f:Result) with|.ok (.ret v)=>Q v s'|.ok _=>False|.error e=>E e s')
   |.again c'=>c'.quiet=true/\codeAny (model prog w) A c' (λr s'=>match r with|.ok (.ret v)=>Q v s'|.ok _=>False|.error e=>E e s') s') E s) :
  wpAny (model prog w) A (call (.builtin id) args kw) Q E s:=by
 refine wpAny_call (codeAny_call_builtin hp hb ?_);simp only [checkBuiltinCall,hk];cases e:Manifest.signature? id with
 |none=>exact x9 hc
 |some sig=>
  have z:Bind.checkArgs id sig ⟨args,kw⟩=pure ():=by simpa only [argsOk,e] using ha
  simp only [z];exact x9 hc
def NR (a b:Value):argsOk "max" ⟨[a],[("default",b)]⟩:=by unfold argsOk;kernel_rfl
def L0 {l:Addr} {its:List Value} {ns:List Int} {dv:Value} {Q:Value->Shared->Prop} (hh:A.handled=none) (hl:s.heap.IsList l its.toArray) (hv:IntsAre its ns)
  (h:∀ v h' tk,qmg (λi=>ns.getD i 0) ns.length dv v->(∀ b o,s.heap.get? b=some o->h'.get? b=some o)->Q v { s with heap:=h',toks:=tk }) :
  wpAny (model prog w) A (call (.builtin "max") [.ref l] [("default",dv)]) Q E s:=by
 have nm:(toString "max" ++ toString ".loop" : String)="max.loop" := by decide
 have ll:l<s.heap.objs.size:=by obtain ⟨o,e,_⟩:=hl;exact y4 e
 have sz:=hv.length;refine qi3 F.kind_max F.plain_max F.entry_max (NR _ _) ?_;show wpAny _ A.in1 (Builtin.Builtins.bindParams "max" ["key","default"] 0 ⟨[],[("default",dv)]⟩ >>= _) _ _ s;refine x8 (wpAny_of_eq (show Builtin.Builtins.bindParams "max" ["key","default"] 0 ⟨[],[("default",dv)]⟩=pure [none,some dv] from by kernel_rfl) ?_);refine x8 (x9 ?_);refine x8 (wpAny_pyIter_list hl ?_);refine x8 (wpAny_newObj_type ?_);rw [nm];have sz1:(s.heap.push { cls:=.type "list_iterator",data:=.fields #[.ref l,.int 0 0] }).objs.size=s.heap.objs.size+1:=Heap.size_push ..;refine x9 ⟨plainId_quiet F.plain_max_loop _,?_⟩;refine LW (Walks.list (A:=A.in1) (show A.in1.handled=none by simp [hh]) s.heap.objs.size l (u4 ll) its.toArray) (λi=>ns.getD i 0) (λi v hx=>hv.int_at i v (by simpa using hx)) _ dv ?_ (its.toArray.size-0) 0 _ #[] _ rfl (Nat.zero_le _) ?_ (.inl ⟨rfl,rfl⟩) (y3 _ rfl) λv h' tk hb kp=>?_
 ·rw [sz1];simp only [mem_cons,not_mem_nil,or_false,not_or];exact ⟨Nat.ne_of_gt (Nat.lt_succ_self _),Nat.ne_of_gt (Nat.lt_succ_of_lt ll)⟩
 ·exact ⟨⟨_,y2 _ (y3 _ rfl),rfl,rfl⟩,(hl.push _).push _⟩
 ·rw [size_toArray,sz] at hb;refine h v h' tk hb λb o e=>kp b o ?_ ?_ (y2 _ (y2 _ e))
  ·simp only [mem_cons,not_mem_nil,or_false];exact u4 (y4 e)
  ·rw [sz1];exact u4 (Nat.lt_succ_of_lt (y4 e))
end
end HT
namespace L3
open PySem PySem.Spec PyProof.Rows L2
section
variable {X:Cx}
def qiN (K:Frg):R2:=λx y H Q=>∃ (p:Addr) (ns:List Int),x=.ref p/\SqL K H p (ns.map V.int)/\(ns=[]->Q y H)/\(∀ m∈ns,(∀ a∈ns,a<=m)->Q (.int m) H)
def qfb (hc:X.calm=true):OpR X (λv u=>call (.builtin "max") [v] [("default",u)]) (qiN X.K):=by
 intro pins s σ H x y v u Q I rx ry h;obtain ⟨p,ns,rfl,hq,q0,q1⟩:=h;cases rx;obtain ⟨its,rv,pl,hz⟩:=I.list hq;refine HT.L0 (I.ok.hd hc) pl.isList (JY rv) λv h' tk hb kp=>?_;rcases hb with ⟨n0,rfl⟩|⟨n1,m,t,rfl,⟨i,hi,e⟩,hm⟩
 ·exact ⟨y,H,I.kept (h':=h') (t':=tk) λb o e=>kp b o e,ry,q0 (List.length_eq_zero_iff.mp n0)⟩
 ·have gd:∀ j,(hj:j<ns.length)->ns.getD j 0=ns[j]:=λj hj=>by rw [getD_eq_getElem?_getD,y9 hj];rfl
  refine ⟨.int m,H,I.kept (h':=h') (t':=tk) λb o e=>kp b o e,⟨_,rfl⟩,q1 m (by rw [← e];show ns.getD i 0∈ns;rw [gd i hi];exact List.getElem_mem hi) λa ha=>?_⟩;obtain ⟨j,hj,rfl⟩:=List.mem_iff_getElem.mp ha;have:ns.getD j 0<=m:=hm j hj;rw [gd j hj] at this;exact this
def qfh {r:R2} {e d:Expr} {te td:TE} {p kp pos:Pos} (ho:OpR X (λv u=>call (.builtin "max") [v] [("default",u)]) r) (hg:Gl X "max") (hm:X.mg "max" = none) (he:PE X e te) (hd:PE X d td)
  (h1:starEach [e] X.env=(false,eval e X.env)::starEach [] X.env:=by rfl):PE X (.Call (.Name "max" p) [e] [⟨some "default",d,kp⟩] pos) (tOp r te td):=by
 intro pins s σ H Q I h;refine wpAny_Call_Name_kw (YW I hg hm PyProof.Rows.boot_max ?_);have z:backTo pos (starEach [e] X.env)=(false,eval e X.env)::backTo pos (starEach [] X.env):=by rw [h1];rfl
 refine callWith_kw (kws:=[⟨some "default",d,kp⟩]) ?_ z (by rw [z];rfl);rw [z];refine Calls.spliced_cons (thn (he pins s σ H _ I h) λv s1 ⟨x,H1,I1,r1,q1⟩=>?_);refine Calls.spliced_nil ?_;refine kws_cons (thn (hd pins s1 σ H1 _ I1 q1) λu s2 ⟨y,H2,I2,r2,q2⟩=>?_);exact kws_nil (ho pins s2 σ H2 x y v u Q I2 r1 r2 q2)
def T7:R3:=λx y G q=>match x with
 |.ref p=>(match getL G p with|some ys=>(match DQ ys with|some ns=>(ns=[]->q y G)/\(∀ m∈ns,(∀ a∈ns,a<=m)->q (.int m) G)|none=>False)|none=>False)
 |_=>False
def qbJ {K:Frg}:UG K T7 (qiN K):=λx y v u G H q Q hr rx ry h af=>by
 unfold T7 at h;split at h
 ·rename_i p;cases rx;split at h
  ·rename_i ys e0;split at h
   ·rename_i ns e1;obtain ⟨us,hs,r2⟩:=zi hr e0;have:=VO e1;subst this;have:=VL r2;subst this;exact ⟨p,ns,rfl,hs,λz=>af _ _ (h.1 z) _ _ ry hr Kp.refl,λm hm ha=>af _ _ (h.2 m hm ha) _ _ (.int _) hr Kp.refl⟩
   ·exact h.elim
  ·exact h.elim
 ·exact h.elim
def qft {e d:Expr} {te td:TE3} {p kp pos:Pos} (hc:X.calm=true) (hg:Gl X "max") (hm:X.mg "max" = none) (he:jE3 X e te) (hd:jE3 X d td)
  (h1:starEach [e] X.env=(false,eval e X.env)::starEach [] X.env:=by rfl):jE3 X (.Call (.Name "max" p) [e] [⟨some "default",d,kp⟩] pos) (o3 T7 te td):=
 ⟨EQ (qfh (qfb hc) hg hm he.h hd.h h1) λ_ _ _ h=>qaD qbJ h⟩
end
end L3
namespace Pu
open PySem L2 L3
open Bk (Lf Ext)
section
variable {D:Addr->Prop} {a:Addr} {G G' G0:Gp} {n n':Nat} {fv gv:List Nat} {l:Nat} {τ:St3} {ρ:Rho}
def SN (e:Ext a G G') (h:D a):Ex (rs D G) (rs D G'):=λb o x=>by
 obtain ⟨n,x⟩:=qo x;rw [zB n];exact e b o (by rintro rfl;exact n h) x
def YC {k:Int} (h:Lf G a k):G a≠none:=by
 obtain ⟨o,c,m,e,_⟩:=h;rw [e];simp
def UT {k:Int} (hd:Dom D G) (e:Ext a G G') (lf:Lf G' a k):Dom D G':=λb hb z=>by
 by_cases h:b=a
 ·subst h;exact YC lf z
 ·cases g:G b with
  |none=>exact hd b hb g
  |some o=>rw [e b o h g] at z;cases z
def Nw.backx {x:T} {d:PyData} {k:Int} (h:Nw D G G' x d) (e:Ext a G0 G) (lf:Lf G a k):Nw D G0 G' x d:=by
 rcases h with h|⟨p,xs,ds,h1,h2,c,r⟩
 ·exact .inl h
 refine .inr ⟨p,xs,ds,h1,h2,?_,r⟩;cases z:G0 p with
 |none=>rfl
 |some o=>
  by_cases hp:p=a
  ·subst hp;exact absurd c (YC lf)
  ·rw [e p o hp z] at c;cases c
structure Ln (fv:List Nat) (l:Nat) (D:Addr->Prop) (G:Gp) (τ:St3) (ρ:Rho) (a:Addr) (n:Nat):Prop where
 v:ES fv D G τ ρ
 d:Dom D G
 da:D a
 tl:τ[l]?=some (some (.ref a))
 ul:vw ρ l=none
 lf:Lf G a n
theorem Ln.up (h:Ln fv l D G τ ρ a n) (e:Ext a G G') (lf:Lf G' a n'):Ln fv l D G' τ ρ a n':=
 ⟨λi hi d hd=>let ⟨t,x,y⟩:=h.v i hi d hd;⟨t,x,y.up (SN e h.da)⟩,UT h.d e lf,h.da,h.tl,h.ul,lf⟩
def Ln.fst (h:Ln (fv++gv) l D G τ ρ a n):Ln fv l D G τ ρ a n:=⟨h.v.l,h.d,h.da,h.tl,h.ul,h.lf⟩
def Ln.snd (h:Ln (fv++gv) l D G τ ρ a n):Ln gv l D G τ ρ a n:=⟨h.v.r,h.d,h.da,h.tl,h.ul,h.lf⟩
end
abbrev QD:=PyData->Nat->Prop
structure PwE (l:Nat) (t:TE3) where
 w:Rho->Nat->QD->Prop
 fv:List Nat
 nw:Bool
 mono:∀ {ρ n} {Q Q':QD},w ρ n Q->(∀ d m,Q d m->Q' d m)->w ρ n Q'
 ok:∀ {D τ ρ G a n} {q:Q3} {Q:QD},Ln fv l D G τ ρ a n->w ρ n Q->(∀ x d G' n',Q d n'->Ext a G G'->Lf G' a n'->Dq (rs D G') x d->(nw=true->Nw D G G' x d)->q x G')->t τ G q
structure PwC (l:Nat) (t:TT3) where
 w:Rho->Nat->(Bool->Nat->Prop)->Prop
 fv:List Nat
 mono:∀ {ρ n} {Q Q':Bool->Nat->Prop},w ρ n Q->(∀ d m,Q d m->Q' d m)->w ρ n Q'
 ok:∀ {D τ ρ G a n} {q:Bool->Gp->Prop} {Q:Bool->Nat->Prop},Ln fv l D G τ ρ a n->w ρ n Q->(∀ k G' n',Q k n'->Ext a G G'->Lf G' a n'->q k G')->t τ G q
structure PwA (l:Nat) (t:TA3) where
 w:Rho->Nat->(List PyData->Nat->Prop)->Prop
 fv:List Nat
 k:Nat
 mono:∀ {ρ n} {Q Q':List PyData->Nat->Prop},w ρ n Q->(∀ d m,Q d m->Q' d m)->w ρ n Q'
 ok:∀ {D τ ρ G a n} {q:List T->Gp->Prop} {Q:List PyData->Nat->Prop},Ln fv l D G τ ρ a n->w ρ n Q->(∀ x d G' n',Q d n'->d.length=k->Ext a G G'->Lf G' a n'->Dqs (rs D G') x d->q x G')->t τ G q
structure PwI (l:Nat) (t:TI3) where
 w:Rho->Nat->(List PyData->Nat->Prop)->Prop
 fv:List Nat
 nm:Bool
 mono:∀ {ρ n} {Q Q':List PyData->Nat->Prop},w ρ n Q->(∀ d m,Q d m->Q' d m)->w ρ n Q'
 ok:∀ {D τ ρ G a n} {r:List T->(Gp->Prop)->Gp->Prop} {Q:List PyData->Nat->Prop},Ln fv l D G τ ρ a n->w ρ n Q ->
  (∀ items stay ds G' n',Q ds n'->Ext a G G'->Lf G' a n'->Dqs (rs D G') items ds->(∀ G'',(nm=true\/Ex (rs D G') G'')->stay G'')->(nm=true->∃ ns:List Int,ds=ns.map PyData.int)->r items stay G')->t τ G r
structure DrD (r:List T->Gp->Q3->Prop) where
 W:List PyData->Nat->QD->Prop
 nw:Bool
 mono:∀ {ds n} {Q Q':QD},W ds n Q->(∀ d m,Q d m->Q' d m)->W ds n Q'
 ok:∀ {D:Addr->Prop} {G:Gp} {a:Addr} {n:Nat} {ts:List T} {ds:List PyData} {q:Q3} {Q:QD},Lf G a n->D a->Dom D G->Dqs (rs D G) ts ds->W ds n Q->(∀ x d G' n',Q d n'->Ext a G G'->Lf G' a n'->Dq (rs D G') x d->(nw=true->Nw D G G' x d)->q x G')->r (.ref a::ts) G q
section
variable {l:Nat}
def eOf {t:TE3} (b:PuE t):PwE l t:=⟨λρ n Q=>∃ d,b.f ρ=some d/\Q d n,b.fv,b.nw,λ⟨d,h1,h2⟩ h=>⟨d,h1,h _ _ h2⟩,λh ⟨d,h1,h2⟩ k=>
 b.ok h.v h.d h1 λx G1 E1 D1 N1=>k x d G1 _ h2 (Bk.XN E1) (h.lf.ex E1) D1 N1⟩
def cOf {t:TT3} (b:PuC t):PwC l t:=⟨λρ n Q=>∃ d,b.f ρ=some d/\Q d n,b.fv,λ⟨d,h1,h2⟩ h=>⟨d,h1,h _ _ h2⟩,λh ⟨d,h1,h2⟩ k=>
 b.ok h.v h.d h1 λG1 E1=>k d G1 _ h2 (Bk.XN E1) (h.lf.ex E1)⟩
def aOf {t:TA3} (b:PuA t):PwA l t:=⟨λρ n Q=>∃ d,b.f ρ=some d/\Q d n,b.fv,b.n,λ⟨d,h1,h2⟩ h=>⟨d,h1,h _ _ h2⟩,λh ⟨d,h1,h2⟩ k=>
 b.ok h.v h.d h1 λx G1 E1 D1=>k x d G1 _ h2 (b.ln h1) (Bk.XN E1) (h.lf.ex E1) D1⟩
def eO {r:R3} {ta tb:TE3} (R:OpD r) (a:PwE l ta) (b:PwE l tb):PwE l (o3 r ta tb):=
 ⟨λρ n Q=>a.w ρ n λx n1=>b.w ρ n1 λy n2=>∃ v,R.f x y=some v/\Q v n2,a.fv++b.fv,R.nw,λh k=>a.mono h λx n1 h=>b.mono h λy n2 ⟨v,h1,h2⟩=>⟨v,h1,k _ _ h2⟩,λh hw k=>
  a.ok h.fst hw λx dx G1 n1 h1 E1 L1 D1 _=>b.ok (h.snd.up E1 L1) h1 λy dy G2 n2 ⟨v,e,hq⟩ E2 L2 D2 _=>R.ok (D1.up (SN E2 h.da)) D2 (UT (UT h.d E1 L1) E2 L2) e λz G3 E3 D3 N3=>k z v G3 n2 hq ((E1.trans E2).trans (Bk.XN E3)) (L2.ex E3) D3 λz=>(N3 z).backx (E1.trans E2) L2⟩
def U6 {ta:TE3} {tr:TA3} (a:PwE l ta) (r:PwA l tr):PwA l (qc ta tr):=
 ⟨λρ n Q=>a.w ρ n λx n1=>r.w ρ n1 λxs n2=>Q (x::xs) n2,a.fv++r.fv,r.k+1,λh k=>a.mono h λx n1 h=>r.mono h λxs n2 h=>k _ _ h,λh hw k=>
  a.ok h.fst hw λx dx G1 n1 h1 E1 L1 D1 _=>r.ok (h.snd.up E1 L1) h1 λy dy G2 n2 hq hl E2 L2 D2=>k _ _ G2 n2 hq (by simp [hl]) (E1.trans E2) L2 (.cons (D1.up (SN E2 h.da)) D2)⟩
def qlE {t:TA3} (b:PwA l t) (hn:Tru (Nat.ble b.k 1000)):PwE l (qa8 t):=⟨λρ n Q=>b.w ρ n λxs n1=>Q (.tuple xs) n1,b.fv,false,λh k=>b.mono h λxs n1 h=>k _ _ h,λh hw k=>
 b.ok h hw λx dx G1 n1 h1 hl E1 L1 D1=>⟨by rw [D1.length,hl];exact few hn,k _ _ _ _ h1 E1 L1 (.tup D1) (λz=>by cases z)⟩⟩
def qd9 {r:List T->Gp->Q3->Prop} {t:TA3} (R:FnD r) (b:PwA l t):PwE l (cb3 r t):=⟨λρ n Q=>b.w ρ n λxs n1=>∃ v,R.f xs=some v/\Q v n1,b.fv,R.nw,λh k=>b.mono h λxs n1 ⟨v,h1,h2⟩=>⟨v,h1,k _ _ h2⟩,λh hw k=>
 b.ok h hw λx dx G1 n1 ⟨v,e,hq⟩ hl E1 L1 D1=>R.ok D1 (UT h.d E1 L1) e λz G3 E3 D3 N3=>k z v G3 n1 hq (E1.trans (Bk.XN E3)) (L1.ex E3) D3 λz=>(N3 z).backx E1 L1⟩
def eDr {r:List T->Gp->Q3->Prop} {t:TA3} (R:DrD r) (b:PwA l t):PwE l (cb3 r (qc (v3 l) t)):=⟨λρ n Q=>b.w ρ n λxs n1=>R.W xs n1 Q,b.fv,R.nw,λh k=>b.mono h λxs n1 h=>R.mono h k,λ{D τ ρ G a n q Q} h hw k=>by
 simp only [cb3,qc,v3,h.tl];exact b.ok h hw λx dx G1 n1 hW hl E1 L1 D1=>R.ok L1 h.da (UT h.d E1 L1) D1 hW λz d G3 n3 hq E3 L3 D3 N3=>k z d G3 n3 hq (E1.trans E3) L3 D3 λz=>(N3 z).backx E1 L1⟩
def iR {t:TA3} (b:PwA l t):PwI l (VG t):=⟨λρ n Q=>b.w ρ n λxs n1=>∃ ds,qd3 xs=some ds/\Q ds n1,b.fv,true,λh k=>b.mono h λxs n1 ⟨v,h1,h2⟩=>⟨v,h1,k _ _ h2⟩,λh hw k=>b.ok h hw λx dx G1 n1 ⟨ds,e,hq⟩ hl E1 L1 D1=>by
 unfold qd3 at e;split at e
 ·unfold cif at e;split at e
  ·rename_i c;cases e;cases D1 with
   |cons a b=>cases b;cases a;simp only;rw [TL];exact ⟨c,k _ _ _ _ _ hq E1 L1 (Dqs.ofInts _) (λ_ _=>trivial) λ_=>⟨_,rfl⟩⟩
  ·cases e
 ·unfold cif at e;split at e
  ·rename_i c;cases e;cases D1 with
   |cons a b=>cases b with
    |cons b c'=>cases c';cases a;cases b;simp only;rw [TL];exact ⟨c,k _ _ _ _ _ hq E1 L1 (Dqs.ofInts _) (λ_ _=>trivial) λ_=>⟨_,rfl⟩⟩
  ·cases e
 ·cases e⟩
end
def VA.ext {D:Addr->Prop} {a:Addr} {G G':Gp} {τ:St3} {ρ:Rho} (h:VA D G τ ρ) (e:Ext a G G') (da:D a):VA D G' τ ρ:=h.upx (SN e da)
structure RL (l:Nat) (a:Addr) (z0:Option (Option T)×Nat) (D:Addr->Prop) (G0:Gp) (A:Nat->Addr->Prop) (τ:St3) (ρ:Rho) (G:Gp) (n:Nat):Prop where
 r:RS D G0 A τ ρ G
 al:A l a
 tl:τ[l]?=some (some (.ref a))
 ul:ρ[l]?=some Sl.un
 lf:Lf G a n
 tz:τ[0]?=z0.1/\τ.length=z0.2
section
variable {l:Nat} {a:Addr} {z0:Option (Option T)×Nat} {D:Addr->Prop} {G0 G G':Gp} {A:Nat->Addr->Prop} {τ:St3} {ρ:Rho} {n n':Nat}
def RL.vl (h:RL l a z0 D G0 A τ ρ G n):vw ρ l=none:=by unfold vw;rw [h.ul];rfl
def RL.up (h:RL l a z0 D G0 A τ ρ G n) (e:Ext a G G') (lf:Lf G' a n'):RL l a z0 D G0 A τ ρ G' n':=
 ⟨h.r.keep (W:=λb=>b=a) e λb z=>⟨l,by rw [z];exact h.al,h.ul,by rw [z];exact YC lf⟩,h.al,h.tl,h.ul,lf,h.tz⟩
def RL.ne (h:RL l a z0 D G0 A τ ρ G n) {i:Nat} {p:Addr} {s:Sl} (hp:A i p) (e:ρ[i]?=some s) (hs:s≠.un):p≠a:=by
 rintro rfl;have:=h.r.inj i l _ hp h.al;subst this;rw [h.ul] at e;cases e;exact hs rfl
def RL.all (h:RL l a z0 D G0 A τ ρ G n) (fv:List Nat):Ln fv l (λb=>D b\/b=a) G τ ρ a n:=by
 refine ⟨λi _ d hd=>?_,λb hb=>?_,.inr rfl,h.tl,h.vl,h.lf⟩
 ·unfold vw at hd;obtain ⟨s,e,hd⟩:=obb hd;refine (h.r.sl i s e).vis hd (zh λb z=>?_) λp o q g=>?_
  ·rcases z with z|z
   ·exact .inl z
   ·subst z;exact .inr ⟨l,h.al⟩
  ·rw [zB]
   ·exact g
   ·rintro (z|z)
    ·exact h.r.nd q z
    ·exact h.ne q e (by rintro rfl;cases hd) z
 ·rcases hb with hb|hb
  ·exact h.r.domD b hb
  ·subst hb;exact YC h.lf
def qmz {m:List Bool} (hm:mkb m l=false) (al:A l a):Ad m A l a:=⟨al,hm⟩
theorem RL.dem (h:RL l a z0 D G0 A τ ρ G n) {m:List Bool} (hm:mkb m l=false):RL l a z0 D G0 (Ad m A) τ (Pu.dm m ρ) G n:=
 ⟨h.r.dem m,qmz hm h.al,h.tl,by rw [qbf,h.ul];simp [hm],h.lf,h.tz⟩
def RL.ln (h:RL l a z0 D G0 A τ ρ G n) {m:List Bool} {fv:List Nat} (hm:mkb m l=false) (hf:Tru (fv.all (mkb m))):Ln fv l (AD D (Ad m A)) G τ ρ a n:=
 ⟨h.r.viewD hf,(h.r.dem m).dom,.inr ⟨l,qmz hm h.al⟩,h.tl,h.vl,h.lf⟩
theorem RL.put (h:RL l a z0 D G0 A τ ρ G n) {i:Nat} (hi:i≠l) (h0:i≠0) {x:T} {d:PyData} (hx:Dq (rs (AD D A) G) x d):RL l a z0 D G0 (Er A i) (τ.set i (some x)) (ρ.set i (.sh d)) G n:=
 ⟨h.r.put i hx,(.inr ⟨λz=>hi z.symm,h.al⟩),by rw [getElem?_set,if_neg hi];exact h.tl,by rw [getElem?_set,if_neg hi];exact h.ul,h.lf,⟨by rw [getElem?_set,if_neg h0];exact h.tz.1,by rw [List.length_set];exact h.tz.2⟩⟩
theorem RL.puts:∀ {ts:List (Nat×T)} {bs:List (Nat×PyData)} {A:Nat->Addr->Prop} {τ:St3} {ρ:Rho},RL l a z0 D G0 A τ ρ G n->Bd (rs (AD D A) G) ts bs->(∀ p∈bs,p.1≠l/\p.1≠0)->∃ A',RL l a z0 D G0 A' (sets τ ts) (jq ρ bs) G n
 |_,_,A,_,_,h,.nil,_=>⟨A,h⟩
 |_,_,A,_,_,h,.cons x b,hn=>by
  unfold sets jq;exact RL.puts (h.put (hn _ u6).1 (hn _ u6).2 x) (b.up qge) (λp hp=>hn p (v6 _ hp))
theorem RL.upd (h:RL l a z0 D G0 A τ ρ G n) {i:Nat} (hi:i≠l) (h0:i≠0) {x:T} {s:Sl} {B:Addr->Prop} (hg:∀ b o,b≠a->¬ A i b->G b=some o->G' b=some o) (lf:Lf G' a n') (hB:∀ b,B b->(A i b\/G b=none)/\G' b≠none)
  (hs:Ex (rs (AD D A) G) (rs (AD D (Rg A i B)) G')->SlR (rs (AD D (Rg A i B)) G') G' B (some (some x)) s):RL l a z0 D G0 (Rg A i B) (τ.set i (some x)) (ρ.set i s) G' n':=
 ⟨h.r.upd i (W:=λb=>b=a\/A i b) (λb o w z=>hg b o (λy=>w (.inl y)) (λy=>w (.inr y)) z) (λb z=>by
  rcases z with z|z
  ·exact ⟨l,by rw [z];exact h.al,.inr ⟨h.ul,by rw [z];exact YC lf⟩⟩
  ·exact ⟨i,z,.inl rfl⟩) hB hs,.inr ⟨λz=>hi z.symm,h.al⟩,by rw [getElem?_set,if_neg hi];exact h.tl,by rw [getElem?_set,if_neg hi];exact h.ul,lf,⟨by rw [getElem?_set,if_neg h0];exact h.tz.1,by rw [List.length_set];exact h.tz.2⟩⟩
def RL.putN (h:RL l a z0 D G0 A τ ρ G n) {i:Nat} (hi:i≠l) (h0:i≠0) {x:T} {d:PyData} {ds:List PyData} (hd:d=.list ds) (E:Ext a G G') (lf:Lf G' a n') (hx:Nw (AD D A) G G' x d):∃ A',RL l a z0 D G0 A' (τ.set i (some x)) (ρ.set i (.ow ds)) G' n':=by
 rcases hx with hx|⟨p,xs,ds',rfl,e',gp,gp',hs⟩
 ·rw [hd] at hx;cases hx
 rw [hd] at e';cases e';refine ⟨_,h.upd hi h0 (B:=λb=>b=p) (λb o w _ z=>E b o w z) lf (λb z=>by subst z;exact ⟨.inr gp,by rw [gp'];simp⟩) λ_=>⟨p,xs,rfl,rfl,gp',hs.up (zh λb z=>?_)⟩⟩;rcases z with z|⟨j,⟨_,z⟩|⟨_,z⟩⟩
 ·exact .inl (.inl z)
 ·exact .inr z
 ·exact .inl (.inr ⟨j,z⟩)
theorem RL.wr (h:RL l a z0 D G0 A τ ρ G n) {i:Nat} {p:Addr} {xs:List T} {ds ds0:List PyData} (ho:ρ[i]?=some (Sl.ow ds0)) (hi:A i p) (ht:τ[i]?=some (some (.ref p))) (hs:Dqs (rs (AD D A) G) xs ds):RL l a z0 D G0 A τ (ρ.set i (.ow ds)) (gu G p (.lst xs)) n:=by
 have il:i≠l:=by rintro rfl;rw [h.ul] at ho;cases ho
 have pa:p≠a:=by rintro rfl;exact il (h.r.inj i l _ hi h.al)
 exact ⟨h.r.wr hi ht hs,h.al,h.tl,by rw [getElem?_set,if_neg il];exact h.ul,h.lf.new pa,h.tz⟩
end
abbrev QO:=Ot->Nat->Prop
def NV (l:Nat) (a:Addr) (z0:Option (Option T)×Nat) (D:Addr->Prop) (G0:Gp) (e:Ends3):Ot->Nat->Prop
 |.nx ρ,n=>∀ A τ G,RL l a z0 D G0 A τ ρ G n->e.nx τ G
 |.bk ρ,n=>∀ A τ G,RL l a z0 D G0 A τ ρ G n->e.bk τ G
 |.ct ρ,n=>∀ A τ G,RL l a z0 D G0 A τ ρ G n->e.ct τ G
 |.rt d fr,n=>∀ x G,Ex G0 G->Lf G a n->Dq (rs (λb=>D b\/b=a) G) x d->(fr=true->Nw (λb=>D b\/b=a) G0 G x d)->e.rt x G
structure PwS (l:Nat) (t:TS3) where
 w:Rho->Nat->QO->Prop
 mono:∀ {ρ n} {Q Q':QO},w ρ n Q->(∀ o m,Q o m->Q' o m)->w ρ n Q'
 ok:∀ {a z0 D G0 A τ ρ G n} {e:Ends3} {Q:QO},RL l a z0 D G0 A τ ρ G n->w ρ n Q->(∀ o m,Q o m->NV l a z0 D G0 e o m)->t e τ G
section
variable {l:Nat}
def RP:PwS l zk:=⟨λρ n Q=>Q (.nx ρ) n,λh k=>k _ _ h,λh hw k=>k _ _ hw _ _ _ h⟩
def sqw (b:Rho->Nat->QO->Prop) (Q:QO):QO:=λo n=>match o with|.nx ρ'=>b ρ' n Q|o=>Q o n
def CL {t u:TS3} (x:PwS l t) (y:PwS l u):PwS l (qP t u):=⟨λρ n Q=>x.w ρ n (sqw y.w Q),λh k=>x.mono h λo m h=>by
  cases o with
  |nx ρ=>exact y.mono h k
  |bk ρ=>exact k _ _ h
  |ct ρ=>exact k _ _ h
  |rt d f=>exact k _ _ h,λh hw k=>x.ok h hw λo m h=>by
  cases o with
  |nx ρ=>exact λA τ G r=>y.ok r h k
  |bk ρ=>exact k _ _ h
  |ct ρ=>exact k _ _ h
  |rt d f=>exact k _ _ h⟩
def wIf {c:TT3} {t u:TS3} (pc:PwC l c) (x:PwS l t) (y:PwS l u):PwS l (ZE c t u):=⟨λρ n Q=>pc.w ρ n λk n1=>if k then x.w ρ n1 Q else y.w ρ n1 Q,λh k=>pc.mono h λj m h=>by
  cases j with
  |true=>rw [if_pos rfl] at h ⊢;exact x.mono h k
  |false=>exact y.mono h k,λh hw k=>pc.ok (h.all _) hw λj G1 n1 hj E1 L1=>by
  cases j with
  |true=>rw [if_pos rfl] at hj ⊢;exact x.ok (h.up E1 L1) hj k
  |false=>exact y.ok (h.up E1 L1) hj k⟩
def qfu {a:Addr} {z0:Option (Option T)×Nat} {D:Addr->Prop} {G0 G G':Gp} {A:Nat->Addr->Prop} {τ:St3} {ρ:Rho} {n:Nat} (h:RL l a z0 D G0 A τ ρ G n) (e:Ext a G G'):Ex G0 G':=λb o x=>e b o (by rintro rfl;rw [h.r.fr l _ h.al] at x;cases x) (h.r.ex b o x)
def qeK {t:TE3} (x:PwE l t):PwS l (zm t):=⟨λρ n Q=>x.w ρ n λd n1=>Q (.rt d x.nw) n1,λh k=>x.mono h λd m h=>k _ _ h,λh hw k=>x.ok (h.all _) hw λy d G1 n1 hq E1 L1 D1 N1=>k _ _ hq y G1 (qfu h E1) L1 D1 λz=>(N1 z).back h.r.ex⟩
def qhg (i:Nat):PwS l (zm (v3 i)):=⟨λρ n Q=>∃ d b,qa4 ρ i=some (.rt d b)/\Q (.rt d b) n,λ⟨d,b,h1,h2⟩ k=>⟨d,b,h1,k _ _ h2⟩,λ{a z0 D G0 A τ ρ G n e Q} h ⟨d,b,h1,h2⟩ k=>by
 unfold qa4 at h1;split at h1
 ·rename_i ds e;cases h1;obtain ⟨p,xs,b,c,g,f⟩:=h.r.ow i _ e;simp only [zm,v3,c];have pa:p≠a:=by
   rintro rfl;have:=h.r.inj i l _ b h.al;subst this;rw [h.ul] at e;cases e
  refine k _ _ h2 _ _ h.r.ex h.lf (.lst (by rw [zB (by rintro (z|z);exact h.r.nd b z;exact pa z)];exact g) (f.up (zh λb z=>?_))) λ_=>.inr ⟨p,xs,ds,rfl,rfl,h.r.fr i p b,g,f.up (zh λq z=>?_)⟩
  ·rcases z with z|z
   ·exact .inl z
   ·subst z;exact .inr ⟨l,h.al⟩
  ·rcases z with (z|z)|z
   ·exact .inl z
   ·subst z;exact .inr ⟨l,h.al⟩
   ·subst z;exact .inr ⟨i,b⟩
 ·rename_i d e;cases h1;obtain ⟨t,b,c⟩:=h.r.sh i _ e;simp only [zm,v3,b];refine k _ _ h2 _ _ h.r.ex h.lf (c.up (zh λb z=>?_)) (λz=>by cases z);rcases z with z|z
  ·exact .inl z
  ·subst z;exact .inr ⟨l,h.al⟩
 ·cases h1⟩
def qbd {t:TE3} (x:PwE l t) (i:Nat) (m:List Bool) (hm:Tru (x.fv.all (mkb m))) (hl:Tru (!mkb m l&&(i != l&&i != 0))):PwS l (zC t (gn3 i)):=⟨λρ n Q=>x.w ρ n λd n1=>Q (.nx (LI m x.nw i d ρ)) n1,λh k=>x.mono h λd m h=>k _ _ h,λ{a z0 D G0 A τ ρ G n e Q} h hw k=>by
 have hl':mkb m l=false/\i≠l/\i≠0:=by simpa using hl.h
 refine x.ok (h.ln hl'.1 hm) hw λy d G1 n1 hq E1 L1 D1 N1=>?_;have k:=k _ _ hq;unfold LI at k;show e.nx (τ.set i (some y)) G1;split at k
 ·rename_i hs;exact k _ _ _ ((h.up E1 L1).put hl'.2.1 hl'.2.2 (DB D1 hs))
 ·split at k
  ·rename_i hn;have N:=N1 hn;rcases id N with h2|⟨p,xs,ds,h1,h2,_⟩
   ·exact absurd h2 (by assumption)
   subst h2;obtain ⟨A',r⟩:=(h.dem hl'.1).putN hl'.2.1 hl'.2.2 rfl E1 L1 N;exact k _ _ _ r
  ·exact k _ _ _ (((h.dem hl'.1).up E1 L1).put hl'.2.1 hl'.2.2 D1)⟩
def qio {t:TE3} {g:TG3} (x:PwE l t) (pg:PuG g) (m:List Bool) (hm:Tru (x.fv.all (mkb m))) (hl:Tru (!mkb m l&&pg.tg.all (λi=>i != l&&i != 0))):PwS l (zC t g):=⟨λρ n Q=>x.w ρ n λd n1=>∃ bs,pg.f d=some bs/\Q (.nx (jq (dm m ρ) bs)) n1,λh k=>x.mono h λd m ⟨bs,h1,h2⟩=>⟨bs,h1,k _ _ h2⟩,λ{a z0 D G0 A τ ρ G n e Q} h hw k=>by
 have hl':mkb m l=false/\∀ i∈pg.tg,i≠l/\i≠0:=by simpa using hl.h
 refine x.ok (h.ln hl'.1 hm) hw λy d G1 n1 ⟨bs,e2,hq⟩ E1 L1 D1 N1=>?_;obtain ⟨ts,bd,kg⟩:=pg.ok D1 e2;refine kg _ _ _ ?_;obtain ⟨A',h'⟩:=((h.dem hl'.1).up E1 L1).puts bd (λp hp=>hl'.2 _ (pg.at' e2 p hp));exact k _ _ hq _ _ _ h'⟩
def ql8 {t:TA3} (x:PwA l t) (i j:Nat) (m:List Bool) (hm:Tru (x.fv.all (mkb m))) (hl:Tru (!mkb m l&&((i != l&&i != 0)&&(j != l&&j != 0)))):PwS l (qik i j t):=⟨λρ n Q=>x.w ρ n λds n1=>∃ o,qjy i j m ds ρ=some o/\Q o n1,λh k=>x.mono h λd m ⟨bs,h1,h2⟩=>⟨bs,h1,k _ _ h2⟩,λ{a z0 D G0 A τ ρ G n e Q} h hw k=>by
 have hl':mkb m l=false/\(i≠l/\i≠0)/\j≠l/\j≠0:=by simpa using hl.h
 refine x.ok (h.ln hl'.1 hm) hw λy d G1 n1 ⟨o,e2,hq⟩ hlen E1 L1 D1=>?_;unfold qjy at e2;split at e2
 ·cases D1 with
  |cons x1 b=>cases b with
   |cons x2 c=>
    cases c;split at e2
    ·rename_i hs;cases e2;rw [Bool.and_eq_true] at hs;exact k _ _ hq _ _ _ (((h.up E1 L1).put hl'.2.1.1 hl'.2.1.2 (DB x1 hs.1)).put hl'.2.2.1 hl'.2.2.2 (DB x2 hs.2))
    ·cases e2;exact k _ _ hq _ _ _ ((((h.dem hl'.1).up E1 L1).put hl'.2.1.1 hl'.2.1.2 x1).put hl'.2.2.1 hl'.2.2.2 (x2.up qge))
 ·cases e2⟩
def RL.evalS {a:Addr} {z0:Option (Option T)×Nat} {D:Addr->Prop} {G0 G:Gp} {A:Nat->Addr->Prop} {τ:St3} {ρ:Rho} {n:Nat} (h:RL l a z0 D G0 A τ ρ G n) {t:TE3} (x:PwE l t) (m:List Bool) (hm:Tru (x.fv.all (mkb m))) (hl:mkb m l=false) {Q:QD} (hw:x.w ρ n Q) (q:Q3) (k:∀ y d G' n' A1,Q d n'->RL l a z0 D G0 A1 τ (dmS m d ρ) G' n'->Ext a G G'->Dq (rs (AD D A1) G') y d->q y G'):t τ G q:=by
 refine x.ok (h.ln hl hm) hw λy d G1 n1 hq E1 L1 D1 _=>?_;by_cases hs:XH d=true
 ·exact k y d G1 n1 A hq (by unfold dmS;rw [if_pos hs];exact h.up E1 L1) E1 (DB D1 hs)
 ·exact k y d G1 n1 _ hq (by unfold dmS;rw [if_neg hs];exact (h.dem hl).up E1 L1) E1 D1
def qlB {t:TE3} (x:PwE l t) (i:Nat) (m:List Bool) (hm:Tru (x.fv.all (mkb m))) (hl:Tru (!mkb m l)):PwS l (YD (bm3 LL (v3 i) (qc t qk))):=⟨λρ n Q=>∃ ds,slot ρ i=some ds/\x.w ρ n λd n1=>slot (dmS m d ρ) i=some ds/\ds.length<16777216/\Q (.nx ((dmS m d ρ).set i (.ow (ds++[d])))) n1,λ⟨v,h0,h⟩ k=>⟨v,h0,x.mono h λd m ⟨y,h1,h2⟩=>⟨y,h1,k _ _ h2⟩⟩,λ{a z0 D G0 A τ ρ G n e Q} h ⟨ds,h0,hw⟩ k=>by
 have hl':mkb m l=false:=by simpa using hl.h
 obtain ⟨p,xs,b,c,g,f⟩:=h.r.ow i _ (U4 h0);simp only [YD,bm3,v3,c,qT g];refine ⟨rfl,h.evalS x m hm hl' hw _ λy d G1 n1 A1 ⟨h1,h2,hq⟩ r E1 D1=>?_⟩;obtain ⟨p',xs',b',c',g',f'⟩:=r.r.ow i _ (U4 h1);rw [c] at c';cases c';simp only [qk,LL,g'];exact ⟨by rw [f'.length,y8];exact h2,k _ _ hq _ _ _ (r.wr (U4 h1) b' c (f'.append (.cons D1 .nil)))⟩⟩
def qbZ (gf:PyData->Option (List (Nat×PyData))) (bw:Rho->Nat->QO->Prop):List PyData->Rho->Nat->QO->Prop
 |[],ρ,n,Q=>Q (.nx ρ) n
 |d::r,ρ,n,Q=>∃ bs,gf d=some bs/\bw (jq ρ bs) n λo n1=>match o with
  |.nx ρ'=>qbZ gf bw r ρ' n1 Q
  |.ct ρ'=>qbZ gf bw r ρ' n1 Q
  |.bk ρ'=>Q (.nx ρ') n1
  |.rt d b=>Q (.rt d b) n1
theorem UA {g:TG3} {tb:TS3} (pg:PuG g) (pb:PwS l tb):∀ {ds:List PyData} {ρ:Rho} {n:Nat} {Q Q':QO},qbZ pg.f pb.w ds ρ n Q->(∀ o m,Q o m->Q' o m)->qbZ pg.f pb.w ds ρ n Q'
 |[],_,_,_,_,h,k=>k _ _ h
 |d::r,_,_,_,_,⟨bs,e,h⟩,k=>⟨bs,e,pb.mono h λo m h=>by
   cases o with
   |nx ρ=>exact UA pg pb h k
   |ct ρ=>exact UA pg pb h k
   |bk ρ=>exact k _ _ h
   |rt d b=>exact k _ _ h⟩
theorem WA {stay:Gp->Prop} {g:TG3} {tb:TS3} {e:Ends3} (pg:PuG g) (pb:PwS l tb) {a:Addr} {z0:Option (Option T)×Nat} {D:Addr->Prop} {G0:Gp} {Q:QO} (hl:∀ i∈pg.tg,i≠l/\i≠0) (hs:∀ A τ ρ G n,RL l a z0 D G0 A τ ρ G n->stay G) (k:∀ o m,Q o m->NV l a z0 D G0 e o m) :
  ∀ (ds:List PyData) (items:List T),(∀ A τ ρ G n,RL l a z0 D G0 A τ ρ G n->Dqs (rs (AD D A) G) items ds)->∀ A τ ρ G n,RL l a z0 D G0 A τ ρ G n->qbZ pg.f pb.w ds ρ n Q->WS stay g tb e items τ G
 |[],items,hi,A,τ,ρ,G,n,h,hw=>by
  have:=hi _ _ _ _ _ h;cases this;exact ⟨hs _ _ _ _ _ h,k _ _ hw _ _ _ h⟩
 |d::ds,items,hi,A,τ,ρ,G,n,h,⟨bs,e1,hw⟩=>by
  have hh:=hi _ _ _ _ _ h;cases hh with
  |cons hx hr=>
   rename_i x items;obtain ⟨ts,bd,kg⟩:=pg.ok hx e1;refine ⟨hs _ _ _ _ _ h,kg _ _ _ ?_⟩;obtain ⟨A',h'⟩:=h.puts bd λp hp=>hl _ (pg.at' e1 p hp);have hi':∀ A τ ρ G n,RL l a z0 D G0 A τ ρ G n->Dqs (rs (AD D A) G) items ds:=λA τ ρ G n h=>by
    have:=hi _ _ _ _ _ h;cases this with
    |cons a b=>exact b
   refine pb.ok h' hw λo m hq=>?_;cases o with
   |nx ρ'=>exact λA2 τ2 G2 h2=>WA pg pb hl hs k ds items hi' _ _ _ _ _ h2 hq
   |ct ρ'=>exact λA2 τ2 G2 h2=>WA pg pb hl hs k ds items hi' _ _ _ _ _ h2 hq
   |bk ρ'=>exact k _ _ hq
   |rt d fr=>exact k _ _ hq
theorem RL.base {a:Addr} {z0:Option (Option T)×Nat} {D:Addr->Prop} {G0 Gb G:Gp} {A:Nat->Addr->Prop} {τ:St3} {ρ:Rho} {n:Nat} (h:RL l a z0 D Gb A τ ρ G n) (e:Ex G0 Gb) (hd:Dom D G0):RL l a z0 D G0 A τ ρ G n:=⟨h.r.base e hd,h.al,h.tl,h.ul,h.lf,h.tz⟩
theorem NV.base {a:Addr} {z0:Option (Option T)×Nat} {D:Addr->Prop} {G0 Gb:Gp} {e:Ends3} {o:Ot} {n:Nat} (h:NV l a z0 D G0 e o n) (x:Ex G0 Gb) (hd:Dom D G0):NV l a z0 D Gb e o n:=by
 cases o with
 |nx ρ=>exact λA τ G r=>h A τ G (r.base x hd)
 |bk ρ=>exact λA τ G r=>h A τ G (r.base x hd)
 |ct ρ=>exact λA τ G r=>h A τ G (r.base x hd)
 |rt d fr=>exact λy G p q r z=>h y G (x.trans p) q r λw=>(z w).back x
def qkU {wi:TI3} {g:TG3} {tb:TS3} (pi:PwI l wi) (pg:PuG g) (pb:PwS l tb) (m:List Bool) (hm:Tru (pi.fv.all (mkb m))) (hl:Tru (!mkb m l&&pg.tg.all (λi=>i != l&&i != 0))):PwS l (DF wi g tb):=⟨λρ n Q=>pi.w ρ n λds n1=>qbZ pg.f pb.w ds (if pi.nm then ρ else dm m ρ) n1 Q,λh k=>pi.mono h λd m h=>UA pg pb h k,λ{a z0 D G0 A τ ρ G n e Q} h hw k=>by
 have hl':mkb m l=false/\∀ i∈pg.tg,i≠l/\i≠0:=by simpa using hl.h
 refine pi.ok (h.ln hl'.1 hm) hw λitems stay ds G1 n1 hq E1 L1 D1 hs hnm=>?_;cases hb:pi.nm with
 |true=>
  rw [hb,if_pos rfl] at hq;obtain ⟨ns,rfl⟩:=hnm hb;have:=D1.ints;subst this;exact WA pg pb hl'.2 (λ_ _ _ _ _ _=>hs _ (.inl hb)) k _ _ (λA τ ρ G _ _=>Dqs.ofInts _) _ _ _ _ _ (h.up E1 L1) hq
 |false=>
  rw [hb,if_neg y6] at hq;have h1:=(h.dem hl'.1).up E1 L1;have b1:Ex G0 (rs (λb=>∃ i,Ad m A i b) G1):=λb o e=>by
   rw [zB]
   ·exact h1.r.ex _ _ e
   ·rintro ⟨i,z⟩;rw [h1.r.fr i _ z] at e;cases e
  have h2:RL l a z0 D (rs (λb=>∃ i,Ad m A i b) G1) (Ad m A) τ (dm m ρ) G1 n1:=⟨⟨YI,h.r.dm.up b1,λi p z=>by unfold rs;exact qU ⟨i,z⟩,h1.r.da,h1.r.inj,h1.r.len,h1.r.sl⟩,h1.al,h1.tl,h1.ul,h1.lf,h1.tz⟩
  have X:∀ A2 τ2 ρ2 G2,RS D (rs (λb=>∃ i,Ad m A i b) G1) A2 τ2 ρ2 G2->Ex (rs (AD D (Ad m A)) G1) (rs (AD D A2) G2):=λA2 τ2 ρ2 G2 r b o e=>by
   obtain ⟨n1,e⟩:=qo e;have eb:rs (λb=>∃ i,Ad m A i b) G1 b=some o:=by rw [zB (λz=>n1 (.inr z))];exact e
   rw [zB]
   ·exact r.ex _ _ eb
   ·rintro (z|⟨i,z⟩)
    ·exact n1 (.inl z)
    ·rw [r.fr i _ z] at eb;cases eb
  exact WA pg pb hl'.2 (λA2 τ2 ρ2 G2 n2 r=>hs _ (.inr ((X _ _ _ _ r.r).trans YI))) (λo m hq=>(k o m hq).base b1 h.r.dm) _ _ (λA2 τ2 ρ2 G2 n2 r=>D1.up (X _ _ _ _ r.r)) _ _ _ _ _ h2 hq⟩
end
def DSp (W:List PyData->Nat->QD->Prop) (fr:Bool):Sp3:=λts G q=>∃ (D:Addr->Prop) (a:Addr) (n:Nat) (ts':List T) (ds:List PyData) (Q:QD),ts=.ref a::ts'/\Lf G a n/\D a/\Dom D G/\Dqs (rs D G) ts' ds/\W ds n Q/\∀ x d G' n',Q d n'->Ext a G G'->Lf G' a n'->Dq (rs D G') x d->(fr=true->Nw D G G' x d)->q x G'
structure Wm where
 W:List PyData->Nat->QD->Prop
 mono:∀ {ds n} {Q Q':QD},W ds n Q->(∀ d m,Q d m->Q' d m)->W ds n Q'
def dSp (w:Wm) (fr:Bool):DrD (DSp w.W fr):=⟨w.W,fr,w.mono,λ{D G a n ts ds q Q} lf da hd hs hw k=>⟨D,a,n,ts,ds,Q,rfl,lf,da,hd,hs,hw,k⟩⟩
def qgA (fr:Bool) (Q:QD):QO:=λo n=>match o with
 |.rt d b=>(fr=true->b=true)/\∃ m,n<=m/\Q d m
 |.nx _=>fr=false/\∃ m,n<=m/\Q .none m
 |_=>False
def qlp {t:TS3} (b:PwS 0 t) (k N:Nat) (fr:Bool):Wm:=⟨λds n Q=>ds.length+1=k/\b.w (.un::(ds.map Sl.sh++List.replicate (N-(ds.length+1)) .un)) n (qgA fr Q),λ⟨h1,h2⟩ k=>⟨h1,b.mono h2 λo m h=>by
 cases o with
 |rt d f=>obtain ⟨h1,m,h2,h3⟩:=h;exact ⟨h1,m,h2,k _ _ h3⟩
 |nx ρ=>obtain ⟨h1,m,h2,h3⟩:=h;exact ⟨h1,m,h2,k _ _ h3⟩
 |bk ρ=>exact h
 |ct ρ=>exact h⟩⟩
def MC {t:TS3} (b:PwS 0 t) (N:List Str) (k:Nat) (fr:Bool):∀ ts G q,DSp (qlp b k N.length fr).W fr ts G q->ts.length=k/\t { nx:=λ_ G'=>q .non G',rt:=q } (qv N ts) G:=by
 rintro ts G q ⟨D,a,n,ts',ds,Q,rfl,lf,da,hd,hs,⟨hk,hw⟩,h⟩;refine ⟨by simp [hs.length];omega,?_⟩;have DD:∀ b,(D b/\b≠a)\/b=a↔D b:=λb=>by
  by_cases e:b=a
  ·subst e;simp [da]
  ·simp [e]
 have rr:∀ H,rs (λb=>(D b/\b≠a)\/b=a) H=rs D H:=λH=>by
  have:(λb=>(D b/\b≠a)\/b=a)=D:=funext λb=>propext (DD b);rw [this]
 have ad:AD (λb=>D b/\b≠a) (λi p=>i=0/\p=a)=D:=funext λb=>propext ⟨(λz=>by
   rcases z with z|⟨i,_,z⟩
   ·exact z.1
   ·rw [z];exact da),(λz=>by
   by_cases e:b=a
   ·exact .inr ⟨0,rfl,e⟩
   ·exact .inl ⟨z,e⟩)⟩
 have ga:G a≠none:=YC lf;have r:RL 0 a (some (some (.ref a)),(qv N (.ref a::ts')).length) (λb=>D b/\b≠a) (rs (λb=>b=a) G) (λi p=>i=0/\p=a) (qv N (.ref a::ts')) (.un::(ds.map Sl.sh++List.replicate (N.length-(ds.length+1)) .un)) G n:=by
  refine ⟨⟨YI,λb hb=>by rw [zB (D:=λb=>b=a) hb.2];exact hd b hb.1,λi p e=>by rw [e.2];unfold rs;exact qU rfl,λi p e=>by rw [e.2];exact ga,λi j p e e'=>e.1.trans e'.1.symm,by simp [qv,hs.length],λi s e=>?_⟩,⟨rfl,rfl⟩,by simp [qv],rfl,lf,⟨by simp [qv],rfl⟩⟩;rw [ad];cases i with
  |zero=>cases e;trivial
  |succ i=>
   rw [getElem?_cons_succ] at e;by_cases hi:i<ds.length
   ·rw [List.getElem?_append_left (by simpa using hi),getElem?_map] at e;obtain ⟨d2,e3,rfl⟩:=u9 e;obtain ⟨x,e5,hx⟩:=hs.get e3;refine ⟨x,?_,hx⟩;unfold qv;rw [List.getElem?_append_left (by simp [hs.length];exact hi),getElem?_map,getElem?_cons_succ,e5];rfl
   ·rw [List.getElem?_append_right (by simpa using hi),List.getElem?_replicate] at e;split at e<;>cases e
    trivial
 have xe:∀ {G'},Ex (rs (λb=>b=a) G) G'->Ext a G G':=λe b o n x=>e b o (by rw [zB (D:=λb=>b=a) n];exact x);refine b.ok r hw λo m hq=>?_;cases o with
 |rt d f=>
  intro x G' E L Dx0 N;have Dx:=Dx0;rw [rr] at Dx;obtain ⟨hq1,m2,hm,hq2⟩:=hq;refine h x d G' m2 hq2 (xe E) (L.mono (by omega)) Dx λz=>?_;rcases N (hq1 z) with h2|⟨p,xs,ds',h1,h2,c,g,f'⟩
  ·exact .inl h2
  have np:p≠a:=by
   rintro rfl;rw [h1] at Dx0;cases Dx0 with
   |lst g0 _=>exact (qo g0).1 (.inr rfl)
   |clo g0 _=>exact (qo g0).1 (.inr rfl)
  refine .inr ⟨p,xs,ds',h1,h2,by rw [zB (D:=λb=>b=a) np] at c;exact c,g,f'.up (zh λb z=>?_)⟩;rcases z with z|z
  ·exact .inl ((DD b).mpr z)
  ·exact .inr z
 |nx ρ=>
  obtain ⟨hq1,m2,hm,hq2⟩:=hq;exact λA τ G' r'=>h .non .none G' m2 hq2 (xe r'.r.ex) (r'.lf.mono (by omega)) .non λz=>by rw [hq1] at z;cases z
 |bk ρ=>exact hq.elim
 |ct ρ=>exact hq.elim
end Pu
namespace Pv
open PySem L2 L3 Pu
end Pv
namespace Pu
open PySem L2 L3
open Bk (Lf Ext)
def okW:QO:=λo _=>match o with|.nx _=>True|.ct _=>True|_=>False
def ql9 (K:Int):TE3:=o3 j7 (c3 (.int 1)) (cb3 qdG (qc (c3 (.int K)) (qc (cb3 DI (qc (v3 0) qk)) qk)))
def qgx {i:Nat} {τ:St3} {t:T} {G:Gp} {q:Q3} (h:τ[i]?=some (some t)):v3 i τ G q=q t G:=by unfold v3;rw [h]
def qmu (K:Int) (R:TS3):TS3:=qP (DF (VG (qc (ql9 K) qk)) (gn3 1) (qP (zC (cb3 Bk.jP (qc (v3 0) (qc (v3 1) qk))) (gn3 2)) R)) (zm (c3 (.bl true)))
def qbU {R:TS3} (b:PwS 2 R) (N:List Str) (K:Int) (M:Nat) (hK:0<=K/\K<=60) (hN:N.length=M+3) (h:∀ k:Nat,k<=60->b.w ([.un,.sh (.int k),.un]++List.replicate M .un) 0 okW):∀ ts G q,XD ts G q->ts.length=1/\qmu K R { nx:=λ_ G'=>q .non G',rt:=q } (qv N ts) G:=by
 rintro ts G q ⟨a,ns,rfl,hG,hl,hq⟩;refine ⟨rfl,?_⟩;have s0:(qv N [T.ref a])[0]?=some (some (.ref a)):=by simp [qv]
 have gl:getL G a=some (ns.map T.int):=by unfold getL;rw [hG]
 simp only [qmu,qP,DF,VG,ql9,qc,qk,o3,c3,cb3,v3,s0,DI,gl,qdG,j7,length_map];have cnt:((1+(if ((ns.length:Nat):Int)<K then ((ns.length:Nat):Int) else K)).toNat)<=61:=by split<;>omega
 refine ⟨⟨by split<;>omega,by split<;>omega⟩,?_⟩;refine qaH _ (λ_ τ G'=>G' a=some (.frz (ns.map T.int))/\τ[0]?=some (some (.ref a))/\τ.length=M+3) ⟨hG,s0,by simp [qv,hN]⟩ (λ_ _ _ _ _=>True.intro) ?_ ?_
 ·rintro i z τ G' nx hz ⟨gA,t0,tl⟩ hn;obtain ⟨hi,rfl⟩:=qen hz;have hi2:i<=60:=by omega
  have t1:(τ.set 1 (some (T.int (0+(i:Int)))))[0]?=some (some (.ref a)):=by rw [getElem?_set,if_neg (by omega)];exact t0
  have t2:(τ.set 1 (some (T.int (0+(i:Int)))))[1]?=some (some (T.int (0+(i:Int)))):=by rw [getElem?_set,if_pos rfl,if_pos (by omega)]
  show v3 0 (τ.set 1 (some (T.int (0+(i:Int))))) G' (λx G1=>v3 1 (τ.set 1 (some (T.int (0+(i:Int))))) G1 λy G2=>Bk.jP [x,y] G2 λz G3=>R _ ((τ.set 1 (some (T.int (0+(i:Int))))).set 2 (some z)) G3);rw [qgx t1,qgx t2];refine ⟨a,_,ns,rfl,gA,hl,by omega,by omega,λp o c hp ho=>?_⟩;have pa:a≠p:=by rintro rfl;rw [gA] at hp;cases hp
  have r:RL 2 p (some (some (.ref a)),M+3) (λ_=>False) G' (λj q=>j=2/\q=p) ((τ.set 1 (some (T.int (0+(i:Int))))).set 2 (some (.ref p))) ([.un,.sh (.int i),.un]++List.replicate M .un) (gu G' p (.lst [.int o,.int c,.int 0])) 0:=by
   refine ⟨⟨QH hp,λb z=>z.elim,λj q e=>by rw [e.2];exact hp,λj q e=>by rw [e.2,qy];simp,λj k q e e'=>e.1.trans e'.1.symm,by simp [tl],λj s e=>?_⟩,⟨rfl,rfl⟩,by rw [getElem?_set,if_pos rfl,if_pos (by simp;omega)],rfl,⟨o,c,0,qy,ho,by omega,by omega⟩,⟨by rw [getElem?_set,if_neg (by omega)];exact t1,by simp [tl]⟩⟩
   match j,e with
   |0,e=>cases e;trivial
   |1,e=>
    cases e;refine ⟨.int (0+(i:Int)),by rw [getElem?_set,if_neg (by omega)];exact t2,?_⟩;rw [Int.zero_add];exact .int _
   |2,e=>cases e;trivial
   |j+3,e=>
    simp only [cons_append,List.nil_append,getElem?_cons_succ,List.getElem?_replicate] at e;split at e<;>cases e
    trivial
  refine b.ok r (h i hi2) λo' m ho'=>?_;cases o' with
  |nx ρ'=>exact λA τ' G2 r2=>hn _ _ ⟨r2.r.ex _ _ gA,r2.tz.1,r2.tz.2⟩
  |ct ρ'=>exact λA τ' G2 r2=>hn _ _ ⟨r2.r.ex _ _ gA,r2.tz.1,r2.tz.2⟩
  |bk ρ'=>exact ho'.elim
  |rt d f=>exact ho'.elim
 ·rintro τ G' ⟨gA,t0,tl⟩;exact hq G'
def qj5 {G:Gp} {ts:List T} {i:Int} (h:Dqs G ts [.int i]):ts=[.int i]:=by
 cases h with
 |cons a b=>cases b;cases a;rfl
def lfc {G:Gp} {a:Addr} {n c:Nat} (h:Lf G a ((n:Int)+(c:Int))):Lf G a ((n+c:Nat):Int):=by rw [Int.natCast_add];exact h
def EN:DrD Bk.qX:=⟨λds n Q=>∃ m:Int,ds=[.int m]/\(1<=m/\m<1073741824)/\n<1000000000/\∀ d:Int,0<=d->d<m->Q (.int d) (n+1),false,
 λ⟨m,h1,h2,h3,h4⟩ k=>⟨m,h1,h2,h3,λd x y=>k _ _ (h4 d x y)⟩,λ{D G a n ts ds q Q} lf da hd hs ⟨m,h1,h2,h3,h4⟩ k=>by
 subst h1;have:=qj5 hs;subst this;exact ⟨a,n,m,rfl,h2.1,h2.2,lf,by omega,λd G' x y L E=>k _ _ G' (n+1) (h4 d x y) E (lfc (c:=1) L) (.int d) (λz=>by cases z)⟩⟩
def qgk {l:Nat} {t:TE3} {b:PuE t}:(eOf (l:=l) b).w=λρ n Q=>∃ d,b.f ρ=some d/\Q d n:=id rfl
def qiB {l:Nat} {t:TT3} {b:PuC t}:(cOf (l:=l) b).w=λρ n Q=>∃ d,b.f ρ=some d/\Q d n:=id rfl
def qh0 {l:Nat} {t:TA3} {b:PuA t}:(aOf (l:=l) b).w=λρ n Q=>∃ d,b.f ρ=some d/\Q d n:=id rfl
def qmI {l:Nat} {r:R3} {ta tb:TE3} {R:OpD r} {a:PwE l ta} {b:PwE l tb}:(eO R a b).w=λρ n Q=>a.w ρ n λx n1=>b.w ρ n1 λy n2=>∃ v,R.f x y=some v/\Q v n2:=id rfl
def qaS {l:Nat} {ta:TE3} {tr:TA3} {a:PwE l ta} {r:PwA l tr}:(U6 a r).w=λρ n Q=>a.w ρ n λx n1=>r.w ρ n1 λxs n2=>Q (x::xs) n2:=id rfl
def qcA {l:Nat} {t:TA3} {b:PwA l t} {hn:Tru (Nat.ble b.k 1000)}:(qlE b hn).w=λρ n Q=>b.w ρ n λxs n1=>Q (.tuple xs) n1:=id rfl
def L8 {l:Nat} {r:List T->Gp->Q3->Prop} {t:TA3} {R:FnD r} {b:PwA l t}:(qd9 R b).w=λρ n Q=>b.w ρ n λxs n1=>∃ v,R.f xs=some v/\Q v n1:=id rfl
def qiS {l:Nat} {r:List T->Gp->Q3->Prop} {t:TA3} {R:DrD r} {b:PwA l t}:(eDr R b).w=λρ n Q=>b.w ρ n λxs n1=>R.W xs n1 Q:=id rfl
def qmf {l:Nat} {t:TA3} {b:PwA l t}:(iR b).w=λρ n Q=>b.w ρ n λxs n1=>∃ ds,qd3 xs=some ds/\Q ds n1:=id rfl
def qf4 {l:Nat} {t:TA3} {b:PwA l t}:(iR b).nm=true:=id rfl
def qc8 {l:Nat} {t:TE3} {b:PuE t}:(eOf (l:=l) b).nw=b.nw:=id rfl
def qgj {l:Nat} {r:R3} {ta tb:TE3} {R:OpD r} {a:PwE l ta} {b:PwE l tb}:(eO R a b).nw=R.nw:=id rfl
def L7 {l:Nat} {t:TA3} {b:PwA l t} {hn:Tru (Nat.ble b.k 1000)}:(qlE b hn).nw=false:=id rfl
def MP {l:Nat}:(RP (l:=l)).w=λρ n Q=>Q (.nx ρ) n:=id rfl
def qcB {l:Nat} {t u:TS3} {x:PwS l t} {y:PwS l u}:(CL x y).w=λρ n Q=>x.w ρ n (sqw y.w Q):=id rfl
def qdC {b:Rho->Nat->QO->Prop} {Q:QO} {ρ:Rho} {n:Nat}:sqw b Q (.nx ρ) n=b ρ n Q:=id rfl
def qdJ {b:Rho->Nat->QO->Prop} {Q:QO} {d:PyData} {f:Bool} {n:Nat}:sqw b Q (.rt d f) n=Q (.rt d f) n:=id rfl
def qgU {l:Nat} {c:TT3} {t u:TS3} {pc:PwC l c} {x:PwS l t} {y:PwS l u}:(wIf pc x y).w=λρ n Q=>pc.w ρ n λk n1=>if k then x.w ρ n1 Q else y.w ρ n1 Q:=id rfl
def qdU {l:Nat} {t:TE3} {x:PwE l t}:(qeK x).w=λρ n Q=>x.w ρ n λd n1=>Q (.rt d x.nw) n1:=id rfl
def NY {l:Nat} {i:Nat}:(qhg (l:=l) i).w=λρ n Q=>∃ d b,qa4 ρ i=some (.rt d b)/\Q (.rt d b) n:=id rfl
def qc6 {l:Nat} {t:TE3} {x:PwE l t} {i:Nat} {m:List Bool} {hm:Tru (x.fv.all (mkb m))} {hl:Tru (!mkb m l&&(i != l&&i != 0))}:(qbd x i m hm hl).w=λρ n Q=>x.w ρ n λd n1=>Q (.nx (LI m x.nw i d ρ)) n1:=id rfl
def MZ {l:Nat} {t:TE3} {g:TG3} {x:PwE l t} {pg:PuG g} {m:List Bool} {hm:Tru (x.fv.all (mkb m))} {hl:Tru (!mkb m l&&pg.tg.all (λi=>i != l&&i != 0))}:(qio x pg m hm hl).w=λρ n Q=>x.w ρ n λd n1=>∃ bs,pg.f d=some bs/\Q (.nx (jq (dm m ρ) bs)) n1:=id rfl
def qcp {l:Nat} {t:TA3} {x:PwA l t} {i j:Nat} {m:List Bool} {hm:Tru (x.fv.all (mkb m))} {hl:Tru (!mkb m l&&((i != l&&i != 0)&&(j != l&&j != 0)))}:(ql8 x i j m hm hl).w=λρ n Q=>x.w ρ n λds n1=>∃ o,qjy i j m ds ρ=some o/\Q o n1:=id rfl
def qcV {l:Nat} {t:TE3} {x:PwE l t} {i:Nat} {m:List Bool} {hm:Tru (x.fv.all (mkb m))} {hl:Tru (!mkb m l)}:(qlB x i m hm hl).w=λρ n Q=>∃ ds,slot ρ i=some ds/\x.w ρ n λd n1=>slot (dmS m d ρ) i=some ds/\ds.length<16777216/\Q (.nx ((dmS m d ρ).set i (.ow (ds++[d])))) n1:=id rfl
def qdS {l:Nat} {wi:TI3} {g:TG3} {tb:TS3} {pi:PwI l wi} {pg:PuG g} {pb:PwS l tb} {m:List Bool} {hm:Tru (pi.fv.all (mkb m))} {hl:Tru (!mkb m l&&pg.tg.all (λi=>i != l&&i != 0))}:(qkU pi pg pb m hm hl).w=λρ n Q=>pi.w ρ n λds n1=>qbZ pg.f pb.w ds (if pi.nm then ρ else dm m ρ) n1 Q:=id rfl
def MV {ds:List PyData} {n:Nat} {Q:QD}:EN.W ds n Q=(∃ m:Int,ds=[.int m]/\(1<=m/\m<1073741824)/\n<1000000000/\∀ d:Int,0<=d->d<m->Q (.int d) (n+1)):=id rfl
def qiU {w:Wm} {fr:Bool}:(dSp w fr).W=w.W:=id rfl
def LX {Q:QD} {d:PyData} {b:Bool} {n:Nat}:qgA false Q (.rt d b) n=∃ m,n<=m/\Q d m:=propext ⟨λh=>h.2,λh=>⟨λz=>(y6 z).elim,h⟩⟩
def qdF {Q:QD} {d:PyData} {n:Nat}:qgA true Q (.rt d true) n=∃ m,n<=m/\Q d m:=propext ⟨λh=>h.2,λh=>⟨λ_=>rfl,h⟩⟩
def qdw {ρ:Rho} {n:Nat}:okW (.nx ρ) n=True:=id rfl
def qjk {α:Type} {v:α} {P:α->Prop}:(∃ d,some v=some d/\P d)=P v:=propext ⟨λ⟨d,h1,h2⟩=>by cases h1;exact h2,λh=>⟨v,rfl,h⟩⟩
def qdR {v:Int} {P:Int->Prop}:(∃ m:Int,[PyData.int v]=[.int m]/\P m)=P v:=propext ⟨λ⟨d,h1,h2⟩=>by cases h1;exact h2,λh=>⟨v,rfl,h⟩⟩
def qi7 {d:PyData} {b:Bool} {P:PyData->Bool->Prop}:(∃ d' b',some (Ot.rt d b)=some (.rt d' b')/\P d' b')=P d b:=propext ⟨λ⟨x,y,h1,h2⟩=>by cases h1;exact h2,λh=>⟨d,b,rfl,h⟩⟩
def EO {l:Nat} {t u:TS3} {x:PwS l t} {y:PwS l u} {ρ:Rho} {n:Nat} {Q:QO} (h:∀ Y:Rho->Nat->QO->Prop,Y=y.w->x.w ρ n (sqw Y Q)):(CL x y).w ρ n Q:=h _ rfl
structure Mn (bw:Rho->Nat->QO->Prop):Prop where
 h:∀ ρ n (Q Q':QO),bw ρ n Q->(∀ o m,Q o m->Q' o m)->bw ρ n Q'
def PwS.mn {l:Nat} {t:TS3} (b:PwS l t):Mn b.w:=⟨λ_ _ _ _ h k=>b.mono h k⟩
section
variable {l:Nat} {g:TG3} {tb:TS3}
def S0 {gf:PyData->Option (List (Nat×PyData))} {bw:Rho->Nat->QO->Prop} {α:Type} {f:α->PyData} (xs:List α) (mono:Mn bw) (I:Nat->Rho->Nat->Prop) {ρ:Rho} {n:Nat} {Q:QO} (h0:I 0 ρ n)
  (hs:∀ i x ρ n,xs[i]?=some x->I i ρ n->∃ bs,gf (f x)=some bs/\bw (jq ρ bs) n λo m=>match o with|.nx ρ'=>I (i+1) ρ' m|.ct ρ'=>I (i+1) ρ' m|.bk ρ'=>Q (.nx ρ') m|.rt d b=>Q (.rt d b) m)
  (k:∀ ρ n,I xs.length ρ n->Q (.nx ρ) n):qbZ gf bw (xs.map f) ρ n Q:=by
 have key:∀ (r:List α) (i:Nat) (ρ:Rho) (n:Nat),xs.drop i=r->i<=xs.length->I i ρ n->qbZ gf bw (r.map f) ρ n Q:=by
  intro r;induction r with
  |nil=>
   intro i ρ n e hi h;have:i=xs.length:=by
    have:=congrArg List.length e;simp at this;omega
   subst this;exact k ρ n h
  |cons x r ih=>
   intro i ρ n e hi h;have hl:i<xs.length:=by
    have:=congrArg List.length e;simp at this;omega
   have e':=List.drop_eq_getElem_cons hl;rw [e] at e';injection e' with e1 e2;obtain ⟨bs,h1,h2⟩:=hs i x ρ n (by rw [y9 hl,e1]) h;refine ⟨bs,h1,mono.h _ _ _ _ h2 λo m h=>?_⟩;cases o with
   |nx ρ'=>exact ih (i+1) ρ' m e2.symm hl h
   |ct ρ'=>exact ih (i+1) ρ' m e2.symm hl h
   |bk ρ'=>exact h
   |rt d b=>exact h
 exact key xs 0 ρ n (by simp) (Nat.zero_le _) h0
end
def L4 {α β:Type} {x:α} {f:α->Option β}:(some x).bind f=f x:=id rfl
def qdV {α β:Type} {x:α} {f:α->β}:(some x).map f=some (f x):=id rfl
def qhS {α:Type} {x:α} {r:List α}:(x::r).length=r.length+1:=id rfl
def qiP {α:Type}:([]:List α).length=0:=id rfl
def qhN {α:Type} {x y:α} {r:List α}:(x::r).set 0 y=y::r:=id rfl
def qgo {α:Type} {x y:α} {r:List α} {i:Nat}:(x::r).set (i+1) y=x::r.set i y:=id rfl
def qhb {α:Type} {r:List α}:r++[]=r:=List.append_nil r
def qjs {α:Type} {x:α} {r s:List α}:(x::r)++s=x::(r++s):=id rfl
def qfS {α:Type} {s:List α}:[]++s=s:=id rfl
def qgB {n:Nat}:0+n=n:=Nat.zero_add n
def qhl {p:Prop}:(True/\p)=p:=true_and p
def qgi {α:Type} {a b:α} {i:Decidable True}:@ite α True i a b=a:=if_pos trivial
def qgL {α:Type} {a b:α} {i:Decidable False}:@ite α False i a b=b:=if_neg not_false
def qh6:(false=true)=False:=Bool.false_eq_true
def qi6:(!true)=false:=id rfl
def qhu:(!false)=true:=id rfl
def qie {i:Decidable True}:@decide True i=true:=decide_true i
def qg9 {b:Bool}:(true&&b)=b:=Bool.true_and b
def qiw {b:Bool}:(false&&b)=false:=Bool.false_and b
def qiX {b:Bool}:(b&&false)=false:=Bool.and_false b
def ai{a b:Prop}(x:a)(y:b):a/\b:=⟨x,y⟩
def pwA:=(ai (ai (ai (ai (ai (ai (ai @Pu.qgk (ai @Pu.qiB @Pu.qh0)) (ai @Pu.qmI (ai @Pu.qaS @Pu.qcA))) (ai (ai @Pu.L8 (ai @Pu.qiS @Pu.qmf)) (ai @Pu.qf4 (ai @Pu.qc8 @Pu.qgj)))) (ai (ai (ai @Pu.L7 (ai @Pu.MP @Pu.qcB)) (ai @Pu.qdC (ai @Pu.qdJ @Pu.qgU))) (ai (ai @Pu.qdU (ai @Pu.NY @Pu.qc6)) (ai @Pu.MZ (ai @Pu.qcp @Pu.qcV))))) (ai (ai (ai (ai @Pu.qdS (ai @Pu.MV @Pu.qiU)) (ai @Pu.LX (ai @Pu.qdF @Pu.qdw))) (ai (ai @Pu.qdR (ai @Pu.qi7 @Pu.qf5)) (ai @Pu.ql6 (ai @Pu.qco @Pu.qgz)))) (ai (ai (ai @Pu.qc4 (ai @Pu.qcz @Pu.qme)) (ai @Pu.qde (ai @Pu.NX @Pu.qdi))) (ai (ai @Pu.qdx (ai @Pu.qay @Pu.qhf)) (ai @Pu.qcY (ai @Pu.qht @Pu.qcN)))))) (ai (ai (ai (ai (ai @Pu.qi1 (ai @Pu.LZ @Pu.M2)) (ai @Pu.qgV (ai @Pu.qdj @Pu.qdH))) (ai (ai @Pu.qiT (ai @Pu.qh1 @Pu.qiA)) (ai @Pu.qjj (ai @Pu.qcK @Pu.qcm)))) (ai (ai (ai @Pu.qc3 (ai @Pu.qcl @Pu.qc1)) (ai @Pu.qcq (ai @Pu.qcn @Pu.qcS))) (ai (ai @Pu.qaX (ai @Pu.MY @Pu.qfX)) (ai @Pu.qhZ (ai @Pu.qid @Pu.qds))))) (ai (ai (ai (ai @Pu.qaJ (ai @Pu.qaQ @Pu.qdh)) (ai @Pu.qd4 (ai @Pu.qao @Pu.R8))) (ai (ai @Pu.qdW (ai @Pu.qdQ @Pu.qak)) (ai @Pu.L6 (ai @Pu.SQ @Pu.N4)))) (ai (ai (ai @Pu.ql7 (ai @Pu.qdK @Pu.ND)) (ai @Pu.qcD (ai @Pu.qaa @Pu.qdZ))) (ai (ai @Pu.qii (ai @Pu.qdL @Pu.qa0)) (ai @Pu.qdN (ai @Pu.MB @Pu.qd0))))))) (ai (ai (ai (ai (ai (ai @Pu.qdt (ai @Pu.qcJ @Pu.qaY)) (ai @Pu.qcE (ai @Pu.MT @Pu.qf0))) (ai (ai @Pu.qaR (ai @Pu.NG @Pu.TB)) (ai @Pu.TF (ai @Pu.SD @Pu.qaN)))) (ai (ai (ai @Pu.NJ (ai @Pu.qac @Pu.SO)) (ai @Pu.qat (ai @Pu.TY @Pu.CN))) (ai (ai @Pu.qcM (ai @Pu.qda @Pu.qmL)) (ai @Pu.qmt (ai @Pu.qh2 @Pu.qir))))) (ai (ai (ai (ai @Pu.LS (ai @Pu.qcL @Pu.LO)) (ai @Pu.M7 (ai @Pu.qdX @Pu.qiR))) (ai (ai @Pu.qgD (ai @Pu.at0 @Pu.at1)) (ai @Pu.eqS (ai @Pu.eqI @Pu.qmj)))) (ai (ai (ai @Pu.qcx (ai @Pu.qc5 @Pu.qcF)) (ai @Pu.qaf (ai @Pu.qcG @Pu.qh9))) (ai (ai @Pu.qhq (ai @Pu.qdd @Pu.qc9)) (ai @Pu.qck (ai @Pu.qcC @Pu.qcR)))))) (ai (ai (ai (ai (ai @Pu.qcQ (ai @Pu.qdI @Pu.qaP)) (ai @Pu.qcH (ai @Pu.qcU @Pu.qh8))) (ai (ai @Pu.qiV (ai @Pu.qdo @Pu.qg1)) (ai @Pu.qi2 (ai @Pu.qfY @Pu.qdy)))) (ai (ai (ai @Pu.qhn (ai @Pu.qjn @Pu.qml)) (ai @Pu.qmq (ai @Pu.qmd @Pu.qic))) (ai (ai @Pu.qfV (ai @Pu.qfW @Pu.qhr)) (ai @Pu.qg3 (ai @Pu.qmE @Pu.qcu))))) (ai (ai (ai (ai @Pu.qdb (ai @Pu.qdP @Pu.qdm)) (ai @Pu.qjk (ai @Pu.L4 @Pu.qdV))) (ai (ai @Pu.qhS (ai @Pu.qiP @Pu.qhN)) (ai @Pu.qgo (ai @Pu.qhb @Pu.qjs)))) (ai (ai (ai @Pu.qfS (ai @Pu.qgB @Pu.qhl)) (ai @Pu.qgi (ai @Pu.qgL @Pu.qh6))) (ai (ai @Pu.qi6 (ai @Pu.qhu @Pu.qie)) (ai @Pu.qg9 (ai @Pu.qiw @Pu.qiX))))))))
end Pu
namespace Pu
open PySem L2 L3
def NM:PyData->Option PyData
 |.list xs=>(ZM xs).bind λns=>cif (ns.length<=306/\(dd ns).length<64) (some (.list ((srt (dd ns)).map PyData.int))) none
 |_=>none
def qgs {te:TE3} (a:PuE te):PuE (qfs te):=⟨λρ=>(a.f ρ).bind NM,a.fv,true,λhv hd hf k=>by
 obtain ⟨d,e1,hf⟩:=obb hf;refine a.ok hv hd e1 λx' G1 E1 D1 _=>?_;unfold NM at hf;split at hf
 ·obtain ⟨ns,e,hf⟩:=obb hf;unfold cif at hf;split at hf
  ·rename_i c;cases hf;cases D1 with
   |lst g hs=>
    have:=VN e;subst this;have:=hs.ints;subst this;simp only [qT (qo g).2,V8];refine ⟨c.1,c.2,λl ms hl hp hs=>?_⟩;have:ms=srt (dd ns):=S6 (hp.trans (DS (dd ns)).symm) hs (qgN (dd ns));subst this;exact k _ _ (E1.trans (QH hl)) (Y6 (hd.up E1) hl (Dqs.ofInts _)) λ_=>(EX hl (Dqs.ofInts _)).back E1
  ·cases hf
 ·cases hf⟩
def qeA {te:TE3} {a:PuE te}:(qgs a).f=λρ=>(a.f ρ).bind NM:=id rfl
open Bk (Lf Ext)
def the (S:PyData->Prop):Option PyData:=@dite _ (∃ v,S v) (Classical.propDecidable _) (λh=>some (Classical.choose h)) λ_=>none
end Pu
namespace Pu
open PySem L2 L3
def qfy {α:Type} (g:α->PyData) (xs:List α):∀ k,enD k (xs.map g)=(xs.zipIdx k).map λp=>PyData.tuple [.int (p.2:Int),g p.1]:=by
 induction xs with
 |nil=>intro k;rfl
 |cons x xs ih=>intro k;simp only [map_cons,enD,List.zipIdx_cons,ih (k+1)]
def qhE {xs:List PyData} {lo hi:Option Int}:slD (.list xs) lo hi=some (.list (K1 xs lo hi)):=id rfl
def qdz {xs ys:List PyData} (h:xs.length+ys.length<=16777216):TV (.list xs) (.list ys)=some (.list (xs++ys)):=qU (by rw [y8];exact h)
def K2 (d e:PyData):Option PyData:=match d,e with
 |.list ds,.int z=>(ZM ds).map λns=>.int (match ns with|[]=>z|m::r=>mx (m::r))
 |_,_=>none
def qcX:OpD T7:=⟨K2,false,λ{D G x y d e v q} hx hy hd hf k=>by
 unfold K2 at hf;split at hf
 ·obtain ⟨ns,e,hf⟩:=u9 hf;subst hf;cases hx;cases hy;rename_i g hs;have:=VN e;subst this;have:=hs.ints;subst this;simp only [T7,qT (qo g).2,V8];cases ns with
  |nil=>exact ⟨λ_=>k _ _ Ex.refl (.int _) (λz=>by cases z),λm hm=>(by cases hm)⟩
  |cons n r=>
   refine ⟨λz=>(by cases z),λm hm hl=>?_⟩;have:m=mx (n::r):=Int.le_antisymm (X9 hm) (hl _ (YV (by simp)));subst this;exact k _ _ Ex.refl (.int _) (λz=>by cases z)
 ·cases hf⟩
def qbc:qcX.f=K2:=id rfl
def qiO {ns:List Int} {z:Int}:K2 (.list (ns.map PyData.int)) (.int z)=some (.int (match ns with|[]=>z|m::r=>mx (m::r))):=by simp only [K2,UF,Option.map_some]
end Pu
namespace L3
open PySem PySem.Spec PyProof.Rows L2
section
variable {X:Cx}
end
end L3
namespace Pu
open PySem L2 L3
end Pu
namespace L3
open PySem PySem.Spec PyProof.Rows L2
section
variable {X:Cx}
end
section
variable {X:Cx} {a b:Expr} {ta tb:TE3} {pos:Pos}
end
end L3
namespace Pu
open PySem L2 L3
end Pu
namespace L3
open PySem PySem.Spec PyProof.Rows L2 PySem.SeqAt
section
variable {X:Cx} {a b:Expr} {ta tb:TE3} {pos:Pos}
end
end L3
namespace Pu
open PySem L2 L3
end Pu
namespace L3
open PySem PySem.Spec PyProof.Rows L2
section
variable {X:Cx} {a b e:Expr} {ta tb te:TE3} {pos:Pos}
end
end L3
namespace Pu
open PySem L2 L3
end Pu
namespace L3
open PySem PySem.Spec PyProof.Rows L2
section
variable {X:Cx} {a b:Expr} {ta tb:TE3} {pos:Pos}
end
end L3
namespace Pu
open PySem L2 L3
end Pu
namespace L3
open PySem PySem.Spec PyProof.Rows L2
section
variable {X:Cx}
end
end L3
namespace Pu
open PySem L2 L3
end Pu
namespace L3
open PySem PySem.Spec PyProof.Rows L2
def ev {α:Type}:List α->List α
 |[]=>[]
 |[x]=>[x]
 |x::_::r=>x::ev r
section
variable {X:Cx} {e el ek:Expr} {p2 pos:Pos}
end
end L3
namespace Pu
open PySem L2 L3
end Pu
namespace L3
open PySem PySem.Spec PyProof.Rows L2
section
variable {X:Cx} {pos:Pos} {e:Expr} {te:TE3}
end
end L3
namespace Pu
open PySem L2 L3
open Bk (Lf Ext)
end Pu
namespace L3
open PySem PySem.Spec PyProof.Rows L2
section
variable {X:Cx} {pos:Pos} {o i e:Expr} {to ti te:TE3}
end
section
variable {K:Frg} {G G':Gp} {H H':Hp}
def qkL (kvs:List (Int×T)):List Key:=kvs.map λp=>(Sum.inl p.1:Key)
def qj1 (kvs:List (Int×T)):List T:=kvs.map λp=>p.2
theorem HR.dct (hr:HR K G H) {p:Addr} {kvs:List (Int×T)} (g:G p=some (.dct kvs)):∃ vs,H p=some (.dK ((qkL kvs).zip vs))/\Rps K H (qj1 kvs) vs:=hr p _ g
end
section
variable {X:Cx} {pos:Pos} {o i e:Expr} {to ti te:TE3}
variable {es:List Expr} {t:TA3}
end
end L3
namespace Pu
open PySem L2 L3
section
variable {D:Addr->Prop} {G0 G G':Gp} {A A':Nat->Addr->Prop} {τ:St3} {ρ:Rho}
end
end Pu
namespace Hd
open PySem L2 L3 PySem.W PySem.Spec PySem.Calls PyProof.Rows
def c1 (P:Params) (M:Str) (q:Nat) (nm:Str) (t:Nat) (ln:Int) (r:Nat):Obj:=oD P 4 [(.str "__module__" (t+7),.str M q),(.str "__qualname__" (t+9),.str nm (t+8)),(.str "__firstlineno__" (t+11),.int ln (t+10)),(.str "__static_attributes__" (t+12),.ref (r+7))]
def c2 (nm:Str) (t:Nat) (ln:Int) (r:Nat):Obj:=oC [.str nm (t+2),.str nm (t+3),.str "/claim/cut.py" (t+4),.int ln 0,.int 0 0,.int 0 0,.int 0 0,.int 0 0,.ref (r+3),.bool false,.int 181 0,.ref (r+4),.none,.none,.none,.none,.int (t+5:Nat) 0,.int ln 0,.str "/claim/cut.py" (t+6)]
def c4 (P:Params) (M:Str) (q t:Nat) (ln:Int) (r:Nat):Obj:=oD P 2 [(.str "__module__" (t+7),.str M q),(.str "__firstlineno__" (t+11),.int ln (t+10)),(.str "__static_attributes__" (t+12),.ref (r+7)),(.str "__doc__" (t+13),.none)]
def c5 (nm:Str) (b t r:Nat):Obj:=⟨.type "type",none,.cls ({ name:=nm,bases:=[Value.ref b],mro:=[Value.ref (r+9),Value.ref b,Value.type "ValueError",Value.type "Exception",Value.type "BaseException",Value.type "object"],ns:=r+8,qualname:=nm }),#[some (.ref r),none,some (.str nm t),some (.str nm (t+8)),some (.builtin "ValueError.__new__"),some (.bool true)]⟩
def oM (P:Params) (n:Nat) (M:Str) (q:Nat) (es:List (Value×Value)):Obj:=oD P n ([(.str "__name__" 165,.str M q),(.str "__doc__" 166,.none),(.str "__package__" 167,.none),(.str "__loader__" 168,.builtin "__main__.__loader__#opaque"),(.str "__spec__" 169,.none),(.str "__annotations__" 170,.ref 6),(.str "__builtins__" 171,.ref 4),(.str "__file__" 173,.str "/claim/cut.py" 172),(.str "__cached__" 174,.none)]++es)
theorem e {K:Frg} {h:Heap} {mg:Str->Option Value} (X:K.In h) (G:h.Ns mainGlobals mg) (x:Str) (st:Stmt) (ps:List Str) (f:Addr) (pm cd:Value) (l:K.lookup f=some (oF x st pm cd):=by kernel_rfl) (c:PySem.W.codeIn K cd x=true:=by kernel_rfl) (k:PySem.W.keepIn K (.ref f)=true:=by kernel_rfl) (e:PySem.W.nsIn K mainGlobals x=some (some (.ref f)):=by kernel_rfl)
  (b:∀ (kV doc pm:Value) (an:Option Addr) (cdv ct:Value) (us:List Value),us.length=ps.length->bindArgs (PySem.W.fnOf x x (jA st) (qS st) (qf st) .none kV doc pm an cdv ct) ⟨us,[]⟩=pure (ps.zip us):=by exact λ_ _ _ _ _ _ us hl=>by first|(obtain ⟨_,rfl⟩:=Pu.qif hl;rfl)|(obtain ⟨_,_,rfl⟩:=Pu.qk9 hl;rfl)|(obtain ⟨_,_,_,rfl⟩:=Pu.qmM hl;rfl)|(obtain ⟨_,_,_,_,rfl⟩:=Pu.qmK hl;rfl)|(obtain ⟨_,_,_,_,_,rfl⟩:=Pu.qmo hl;rfl)|(obtain ⟨_,_,_,_,_,_,rfl⟩:=Pu.qng hl;rfl)) :
  Fb K mg x st ps f (PySem.W.fnOf x x (jA st) (qS st) (qf st) .none .none .none pm none cd .none):=⟨LP l c k,(LP l c k).binds b,PySem.W.mg_of X G e⟩
end Hd
namespace Pu
open PySem L2 L3
open Bk (Lf Ext)
section
variable {D:Addr->Prop} {G0 G:Gp} {A:Nat->Addr->Prop} {τ:St3} {ρ:Rho}
end
section
variable {l:Nat}
end
end Pu
namespace Pv
open PySem L2 L3 Pu
def Q0 {lo:Int} {n i:Nat} {x:Int} (h:(CQ lo n)[i]?=some x):i<n/\x=lo+i:=by
 unfold CQ at h;rw [getElem?_map] at h;obtain ⟨k,e1,e2⟩:=u9 h;obtain ⟨hl,hk⟩:=za0 e1;simp at hl hk;subst hk;exact ⟨hl,e2.symm⟩
def Z5 (lo:Int) (n:Nat):(CQ lo n).length=n:=by simp [CQ]
def qeR {lo:Int} {n i:Nat} (h:i<n):(CQ lo n)[i]?=some (lo+i):=by simp [CQ,h]
def SC {n m:Int} (hn:0<=n) (hm:0<=m):Builtin.bitAnd n m=2*Builtin.bitAnd (n/2) (m/2)+n%2*(m%2):=by
 rw [PySem.W.kbt_halves n m];have h1:n%2=0\/n%2=1:=by omega
 have h2:m%2=0\/m%2=1:=by omega
 rcases h1 with h1|h1<;>rcases h2 with h2|h2<;>simp [h1,h2]
def jT {x y:Int} (hx:0<=x) (hy:0<=y):0<=Builtin.bitXor x y/\Builtin.bitXor x y%2=(x%2+y%2)%2/\Builtin.bitXor x y/2=Builtin.bitXor (x/2) (y/2):=by
 have a:=SC hx hy;have b:=PyProof.Rows.bitXor_and x y;have c:=PyProof.Rows.bitXor_and (x/2) (y/2);have r:=PyProof.Rows.bitAnd_range (x/2) (show 0<=y/2 by omega);have r2:=PyProof.Rows.bitAnd_range (y/2) (show 0<=x/2 by omega);have h1:x%2=0\/x%2=1:=by omega
 have h2:y%2=0\/y%2=1:=by omega
 have p:x%2*(y%2)=0/\(x%2=0\/y%2=0)\/x%2*(y%2)=1/\x%2=1/\y%2=1:=by rcases h1 with h1|h1<;>rcases h2 with h2|h2<;>simp [h1,h2]
 have s:=PyProof.Rows.bitAnd_range x hy;have cm:Builtin.bitAnd x y=Builtin.bitAnd y x:=by
  have:=PyProof.Rows.bitXor_and y x;exact PyProof.Rows.bitAnd_comm x y
 have s2:=PyProof.Rows.bitAnd_range y hx;omega
theorem NE:∀ (k:Nat) (x y:Int),0<=x->x<2 ^ k->0<=y->y<2 ^ k->Builtin.bitXor x y<2 ^ k
 |0,x,y,h0,h1,h2,h3=>by
  simp at h1 h3;have e1:x=0:=by omega
  have e2:y=0:=by omega
  subst e1;subst e2;rw [PyProof.Rows.bitXor_self];decide
 |k+1,x,y,h0,h1,h2,h3=>by
  rw [Int.pow_succ] at h1 h3 ⊢;have ih:=NE k (x/2) (y/2) (by omega) (by omega) (by omega) (by omega);obtain ⟨z0,z1,z2⟩:=jT h0 h2;rw [← z2] at ih;omega
def fl (ks:List Int):List Int:=ks.foldl (λacc m=>acc++acc.map λf=>Builtin.bitXor f m) [0]
def jd (ks:List Int) (m:Int):fl (ks++[m])=fl ks++(fl ks).map λf=>Builtin.bitXor f m:=by simp [fl]
def zV {n:Nat} {ks:List Int} (h:ks.length=n+1):∃ (k':List Int) (m:Int),ks=k'++[m]/\k'.length=n:=by
 have hne:ks≠[]:=by rintro rfl;simp at h
 exact ⟨ks.dropLast,ks.getLast hne,(List.dropLast_concat_getLast hne).symm,by simp [h]⟩
def V6:∀ (n:Nat) (ks:List Int),ks.length=n->(fl ks).length=2 ^ n:=by
 intro n;induction n with
 |zero=>intro ks h;have:=List.eq_nil_of_length_eq_zero h;subst this;rfl
 |succ n ih=>
  intro ks h;obtain ⟨k',m,rfl,hl⟩:=zV h;rw [jd,length_append,length_map,ih k' hl,Nat.pow_succ];omega
def qnc {ks:List Int} (hl:ks.length<=8):J4 [.list (ks.map PyData.int)]=some (.list ((fl ks).map PyData.int)):=by
 rw [qbR]
 try simp only [Pu.pwA,D0]
 refine je (Q:=λo=>j2 true o=_) ks (λi ρ=>∃ s2,ρ=[.sh (.list (ks.map PyData.int)),.ow ((fl (ks.take i)).map PyData.int),s2]) ⟨_,rfl⟩ ?_ ?_
 ·rintro i m ρ hx ⟨s2,rfl⟩;have hi:=(za0 hx).1;have tk:ks.take (i+1)=ks.take i++[m]:=by rw [List.take_succ,hx];rfl
  have ln:=V6 i (ks.take i) (by simp;omega);have l8:2 ^ i<=2 ^ 8:=Nat.pow_le_pow_right (by omega) (by omega)
  try simp only [Pu.pwA]
  rw [SU (ds:=(fl (ks.take i)).map PyData.int) (fs:=((fl (ks.take i)).map λf=>Builtin.bitXor f m).map PyData.int) rfl (by
   rw [map_map];refine V1 λf hf=>?_
   try simp only [Pu.pwA,N0,Function.comp_def]) (by simp;omega)]
  try simp only [Pu.pwA]
  rw [qhv (by simp;omega)]
  try simp only [Pu.pwA]
  rw [tk,jd,List.map_append];exact ⟨_,rfl⟩
 ·rintro ρ ⟨s2,rfl⟩;rw [List.take_length]
  try simp only [Pu.pwA]
theorem DR:∀ (ms:List Int) (k:Nat),enD k (ms.map PyData.int)=(ms.zipIdx k).map λp=>PyData.tuple [.int (p.2:Int),.int p.1]
 |[],k=>rfl
 |m::ms,k=>by simp only [map_cons,enD,List.zipIdx_cons,DR ms (k+1)]
def nm (s:Nat) (ks:List Int):Int:=(ks.zipIdx 0).foldl (λa p=>Builtin.bitXor a (p.1*((s/2 ^ p.2%2:Nat):Int))) 0
def zR (s:Nat) (ks:List Int) (m:Int):nm s (ks++[m])=Builtin.bitXor (nm s ks) (m*((s/2 ^ ks.length%2:Nat):Int)):=by
 simp [nm,List.zipIdx_append]
def qbV {s r:Nat}:∀ (n:Nat) (ks:List Int),ks.length=n->(∀ t,t<n->s/2 ^ t%2=r/2 ^ t%2)->nm s ks=nm r ks:=by
 intro n;induction n with
 |zero=>intro ks h _;have:=List.eq_nil_of_length_eq_zero h;subst this;rfl
 |succ n ih=>
  intro ks h hb;obtain ⟨k',m,rfl,hl⟩:=zV h;rw [zR,zR,ih k' hl λt ht=>hb t (by omega),hl,hb n (by omega)]
def qbv {n t r:Nat} (h:t<n):(2 ^ n+r)/2 ^ t%2=r/2 ^ t%2:=by
 have e:2 ^ n=2 ^ t*(2*2 ^ (n-t-1)):=by
  rw [← Nat.mul_assoc,Nat.mul_comm (2 ^ t) 2,Nat.mul_assoc,← Nat.pow_add,← Nat.pow_succ'];congr 1;omega
 rw [e,Nat.mul_add_div (Nat.pow_pos (by omega))];omega
def NI {x:Int} (h:0<=x):Builtin.bitXor x 0=x:=by
 have a:=PyProof.Rows.bitXor_and x 0;have b:=PyProof.Rows.bitAnd_range x (show (0:Int)<=0 by omega);omega
def C9:∀ (n:Nat) (ks:List Int),ks.length=n->(∀ m∈ks,0<=m)->∀ f∈fl ks,0<=f:=by
 intro n;induction n with
 |zero=>intro ks h _ f hf;have:=List.eq_nil_of_length_eq_zero h;subst this;simp [fl] at hf;omega
 |succ n ih=>
  intro ks h hm f hf;obtain ⟨k',m,rfl,hl⟩:=zV h;rw [jd] at hf;have ih':=ih k' hl λz hz=>hm z (by simp [hz]);rcases List.mem_append.mp hf with hf|hf
  ·exact ih' f hf
  ·obtain ⟨g,hg,rfl⟩:=mem_map.mp hf;exact (jT (ih' g hg) (hm m (by simp))).1
def qlS:∀ (n:Nat) (ks:List Int),ks.length=n->(∀ m∈ks,0<=m)->∀ s,s<2 ^ n->(fl ks)[s]?=some (nm s ks):=by
 intro n;induction n with
 |zero=>
  intro ks h _ s hs;have:=List.eq_nil_of_length_eq_zero h;subst this;have:s=0:=by simpa using hs
  subst this;rfl
 |succ n ih=>
  intro ks h hm s hs;obtain ⟨k',m,rfl,hl⟩:=zV h;have hm':∀ z∈k',0<=z:=λz hz=>hm z (by simp [hz]);have ln:=V6 n k' hl;rw [jd,zR,hl];rcases Nat.lt_or_ge s (2 ^ n) with z|z
  ·rw [List.getElem?_append_left (by omega),ih k' hl hm' s z];have e:s/2 ^ n%2=0:=by rw [Nat.div_eq_of_lt z]
   have nn:0<=nm s k':=C9 n k' hl hm' _ (v9 (ih k' hl hm' s z));rw [e];simp only [Int.natCast_zero,Int.mul_zero];rw [NI nn]
  ·obtain ⟨r,rfl⟩:∃ r,s=2 ^ n+r:=⟨s-2 ^ n,by omega⟩
   rw [Nat.pow_succ] at hs;have hr:r<2 ^ n:=by omega
   rw [List.getElem?_append_right (by omega),ln,Nat.add_sub_cancel_left,getElem?_map,ih k' hl hm' r hr];have e:(2 ^ n+r)/2 ^ n%2=1:=by
    rw [Nat.add_div_left _ (Nat.pow_pos (by omega)),Nat.div_eq_of_lt hr]
   rw [e,qbV n k' hl λt ht=>qbv ht];simp
def qkz {ks:List Int} (hm:∀ m∈ks,0<=m):fl ks=(List.range (2 ^ ks.length)).map λs=>nm s ks:=by
 refine List.ext_getElem? λs=>?_;have ln:=V6 ks.length ks rfl;rcases Nat.lt_or_ge s (2 ^ ks.length) with z|z
 ·rw [qlS ks.length ks rfl hm s z,getElem?_map,List.getElem?_range z];rfl
 ·rw [List.getElem?_eq_none (by omega),List.getElem?_eq_none (by simp;omega)]
def jj (x y:Int):Builtin.bitXor x y=Builtin.bitXor y x:=by
 rw [PyProof.Rows.bitXor_and x y,PyProof.Rows.bitXor_and y x,PyProof.Rows.bitAnd_comm x y];omega
def UP (a:Nat):∀ b:Nat,Builtin.bitXor (a:Int) (b:Int)=((a ^^^ b:Nat):Int):=by
 induction a using Nat.strongRecOn with
 |ind a ih=>
  intro b;by_cases h:a=0
  ·subst h;rw [jj,Nat.zero_xor];exact NI (Int.natCast_nonneg b)
  ·have s:=jT (Int.natCast_nonneg a) (Int.natCast_nonneg b);have i:=ih (a/2) (by omega) (b/2);have d:=Nat.xor_div_two (a:=a) (b:=b);have m:=Nat.xor_mod_two_eq_one (a:=a) (b:=b);rw [← d] at i;have e1:((a/2:Nat):Int)=(a:Int)/2:=by omega
   have e2:((b/2:Nat):Int)=(b:Int)/2:=by omega
   rw [e1,e2] at i;omega
theorem xor_assoc {x y z:Int} (hx:0<=x) (hy:0<=y) (hz:0<=z):Builtin.bitXor (Builtin.bitXor x y) z=Builtin.bitXor x (Builtin.bitXor y z):=by
 obtain ⟨a,rfl⟩:=Int.eq_ofNat_of_zero_le hx;obtain ⟨b,rfl⟩:=Int.eq_ofNat_of_zero_le hy;obtain ⟨c,rfl⟩:=Int.eq_ofNat_of_zero_le hz;rw [UP,UP,UP,UP,Nat.xor_assoc]
def WF {x y:Int} (hx:0<=x) (hy:0<=y):Builtin.bitXor (Builtin.bitXor x y) y=x:=by
 rw [xor_assoc hx hy hy,PyProof.Rows.bitXor_self,NI hx]
def qaO {x y m:Int} (hx:0<=x) (hy:0<=y) (hm:0<=m) (h:Builtin.bitXor x m=Builtin.bitXor y m):x=y:=by
 rw [← WF hx hm,h,WF hy hm]
theorem X8 {α β:Type} {f:α->β}:∀ {l:List α},(∀ a∈l,∀ b∈l,f a=f b->a=b)->(l.Nodup↔(l.map f).Nodup)
 |[],_=>by simp
 |a::l,h=>by
  have ih:=X8 (l:=l) λx hx y hy=>h x (by simp [hx]) y (by simp [hy]);rw [map_cons,List.nodup_cons,List.nodup_cons,ih];refine and_congr_left λ_=>not_congr ⟨λz=>List.mem_map_of_mem z,λz=>?_⟩;obtain ⟨b,hb,e⟩:=mem_map.mp z;rw [← h b (by simp [hb]) a (by simp) e];exact hb
def qkN:∀ (n:Nat) (cs:List Int),cs.length=n->(∀ m∈cs,0<=m)->∀ a∈fl cs,∀ b∈fl cs,Builtin.bitXor a b∈fl cs:=by
 intro n;induction n with
 |zero=>
  intro cs h _ a ha b hb;have:=List.eq_nil_of_length_eq_zero h;subst this;simp [fl] at ha hb ⊢;subst ha;subst hb;exact PyProof.Rows.bitXor_self 0
 |succ n ih=>
  intro cs h hm a ha b hb;obtain ⟨k',m,rfl,hl⟩:=zV h;have hm':∀ z∈k',0<=z:=λz hz=>hm z (by simp [hz]);have m0:=hm m (by simp);have nn:=C9 n k' hl hm';rw [jd] at ha hb ⊢;rw [List.mem_append] at ha hb ⊢;rcases ha with ha|ha<;>rcases hb with hb|hb
  ·exact .inl (ih k' hl hm' a ha b hb)
  ·obtain ⟨c,hc,rfl⟩:=mem_map.mp hb;refine .inr (mem_map.mpr ⟨_,ih k' hl hm' a ha c hc,?_⟩);exact xor_assoc (nn a ha) (nn c hc) m0
  ·obtain ⟨c,hc,rfl⟩:=mem_map.mp ha;refine .inr (mem_map.mpr ⟨_,ih k' hl hm' b hb c hc,?_⟩);show Builtin.bitXor (Builtin.bitXor b c) m=_;rw [jj _ b];exact xor_assoc (nn b hb) (nn c hc) m0
  ·obtain ⟨c,hc,rfl⟩:=mem_map.mp ha;obtain ⟨d,hd,rfl⟩:=mem_map.mp hb;refine .inl ?_;have:Builtin.bitXor (Builtin.bitXor c m) (Builtin.bitXor d m)=Builtin.bitXor c d:=by
    rw [xor_assoc (nn c hc) m0 (jT (nn d hd) m0).1,jj d m,← xor_assoc m0 m0 (nn d hd),PyProof.Rows.bitXor_self,jj 0 d,NI (nn d hd)]
   rw [this];exact ih k' hl hm' c hc d hd
def qgl:∀ (n:Nat) (cs:List Int),cs.length=n->(∀ m∈cs,0<=m)->¬ (fl cs).Nodup->∃ s,0<s/\(fl cs)[s]?=some 0:=by
 intro n;induction n with
 |zero=>
  intro cs h _ hd;have:=List.eq_nil_of_length_eq_zero h;subst this;simp [fl] at hd
 |succ n ih=>
  intro cs h hm hd;obtain ⟨k',m,rfl,hl⟩:=zV h;have hm':∀ z∈k',0<=z:=λz hz=>hm z (by simp [hz]);have m0:=hm m (by simp);have nn:=C9 n k' hl hm';have ln:=V6 n k' hl;rw [jd] at hd ⊢;by_cases hA:(fl k').Nodup
  ·have hB:((fl k').map λf=>Builtin.bitXor f m).Nodup:=(X8 λa ha b hb e=>qaO (nn a ha) (nn b hb) m0 e).mp hA;have:∃ a∈fl k',∃ b∈fl k',a=Builtin.bitXor b m:=by
    apply Classical.byContradiction;intro no;refine hd (List.nodup_append.mpr ⟨hA,hB,λa ha b hb e=>?_⟩);obtain ⟨c,hc,rfl⟩:=mem_map.mp hb;exact no ⟨a,ha,c,hc,e⟩
   obtain ⟨a,ha,b,hb,e⟩:=this;have mm:m∈fl k':=by
    have:Builtin.bitXor a b=m:=by rw [e,jj b m,WF m0 (nn b hb)]
    rw [← this];exact qkN n k' hl hm' a ha b hb
   obtain ⟨s,hs⟩:=List.mem_iff_getElem?.mp mm;have p:=Nat.pow_pos (n:=n) (show 0<2 by omega);refine ⟨2 ^ n+s,by omega,?_⟩;rw [List.getElem?_append_right (by omega),ln,Nat.add_sub_cancel_left,getElem?_map,hs];simp [PyProof.Rows.bitXor_self]
  ·obtain ⟨s,s0,hs⟩:=ih k' hl hm' hA;exact ⟨s,s0,by rw [List.getElem?_append_left (za0 hs).1,hs]⟩
def qm6:∀ (n:Nat) (cs:List Int),cs.length=n->∃ r,fl cs=0::r:=by
 intro n;induction n with
 |zero=>intro cs h;have:=List.eq_nil_of_length_eq_zero h;subst this;exact ⟨_,rfl⟩
 |succ n ih=>
  intro cs h;obtain ⟨k',m,rfl,hl⟩:=zV h;obtain ⟨r,e⟩:=ih k' hl;rw [jd,e];exact ⟨_,rfl⟩
end Pv
namespace K47
open PySem L2 L3 Bk
def top (i : Nat) : Stmt := PySem.Challenge.pw_bankwalk_k47_papers_of_no_image.main.body.getD i (.Pass ⟨0,0,0,0⟩)
variable {P:Program} {w:World} {K:Frg} {mg:Str->Option Value} {base:Heap} {f:Addr} {fd:FuncData} {k:Nat} {sp:Sp3}
section
variable (m0:mg "isinstance" = none) (m1:mg "bool" = none) (m2:mg "int" = none) (m3:mg "enumerate" = none) {S4:Sp3} (V4:Fn3 P w K mg base k "flips" S4) (m5:mg "max" = none) (m6:mg "min" = none) {S7:Sp3} (V7:Fn3 P w K mg base k "led_to" S7) (m8:mg "len" = none) {S9:Sp3} (V9:Fn3 P w K mg base k "is_led_to_0" S9) {S10:Sp3} (V10:Fn3 P w K mg base k "is_number" S10) {S11:Nat->Option Sp3} (V11:VS P w K mg base k S11) {S12:Sp3} (V12:Fn3 P w K mg base k "searched" S12) (m13:mg "range" = none) (m14:mg "tuple" = none) {S15:Sp3} (V15:Fn3 P w K mg base k "span_flips" S15) (l_0:RY K 0=some (Hd.W5 "image_for.<locals>.<lambda>" (top 12) 0)) (l_1:RY K 1=some (Hd.W5 "image_for.<locals>.<lambda>" (top 12) 1)) (T_image_for:TabAt K mg base 72 "image_for.<locals>.<lambda>") {S19:Sp3} (V19:Fn3 P w K mg base k "is_tree" S19) (l_2:RY K 2=some (Hd.W5 "shows_no_image.<locals>.<lambda>" (top 17) 0)) (l_3:RY K 3=some (Hd.W5 "shows_no_image.<locals>.<lambda>" (top 17) 1)) (T_shows_no_image:TabAt K mg base 93 "shows_no_image.<locals>.<lambda>") (m23:mg "abs" = none) {S24:Sp3} (V24:Fn3 P w K mg base k "_law_mix" S24) {S25:Sp3} (V25:Fn3 P w K mg base k "_law_two" S25) {S26:Sp3} (V26:Fn3 P w K mg base k "_law_pick" S26) {S27:Sp3} (V27:Fn3 P w K mg base k "_law_flips" S27) (m28:mg "sorted" = none) (m29:mg "set" = none) {S30:Sp3} (V30:Fn3 P w K mg base k "_law_led" S30) (m31:mg "all" = none) {S32:Sp3} (V32:Fn3 P w K mg base k "_law_spans" S32) {S33:Sp3} (V33:Fn3 P w K mg base k "_law_last" S33) {S34:Sp3} (V34:Fn3 P w K mg base k "_law_bars" S34) {S35:Sp3} (V35:Fn3 P w K mg base k "_law_whole" S35) {S36:Sp3} (V36:Fn3 P w K mg base k "_law_left" S36) {S37:Sp3} (V37:Fn3 P w K mg base k "_law_lot" S37) {S38:Sp3} (V38:Fn3 P w K mg base k "image_for" S38) {S39:Sp3} (V39:Fn3 P w K mg base k "_law_bad" S39) {S40:Sp3} (V40:Fn3 P w K mg base k "shows_no_image" S40) {S41:Sp3} (V41:Fn3 P w K mg base k "_law_serves" S41) (m42:mg "list" = none) {S43:Sp3} (V43:Fn3 P w K mg base k "image_choices" S43) {S44:Sp3} (V44:Fn3 P w K mg base k "first_led_to_0" S44) {S45:Sp3} (V45:Fn3 P w K mg base k "is_lost" S45)
abbrev jm:Stmt:=top 1
abbrev QB:List Str:=["thing"]
abbrev ZP:List Str:=["thing"]
def CK:FnScope QB ZP (qf jm):=Hd.sc0
def CH (E:Hd.Fb K mg "is_number" jm ZP f fd) (read:Rd sp 1 (Bk.zL) QB):Fn3 P w K mg base (k+1) "is_number" sp:=
 Hd.jfE E CK read λcdv A outer s H E hr=>(qj (qp (XA (UN (qb 0) rfl m0 rfl m2 PyProof.Rows.boot_int) (SV (qdk (UN (qb 0) rfl m0 rfl m1 PyProof.Rows.boot_bool))))))
abbrev VI:Stmt:=top 5
abbrev NO:List Str:=["marks","told","mark"]
abbrev RU:List Str:=["marks"]
def VJ:FnScope NO RU (qf VI):=Hd.sc0
def qcf (E:Hd.Fb K mg "flips" VI RU f fd) (read:Rd sp 1 (Pv.RZ) NO):Fn3 P w K mg base (k+1) "flips" sp:=
 Hd.jfE E VJ read λcdv A outer s H E hr=>(qh (qA 1 VJ.nd (zG (qa qg qd))) (qh (jv PassesOwn.never rfl (Z8 (qb 0)) (qw (i:=2) (VJ.nd)) (qj (qA 1 VJ.nd (qO (qb 1) (qbE ["flip","mark"] [none,some 2] rfl (Z8 (qb 1)) (λ_ _ _=>(jgn 0)) (λ_ _ _=>DE) (λ_ _ _=>(SG (qb 0) (qb 1))) (by kernel_rfl) (by kernel_rfl)))))) (qj (qp (qb 1)))))
abbrev Z7:Stmt:=top 7
abbrev VH:List Str:=["numbers","x","told","t","number"]
abbrev WK:List Str:=["numbers","x"]
def QW:FnScope VH WK (qf Z7):=Hd.sc0
def WJ:TS3:=(qP (zC (c3 (.int 0)) (gn3 2)) (qP (DF (YZ (qc (v3 0) qk)) (VE 2 (qY (gn3 3) (qY (gn3 4) Y8))) (ZE (tb3 (o3 (YL false) (o3 (iI Builtin.bitAnd) (o3 (iC (λ_ j=>0<=j) (λi j=>i/2 ^ j.toNat)) (v3 1) (v3 3)) (c3 (.int 1))) (c3 (.int 1)))) (zC (o3 (iI Builtin.bitXor) (v3 2) (v3 4)) (gn3 2)) zk)) (zm (v3 2))))
def qaI (E:Hd.Fb K mg "led_to" Z7 WK f fd) (read:Rd sp 2 (WJ) VH):Fn3 P w K mg base (k+1) "led_to" sp:=
 Hd.jfE E QW read λcdv A outer s H E hr=>(qh (qA 2 QW.nd qg) (qh (jv PassesOwn.never rfl (U8 rfl m3 (qa (qb 0) qd)) (YU rfl (za (qw (i:=3) (QW.nd)) (za (qw (i:=4) (QW.nd)) YM))) (qj (jh (zj (ZG hr.units) jz (qfd (qgC (qb 1) (qb 3)) qg) qg (zb _)) (qj (qA 2 QW.nd (SG (qb 2) (qb 4)))) zF))) (qj (qp (qb 2)))))
abbrev z5:Stmt:=top 8
abbrev jp:List Str:=["spans"]
abbrev QR:List Str:=["spans"]
def DZ:FnScope jp QR (qf z5):=Hd.sc0
def QM (S4:Sp3):TS3:=(zm (qjA (Z0 (v3 0)) (gn3 0) tt3 (Z0 (qjg (cb3 S4 (qc (v3 0) qk)) (sp3 (c3 (.int 1))) np3)) (gn3 1) tt3 (v3 1) [none,none]))
def DW (E:Hd.Fb K mg "span_flips" z5 QR f fd) (read:Rd sp 1 (QM S4) jp):Fn3 P w K mg base (k+1) "span_flips" sp:=
 Hd.jfE E DZ read λcdv A outer s H E hr=>(qj (qp (qhz ["span","flip"] [none,none] rfl (Z8 (qb 0)) (λ_ _ _=>(jgn 0)) (λ_ _ _=>DE) (λ_ _ _=>(Z8 (SK (qi V4 hr rfl (qa (qb 0) qd)) (LY qg) qaC))) (λ_ _ _=>(jgn 1)) (λ_ _ _=>DE) (λ_ _ _=>(qb 1)) (by kernel_rfl) (by kernel_rfl))))
abbrev zn:Stmt:=top 9
abbrev zI:List Str:=["bits","row","power"]
abbrev jf:List Str:=["bits","row"]
def QG:FnScope zI jf (qf zn):=Hd.sc0
def ja:TS3:=(qP (zC (o3 (iC T9 (λi j=>i*2 ^ j.toNat)) (c3 (.int 1)) (bl3 (o3 T7 (v3 1) (c3 (.int 0))))) (gn3 2)) (zm (cb3 qdG (qc (o3 j7 (v3 2) (c3 (.int 1))) (qc (o3 (iC T9 (λi j=>i*2 ^ j.toNat)) (c3 (.int 1)) (v3 0)) qk)))))
def VB (E:Hd.Fb K mg "image_choices" zn jf f fd) (read:Rd sp 2 (ja) zI):Fn3 P w K mg base (k+1) "image_choices" sp:=
 Hd.jfE E QG read λcdv A outer s H E hr=>(qh (qA 2 QG.nd (qcy qg (XT (qft rfl rfl m5 (qb 1) qg)))) (qj (qp (qB (UQ rfl) RQ rfl m6 PyProof.Rows.boot_min (qa (qO (qb 2) qg) (qa (qcy qg (qb 0)) qd))))))
abbrev zO:Stmt:=top 10
abbrev zZ:List Str:=["row","flip"]
abbrev jX:List Str:=["row","flip"]
def ER:FnScope zZ jX (qf zO):=Hd.sc0
def j5 (S7:Sp3):TS3:=(zm (R5 (o3 (YL false) (bl3 (v3 1)) (cb3 DI (qc (v3 0) qk))) (o3 (YL false) (cb3 S7 (qc (v3 0) (qc (v3 1) qk))) (c3 (.int 0)))))
def EF (E:Hd.Fb K mg "is_led_to_0" zO jX f fd) (read:Rd sp 2 (j5 S7) zZ):Fn3 P w K mg base (k+1) "is_led_to_0" sp:=
 Hd.jfE E ER read λcdv A outer s H E hr=>(qj (qp (XA (W4 (ZG hr.units) jz (XT (qb 1)) (qB zH jc rfl m8 PySem.boot_len (qa (qb 0) qd)) (zb _)) (SV (W4 (ZG hr.units) jz (qi V7 hr rfl (qa (qb 0) (qa (qb 1) qd))) qg (zb _))))))
abbrev zf:Stmt:=top 11
abbrev zp:List Str:=["away","row","flip"]
abbrev zQ:List Str:=["away","row"]
def jJ:FnScope zp zQ (qf zf):=Hd.sc0
def zS (S9:Sp3):TS3:=(qP (DF (Z0 (v3 0)) (gn3 2) (ZE (tb3 (cb3 S9 (qc (v3 1) (qc (v3 2) qk)))) (zm (v3 2)) zk)) (zm (c3 .non)))
def JZ (E:Hd.Fb K mg "first_led_to_0" zf zQ f fd) (read:Rd sp 2 (zS S9) zp):Fn3 P w K mg base (k+1) "first_led_to_0" sp:=
 Hd.jfE E jJ read λcdv A outer s H E hr=>(qh (jv PassesOwn.never rfl (Z8 (qb 0)) (qw (i:=2) (jJ.nd)) (qj (jh (ZH (qi V9 hr rfl (qa (qb 1) (qa (qb 2) qd)))) (qj (qp (qb 2))) zF))) (qj (qp qdD)))
abbrev Q1:Stmt:=top 16
abbrev Z3:List Str:=["away","row","thing"]
abbrev UH:List Str:=["away","row","thing"]
def LD:FnScope Z3 UH (qf Q1):=Hd.sc0
def V0 (S9:Sp3) (S10:Sp3):TS3:=(zm (R5 (cb3 S10 (qc (v3 2) qk)) (R5 (o3 (in3 false) (v3 2) (v3 0)) (cb3 S9 (qc (v3 1) (qc (v3 2) qk))))))
def T2 (E:Hd.Fb K mg "is_lost" Q1 UH f fd) (read:Rd sp 3 (V0 S9 S10) Z3):Fn3 P w K mg base (k+1) "is_lost" sp:=
 Hd.jfE E LD read λcdv A outer s H E hr=>(qj (qp (XA (qi V10 hr rfl (qa (qb 2) qd)) (XA (W4 N5 LV (qb 2) (qb 0) (by with_unfolding_all rfl)) (SV (qi V9 hr rfl (qa (qb 1) (qa (qb 2) qd))))))))
abbrev QE:Stmt:=top 3
abbrev Q9:List Str:=["many","choices","bar","row","node","number","longer","part","kind"]
abbrev J2:List Str:=["many","choices","bar","row"]
def zu:FnScope Q9 J2 (qf QE):=Hd.sc0
def J5 (S11:Nat->Option Sp3) (S12:Sp3):TS3:=(qP (ZE (tb3 (o3 (YL false) (cb3 DI (qc (v3 3) qk)) (v3 0))) (zm (qa8 (qc (c3 (.str "row")) (qc (v3 3) qk)))) zk) (qP (zC (YQ qk) (gn3 4)) (qP (DF (VG (qc (cv3 S11 (v3 1) (qc (v3 3) qk)) qk)) (gn3 5) (qP (zC (o3 j7 (v3 3) (YQ (qc (v3 5) qk))) (gn3 6)) (qP (zC (cv3 S11 (v3 2) (qc (v3 6) qk)) (gn3 7)) (qP (ZE (tb3 (o3 (qjw false) (v3 7) (c3 .non))) (qP (zC (cb3 S12 (qc (v3 0) (qc (v3 1) (qc (v3 2) (qc (v3 6) qk))))) (VE 2 (qY (gn3 8) (qY (gn3 7) Y8)))) (ZE (tb3 (o3 (YL false) (v3 8) (c3 (.str "row")))) (zm (qa8 (qc (c3 (.str "row")) (qc (v3 7) qk)))) zk)) zk) (YD (bm3 LL (v3 4) (qc (v3 7) qk))))))) (zm (qa8 (qc (c3 (.str "none")) (qc (cb3 X0 (qc (v3 4) qk)) qk)))))))
def RF (E:Hd.Fb K mg "searched" QE J2 f fd) (read:Rd sp 4 (J5 S11 S12) Q9):Fn3 P w K mg base (k+1) "searched" sp:=
 Hd.jfE E zu read λcdv A outer s H E hr=>(qh (jh (zj (ZG hr.units) jz (qB zH jc rfl m8 PySem.boot_len (qa (qb 3) qd)) (qb 0) (zb _)) (qj (qp (DJ (qa YX (qa (qb 3) qd))))) zF) (qh (qA 4 zu.nd (zG qd)) (qh (jv PassesOwn.never rfl (jK rfl m13 (qa (VP V11 hr (qb 1) (qa (qb 3) qd)) qd) (h1:=by intro _ _ _ h;simpa [qc,qk] using h)) (qw (i:=5) (zu.nd)) (qh (qA 6 zu.nd (qO (qb 3) (zG (qa (qb 5) qd)))) (qh (qA 7 zu.nd (VP V11 hr (qb 2) (qa (qb 6) qd))) (qh (jh (zj qf6 qeT (qb 7) qdD (zb _)) (qh (XS (qi V12 hr rfl (qa (qb 0) (qa (qb 1) (qa (qb 2) (qa (qb 6) qd))))) (YU rfl (za (qw (i:=8) (zu.nd)) (za (qw (i:=7) (zu.nd)) YM)))) (qj (jh (zj (ZG hr.units) jz (qb 8) YX (zb _)) (qj (qp (DJ (qa YX (qa (qb 7) qd))))) zF))) zF) (qj (UY (Z6 (qb 4) (qa (qb 7) qd)))))))) (qj (qp (DJ (qa YX (qa (U2 WC LQ rfl m14 PyProof.Rows.boot_tuple (qa (qb 4) qd)) qd))))))))
abbrev ju:Stmt:=top 12
abbrev jQ:List Str:=["wide","bits","spans","away","kind","found"]
abbrev ZQ:List Str:=["wide","bits","spans"]
def jt:FnScope jQ ZQ (qf ju):=Hd.sc0
def ZT (S15:Sp3) (S12:Sp3):TS3:=(qP (zC (cb3 S15 (qc (v3 2) qk)) (gn3 3)) (qP (zC (cl2 S12 (v3 0) (qc (YQ qk) qk) 0 1 [1] [3]) (VE 2 (qY (gn3 4) (qY (gn3 5) Y8)))) (qP (ZE (tb3 (o3 (YL false) (v3 4) (c3 (.str "none")))) (zm (qa8 (qc (c3 (.str "none")) (qc (v3 5) qk)))) zk) (zm (qa8 (qc (c3 (.str "image")) (qc (v3 5) qk)))))))
def XM (E:Hd.Fb K mg "image_for" ju ZQ f fd) (hc:fd.code=.ref 72) (read:Rd sp 3 (ZT S15 S12) jQ):Fn3 P w K mg base (k+1) "image_for" sp:=
 Hd.qmw E hc jt read λA outer s H E hr=>(qh (qA 3 jt.nd (qi V15 hr rfl (qa (qb 2) qd))) (qh (XS (qc2 [1] [3] V12 hr rfl T_image_for l_0 l_1 (qb 0) (qa (zG qd) qd)) (YU rfl (za (qw (i:=4) (jt.nd)) (za (qw (i:=5) (jt.nd)) YM)))) (qh (jh (zj (ZG hr.units) jz (qb 4) YX (zb _)) (qj (qp (DJ (qa YX (qa (qb 5) qd))))) zF) (qj (qp (DJ (qa YX (qa (qb 5) qd))))))))
abbrev ZA:Stmt:=top 14
abbrev JI:List Str:=["many","choices","is_bar","row","thing","number","part","longer"]
abbrev UJ:List Str:=["many","choices","is_bar","row","thing"]
def ZB:FnScope JI UJ (qf ZA):=Hd.sc0
def UX (S11:Nat->Option Sp3) (S19:Sp3):TS3:=(qP (ZE (or3 (tb3 (o3 (YL false) (cb3 DI (qc (v3 3) qk)) (v3 0))) (or3 (TH (tb3 (qdv (λt=>EK t "tuple") (v3 4)))) (tb3 (o3 (YL true) (cb3 DI (qc (v3 4) qk)) (cv3 S11 (v3 1) (qc (v3 3) qk)))))) (zm (c3 (.bl false))) zk) (qP (DF (YZ (qc (v3 4) qk)) (VE 2 (qY (gn3 5) (qY (gn3 6) Y8))) (qP (zC (o3 j7 (v3 3) (YQ (qc (v3 5) qk))) (gn3 7)) (ZE (qjU (TH (tb3 (cv3 S11 (v3 2) (qc (v3 7) (qc (v3 6) qk))))) (TH (tb3 (cb3 S19 (qc (v3 0) (qc (v3 1) (qc (v3 2) (qc (v3 7) (qc (v3 6) qk))))))))) (zm (c3 (.bl false))) zk))) (zm (c3 (.bl true)))))
def T4 (E:Hd.Fb K mg "is_tree" ZA UJ f fd) (read:Rd sp 5 (UX S11 S19) JI):Fn3 P w K mg base (k+1) "is_tree" sp:=
 Hd.jfE E ZB read λcdv A outer s H E hr=>(qh (jh (jpt (RI (zj (ZG hr.units) jz (qB zH jc rfl m8 PySem.boot_len (qa (qb 3) qd)) (qb 0) (zb _)) (RI (JP (ZH (UN (qb 4) rfl m0 rfl m14 PyProof.Rows.boot_tuple))) (X4 (zj (EY hr.units) J3 (qB zH jc rfl m8 PySem.boot_len (qa (qb 4) qd)) (VP V11 hr (qb 1) (qa (qb 3) qd)) (zb _)))))) (qj (qp ZO)) zF) (qh (jv PassesOwn.never rfl (U8 rfl m3 (qa (qb 4) qd)) (YU rfl (za (qw (i:=5) (ZB.nd)) (za (qw (i:=6) (ZB.nd)) YM))) (qh (qA 7 ZB.nd (qO (qb 3) (zG (qa (qb 5) qd)))) (qj (jh (jpt (qix (JP (ZH (VP V11 hr (qb 2) (qa (qb 7) (qa (qb 6) qd))))) (qei (JP (ZH (qi V19 hr rfl (qa (qb 0) (qa (qb 1) (qa (qb 2) (qa (qb 7) (qa (qb 6) qd))))))))))) (qj (qp ZO)) zF)))) (qj (qp ZO))))
abbrev ze:Stmt:=top 17
abbrev zr:List Str:=["wide","bits","spans","thing","away"]
abbrev zU:List Str:=["wide","bits","spans","thing"]
def jL:FnScope zr zU (qf ze):=Hd.sc0
def zP (S15:Sp3) (S19:Sp3):TS3:=(qP (zC (cb3 S15 (qc (v3 2) qk)) (gn3 4)) (zm (cl2 S19 (v3 0) (qc (YQ qk) (qc (v3 3) qk)) 2 3 [1] [4])))
def J6 (E:Hd.Fb K mg "shows_no_image" ze zU f fd) (hc:fd.code=.ref 93) (read:Rd sp 4 (zP S15 S19) zr):Fn3 P w K mg base (k+1) "shows_no_image" sp:=
 Hd.qmw E hc jL read λA outer s H E hr=>(qh (qA 4 jL.nd (qi V15 hr rfl (qa (qb 2) qd))) (qj (qp (qc2 [1] [4] V19 hr rfl T_shows_no_image l_2 l_3 (qb 0) (qa (zG qd) (qa (qb 3) qd))))))
abbrev QX:Stmt:=top 19
abbrev XX:List Str:=["_law_cell","_law_k","_law_m"]
abbrev UO:List Str:=["_law_cell","_law_k"]
def DA:FnScope XX UO (qf QX):=Hd.sc0
def KG (E:Hd.Fb K mg "_law_mix" QX UO f fd) (read:Rd sp 2 (Bk.V2) XX):Fn3 P w K mg base (k+1) "_law_mix" sp:=
 Hd.jfE E DA read λcdv A outer s H E hr=>(qh (qA 2 DA.nd (U7 (Z4 (qO (qO (U7 (qb 0) qg) (Z4 (Z4 (qb 1) (qb 1)) qg)) qg) qg) qg)) (qj (qp (U7 (Z4 (qb 2) (qb 2)) qg))))
abbrev jY:Stmt:=top 20
abbrev DN:List Str:=["_law_script","_law_k","_law_cell","_law_own"]
abbrev JU:List Str:=["_law_script","_law_k"]
def ZS:FnScope DN JU (qf jY):=Hd.sc0
def RM (E:Hd.Fb K mg "_law_left" jY JU f fd) (read:Rd sp 2 (Bk.JX) DN):Fn3 P w K mg base (k+1) "_law_left" sp:=
 Hd.jfE E ZS read λcdv A outer s H E hr=>(qh (qA 2 ZS.nd (qgT (zj qfF UD (qb 1) (qB zH jc rfl m8 PySem.boot_len (qa (qb 0) qd)) (zb _)) (Z9 (qb 0) (qb 1)) qg)) (qh (qA 3 ZS.nd (qgT (zj qhR UD (qB TN qaE rfl m23 PyProof.Rows.boot_abs (qa (qb 2) qd)) (qgM qg qg) (zb _)) (qB TN qaE rfl m23 PyProof.Rows.boot_abs (qa (qb 2) qd)) qg)) (qj (qp (zG (qa (qb 3) (qa (qO (qb 2) (Z4 qg (qb 1))) (qa qg qd))))))))
abbrev jV:Stmt:=top 21
abbrev DC:List Str:=["_law_left_here","_law_many","_law_digit"]
abbrev J8:List Str:=["_law_left_here","_law_many"]
def V5:FnScope DC J8 (qf jV):=Hd.sc0
def RH (E:Hd.Fb K mg "_law_pick" jV J8 f fd) (read:Rd sp 2 (Bk.J0 S24) DC):Fn3 P w K mg base (k+1) "_law_pick" sp:=
 Hd.jfE E V5 read λcdv A outer s H E hr=>(qh (XS (qO (Z9 (qb 0) qg) qg) (qct (qb 0) qg)) (qh (jh (zj qkZ UD (Z9 (qb 0) qg) qg (zb _)) (qh (qA 2 V5.nd (U7 (Z9 (qb 0) qg) (qb 1))) (qh (XS (SB (Z9 (qb 0) qg) (qb 1)) (qct (qb 0) qg)) (qj (qp (qb 2))))) zF) (qj (qp (U7 (SB (qi V24 hr rfl (qa (qi V24 hr rfl (qa (Z9 (qb 0) qg) (qa (Z9 (qb 0) qg) qd))) (qa (qO (Z9 (qb 0) qg) qg) qd))) qg) (qb 1))))))
abbrev Q2:Stmt:=top 22
abbrev JB:List Str:=["_law_t"]
abbrev UE:List Str:=["_law_t"]
def KH:FnScope JB UE (qf Q2):=Hd.sc0
def VY:TS3:=(zm (o3 ix3 (YQ (qc (c3 (.int 1)) (qc (c3 (.int 2)) (qc (c3 (.int 4)) (qc (c3 (.int 8)) (qc (c3 (.int 16)) (qc (c3 (.int 32)) (qc (c3 (.int 64)) (qc (c3 (.int 128)) (qc (c3 (.int 256)) qk)))))))))) (v3 0)))
def KJ (E:Hd.Fb K mg "_law_two" Q2 UE f fd) (read:Rd sp 1 (VY) JB):Fn3 P w K mg base (k+1) "_law_two" sp:=
 Hd.jfE E KH read λcdv A outer s H E hr=>(qj (qp (Z9 (zG (qa qg (qa qg (qa qg (qa qg (qa qg (qa qg (qa qg (qa qg (qa qg qd)))))))))) (qb 0))))
abbrev js:Stmt:=top 23
abbrev jU:List Str:=["_law_marks","_law_found","_law_s","_law_one","_law_t","_law_mark"]
abbrev ZY:List Str:=["_law_marks"]
def qW:FnScope jU ZY (qf js):=Hd.sc0
def ZX (S25:Sp3):TS3:=(qP (zC (YQ qk) (gn3 1)) (qP (DF (VG (qc (cb3 S25 (qc (cb3 DI (qc (v3 0) qk)) qk)) qk)) (gn3 2) (qP (zC (c3 (.int 0)) (gn3 3)) (qP (DF (YZ (qc (v3 0) qk)) (VE 2 (qY (gn3 4) (qY (gn3 5) Y8))) (zC (o3 (iI Builtin.bitXor) (v3 3) (o3 (iC VC (·*·)) (v3 5) (o3 (iC (λ_ j=>0<j) (·%·)) (o3 (iC qa5 (·/·)) (v3 2) (cb3 S25 (qc (v3 4) qk))) (c3 (.int 2))))) (gn3 3))) (YD (bm3 LL (v3 1) (qc (v3 3) qk)))))) (zm (v3 1))))
def X5 (E:Hd.Fb K mg "_law_flips" js ZY f fd) (read:Rd sp 1 (ZX S25) jU):Fn3 P w K mg base (k+1) "_law_flips" sp:=
 Hd.jfE E qW read λcdv A outer s H E hr=>(qh (qA 1 qW.nd (zG qd)) (qh (jv PassesOwn.never rfl (jK rfl m13 (qa (qi V25 hr rfl (qa (qB zH jc rfl m8 PySem.boot_len (qa (qb 0) qd)) qd)) qd) (h1:=by intro _ _ _ h;simpa [qc,qk] using h)) (qw (i:=2) (qW.nd)) (qh (qA 3 qW.nd qg) (qh (jv PassesOwn.never rfl (U8 rfl m3 (qa (qb 0) qd)) (YU rfl (za (qw (i:=4) (qW.nd)) (za (qw (i:=5) (qW.nd)) YM))) (qj (qA 3 qW.nd (SG (qb 3) (Z4 (qb 5) (U7 (SB (qb 2) (qi V25 hr rfl (qa (qb 4) qd))) qg)))))) (qj (UY (Z6 (qb 1) (qa (qb 3) qd))))))) (qj (qp (qb 1)))))
abbrev jk:Stmt:=top 24
abbrev jN:List Str:=["_law_left_here","_law_wide","_law_found","_law_turn","_law_span","_law_more","_law_mark"]
abbrev ZV:List Str:=["_law_left_here","_law_wide"]
def zz:FnScope jN ZV (qf jk):=Hd.sc0
def ZW (S26:Sp3) (S25:Sp3) (S27:Sp3):TS3:=(qP (zC (YQ qk) (gn3 2)) (qP (DF (VG (qc (cb3 S26 (qc (v3 0) (qc (c3 (.int 5)) qk))) qk)) (gn3 3) (qP (zC (YQ qk) (gn3 4)) (qP (DF (VG (qc (cb3 S26 (qc (v3 0) (qc (c3 (.int 4)) qk))) qk)) (gn3 5) (qP (zC (o3 j7 (c3 (.int 1)) (cb3 S26 (qc (v3 0) (qc (o3 (iI (·-·)) (cb3 S25 (qc (v3 1) qk)) (c3 (.int 1))) qk)))) (gn3 6)) (ZE (tb3 (o3 (in3 true) (v3 6) (cb3 S27 (qc (v3 4) qk)))) (YD (bm3 LL (v3 4) (qc (v3 6) qk))) zk))) (YD (bm3 LL (v3 2) (qc (v3 4) qk)))))) (zm (v3 2))))
def XZ (E:Hd.Fb K mg "_law_spans" jk ZV f fd) (read:Rd sp 2 (ZW S26 S25 S27) jN):Fn3 P w K mg base (k+1) "_law_spans" sp:=
 Hd.jfE E zz read λcdv A outer s H E hr=>(qh (qA 2 zz.nd (zG qd)) (qh (jv PassesOwn.never rfl (jK rfl m13 (qa (qi V26 hr rfl (qa (qb 0) (qa qg qd))) qd) (h1:=by intro _ _ _ h;simpa [qc,qk] using h)) (qw (i:=3) (zz.nd)) (qh (qA 4 zz.nd (zG qd)) (qh (jv PassesOwn.never rfl (jK rfl m13 (qa (qi V26 hr rfl (qa (qb 0) (qa qg qd))) qd) (h1:=by intro _ _ _ h;simpa [qc,qk] using h)) (qw (i:=5) (zz.nd)) (qh (qA 6 zz.nd (qO qg (qi V26 hr rfl (qa (qb 0) (qa (ML (qi V25 hr rfl (qa (qb 1) qd)) qg) qd))))) (qj (jh (zj Y0 LV (qb 6) (qi V27 hr rfl (qa (qb 4) qd)) (by with_unfolding_all rfl)) (qj (UY (Z6 (qb 4) (qa (qb 6) qd)))) zF)))) (qj (UY (Z6 (qb 2) (qa (qb 4) qd))))))) (qj (qp (qb 2)))))
abbrev QY:Stmt:=top 25
abbrev Z2:List Str:=["_law_spans_here","_law_found","_law_span"]
abbrev VZ:List Str:=["_law_spans_here"]
def YH:FnScope Z2 VZ (qf QY):=Hd.sc0
def VW (S27:Sp3):TS3:=(qP (zC (YQ qk) (gn3 1)) (qP (DF (Z0 (v3 0)) (gn3 2) (YD (bm3 qem (v3 1) (qc (qjg (cb3 S27 (qc (v3 2) qk)) (sp3 (c3 (.int 1))) np3) qk)))) (zm (qfs (v3 1)))))
def KM (E:Hd.Fb K mg "_law_bad" QY VZ f fd) (read:Rd sp 1 (VW S27) Z2):Fn3 P w K mg base (k+1) "_law_bad" sp:=
 Hd.jfE E YH read λcdv A outer s H E hr=>(qh (qA 1 YH.nd (zG qd)) (qh (jv PassesOwn.never rfl (Z8 (qb 0)) (qw (i:=2) (YH.nd)) (qj (UY (NC (qb 1) (qa (SK (qi V27 hr rfl (qa (qb 2) qd)) (LY qg) qaC) qd))))) (qj (qp (KQ rfl rfl m28 rfl m29 (qb 1))))))
abbrev QZ:Stmt:=top 26
abbrev JM:List Str:=["_law_numbers","_law_x","_law_found","_law_t","_law_number"]
abbrev UM:List Str:=["_law_numbers","_law_x"]
def jH:FnScope JM UM (qf QZ):=Hd.sc0
def U9 (S25:Sp3):TS3:=(qP (zC (c3 (.int 0)) (gn3 2)) (qP (DF (YZ (qc (v3 0) qk)) (VE 2 (qY (gn3 3) (qY (gn3 4) Y8))) (zC (o3 (iI Builtin.bitXor) (v3 2) (o3 (iC VC (·*·)) (v3 4) (o3 (iC (λ_ j=>0<j) (·%·)) (o3 (iC qa5 (·/·)) (v3 1) (cb3 S25 (qc (v3 3) qk))) (c3 (.int 2))))) (gn3 2))) (zm (v3 2))))
def T8 (E:Hd.Fb K mg "_law_led" QZ UM f fd) (read:Rd sp 2 (U9 S25) JM):Fn3 P w K mg base (k+1) "_law_led" sp:=
 Hd.jfE E jH read λcdv A outer s H E hr=>(qh (qA 2 jH.nd qg) (qh (jv PassesOwn.never rfl (U8 rfl m3 (qa (qb 0) qd)) (YU rfl (za (qw (i:=3) (jH.nd)) (za (qw (i:=4) (jH.nd)) YM))) (qj (qA 2 jH.nd (SG (qb 2) (Z4 (qb 4) (U7 (SB (qb 1) (qi V25 hr rfl (qa (qb 3) qd))) qg)))))) (qj (qp (qb 2)))))
abbrev j3:Stmt:=top 27
abbrev Q7:List Str:=["_law_numbers","_law_bits","_law_top","_law_turn"]
abbrev JR:List Str:=["_law_numbers","_law_bits"]
def QC:FnScope Q7 JR (qf j3):=Hd.sc0
def JV (S25:Sp3):TS3:=(qP (zC (c3 (.int 1)) (gn3 2)) (qP (DF (VG (qc (c3 (.int 6)) qk)) (gn3 3) (ZE (tb3 (o3 (iB λi j=>decide (j<=i)) (cb3 R4 (qc (o3 j7 (v3 0) (YQ (qc (c3 (.int 0)) qk))) qk)) (v3 2))) (zC (o3 (iC VC (·*·)) (c3 (.int 2)) (v3 2)) (gn3 2)) zk)) (zm (cb3 qdG (qc (v3 2) (qc (o3 (iI (·-·)) (cb3 S25 (qc (v3 1) qk)) (c3 (.int 1))) qk))))))
def RJ (E:Hd.Fb K mg "_law_last" j3 JR f fd) (read:Rd sp 2 (JV S25) Q7):Fn3 P w K mg base (k+1) "_law_last" sp:=
 Hd.jfE E QC read λcdv A outer s H E hr=>(qh (qA 2 QC.nd qg) (qh (jv PassesOwn.never rfl (jK rfl m13 (qa qg qd) (h1:=by intro _ _ _ h;simpa [qc,qk] using h)) (qw (i:=3) (QC.nd)) (qj (jh (zj qhR UD (qB (CI rfl) TJ rfl m5 PyProof.Rows.boot_max (qa (qO (qb 0) (zG (qa qg qd))) qd)) (qb 2) (zb _)) (qj (qA 2 QC.nd (Z4 qg (qb 2)))) zF))) (qj (qp (qB (UQ rfl) RQ rfl m6 PyProof.Rows.boot_min (qa (qb 2) (qa (ML (qi V25 hr rfl (qa (qb 1) qd)) qg) qd)))))))
abbrev zX:Stmt:=top 28
abbrev jr:List Str:=["_law_bad_here","_law_numbers"]
abbrev QV:List Str:=["_law_bad_here","_law_numbers"]
def W1:FnScope jr QV (qf zX):=Hd.sc0
def QQ (S30:Sp3):TS3:=(zm (cb3 qgZ (qc (lc3 (Z0 (v3 0)) (gn3 0) tt3 (o3 (YL true) (cb3 S30 (qc (v3 1) (qc (v3 0) qk))) (c3 (.int 0))) [none,some 1]) qk)))
def WN (E:Hd.Fb K mg "_law_serves" zX QV f fd) (read:Rd sp 2 (QQ S30) jr):Fn3 P w K mg base (k+1) "_law_serves" sp:=
 Hd.jfE E W1 read λcdv A outer s H E hr=>(qj (qp (qB (EH rfl) qeC rfl m31 PyProof.Rows.boot_all (qa (qbE ["_law_one","_law_numbers"] [none,some 1] rfl (Z8 (qb 0)) (λ_ _ _=>(jgn 0)) (λ_ _ _=>DE) (λ_ _ _=>(W4 (EY hr.units) J3 (qi V30 hr rfl (qa (qb 1) (qa (qb 0) qd))) qg (zb _))) (by kernel_rfl) (by kernel_rfl)) qd))))
abbrev Q6:Stmt:=top 29
abbrev JK:List Str:=["_law_left_here","_law_wide"]
abbrev VV:List Str:=["_law_left_here"]
def ET:FnScope JK VV (qf Q6):=Hd.sc0
def U3 (S26:Sp3) (S32:Sp3):TS3:=(qP (zC (o3 j7 (c3 (.int 1)) (cb3 S26 (qc (v3 0) (qc (o3 ix3 (YQ (qc (c3 (.int 3)) (qc (c3 (.int 3)) (qc (c3 (.int 3)) (qc (c3 (.int 3)) (qc (c3 (.int 4)) (qc (c3 (.int 4)) (qc (c3 (.int 4)) (qc (c3 (.int 5)) qk))))))))) (cb3 S26 (qc (v3 0) (qc (c3 (.int 8)) qk)))) qk)))) (gn3 1)) (zm (qa8 (qc (v3 1) (qc (cb3 S26 (qc (v3 0) (qc (o3 ix3 (YQ (qc (c3 (.int 3)) (qc (c3 (.int 4)) (qc (c3 (.int 6)) qk)))) (cb3 S26 (qc (v3 0) (qc (c3 (.int 3)) qk)))) qk))) (qc (cb3 S32 (qc (v3 0) (qc (v3 1) qk))) qk))))))
def KI (E:Hd.Fb K mg "_law_lot" Q6 VV f fd) (read:Rd sp 1 (U3 S26 S32) JK):Fn3 P w K mg base (k+1) "_law_lot" sp:=
 Hd.jfE E ET read λcdv A outer s H E hr=>(qh (qA 1 ET.nd (qO qg (qi V26 hr rfl (qa (qb 0) (qa (Z9 (zG (qa qg (qa qg (qa qg (qa qg (qa qg (qa qg (qa qg (qa qg qd))))))))) (qi V26 hr rfl (qa (qb 0) (qa qg qd)))) qd))))) (qj (qp (DJ (qa (qb 1) (qa (qi V26 hr rfl (qa (qb 0) (qa (Z9 (zG (qa qg (qa qg (qa qg qd)))) (qi V26 hr rfl (qa (qb 0) (qa qg qd)))) qd))) (qa (qi V32 hr rfl (qa (qb 0) (qa (qb 1) qd))) qd)))))))
abbrev ji:Stmt:=top 31
abbrev jR:List Str:=["_law_thing"]
abbrev ZL:List Str:=["_law_thing"]
def X3:FnScope jR ZL (qf ji):=Hd.sc0
def XV (E:Hd.Fb K mg "_law_whole" ji ZL f fd) (read:Rd sp 1 (Bk.zL) jR):Fn3 P w K mg base (k+1) "_law_whole" sp:=
 Hd.jfE E X3 read λcdv A outer s H E hr=>(qj (qp (XA (UN (qb 0) rfl m0 rfl m2 PyProof.Rows.boot_int) (SV (qdk (UN (qb 0) rfl m0 rfl m1 PyProof.Rows.boot_bool))))))
abbrev jZ:Stmt:=top 30
abbrev ZC:List Str:=["_law_wide","_law_bits","_law_bad_here","_law_numbers","_law_thing","_law_high","_law_number","_law_arm","_law_more"]
abbrev YB:List Str:=["_law_wide","_law_bits","_law_bad_here","_law_numbers","_law_thing"]
def jg:FnScope ZC YB (qf jZ):=Hd.sc0
def YK (S33:Sp3) (S25:Sp3) (S34:Sp3) (S35:Sp3) (S30:Sp3):TS3:=(qP (ZE (or3 (TH (tb3 (qdv (λt=>EK t "tuple") (v3 4)))) (tb3 (o3 (YL true) (cb3 DI (qc (v3 4) qk)) (o3 j7 (cb3 S33 (qc (v3 3) (qc (v3 1) qk))) (c3 (.int 1)))))) (zm (c3 (.bl false))) zk) (qP (zC (cb3 S25 (qc (cb3 DI (qc (v3 3) qk)) qk)) (gn3 5)) (qP (DF (YZ (qc (v3 4) qk)) (VE 2 (qY (gn3 6) (qY (gn3 7) Y8))) (qP (zC (o3 j7 (v3 3) (YQ (qc (v3 6) qk))) (gn3 8)) (ZE (tb3 (qdv (λt=>EK t "tuple") (v3 7))) (ZE (or3 (tb3 (o3 (YL false) (cb3 DI (qc (v3 8) qk)) (v3 0))) (TH (tb3 (cb3 S34 (qc (v3 0) (qc (v3 1) (qc (v3 2) (qc (v3 8) (qc (v3 7) qk))))))))) (zm (c3 (.bl false))) zk) (ZE (or3 (TH (tb3 (cb3 S35 (qc (v3 7) qk)))) (or3 (tb3 (o3 (in3 true) (v3 7) (v3 2))) (TH (tb3 (ch3 (iB λi j=>decide (i<=j)) (iB λi j=>decide (i<j)) (v3 5) (v3 7) (o3 (iC VC (·*·)) (c3 (.int 2)) (v3 5))))))) (zm (c3 (.bl false))) (ZE (tb3 (o3 (YL true) (cb3 S30 (qc (v3 8) (qc (v3 7) qk))) (c3 (.int 0)))) (zm (c3 (.bl false))) zk))))) (zm (c3 (.bl true))))))
def RE (E:Hd.Fb K mg "_law_bars" jZ YB f fd) (read:Rd sp 5 (YK S33 S25 S34 S35 S30) ZC):Fn3 P w K mg base (k+1) "_law_bars" sp:=
 Hd.jfE E jg read λcdv A outer s H E hr=>(qh (jh (jpt (RI (JP (ZH (UN (qb 4) rfl m0 rfl m14 PyProof.Rows.boot_tuple))) (X4 (zj (EY hr.units) J3 (qB zH jc rfl m8 PySem.boot_len (qa (qb 4) qd)) (qO (qi V33 hr rfl (qa (qb 3) (qa (qb 1) qd))) qg) (zb _))))) (qj (qp ZO)) zF) (qh (qA 5 jg.nd (qi V25 hr rfl (qa (qB zH jc rfl m8 PySem.boot_len (qa (qb 3) qd)) qd))) (qh (jv PassesOwn.never rfl (U8 rfl m3 (qa (qb 4) qd)) (YU rfl (za (qw (i:=6) (jg.nd)) (za (qw (i:=7) (jg.nd)) YM))) (qh (qA 8 jg.nd (qO (qb 3) (zG (qa (qb 6) qd)))) (qj (jh (ZH (UN (qb 7) rfl m0 rfl m14 PyProof.Rows.boot_tuple)) (qj (jh (jpt (RI (zj (ZG hr.units) jz (qB zH jc rfl m8 PySem.boot_len (qa (qb 8) qd)) (qb 0) (zb _)) (X4 (JP (ZH (qi V34 hr rfl (qa (qb 0) (qa (qb 1) (qa (qb 2) (qa (qb 8) (qa (qb 7) qd))))))))))) (qj (qp ZO)) zF)) (qj (jh (jpt (RI (JP (ZH (qi V35 hr rfl (qa (qb 7) qd)))) (RI (zj Y0 LV (qb 7) (qb 2) (by with_unfolding_all rfl)) (X4 (JP (qbz qjY UD qfF UD (qb 5) (qb 7) (Z4 qg (qb 5)))))))) (qj (qp ZO)) (qj (jh (zj (EY hr.units) J3 (qi V30 hr rfl (qa (qb 8) (qa (qb 7) qd))) qg (zb _)) (qj (qp ZO)) zF)))))))) (qj (qp ZO)))))
abbrev ZK:Stmt:=top 32
abbrev qbQ:List Str:=["_law_script","_law_k","_law_left_here","_law_wide","_law_bits","_law_spans_here","_law_many","_law_found","_law_bad_here","_law_tree","_law_due"]
abbrev qjb:List Str:=["_law_script"]
def QJ:FnScope qbQ qjb (qf ZK):=Hd.sc0
def qeu (S36:Sp3) (S37:Sp3) (S26:Sp3) (S38:Sp3) (S39:Sp3) (S34:Sp3) (S40:Sp3) (S41:Sp3):TS3:=(qP (DF (VG (qc (o3 j7 (c3 (.int 1)) (cb3 qdG (qc (c3 (.int 6)) (qc (cb3 DI (qc (v3 0) qk)) qk)))) qk)) (gn3 1) (qP (zC (cb3 S36 (qc (v3 0) (qc (v3 1) qk))) (gn3 2)) (qP (zC (cb3 S37 (qc (v3 2) qk)) (VE 3 (qY (gn3 3) (qY (gn3 4) (qY (gn3 5) Y8))))) (qP (zC (cb3 R4 (qc (o3 j7 (YQ (qc (c3 (.int 0)) qk)) (lc3 (Z0 (v3 5)) (gn3 0) tt3 (cb3 DI (qc (v3 0) qk)) [none])) qk)) (gn3 6)) (qP (zC (o3 j7 (cb3 qhP (qc (c3 (.int 0)) (qc (o3 (iI (·-·)) (v3 6) (cb3 S26 (qc (v3 2) (qc (c3 (.int 2)) qk)))) qk))) (cb3 qgJ (qc (o3 (YL false) (cb3 S26 (qc (v3 2) (qc (c3 (.int 3)) qk))) (c3 (.int 0))) qk))) (gn3 4)) (qP (zC (cb3 S38 (qc (v3 3) (qc (v3 4) (qc (v3 5) qk)))) (gn3 7)) (ZE (tb3 (o3 (YL false) (o3 ix3 (v3 7) (c3 (.int 0))) (c3 (.str "none")))) (qP (qik 8 9 (qc (cb3 S39 (qc (v3 5) qk)) (qc (o3 ix3 (v3 7) (c3 (.int 1))) qk))) (qP (ZE (TH (tb3 (cb3 S34 (qc (v3 3) (qc (v3 4) (qc (v3 8) (qc (YQ qk) (qc (v3 9) qk)))))))) (zm (c3 (.bl false))) zk) (qP (ZE (tb3 (o3 (qjJ true) (cb3 S40 (qc (v3 3) (qc (v3 4) (qc (v3 5) (qc (v3 9) qk))))) (c3 (.bl true)))) (zm (c3 (.bl false))) zk) (qP (ZE (tb3 (o3 (YL true) (cb3 S38 (qc (v3 3) (qc (v3 4) (qc (lc3 (Z0 (v3 5)) (gn3 0) tt3 (cb3 KD (qc (v3 0) qk)) [none]) qk)))) (v3 7))) (zm (c3 (.bl false))) zk) (qP (zC (cb3 S34 (qc (v3 3) (qc (o3 j7 (v3 4) (c3 (.int 1))) (qc (v3 8) (qc (YQ qk) (qc (v3 9) qk)))))) (gn3 10)) (ZE (tb3 (o3 (YL true) (cb3 S40 (qc (v3 3) (qc (o3 j7 (v3 4) (c3 (.int 1))) (qc (v3 5) (qc (v3 9) qk))))) (v3 10))) (zm (c3 (.bl false))) zk)))))) (ZE (or3 (tb3 (o3 (iB λi j=>decide (i<j)) (v3 4) (v3 6))) (TH (tb3 (cb3 S41 (qc (cb3 S39 (qc (v3 5) qk)) (qc (o3 ix3 (v3 7) (c3 (.int 1))) qk)))))) (zm (c3 (.bl false))) zk)))))))) (zm (c3 (.bl true))))
def qgh (F:Fun K "law" "law" ZK f fd) (read:Rd sp 1 (qeu S36 S37 S26 S38 S39 S34 S40 S41) qbQ):FnOk P w K mg base CX0 (k+1) f fd qjb (lSp K sp):=
 qb5 (t3:=(qeu S36 S37 S26 S38 S39 S34 S40 S41)) F QJ (λcdv A outer s H E hr=>(qh (jv PassesOwn.never rfl (jK rfl m13 (qa (qO qg (qB (UQ rfl) RQ rfl m6 PyProof.Rows.boot_min (qa qg (qa (qB zH jc rfl m8 PySem.boot_len (qa (qb 0) qd)) qd)))) qd) (h1:=by intro _ _ _ h;simpa [qc,qk] using h)) (qw (i:=1) (QJ.nd)) (qh (qA 2 QJ.nd (qi V36 hr rfl (qa (qb 0) (qa (qb 1) qd)))) (qh (XS (qi V37 hr rfl (qa (qb 2) qd)) (YU rfl (za (qw (i:=3) (QJ.nd)) (za (qw (i:=4) (QJ.nd)) (za (qw (i:=5) (QJ.nd)) YM))))) (qh (qA 6 QJ.nd (qB (CI rfl) TJ rfl m5 PyProof.Rows.boot_max (qa (qO (zG (qa qg qd)) (qbE ["_law_span"] [none] rfl (Z8 (qb 5)) (λ_ _ _=>(jgn 0)) (λ_ _ _=>DE) (λ_ _ _=>(qB zH jc rfl m8 PySem.boot_len (qa (qb 0) qd))) (by kernel_rfl) (by kernel_rfl))) qd))) (qh (qA 4 QJ.nd (qO (qB (qae rfl) qeF rfl m5 PyProof.Rows.boot_max (qa qg (qa (ML (qb 6) (qi V26 hr rfl (qa (qb 2) (qa qg qd)))) qd))) (U2 MU qd8 rfl m2 PyProof.Rows.boot_int (qa (W4 (ZG hr.units) jz (qi V26 hr rfl (qa (qb 2) (qa qg qd))) qg (zb _)) qd)))) (qh (qA 7 QJ.nd (qi V38 hr rfl (qa (qb 3) (qa (qb 4) (qa (qb 5) qd))))) (qj (jh (zj (ZG hr.units) jz (Z9 (qb 7) qg) YX (zb _)) (qh (qhB (i:=8) (j:=9) rfl QJ.nd rfl rfl (by decide) rfl rfl (qa (qi V39 hr rfl (qa (qb 5) qd)) (qa (Z9 (qb 7) qg) qd))) (qh (jh (JP (ZH (qi V34 hr rfl (qa (qb 3) (qa (qb 4) (qa (qb 8) (qa (zG qd) (qa (qb 9) qd)))))))) (qj (qp ZO)) zF) (qh (jh (zj qeI qbM (qi V40 hr rfl (qa (qb 3) (qa (qb 4) (qa (qb 5) (qa (qb 9) qd))))) ZO (zb _)) (qj (qp ZO)) zF) (qh (jh (zj (EY hr.units) J3 (qi V38 hr rfl (qa (qb 3) (qa (qb 4) (qa (qbE ["_law_span"] [none] rfl (Z8 (qb 5)) (λ_ _ _=>(jgn 0)) (λ_ _ _=>DE) (λ_ _ _=>(U2 CP qbe rfl m42 PyProof.Rows.boot_list (qa (qb 0) qd))) (by kernel_rfl) (by kernel_rfl)) qd)))) (qb 7) (zb _)) (qj (qp ZO)) zF) (qh (qA 10 QJ.nd (qi V34 hr rfl (qa (qb 3) (qa (qO (qb 4) qg) (qa (qb 8) (qa (zG qd) (qa (qb 9) qd))))))) (qj (jh (zj (EY hr.units) J3 (qi V40 hr rfl (qa (qb 3) (qa (qO (qb 4) qg) (qa (qb 5) (qa (qb 9) qd))))) (qb 10) (zb _)) (qj (qp ZO)) zF))))))) (qj (jh (jpt (RI (zj qfF UD (qb 4) (qb 6) (zb _)) (X4 (JP (ZH (qi V41 hr rfl (qa (qi V39 hr rfl (qa (qb 5) qd)) (qa (Z9 (qb 7) qg) qd)))))))) (qj (qp ZO)) zF)))))))))) (qj (qp ZO)))) read
def qkK {S:Sp3} (rd:∀ ts G q,S ts G q->ts.length=2/\((cb3 S43 (qc (v3 1) (qc (v3 0) qk))):TE3) (ts.map some) G q):Lam3 P w K mg base k 0 S:=
 WI l_0 rfl (by kernel_rfl) (λ_ _ _ _ us hl=>by obtain ⟨_,rfl⟩:=Pu.qif hl;rfl) (λA outer s H E f c clos hr=>(qi V43 hr rfl (qa (qb 1) (qa (qb 0) qd)))) rd
def qjV {S:Sp3} (rd:∀ ts G q,S ts G q->ts.length=2/\((cb3 S44 (qc (v3 1) (qc (v3 0) qk))):TE3) (ts.map some) G q):Lam3 P w K mg base k 1 S:=
 WI l_1 rfl (by kernel_rfl) (λ_ _ _ _ us hl=>by obtain ⟨_,rfl⟩:=Pu.qif hl;rfl) (λA outer s H E f c clos hr=>(qi V44 hr rfl (qa (qb 1) (qa (qb 0) qd)))) rd
def qkh {S:Sp3} (rd:∀ ts G q,S ts G q->ts.length=2/\((cb3 S43 (qc (v3 1) (qc (v3 0) qk))):TE3) (ts.map some) G q):Lam3 P w K mg base k 2 S:=
 WI l_2 rfl (by kernel_rfl) (λ_ _ _ _ us hl=>by obtain ⟨_,rfl⟩:=Pu.qif hl;rfl) (λA outer s H E f c clos hr=>(qi V43 hr rfl (qa (qb 1) (qa (qb 0) qd)))) rd
def qkT {S:Sp3} (rd:∀ ts G q,S ts G q->ts.length=3/\((cb3 S45 (qc (v3 2) (qc (v3 0) (qc (v3 1) qk)))):TE3) (ts.map some) G q):Lam3 P w K mg base k 3 S:=
 WI l_3 rfl (by kernel_rfl) (λ_ _ _ _ us hl=>by obtain ⟨_,_,rfl⟩:=Pu.qk9 hl;rfl) (λA outer s H E f c clos hr=>(qi V45 hr rfl (qa (qb 2) (qa (qb 0) (qa (qb 1) qd))))) rd
end
end K47
namespace K47
open PySem L2 L3 Pu
def jb:PuS (Bk.zL):=(YN (CW (qcw (λt=>EK t "int") (bV 0)) (qeB (qcw (λt=>EK t "bool") (bV 0)))))
def zt:List PyData->Option PyData:=Pu.run jb.f 1 1 1000000000 false
def CB:Rd (PSp zt false) 1 (Bk.zL) QB:=qK jb QB 1 1000000000 false
def YO {x0:PyData}:zt [x0]=j2 false (jb.f 1000000000 [.sh x0]):=id rfl
def VQ:PuS (K47.WJ):=(QL (EB (zv 0) 2 [] ⟨rfl⟩) (QL (LJ (RT (qe (bV 0) qz)) (MQ 2 (jE (gN 3) (jE (gN 4) M0))) (sIf (bTb (bO (W7 false) (bO (opI Builtin.bitAnd) (bO (opC (λ_ j=>0<=j) (λi j=>i/2 ^ j.toNat)) (bV 1) (bV 3)) (zv 1)) (zv 1))) (EB (bO (opI Builtin.bitXor) (bV 2) (bV 4)) 2 [false,false,true,false,true] ⟨rfl⟩) JQ) [true] ⟨rfl⟩) (KO 2)))
def Q4:List PyData->Option PyData:=Pu.run VQ.f 2 5 1000000000 false
def qas:Rd (PSp Q4 false) 2 (K47.WJ) VH:=qK VQ VH 2 1000000000 false
def qam {x0 x1:PyData}:Q4 [x0,x1]=j2 false (VQ.f 1000000000 [.sh x0,.sh x1,.un,.un,.un]):=id rfl
def jw:PuS (K47.QM (PSp Pv.J4 true)):=(YN (qkP (NP (bV 0)) (gN 0) bTt (NP (bSl (qx (qV Pv.J4 true) (qe (bV 0) qz)) (bSp (zv 1)) bNp)) (gN 1) bTt (bV 1) [none,none] ⟨rfl⟩ ⟨rfl⟩ ⟨rfl⟩))
def qE:List PyData->Option PyData:=Pu.run jw.f 1 1 1000000000 true
def WP:Rd (PSp qE true) 1 (K47.QM (PSp Pv.J4 true)) jp:=qK jw jp 1 1000000000 true
def WD {x0:PyData}:qE [x0]=j2 true (jw.f 1000000000 [.sh x0]):=id rfl
def zE:PuS (K47.ja):=(QL (EB (bO (opC T9 (λi j=>i*2 ^ j.toNat)) (zv 1) (qkr (bO qcX (bV 1) (zv 0)))) 2 [false,true] ⟨rfl⟩) (YN (qx qjE (qe (bO WM (bV 2) (zv 1)) (qe (bO (opC T9 (λi j=>i*2 ^ j.toNat)) (zv 1) (bV 0)) qz)))))
def qu:List PyData->Option PyData:=Pu.run zE.f 2 3 1000000000 false
def VF:Rd (PSp qu false) 2 (K47.ja) zI:=qK zE zI 2 1000000000 false
def VD {x0 x1:PyData}:qu [x0,x1]=j2 false (zE.f 1000000000 [.sh x0,.sh x1,.un]):=id rfl
def zW:PuS (K47.j5 (PSp Q4 false)):=(YN (CW (bO (W7 false) (qkr (bV 1)) (qx qa9 (qe (bV 0) qz))) (bO (W7 false) (qx (qV Q4 false) (qe (bV 0) (qe (bV 1) qz))) (zv 0))))
def qD:List PyData->Option PyData:=Pu.run zW.f 2 2 1000000000 false
def EG:Rd (PSp qD false) 2 (K47.j5 (PSp Q4 false)) zZ:=qK zW zZ 2 1000000000 false
def EM {x0 x1:PyData}:qD [x0,x1]=j2 false (zW.f 1000000000 [.sh x0,.sh x1]):=id rfl
def zo:PuS (K47.zS (PSp qD false)):=(QL (LJ (NP (bV 0)) (gN 2) (sIf (bTb (qx (qV qD false) (qe (bV 1) (qe (bV 2) qz)))) (KO 2) JQ) [true] ⟨rfl⟩) (YN qjK))
def qI:List PyData->Option PyData:=Pu.run zo.f 2 3 1000000000 false
def YA:Rd (PSp qI false) 2 (K47.zS (PSp qD false)) zp:=qK zo zp 2 1000000000 false
def JS {x0 x1:PyData}:qI [x0,x1]=j2 false (zo.f 1000000000 [.sh x0,.sh x1,.un]):=id rfl
def QU:PuS (K47.V0 (PSp qD false) (PSp zt false)):=(YN (CW (qx (qV zt false) (qe (bV 2) qz)) (CW (bO (qjL false) (bV 2) (bV 0)) (qx (qV qD false) (qe (bV 1) (qe (bV 2) qz))))))
def jG:List PyData->Option PyData:=Pu.run QU.f 3 3 1000000000 false
def KC:Rd (PSp jG false) 3 (K47.V0 (PSp qD false) (PSp zt false)) Z3:=qK QU Z3 3 1000000000 false
def T1 {x0 x1 x2:PyData}:jG [x0,x1,x2]=j2 false (QU.f 1000000000 [.sh x0,.sh x1,.sh x2]):=id rfl
def qjx:PuE (cb3 (PSp qu false) (qc (v3 1) (qc (v3 0) qk))):=(qx (qV qu false) (qe (bV 1) (qe (bV 0) qz)))
def qhA:List PyData->Option PyData:=qfM qjx.f 2
def qj3:∀ ts G q,PSp qhA false ts G q->ts.length=2/\((cb3 (PSp qu false) (qc (v3 1) (qc (v3 0) qk))):TE3) (ts.map some) G q:=WY qjx 2
def qks {x0 x1:PyData}:qhA [x0,x1]=qjx.f [.sh x0,.sh x1]:=id rfl
def qjT:PuE (cb3 (PSp qI false) (qc (v3 1) (qc (v3 0) qk))):=(qx (qV qI false) (qe (bV 1) (qe (bV 0) qz)))
def qg7:List PyData->Option PyData:=qfM qjT.f 2
def ql0:∀ ts G q,PSp qg7 false ts G q->ts.length=2/\((cb3 (PSp qI false) (qc (v3 1) (qc (v3 0) qk))):TE3) (ts.map some) G q:=WY qjT 2
def qlt {x0 x1:PyData}:qg7 [x0,x1]=qjT.f [.sh x0,.sh x1]:=id rfl
def qjO:PuE (cb3 (PSp qu false) (qc (v3 1) (qc (v3 0) qk))):=(qx (qV qu false) (qe (bV 1) (qe (bV 0) qz)))
def qhH:List PyData->Option PyData:=qfM qjO.f 2
def qkq:∀ ts G q,PSp qhH false ts G q->ts.length=2/\((cb3 (PSp qu false) (qc (v3 1) (qc (v3 0) qk))):TE3) (ts.map some) G q:=WY qjO 2
def qjW {x0 x1:PyData}:qhH [x0,x1]=qjO.f [.sh x0,.sh x1]:=id rfl
def qjP:PuE (cb3 (PSp jG false) (qc (v3 2) (qc (v3 0) (qc (v3 1) qk)))):=(qx (qV jG false) (qe (bV 2) (qe (bV 0) (qe (bV 1) qz))))
def qhC:List PyData->Option PyData:=qfM qjP.f 3
def qk3:∀ ts G q,PSp qhC false ts G q->ts.length=3/\((cb3 (PSp jG false) (qc (v3 2) (qc (v3 0) (qc (v3 1) qk)))):TE3) (ts.map some) G q:=WY qjP 3
def qld {x0 x1 x2:PyData}:qhC [x0,x1,x2]=qjP.f [.sh x0,.sh x1,.sh x2]:=id rfl
def PhL:PhD:=λi=>[qhA,qg7,qhH,qhC][i]?
def jI (Ff:List PyData->Option PyData):PuS (K47.J5 (phS PhL) (PSp Ff false)):=(QL (sIf (bTb (bO (W7 false) (qx qa9 (qe (bV 3) qz)) (bV 0))) (YN (qfE (qe (qb0 "row") (qe (bV 3) qz)) ⟨rfl⟩)) JQ) (QL (EB (EU qz ⟨rfl⟩) 4 [] ⟨rfl⟩) (QL (LJ (qjl (qe (bCv PhL (bV 1) (qe (bV 3) qz)) qz)) (gN 5) (QL (EB (bO YS (bV 3) (EU (qe (bV 5) qz) ⟨rfl⟩)) 6 [false,false,false,true,false,true] ⟨rfl⟩) (QL (EB (bCv PhL (bV 2) (qe (bV 6) qz)) 7 [false,false,true,false,false,false,true] ⟨rfl⟩) (QL (sIf (bTb (bO (qgp false) (bV 7) qjK)) (QL (qd6 (qx (qV Ff false) (qe (bV 0) (qe (bV 1) (qe (bV 2) (qe (bV 6) qz))))) (MQ 2 (jE (gN 8) (jE (gN 7) M0))) [true,true,true,false,false,false,true] ⟨rfl⟩) (sIf (bTb (bO (W7 false) (bV 8) (qb0 "row"))) (YN (qfE (qe (qb0 "row") (qe (bV 7) qz)) ⟨rfl⟩)) JQ)) JQ) (qlz (bV 7) 4 [false,false,false,false,false,false,false,true] ⟨rfl⟩)))) [false,true,false,true] ⟨rfl⟩) (YN (qfE (qe (qb0 "none") (qe (qx qmi (qe (bV 4) qz)) qz)) ⟨rfl⟩)))))
def qH:Nat->List PyData->Option PyData
 |0=>λ_=>none
 |j+1=>Pu.run (jI (qH j)).f 4 9 1000000000 false
def RR (j:Nat):Rd (PSp (qH (j+1)) false) 4 (K47.J5 (phS PhL) (PSp (qH j) false)) Q9:=qK (jI (qH j)) Q9 4 1000000000 false
def C4 {j:Nat} {x0 x1 x2 x3:PyData}:qH (j+1) [x0,x1,x2,x3]=j2 false ((jI (qH j)).f 1000000000 [.sh x0,.sh x1,.sh x2,.sh x3,.un,.un,.un,.un,.un]):=id rfl
def j4:PuS (K47.ZT (PSp qE true) (PSp (qH 6) false)):=(QL (EB (qx (qV qE true) (qe (bV 2) qz)) 3 [false,false,true] ⟨rfl⟩) (QL (qd6 (qlo (qH 6) false (bV 0) (qe (EU qz ⟨rfl⟩) qz) 0 1 [1] [3]) (MQ 2 (jE (gN 4) (jE (gN 5) M0))) [true,true,false,true] ⟨rfl⟩) (QL (sIf (bTb (bO (W7 false) (bV 4) (qb0 "none"))) (YN (qfE (qe (qb0 "none") (qe (bV 5) qz)) ⟨rfl⟩)) JQ) (YN (qfE (qe (qb0 "image") (qe (bV 5) qz)) ⟨rfl⟩)))))
def qM:List PyData->Option PyData:=Pu.run j4.f 3 6 1000000000 false
def CA:Rd (PSp qM false) 3 (K47.ZT (PSp qE true) (PSp (qH 6) false)) jQ:=qK j4 jQ 3 1000000000 false
def CC {x0 x1 x2:PyData}:qM [x0,x1,x2]=j2 false (j4.f 1000000000 [.sh x0,.sh x1,.sh x2,.un,.un,.un]):=id rfl
def z9 (Ff:List PyData->Option PyData):PuS (K47.UX (phS PhL) (PSp Ff false)):=(QL (sIf (bOr (bTb (bO (W7 false) (qx qa9 (qe (bV 3) qz)) (bV 0))) (bOr (qa2 (bTb (qcw (λt=>EK t "tuple") (bV 4)))) (bTb (bO (W7 true) (qx qa9 (qe (bV 4) qz)) (bCv PhL (bV 1) (qe (bV 3) qz)))))) (YN (bBl false)) JQ) (QL (LJ (RT (qe (bV 4) qz)) (MQ 2 (jE (gN 5) (jE (gN 6) M0))) (QL (EB (bO YS (bV 3) (EU (qe (bV 5) qz) ⟨rfl⟩)) 7 [false,false,false,true,false,true] ⟨rfl⟩) (sIf (qmb (qa2 (bTb (bCv PhL (bV 2) (qe (bV 7) (qe (bV 6) qz))))) (qa2 (bTb (qx (qV Ff false) (qe (bV 0) (qe (bV 1) (qe (bV 2) (qe (bV 7) (qe (bV 6) qz))))))))) (YN (bBl false)) JQ)) [false,false,false,false,true] ⟨rfl⟩) (YN (bBl true))))
def qR:Nat->List PyData->Option PyData
 |0=>λ_=>none
 |j+1=>Pu.run (z9 (qR j)).f 5 8 1000000000 false
def T3 (j:Nat):Rd (PSp (qR (j+1)) false) 5 (K47.UX (phS PhL) (PSp (qR j) false)) JI:=qK (z9 (qR j)) JI 5 1000000000 false
def KY {j:Nat} {x0 x1 x2 x3 x4:PyData}:qR (j+1) [x0,x1,x2,x3,x4]=j2 false ((z9 (qR j)).f 1000000000 [.sh x0,.sh x1,.sh x2,.sh x3,.sh x4,.un,.un,.un]):=id rfl
def zq:PuS (K47.zP (PSp qE true) (PSp (qR 6) false)):=(QL (EB (qx (qV qE true) (qe (bV 2) qz)) 4 [false,false,true] ⟨rfl⟩) (YN (qlo (qR 6) false (bV 0) (qe (EU qz ⟨rfl⟩) (qe (bV 3) qz)) 2 3 [1] [4])))
def qC:List PyData->Option PyData:=Pu.run zq.f 4 5 1000000000 false
def YJ:Rd (PSp qC false) 4 (K47.zP (PSp qE true) (PSp (qR 6) false)) zr:=qK zq zr 4 1000000000 false
def YF {x0 x1 x2 x3:PyData}:qC [x0,x1,x2,x3]=j2 false (zq.f 1000000000 [.sh x0,.sh x1,.sh x2,.sh x3,.un]):=id rfl
def JD:PuS (K47.VY):=(YN (bO qdE (EU (qe (zv 1) (qe (zv 2) (qe (zv 4) (qe (zv 8) (qe (zv 16) (qe (zv 32) (qe (zv 64) (qe (zv 128) (qe (zv 256) qz))))))))) ⟨rfl⟩) (bV 0)))
def qt:List PyData->Option PyData:=Pu.run JD.f 1 1 1000000000 false
def K3:Rd (PSp qt false) 1 (K47.VY) JB:=qK JD JB 1 1000000000 false
def K4 {x0:PyData}:qt [x0]=j2 false (JD.f 1000000000 [.sh x0]):=id rfl
def jW:PuS (K47.ZX (PSp qt false)):=(QL (EB (EU qz ⟨rfl⟩) 1 [] ⟨rfl⟩) (QL (LJ (qjl (qe (qx (qV qt false) (qe (qx qa9 (qe (bV 0) qz)) qz)) qz)) (gN 2) (QL (EB (zv 0) 3 [] ⟨rfl⟩) (QL (LJ (RT (qe (bV 0) qz)) (MQ 2 (jE (gN 4) (jE (gN 5) M0))) (EB (bO (opI Builtin.bitXor) (bV 3) (bO (opC VC (·*·)) (bV 5) (bO (opC (λ_ j=>0<j) (·%·)) (bO (opC qa5 (·/·)) (bV 2) (qx (qV qt false) (qe (bV 4) qz))) (zv 2)))) 3 [false,false,true,true,true,true] ⟨rfl⟩) [true] ⟨rfl⟩) (qlz (bV 3) 1 [false,false,false,true] ⟨rfl⟩))) [true] ⟨rfl⟩) (KO 1)))
def qN:List PyData->Option PyData:=Pu.run jW.f 1 6 1000000000 true
def CO:Rd (PSp qN true) 1 (K47.ZX (PSp qt false)) jU:=qK jW jU 1 1000000000 true
def XJ {x0:PyData}:qN [x0]=j2 true (jW.f 1000000000 [.sh x0,.un,.un,.un,.un,.un]):=id rfl
def jB:=((CL (qbd (eO WM (eOf (zv 1)) (eDr EN (aOf (qe (bO (opI (·-·)) (qx (qV qt false) (qe (bV 1) qz)) (zv 1)) qz)))) 6 [false,true] ⟨rfl⟩ ⟨rfl⟩) (wIf (cOf (bTb (bO (qjL true) (bV 6) (qx (qV qN true) (qe (bV 4) qz))))) (qlB (eOf (bV 6)) 4 [false,false,false,false,false,false,true] ⟨rfl⟩ ⟨rfl⟩) RP)):PwS 0 _)
def jx:=((CL (qbd (eOf (EU qz ⟨rfl⟩)) 4 [] ⟨rfl⟩ ⟨rfl⟩) (CL (qkU (iR (U6 (eDr EN (aOf (qe (zv 4) qz))) (aOf qz))) (gN 5) jB [] ⟨rfl⟩ ⟨rfl⟩) (qlB (eOf (bV 4)) 2 [false,false,false,false,true] ⟨rfl⟩ ⟨rfl⟩))):PwS 0 _)
def j6:PwS 0 (K47.ZW Bk.qX (PSp qt false) (PSp qN true)):=(CL (qbd (eOf (EU qz ⟨rfl⟩)) 2 [] ⟨rfl⟩ ⟨rfl⟩) (CL (qkU (iR (U6 (eDr EN (aOf (qe (zv 5) qz))) (aOf qz))) (gN 3) jx [] ⟨rfl⟩ ⟨rfl⟩) (qhg 2)))
def zN:Wm:=qlp j6 2 7 true
def XR:Rd (DSp zN.W true) 2 (K47.ZW Bk.qX (PSp qt false) (PSp qN true)) jN:=MC j6 jN 2 true
def CG {x0:PyData} {n:Nat} {Q:QD}:zN.W [x0] n Q=(2=2/\j6.w [.un,.sh x0,.un,.un,.un,.un,.un] n (qgA true Q)):=id rfl
def JH:PuS (K47.VW (PSp qN true)):=(QL (EB (EU qz ⟨rfl⟩) 1 [] ⟨rfl⟩) (QL (LJ (NP (bV 0)) (gN 2) (qmA (bSl (qx (qV qN true) (qe (bV 2) qz)) (bSp (zv 1)) bNp) 1 [false,false,true] ⟨rfl⟩) [true] ⟨rfl⟩) (YN (qgs (bV 1)))))
def z8:List PyData->Option PyData:=Pu.run JH.f 1 3 1000000000 true
def K8:Rd (PSp z8 true) 1 (K47.VW (PSp qN true)) Z2:=qK JH Z2 1 1000000000 true
def T6 {x0:PyData}:z8 [x0]=j2 true (JH.f 1000000000 [.sh x0,.un,.un]):=id rfl
def JJ:PuS (K47.U9 (PSp qt false)):=(QL (EB (zv 0) 2 [] ⟨rfl⟩) (QL (LJ (RT (qe (bV 0) qz)) (MQ 2 (jE (gN 3) (jE (gN 4) M0))) (EB (bO (opI Builtin.bitXor) (bV 2) (bO (opC VC (·*·)) (bV 4) (bO (opC (λ_ j=>0<j) (·%·)) (bO (opC qa5 (·/·)) (bV 1) (qx (qV qt false) (qe (bV 3) qz))) (zv 2)))) 2 [false,true,true,true,true] ⟨rfl⟩) [true] ⟨rfl⟩) (KO 2)))
def zl:List PyData->Option PyData:=Pu.run JJ.f 2 5 1000000000 false
def LG:Rd (PSp zl false) 2 (K47.U9 (PSp qt false)) JM:=qK JJ JM 2 1000000000 false
def KR {x0 x1:PyData}:zl [x0,x1]=j2 false (JJ.f 1000000000 [.sh x0,.sh x1,.un,.un,.un]):=id rfl
def Q8:PuS (K47.JV (PSp qt false)):=(QL (EB (zv 1) 2 [] ⟨rfl⟩) (QL (LJ (qjl (qe (zv 6) qz)) (gN 3) (sIf (bTb (bO (opB λi j=>decide (j<=i)) (qx qch (qe (bO YS (bV 0) (EU (qe (zv 0) qz) ⟨rfl⟩)) qz)) (bV 2))) (EB (bO (opC VC (·*·)) (zv 2) (bV 2)) 2 [false,false,true] ⟨rfl⟩) JQ) [] ⟨rfl⟩) (YN (qx qjE (qe (bV 2) (qe (bO (opI (·-·)) (qx (qV qt false) (qe (bV 1) qz)) (zv 1)) qz))))))
def z6:List PyData->Option PyData:=Pu.run Q8.f 2 4 1000000000 false
def RW:Rd (PSp z6 false) 2 (K47.JV (PSp qt false)) Q7:=qK Q8 Q7 2 1000000000 false
def C6 {x0 x1:PyData}:z6 [x0,x1]=j2 false (Q8.f 1000000000 [.sh x0,.sh x1,.un,.un]):=id rfl
def jo:PuS (K47.QQ (PSp zl false)):=(YN (qx qj6 (qe (bLc (NP (bV 0)) (gN 0) bTt (bO (W7 true) (qx (qV zl false) (qe (bV 1) (qe (bV 0) qz))) (zv 0)) [none,some 1] ⟨rfl⟩) qz)))
def zw:List PyData->Option PyData:=Pu.run jo.f 2 2 1000000000 false
def WL:Rd (PSp zw false) 2 (K47.QQ (PSp zl false)) jr:=qK jo jr 2 1000000000 false
def D6 {x0 x1:PyData}:zw [x0,x1]=j2 false (jo.f 1000000000 [.sh x0,.sh x1]):=id rfl
def Z1:PwS 0 (K47.U3 Bk.qX (DSp zN.W true)):=(CL (qbd (eO WM (eOf (zv 1)) (eDr EN (U6 (eO qdE (eOf (EU (qe (zv 3) (qe (zv 3) (qe (zv 3) (qe (zv 3) (qe (zv 4) (qe (zv 4) (qe (zv 4) (qe (zv 5) qz)))))))) ⟨rfl⟩)) (eDr EN (aOf (qe (zv 8) qz)))) (aOf qz)))) 1 [] ⟨rfl⟩ ⟨rfl⟩) (qeK (qlE (U6 (eOf (bV 1)) (U6 (eDr EN (U6 (eO qdE (eOf (EU (qe (zv 3) (qe (zv 4) (qe (zv 6) qz))) ⟨rfl⟩)) (eDr EN (aOf (qe (zv 3) qz)))) (aOf qz))) (U6 (eDr (dSp zN true) (aOf (qe (bV 1) qz))) (aOf qz)))) ⟨rfl⟩)))
def jD:Wm:=qlp Z1 1 2 false
def KB:Rd (DSp jD.W false) 1 (K47.U3 Bk.qX (DSp zN.W true)) JK:=MC Z1 JK 1 false
def KW {n:Nat} {Q:QD}:jD.W [] n Q=(0+1=1/\Z1.w [.un,.un] n (qgA false Q)):=id rfl
def j8:PuS (Bk.zL):=(YN (CW (qcw (λt=>EK t "int") (bV 0)) (qeB (qcw (λt=>EK t "bool") (bV 0)))))
def zM:List PyData->Option PyData:=Pu.run j8.f 1 1 1000000000 false
def XW:Rd (PSp zM false) 1 (Bk.zL) jR:=qK j8 jR 1 1000000000 false
def XQ {x0:PyData}:zM [x0]=j2 false (j8.f 1000000000 [.sh x0]):=id rfl
def z7 (Ff:List PyData->Option PyData):PuS (K47.YK (PSp z6 false) (PSp qt false) (PSp Ff false) (PSp zM false) (PSp zl false)):=(QL (sIf (bOr (qa2 (bTb (qcw (λt=>EK t "tuple") (bV 4)))) (bTb (bO (W7 true) (qx qa9 (qe (bV 4) qz)) (bO WM (qx (qV z6 false) (qe (bV 3) (qe (bV 1) qz))) (zv 1))))) (YN (bBl false)) JQ) (QL (EB (qx (qV qt false) (qe (qx qa9 (qe (bV 3) qz)) qz)) 5 [false,false,false,true] ⟨rfl⟩) (QL (LJ (RT (qe (bV 4) qz)) (MQ 2 (jE (gN 6) (jE (gN 7) M0))) (QL (EB (bO YS (bV 3) (EU (qe (bV 6) qz) ⟨rfl⟩)) 8 [false,false,false,true,false,false,true] ⟨rfl⟩) (sIf (bTb (qcw (λt=>EK t "tuple") (bV 7))) (sIf (bOr (bTb (bO (W7 false) (qx qa9 (qe (bV 8) qz)) (bV 0))) (qa2 (bTb (qx (qV Ff false) (qe (bV 0) (qe (bV 1) (qe (bV 2) (qe (bV 8) (qe (bV 7) qz))))))))) (YN (bBl false)) JQ) (sIf (bOr (qa2 (bTb (qx (qV zM false) (qe (bV 7) qz)))) (bOr (bTb (bO (qjL true) (bV 7) (bV 2))) (qa2 (bTb (bCh (opB λi j=>decide (i<=j)) (opB λi j=>decide (i<j)) (bV 5) (bV 7) (bO (opC VC (·*·)) (zv 2) (bV 5))))))) (YN (bBl false)) (sIf (bTb (bO (W7 true) (qx (qV zl false) (qe (bV 8) (qe (bV 7) qz))) (zv 0))) (YN (bBl false)) JQ)))) [false,false,false,false,true] ⟨rfl⟩) (YN (bBl true)))))
def qJ:Nat->List PyData->Option PyData
 |0=>λ_=>none
 |j+1=>Pu.run (z7 (qJ j)).f 5 9 1000000000 false
def R6 (j:Nat):Rd (PSp (qJ (j+1)) false) 5 (K47.YK (PSp z6 false) (PSp qt false) (PSp (qJ j) false) (PSp zM false) (PSp zl false)) ZC:=qK (z7 (qJ j)) ZC 5 1000000000 false
def RV {j:Nat} {x0 x1 x2 x3 x4:PyData}:qJ (j+1) [x0,x1,x2,x3,x4]=j2 false ((z7 (qJ j)).f 1000000000 [.sh x0,.sh x1,.sh x2,.sh x3,.sh x4,.un,.un,.un,.un]):=id rfl
def qkM (za7:Sp3) (za9:Sp3) (za4:Sp3) (za5:Sp3) (za6:Sp3) (zb1:Sp3) (zb0:Sp3):TS3:=(qP (zC (cb3 za7 (qc (v3 2) qk)) (VE 3 (qY (gn3 3) (qY (gn3 4) (qY (gn3 5) Y8))))) (qP (zC (cb3 R4 (qc (o3 j7 (YQ (qc (c3 (.int 0)) qk)) (lc3 (Z0 (v3 5)) (gn3 0) tt3 (cb3 DI (qc (v3 0) qk)) [none])) qk)) (gn3 6)) (qP (zC (o3 j7 (cb3 qhP (qc (c3 (.int 0)) (qc (o3 (iI (·-·)) (v3 6) (cb3 za9 (qc (v3 2) (qc (c3 (.int 2)) qk)))) qk))) (cb3 qgJ (qc (o3 (YL false) (cb3 za9 (qc (v3 2) (qc (c3 (.int 3)) qk))) (c3 (.int 0))) qk))) (gn3 4)) (qP (zC (cb3 za4 (qc (v3 3) (qc (v3 4) (qc (v3 5) qk)))) (gn3 7)) (ZE (tb3 (o3 (YL false) (o3 ix3 (v3 7) (c3 (.int 0))) (c3 (.str "none")))) (qP (qik 8 9 (qc (cb3 za5 (qc (v3 5) qk)) (qc (o3 ix3 (v3 7) (c3 (.int 1))) qk))) (qP (ZE (TH (tb3 (cb3 za6 (qc (v3 3) (qc (v3 4) (qc (v3 8) (qc (YQ qk) (qc (v3 9) qk)))))))) (zm (c3 (.bl false))) zk) (qP (ZE (tb3 (o3 (qjJ true) (cb3 zb1 (qc (v3 3) (qc (v3 4) (qc (v3 5) (qc (v3 9) qk))))) (c3 (.bl true)))) (zm (c3 (.bl false))) zk) (qP (ZE (tb3 (o3 (YL true) (cb3 za4 (qc (v3 3) (qc (v3 4) (qc (lc3 (Z0 (v3 5)) (gn3 0) tt3 (cb3 KD (qc (v3 0) qk)) [none]) qk)))) (v3 7))) (zm (c3 (.bl false))) zk) (qP (zC (cb3 za6 (qc (v3 3) (qc (o3 j7 (v3 4) (c3 (.int 1))) (qc (v3 8) (qc (YQ qk) (qc (v3 9) qk)))))) (gn3 10)) (ZE (tb3 (o3 (YL true) (cb3 zb1 (qc (v3 3) (qc (o3 j7 (v3 4) (c3 (.int 1))) (qc (v3 5) (qc (v3 9) qk))))) (v3 10))) (zm (c3 (.bl false))) zk)))))) (ZE (or3 (tb3 (o3 (iB λi j=>decide (i<j)) (v3 4) (v3 6))) (TH (tb3 (cb3 zb0 (qc (cb3 za5 (qc (v3 5) qk)) (qc (o3 ix3 (v3 7) (c3 (.int 1))) qk)))))) (zm (c3 (.bl false))) zk))))))
def qbg:PwS 2 (qkM (DSp jD.W false) Bk.qX (PSp qM false) (PSp z8 true) (PSp (qJ 6) false) (PSp qC false) (PSp zw false)):=(CL (qio (eDr (dSp jD false) (aOf qz)) (MQ 3 (jE (gN 3) (jE (gN 4) (jE (gN 5) M0)))) [] ⟨rfl⟩ ⟨rfl⟩) (CL (qbd (eOf (qx qch (qe (bO YS (EU (qe (zv 0) qz) ⟨rfl⟩) (bLc (NP (bV 5)) (gN 0) bTt (qx qa9 (qe (bV 0) qz)) [none] ⟨rfl⟩)) qz))) 6 [false,false,false,false,false,true] ⟨rfl⟩ ⟨rfl⟩) (CL (qbd (eO WM (qd9 qma (U6 (eOf (zv 0)) (U6 (eO (opI (·-·)) (eOf (bV 6)) (eDr EN (aOf (qe (zv 2) qz)))) (aOf qz)))) (qd9 qmc (U6 (eO (W7 false) (eDr EN (aOf (qe (zv 3) qz))) (eOf (zv 0))) (aOf qz)))) 4 [false,false,false,false,false,false,true] ⟨rfl⟩ ⟨rfl⟩) (CL (qbd (eOf (qx (qV qM false) (qe (bV 3) (qe (bV 4) (qe (bV 5) qz))))) 7 [false,false,false,true,true,true] ⟨rfl⟩ ⟨rfl⟩) (wIf (cOf (bTb (bO (W7 false) (bO qdE (bV 7) (zv 0)) (qb0 "none")))) (CL (ql8 (aOf (qe (qx (qV z8 true) (qe (bV 5) qz)) (qe (bO qdE (bV 7) (zv 1)) qz))) 8 9 [false,false,false,false,false,true,false,true] ⟨rfl⟩ ⟨rfl⟩) (CL (wIf (cOf (qa2 (bTb (qx (qV (qJ 6) false) (qe (bV 3) (qe (bV 4) (qe (bV 8) (qe (EU qz ⟨rfl⟩) (qe (bV 9) qz))))))))) (qeK (eOf (bBl false))) RP) (CL (wIf (cOf (bTb (bO (qf2 true) (qx (qV qC false) (qe (bV 3) (qe (bV 4) (qe (bV 5) (qe (bV 9) qz))))) (bBl true)))) (qeK (eOf (bBl false))) RP) (CL (wIf (cOf (bTb (bO (W7 true) (qx (qV qM false) (qe (bV 3) (qe (bV 4) (qe (bLc (NP (bV 5)) (gN 0) bTt (qx ql4 (qe (bV 0) qz)) [none] ⟨rfl⟩) qz)))) (bV 7)))) (qeK (eOf (bBl false))) RP) (CL (qbd (eOf (qx (qV (qJ 6) false) (qe (bV 3) (qe (bO WM (bV 4) (zv 1)) (qe (bV 8) (qe (EU qz ⟨rfl⟩) (qe (bV 9) qz))))))) 10 [false,false,false,true,true,false,false,false,true,true] ⟨rfl⟩ ⟨rfl⟩) (wIf (cOf (bTb (bO (W7 true) (qx (qV qC false) (qe (bV 3) (qe (bO WM (bV 4) (zv 1)) (qe (bV 5) (qe (bV 9) qz))))) (bV 10)))) (qeK (eOf (bBl false))) RP)))))) (wIf (cOf (bOr (bTb (bO (opB λi j=>decide (i<j)) (bV 4) (bV 6))) (qa2 (bTb (qx (qV zw false) (qe (qx (qV z8 true) (qe (bV 5) qz)) (qe (bO qdE (bV 7) (zv 1)) qz))))))) (qeK (eOf (bBl false))) RP))))))
def qhV (h:∀ k:Nat,k<=60->qbg.w [.un,.sh (.int k),.un,.un,.un,.un,.un,.un,.un,.un,.un] 0 okW):Rd XD 1 (K47.qeu Bk.jP (DSp jD.W false) Bk.qX (PSp qM false) (PSp z8 true) (PSp (qJ 6) false) (PSp qC false) (PSp zw false)) qbQ:=qbU qbg qbQ 6 8 ⟨by decide,by decide⟩ rfl h
end K47
namespace K47
open PySem L2 L3 Pu Pv
def p2 {t:Nat} (h:t<=8):0<(2:Int) ^ t/\(2:Int) ^ t<=256:=by
 have h1:2 ^ t<=2 ^ 8:=Nat.pow_le_pow_right (by omega) h;have h2:0<2 ^ t:=Nat.pow_pos (by omega);have h3:((2 ^ t:Nat):Int)=2 ^ t:=by simp
 omega
def KA {t:Nat} (h:t<=8):qt [.int (t:Int)]=some (.int (2 ^ t)):=by
 have e:L2.atI [PyData.int 1,.int 2,.int 4,.int 8,.int 16,.int 32,.int 64,.int 128,.int 256] (t:Int)=some (.int (2 ^ t)):=by
  have:t=0\/t=1\/t=2\/t=3\/t=4\/t=5\/t=6\/t=7\/t=8:=by omega
  rcases this with rfl|rfl|rfl|rfl|rfl|rfl|rfl|rfl|rfl<;>rfl
 rw [K4]
 try simp only [Pu.pwA,JD,e]
def ql5 {ks:List Int} (hl:ks.length<=8) (hk:∀ m∈ks,0<=m):qN [.list (ks.map PyData.int)]=some (.list ((fl ks).map PyData.int)):=by
 have pw:=p2 hl;rw [XJ]
 try simp (disch:=omega) only [Pu.pwA,jW,length_map,KA hl,qja]
 refine je (Q:=λo=>j2 true o=_) (CQ 0 ((2:Int) ^ ks.length).toNat) (λi ρ=>∃ s2 s3 s4 s5,ρ=[.sh (.list (ks.map PyData.int)),.ow (((List.range i).map λs=>nm s ks).map PyData.int),s2,s3,s4,s5]) ⟨_,_,_,_,rfl⟩ ?_ ?_
 ·rintro i x ρ hx ⟨s2,s3,s4,s5,rfl⟩;obtain ⟨hi,rfl⟩:=Q0 hx
  try simp only [Pu.pwA,DR,Int.zero_add]
  refine je (Q:=λo=>Nx o _) (ks.zipIdx 0) (λj ρ=>∃ s4 s5,ρ=[.sh (.list (ks.map PyData.int)),.ow (((List.range i).map λs=>nm s ks).map PyData.int),.sh (.int (i:Int)),.sh (.int (nm i (ks.take j))),s4,s5]) ⟨_,_,rfl⟩ ?_ ?_
  ·rintro j p ρ hp ⟨s4,s5,rfl⟩;rw [List.getElem?_zipIdx] at hp;obtain ⟨m,hm,rfl⟩:=u9 hp;have hj:=(za0 hm).1;have tk:ks.take (j+1)=ks.take j++[m]:=by rw [List.take_succ,hm];rfl
   have pj:=p2 (show j<=8 by omega);have e2:(i:Int)/2 ^ j%2=((i/2 ^ j%2:Nat):Int):=by simp
   have e3:((i/2 ^ j%2:Nat):Int)<2:=by omega
   have ln:(ks.take j).length=j:=by simp;omega
   have sn:=zR i (ks.take j) m;rw [ln] at sn;have e4:cI VC (·*·) (.int m) (.int ((i/2 ^ j%2:Nat):Int))=some (.int (m*((i/2 ^ j%2:Nat):Int))):=TZ (by omega)
   try simp (disch:=omega) only [Pu.pwA,Nat.zero_add,KA (show j<=8 by omega),qdc,qdO,e2,e4]
   rw [tk,sn];exact ⟨_,_,rfl⟩
  ·rintro ρ ⟨s4,s5,rfl⟩;rw [List.length_zipIdx,List.take_length]
   try simp only [Pu.pwA]
   rw [UI (ds:=((List.range i).map λs=>nm s ks).map PyData.int) rfl (by simp;omega)]
   try simp only [Pu.pwA]
   rw [List.range_succ,List.map_append,List.map_append];exact ⟨_,_,_,_,rfl⟩
 ·rintro ρ ⟨s2,s3,s4,s5,rfl⟩;rw [Z5,qkz hk]
  try simp only [Pu.pwA]
  have:((2:Int) ^ ks.length).toNat=2 ^ ks.length:=by
   have h3:((2 ^ ks.length:Nat):Int)=2 ^ ks.length:=by simp
   omega
  rw [this]
def led:Nat->List Int->Nat->Int
 |_,[],_=>0
 |t,n::r,x=>Builtin.bitXor (n*((x/2 ^ t%2:Nat):Int)) (led (t+1) r x)
def qmB {ks:List Int} {x:Nat} (hl:ks.length<=8):zl [.list (ks.map PyData.int),.int (x:Int)]=some (.int (nm x ks)):=by
 rw [KR]
 try simp only [Pu.pwA,JJ,DR]
 refine je (Q:=λo=>j2 false o=_) (ks.zipIdx 0) (λj ρ=>∃ s3 s4,ρ=[.sh (.list (ks.map PyData.int)),.sh (.int (x:Int)),.sh (.int (nm x (ks.take j))),s3,s4]) ⟨_,_,rfl⟩ ?_ ?_
 ·rintro j p ρ hp ⟨s3,s4,rfl⟩;rw [List.getElem?_zipIdx] at hp;obtain ⟨m,hm,rfl⟩:=u9 hp;have hj:=(za0 hm).1;have tk:ks.take (j+1)=ks.take j++[m]:=by rw [List.take_succ,hm];rfl
  have pj:=p2 (show j<=8 by omega);have e2:(x:Int)/2 ^ j%2=((x/2 ^ j%2:Nat):Int):=by simp
  have e3:((x/2 ^ j%2:Nat):Int)<2:=by omega
  have ln:(ks.take j).length=j:=by simp;omega
  have sn:=zR x (ks.take j) m;rw [ln] at sn;have e4:cI VC (·*·) (.int m) (.int ((x/2 ^ j%2:Nat):Int))=some (.int (m*((x/2 ^ j%2:Nat):Int))):=TZ (by omega)
  try simp (disch:=omega) only [Pu.pwA,Nat.zero_add,KA (show j<=8 by omega),qdc,qdO,e2,e4]
  rw [tk,sn];exact ⟨_,_,rfl⟩
 ·rintro ρ ⟨s3,s4,rfl⟩;rw [List.length_zipIdx,List.take_length];rfl
def qlK {y:Int} (h:0<=y):Builtin.bitAnd y 1=y%2:=by
 have a:=SC h (show (0:Int)<=1 by omega);have r:=PyProof.Rows.bitAnd_range (y/2) (show (0:Int)<=0 by omega);rw [show (1:Int)/2=0 from rfl,show (1:Int)%2=1 from rfl] at a;omega
theorem LU (x:Nat):∀ (j:Nat) {ks:List Int},ks.length=j->(∀ m∈ks,0<=m)->0<=nm x ks
 |0,ks,h,_=>by have:=List.length_eq_zero_iff.mp h;subst this;exact Int.le_refl 0
 |j+1,ks,h,hk=>by
  obtain ⟨r,m,rfl,hl⟩:=zV h;rw [zR];have h1:=LU x j (ks:=r) (by simp at h;omega) λm hm=>hk m (by simp [hm]);have h2:0<=m*((x/2 ^ r.length%2:Nat):Int):=Int.mul_nonneg (hk m (by simp)) (by omega);exact (jT h1 h2).1
def qnh {ks:List Int} {x:Nat} (hk:∀ m∈ks,0<=m):Q4 [.list (ks.map PyData.int),.int (x:Int)]=some (.int (nm x ks)):=by
 rw [qam]
 try simp only [Pu.pwA,VQ,DR]
 refine je (Q:=λo=>j2 false o=_) (ks.zipIdx 0) (λj ρ=>∃ s3 s4,ρ=[.sh (.list (ks.map PyData.int)),.sh (.int (x:Int)),.sh (.int (nm x (ks.take j))),s3,s4]) ⟨_,_,rfl⟩ ?_ ?_
 ·rintro j p ρ hp ⟨s3,s4,rfl⟩;rw [List.getElem?_zipIdx] at hp;obtain ⟨m,hm,rfl⟩:=u9 hp;have hj:=(za0 hm).1;have tk:ks.take (j+1)=ks.take j++[m]:=by rw [List.take_succ,hm];rfl
  have e2:Builtin.bitAnd ((x:Int)/2 ^ j) 1=((x/2 ^ j%2:Nat):Int):=by rw [qlK (Int.ediv_nonneg (by omega) (Int.le_of_lt (Int.pow_pos (by omega))))];simp
  have ln:(ks.take j).length=j:=by simp;omega
  have sn:=zR x (ks.take j) m;rw [ln] at sn;have nn:0<=nm x (ks.take j):=LU x _ rfl λm hm=>hk m (List.mem_of_mem_take hm);have e3:x/2 ^ j%2=0\/x/2 ^ j%2=1:=by omega
  try simp (disch:=omega) only [Pu.pwA,Nat.zero_add,qiM,Int.toNat_natCast,e2]
  rcases e3 with e3|e3
  ·have e4:decide (((x/2 ^ j%2:Nat):Int)=1)=false:=by rw [e3];rfl
   have e5:nm x (ks.take (j+1))=nm x (ks.take j):=by rw [tk,sn,e3];simpa using NI nn
   try simp only [Pu.pwA,eqD_int]
   rw [if_neg (by rw [e4];exact y6),e5];exact ⟨_,_,rfl⟩
  ·have e4:decide (((x/2 ^ j%2:Nat):Int)=1)=true:=by rw [e3];rfl
   have e5:nm x (ks.take (j+1))=Builtin.bitXor (nm x (ks.take j)) m:=by rw [tk,sn,e3];simp
   try simp only [Pu.pwA,eqD_int]
   rw [if_pos e4,e5];exact ⟨_,_,rfl⟩
 ·rintro ρ ⟨s3,s4,rfl⟩;rw [List.length_zipIdx,List.take_length];rfl
def isl (ks:List Int) (x:Nat):Bool:=decide ((Builtin.Int.intBits (x:Int):Int)=(ks.length:Int))&&decide (nm x ks=0)
def qju {ks:List Int} {x:Nat} (hk:∀ m∈ks,0<=m):qD [.list (ks.map PyData.int),.int (x:Int)]=some (.bool (isl ks x)):=by
 rw [EM]
 try simp only [Pu.pwA,zW,qnh hk,length_map]
 unfold isl;by_cases c:(Builtin.Int.intBits (x:Int):Int)=(ks.length:Int)
 ·rw [u8 c];simp [Pu.pwA]
 ·rw [u7 c];simp [Pu.pwA]
def tld:Option Nat->PyData
 |some x=>.int (x:Int)
 |none=>.none
def qlv {ks:List Int} (hk:∀ m∈ks,0<=m) {xs:List Nat}:qI [.list (xs.map λx:Nat=>PyData.int (x:Int)),.list (ks.map PyData.int)]=some (tld (xs.find? (isl ks))):=by
 rw [JS]
 try simp only [Pu.pwA,zo]
 cases h:xs.find? (isl ks) with
 |none=>
  have hn:=List.find?_eq_none.mp h;refine je (Q:=λo=>j2 false o=_) xs (λj ρ=>∃ s2,ρ=[.sh (.list (xs.map λx:Nat=>PyData.int (x:Int))),.sh (.list (ks.map PyData.int)),s2]) ⟨_,rfl⟩ ?_ ?_
  ·rintro j x ρ hx ⟨s2,rfl⟩;have e:isl ks x=false:=by simpa using hn x (v9 hx)
   try simp only [Pu.pwA,qju hk,e]
   exact ⟨_,rfl⟩
  ·rintro ρ ⟨s2,rfl⟩;rfl
 |some x=>
  obtain ⟨hx,as,bs,e,ha⟩:=List.find?_eq_some_iff_append.mp h;have at_:xs[as.length]?=some x:=by rw [e];simp
  refine WR (Q:=λo=>j2 false o=_) xs as.length x (.int (x:Int)) false at_ (λj ρ=>∃ s2,ρ=[.sh (.list (xs.map λx:Nat=>PyData.int (x:Int))),.sh (.list (ks.map PyData.int)),s2]) ⟨_,rfl⟩ ?_ ?_ rfl
  ·rintro j y ρ hj hy ⟨s2,rfl⟩;have e2:isl ks y=false:=by
    rw [e,List.getElem?_append_left hj] at hy;simpa using ha y (v9 hy)
   try simp only [Pu.pwA,qju hk,e2]
   exact ⟨_,rfl⟩
  ·rintro ρ ⟨s2,rfl⟩
   try simp only [Pu.pwA,qju hk,hx]
def gr (ks:List Int):Int:=match ks with|[]=>0|m::r=>mx (m::r)
def chn (b:Nat) (ks:List Int):Int:=if (2:Int) ^ b<2 ^ Builtin.Int.intBits (gr ks)+1 then 2 ^ b else 2 ^ Builtin.Int.intBits (gr ks)+1
def qmH {b:Nat} {ks:List Int} (hb:b<=1000) (h:Builtin.Int.intBits (gr ks)<=1000):qu [.int (b:Int),.list (ks.map PyData.int)]=some (.int (chn b ks)):=by
 rw [VD];have e0:K2 (.list (ks.map PyData.int)) (.int 0)=some (.int (gr ks)):=by rw [qiO];cases ks<;>rfl
 simp (disch:=first|omega|decide|(refine ⟨by omega,by omega,by decide⟩)) only [zE,qbc,e0,asI,qi5,Int.toNat_natCast,Int.one_mul,Pu.pwA];rfl
def FL0 {b:Nat} {ks:List Int} (hb:b<=1000) (h:Builtin.Int.intBits (gr ks)<=1000):qhA [.list (ks.map PyData.int),.int (b:Int)]=some (.int (chn b ks)):=by
 rw [qks]
 try simp only [Pu.pwA,qjx,qmH hb h]
def FL1 {ks:List Int} (hk:∀ m∈ks,0<=m) {xs:List Nat}:qg7 [.list (ks.map PyData.int),.list (xs.map λx:Nat=>PyData.int (x:Int))]=some (tld (xs.find? (isl ks))):=by
 rw [qlt]
 try simp only [Pu.pwA,qjT,qlv hk]
def ZU {i:Int}:noC (.int i)=true:=by unfold noC;rfl
theorem XO:∀ (ks:List Int),EA (ks.map PyData.int)=true
 |[]=>by unfold EA;rfl
 |k::r=>by rw [map_cons];unfold EA;rw [ZU,XO r];rfl
def jO {ks:List Int}:noC (.list (ks.map PyData.int))=true:=by unfold noC;exact XO ks
def JO {x y:PyData} (hx:noC x=true) (hy:noC y=true):EA [x,y]=true:=by unfold EA;rw [hx];unfold EA;rw [hy];unfold EA;rfl
def qaq {o:Option Nat}:noC (tld o)=true:=by cases o<;>(unfold tld noC;rfl)
def UB {xs:List Nat}:(xs.map λx:Nat=>PyData.int (x:Int))=(xs.map λx:Nat=>(x:Int)).map PyData.int:=by rw [map_map];rfl
def Fv0 {b:Nat} {ks:List Int} (hb:b<=1000) (h:Builtin.Int.intBits (gr ks)<=1000):Fv PhL (UZ 0 [.int (b:Int)]) [.list (ks.map PyData.int)]=some (.int (chn b ks)):=by
 unfold Fv UZ;simp only [cons_append,List.nil_append];rw [if_pos ⟨Int.le_refl _,JO jO ZU⟩];show (some qhA).bind _=_;rw [Option.bind_some,FL0 hb h,Option.bind_some,if_pos ZU]
def Fv1 {ks:List Int} (hk:∀ m∈ks,0<=m) {xs:List Nat}:Fv PhL (UZ 1 [.list (xs.map λx:Nat=>PyData.int (x:Int))]) [.list (ks.map PyData.int)]=some (tld (xs.find? (isl ks))):=by
 unfold Fv UZ;simp only [cons_append,List.nil_append];rw [if_pos ⟨by decide,JO jO (by rw [UB];exact jO)⟩];show (some qg7).bind _=_;rw [Option.bind_some,FL1 hk,Option.bind_some,if_pos qaq]
def JF:PyData->Bool
 |.none=>true
 |_=>false
def sr (many:Nat) (ch:List Int->Nat) (br:List Int->PyData):Nat->List Int->Bool×PyData
 |0,_=>(false,.none)
 |j+1,ks=>if ks.length=many then (true,.list (ks.map PyData.int)) else
  match (List.range (ch ks)).find? (λi:Nat=>JF (br (ks++[(i:Int)]))&&(sr many ch br j (ks++[(i:Int)])).1) with
  |some i=>(true,(sr many ch br j (ks++[(i:Int)])).2)
  |none=>(false,.tuple ((List.range (ch ks)).map λi:Nat=>if JF (br (ks++[(i:Int)])) then (sr many ch br j (ks++[(i:Int)])).2 else br (ks++[(i:Int)])))
def srd (r:Bool×PyData):PyData:=.tuple [.str (if r.1 then "row" else "none"),r.2]
def qey {d:PyData}:qjS false d .none=some (.bool (JF d)):=by cases d<;>rfl
def pap (many:Nat) (ch:List Int->Nat) (br:List Int->PyData) (j:Nat) (ks:List Int) (i:Nat):PyData:=if JF (br (ks++[(i:Int)])) then (sr many ch br j (ks++[(i:Int)])).2 else br (ks++[(i:Int)])
def hit (many:Nat) (ch:List Int->Nat) (br:List Int->PyData) (j:Nat) (ks:List Int) (i:Nat):Bool:=JF (br (ks++[(i:Int)]))&&(sr many ch br j (ks++[(i:Int)])).1
def a7 {m:List Bool} {d:PyData} {ρ:Rho}:LI m false 7 d ρ=(if XH d then ρ else dm m ρ).set 7 (.sh d):=by unfold LI;split<;>rfl
def dm7 {s0 s1 s2 s3 s4 s5 s6 s8:Sl} {e d:PyData}:dmS [false,false,false,false,false,false,false,true] d [s0,s1,s2,s3,s4,s5,s6,.sh e,s8]=[s0,s1,s2,s3,s4,s5,s6,.sh e,s8]:=by unfold dmS;split<;>rfl
def qnr {many:Nat} {ch:List Int->Nat} {br:List Int->PyData} {C0 C1:PyData} {Ok:List Int->Prop} (h0:∀ ks,Ok ks->ks.length<many->Fv PhL C0 [.list (ks.map PyData.int)]=some (.int (ch ks:Int)))
  (h1:∀ ks,Ok ks->Fv PhL C1 [.list (ks.map PyData.int)]=some (br ks)) (hm:many<=1000) (hch:∀ ks,ch ks<=1000) (hok:∀ ks (i:Nat),Ok ks->ks.length<many->i<ch ks->Ok (ks++[(i:Int)])) :
  ∀ (j:Nat) (ks:List Int),Ok ks->ks.length<=many->many<ks.length+j->qH j [.int (many:Int),C0,C1,.list (ks.map PyData.int)]=some (srd (sr many ch br j ks)):=by
 intro j;induction j with
 |zero=>intro ks _ _ _;omega
 |succ j ih=>
  intro ks ok hl hj;rw [C4];have e0:((ks.length:Int)=(many:Int))↔ks.length=many:=by omega
  by_cases c:ks.length=many
  ·have e1:decide ((ks.length:Int)=(many:Int))=true:=u8 (e0.mpr c)
   try simp only [Pu.pwA,jI,length_map,e1]
   unfold sr;rw [if_pos c];rfl
  ·have e1:decide ((ks.length:Int)=(many:Int))=false:=u7 (λz=>c (e0.mp z));have hc:=hch ks;have kl:ks.length<many:=by omega
   try simp (disch:=omega) only [Pu.pwA,jI,length_map,e1,h0 ks ok (by omega),qja,LF,DG]
   have body:∀ i:Nat,i<ch ks->Fv PhL C1 [.list ((ks++[(i:Int)]).map PyData.int)]=some (br (ks++[(i:Int)]))/\qH j [.int (many:Int),C0,C1,.list ((ks++[(i:Int)]).map PyData.int)]=some (srd (sr many ch br j (ks++[(i:Int)]))):=λi hi=>
    ⟨h1 _ (hok ks i ok kl hi),ih _ (hok ks i ok kl hi) (by simp;omega) (by simp;omega)⟩
   have ct:∀ i:Nat,TV (.list (ks.map PyData.int)) (.list [.int (i:Int)])=some (.list ((ks++[(i:Int)]).map PyData.int)):=λi=>by
    have mp:ks.map PyData.int++[PyData.int (i:Int)]=(ks++[(i:Int)]).map PyData.int:=by simp
    simp only [TV,mp];exact qU (by rw [length_map,List.length_singleton,y8];omega)
   have unf:sr many ch br (j+1) ks=match (List.range (ch ks)).find? (hit many ch br j ks) with
    |some i=>(true,(sr many ch br j (ks++[(i:Int)])).2)
    |none=>(false,.tuple ((List.range (ch ks)).map (pap many ch br j ks))):=by
    rw [sr,if_neg c];rfl
   rw [unf];cases hf:(List.range (ch ks)).find? (hit many ch br j ks) with
   |none=>
    have hn:=List.find?_eq_none.mp hf;refine je (Q:=λo=>j2 false o=_) (CQ 0 ((ch ks:Int)).toNat) (λi ρ=>∃ s5 s6 s7 s8,ρ=[.sh (.int (many:Int)),.sh C0,.sh C1,.sh (.list (ks.map PyData.int)),.ow ((List.range i).map (pap many ch br j ks)),s5,s6,s7,s8]) ⟨_,_,_,_,rfl⟩ ?_ ?_
    ·rintro i x ρ hx ⟨s5,s6,s7,s8,rfl⟩;obtain ⟨hi,rfl⟩:=Q0 hx;have hi':i<ch ks:=by omega
     obtain ⟨b1,b2⟩:=body i hi';have nh:hit many ch br j ks i=false:=by simpa using hn i (mem_range.mpr hi')
     have pa:(List.range (i+1)).map (pap many ch br j ks)=(List.range i).map (pap many ch br j ks)++[pap many ch br j ks i]:=by rw [List.range_succ,List.map_append];rfl
     try simp only [Pu.pwA,Int.zero_add,ct,b1,qey,a7]
     have lr:((List.range i).map (pap many ch br j ks)).length<16777216:=by simp;omega
     cases hb:JF (br (ks++[(i:Int)])) with
     |true=>
      have hr:(sr many ch br j (ks++[(i:Int)])).1=false:=by unfold hit at nh;rw [hb] at nh;simpa using nh
      have pe:pap many ch br j ks i=(sr many ch br j (ks++[(i:Int)])).2:=by unfold pap;rw [if_pos hb]
      cases hs:XH (br (ks++[(i:Int)]))<;>try simp only [Pu.pwA,b2,srd,hr]
      all_goals rw [if_pos hb,if_neg (by decide)]
      all_goals try simp only [Pu.pwA,dm7]
      all_goals rw [UI (ds:=(List.range i).map (pap many ch br j ks)) rfl lr,pa,pe]
      all_goals exact ⟨_,_,_,_,rfl⟩
     |false=>
      have pe:pap many ch br j ks i=br (ks++[(i:Int)]):=by unfold pap;rw [hb];rfl
      cases hs:XH (br (ks++[(i:Int)]))<;>try simp only [Pu.pwA,b2,srd]
      all_goals rw [if_neg (by rw [hb];exact y6)]
      all_goals try simp only [Pu.pwA,dm7]
      all_goals rw [UI (ds:=(List.range i).map (pap many ch br j ks)) rfl lr,pa,pe]
      all_goals exact ⟨_,_,_,_,rfl⟩
    ·rintro ρ ⟨s5,s6,s7,s8,rfl⟩;rw [Z5]
     try simp only [Pu.pwA,Int.toNat_natCast,srd]
   |some n=>
    obtain ⟨hx,as,bs,e,ha⟩:=List.find?_eq_some_iff_append.mp hf;have at_:(List.range (ch ks))[as.length]?=some n:=by rw [e];simp
    have ne:as.length=n/\n<ch ks:=by
     obtain ⟨z1,z2⟩:=za0 at_;simp at z1 z2;omega
    have nb:∀ i,i<n->hit many ch br j ks i=false:=λi hi=>by
     have q:(List.range (ch ks))[i]?=some i:=by rw [List.getElem?_range (by omega)]
     rw [e,List.getElem?_append_left (by omega)] at q;simpa using ha i (v9 q)
    have hb':JF (br (ks++[(n:Int)]))=true/\(sr many ch br j (ks++[(n:Int)])).1=true:=by unfold hit at hx;simpa using hx
    refine WR (Q:=λo=>j2 false o=_) (CQ 0 ((ch ks:Int)).toNat) n (n:Int) (srd (true,(sr many ch br j (ks++[(n:Int)])).2)) false (by rw [qeR (by omega),Int.zero_add]) (λi ρ=>∃ s5 s6 s7 s8,ρ=[.sh (.int (many:Int)),.sh C0,.sh C1,.sh (.list (ks.map PyData.int)),.ow ((List.range i).map (pap many ch br j ks)),s5,s6,s7,s8]) ⟨_,_,_,_,rfl⟩ ?_ ?_ rfl
    ·rintro i x ρ hin hx ⟨s5,s6,s7,s8,rfl⟩;obtain ⟨hi,rfl⟩:=Q0 hx;have hi':i<ch ks:=by omega
     obtain ⟨b1,b2⟩:=body i hi';have nh:=nb i hin;have pa:(List.range (i+1)).map (pap many ch br j ks)=(List.range i).map (pap many ch br j ks)++[pap many ch br j ks i]:=by rw [List.range_succ,List.map_append];rfl
     try simp only [Pu.pwA,Int.zero_add,ct,b1,qey,a7]
     have lr:((List.range i).map (pap many ch br j ks)).length<16777216:=by simp;omega
     cases hb:JF (br (ks++[(i:Int)])) with
     |true=>
      have hr:(sr many ch br j (ks++[(i:Int)])).1=false:=by unfold hit at nh;rw [hb] at nh;simpa using nh
      have pe:pap many ch br j ks i=(sr many ch br j (ks++[(i:Int)])).2:=by unfold pap;rw [if_pos hb]
      cases hs:XH (br (ks++[(i:Int)]))<;>try simp only [Pu.pwA,b2,srd,hr]
      all_goals rw [if_pos hb,if_neg (by decide)]
      all_goals try simp only [Pu.pwA,dm7]
      all_goals rw [UI (ds:=(List.range i).map (pap many ch br j ks)) rfl lr,pa,pe]
      all_goals exact ⟨_,_,_,_,rfl⟩
     |false=>
      have pe:pap many ch br j ks i=br (ks++[(i:Int)]):=by unfold pap;rw [hb];rfl
      cases hs:XH (br (ks++[(i:Int)]))<;>try simp only [Pu.pwA,b2,srd]
      all_goals rw [if_neg (by rw [hb];exact y6)]
      all_goals try simp only [Pu.pwA,dm7]
      all_goals rw [UI (ds:=(List.range i).map (pap many ch br j ks)) rfl lr,pa,pe]
      all_goals exact ⟨_,_,_,_,rfl⟩
    ·rintro ρ ⟨s5,s6,s7,s8,rfl⟩;obtain ⟨b1,b2⟩:=body n ne.2;obtain ⟨hb,hr⟩:=hb'
     try simp only [Pu.pwA,ct,b1,qey,a7]
     cases hs:XH (br (ks++[(n:Int)]))<;>try simp only [Pu.pwA,b2,srd,hr]
     all_goals rw [if_pos hb]
     all_goals rfl
def Rw (b:Nat) (ks:List Int):Prop:=∀ m∈ks,0<=m/\m<2 ^ b
def WX {x:Int} {b:Nat} (h0:0<=x) (h:x<2 ^ b):Builtin.Int.intBits x<=b:=by
 unfold Builtin.Int.intBits;split
 ·omega
 ·rename_i c;have hx:x≠0:=by simpa using c
  have h2:x.natAbs<2 ^ b:=by
   have:((2 ^ b:Nat):Int)=2 ^ b:=by simp
   omega
  have:=(Nat.log2_lt (by omega:x.natAbs≠0)).mpr h2;omega
def qfz {b:Nat} {ks:List Int} (h:Rw b ks):0<=gr ks/\gr ks<2 ^ b:=by
 cases ks with
 |nil=>exact ⟨Int.le_refl 0,Int.pow_pos (by omega)⟩
 |cons m r=>exact h _ (YV (by simp))
def V3 {b:Nat} {ks:List Int}:0<=chn b ks/\chn b ks<=2 ^ b:=by
 have p:(0:Int)<2 ^ b:=Int.pow_pos (by omega);have q:(0:Int)<2 ^ Builtin.Int.intBits (gr ks):=Int.pow_pos (by omega);unfold chn;split<;>omega
def imd (r:Bool×PyData):PyData:=.tuple [.str (if r.1 then "image" else "none"),r.2]
def qmN {many b:Nat} {S:PyData} {xs:List Nat} (hm:many<=5) (hb:b<=9) (hs:qE [S]=some (.list (xs.map λx:Nat=>PyData.int (x:Int)))) (hn:∀ p,(sr many (λks=>(chn b ks).toNat) (λks=>tld (xs.find? (isl ks))) 6 [])=p->noC p.2=true) :
  qM [.int (many:Int),.int (b:Int),S]=some (imd (sr many (λks=>(chn b ks).toNat) (λks=>tld (xs.find? (isl ks))) 6 [])):=by
 have pb:(2:Int) ^ b<=512:=by
  have h1:2 ^ b<=2 ^ 9:=Nat.pow_le_pow_right (by omega) hb;have h3:((2 ^ b:Nat):Int)=2 ^ b:=by simp
  omega
 have A:=qnr (many:=many) (ch:=λks=>(chn b ks).toNat) (br:=λks=>tld (xs.find? (isl ks))) (C0:=UZ 0 [.int (b:Int)]) (C1:=UZ 1 [.list (xs.map λx:Nat=>PyData.int (x:Int))]) (Ok:=Rw b)
  (λks ok _=>by
   have c:=V3 (b:=b) (ks:=ks);have g:=qfz ok;rw [Fv0 (by omega) (u3 (WX g.1 g.2) (by omega)),Int.toNat_of_nonneg c.1])
  (λks ok=>Fv1 λm hm=>(ok m hm).1) (by omega) (λks=>by have c:=V3 (b:=b) (ks:=ks);omega)
  (λks i ok _ hi m hm=>by
   have c:=V3 (b:=b) (ks:=ks);rcases List.mem_append.mp hm with z|z
   ·exact ok m z
   ·obtain rfl:=List.mem_singleton.mp z;omega) 6 [] (λm hm=>by cases hm) (Nat.zero_le _) (by simp;omega)
 rw [List.map_nil] at A;generalize hr:sr many (λks=>(chn b ks).toNat) (λks=>tld (xs.find? (isl ks))) 6 []=r at A ⊢;have nc:=hn r hr;rw [CC];unfold j4;have ns:noC (srd r)=true:=by unfold srd noC;exact JO (by unfold noC;rfl) nc
 try simp only [Pu.pwA,hs,qd1,qbG,A,ns,srd,imd]
 obtain ⟨k,p⟩:=r;cases k
 ·have n2:noC (.tuple [.str "none",p])=true:=ns
  try simp only [Pu.pwA]
  rw [if_pos n2]
  try simp only [Pu.pwA]
  try rw [if_pos (by decide)]
 ·have n2:noC (.tuple [.str "row",p])=true:=ns
  try simp only [Pu.pwA]
  rw [if_pos n2]
  try simp only [Pu.pwA]
  first|rfl|(rw [if_neg (by decide)];rfl)|(rw [if_neg (by decide)];try simp only [Pu.pwA])
theorem N7 {many:Nat} {ch:List Int->Nat} {br:List Int->PyData} (hb:∀ ks,noC (br ks)=true):∀ (j:Nat) (ks:List Int),noC (sr many ch br j ks).2=true
 |0,ks=>by unfold sr noC;rfl
 |j+1,ks=>by
  unfold sr;split
  ·exact jO
  ·split
   ·exact N7 hb j _
   ·unfold noC;refine WU.mpr λd hd=>?_;obtain ⟨i,_,rfl⟩:=mem_map.mp hd;split
    ·exact N7 hb j _
    ·exact hb _
def lv (st:List Int->List (List Int)):Nat->List (List Int)
 |0=>[[]]
 |t+1=>(lv st t).flatMap st
def dl (st:List Int->List (List Int)):Nat->List Int->List (List Int)
 |0,ks=>[ks]
 |t+1,ks=>(st ks).flatMap (dl st t)
theorem qh4 (st:List Int->List (List Int)):∀ (j t:Nat),(lv st t).flatMap (dl st j)=lv st (t+j)
 |0,t=>by
  have:dl st 0=λks=>[ks]:=funext λ_=>rfl;rw [this,List.flatMap_singleton'];rfl
 |j+1,t=>by
  have:dl st (j+1)=λks=>(st ks).flatMap (dl st j):=funext λ_=>rfl;rw [this,← List.flatMap_assoc,show (lv st t).flatMap st=lv st (t+1) from rfl,qh4 st j (t+1)];congr 1;omega
def qkD (st:List Int->List (List Int)) (j:Nat):dl st j []=lv st j:=by
 have:=qh4 st j 0;rw [show lv st 0=[[]] from rfl,Nat.zero_add] at this;simpa using this
theorem M1 {α β γ:Type} (p:α->Bool) (g:α->β) (f:β->List γ):∀ xs:List α,(((xs.filter p).map g).flatMap f).head?=(xs.find? λi=>p i&&(f (g i)).head?.isSome).bind λi=>(f (g i)).head?
 |[]=>rfl
 |x::r=>by
  have ih:=M1 p g f r;by_cases hp:p x=true
  ·rw [List.filter_cons_of_pos hp,map_cons,List.flatMap_cons,List.head?_append,List.find?_cons];cases hh:(f (g x)).head? with
   |some y=>simp [hp,hh]
   |none=>simp [hp,ih]
  ·rw [List.filter_cons_of_neg hp,List.find?_cons];simp only [Bool.not_eq_true] at hp;simp [hp,ih]
def stp (ch:List Int->Nat) (br:List Int->PyData) (ks:List Int):List (List Int):=((List.range (ch ks)).filter λi:Nat=>JF (br (ks++[(i:Int)]))).map λi:Nat=>ks++[(i:Int)]
theorem qhF {many:Nat} {ch:List Int->Nat} {br:List Int->PyData}:∀ (m j:Nat) (ks:List Int),ks.length+m=many->m<j ->
  (sr many ch br j ks).1=(dl (stp ch br) m ks).head?.isSome/\∀ r,(dl (stp ch br) m ks).head?=some r->(sr many ch br j ks).2=.list (r.map PyData.int)
 |0,j+1,ks,hk,_=>by
  rw [sr,if_pos (by omega)];exact ⟨rfl,λr hr=>by cases hr;rfl⟩
 |m+1,j+1,ks,hk,hj=>by
  have ih:∀ i:Nat,_:=λi=>qhF (many:=many) (ch:=ch) (br:=br) m j (ks++[(i:Int)]) (by simp;omega) (by omega);rw [sr,if_neg (by omega)];have e:(dl (stp ch br) (m+1) ks).head?=((List.range (ch ks)).find? λi:Nat=>JF (br (ks++[(i:Int)]))&&(sr many ch br j (ks++[(i:Int)])).1).bind λi=>(dl (stp ch br) m (ks++[(i:Int)])).head?:=by
   show ((stp ch br ks).flatMap (dl (stp ch br) m)).head?=_;unfold stp;rw [M1];simp only [ih];rfl
  rw [e];cases hf:(List.range (ch ks)).find? λi:Nat=>JF (br (ks++[(i:Int)]))&&(sr many ch br j (ks++[(i:Int)])).1 with
  |none=>exact ⟨rfl,λr hr=>by cases hr⟩
  |some i=>
   have hi:=List.find?_some hf;simp only [Bool.and_eq_true] at hi;simp only [Option.bind_some];exact ⟨by rw [← (ih i).1,hi.2],λr hr=>(ih i).2 r hr⟩
def qbk {α:Type} (xs:List α) (k:Nat):K1 xs (some (k:Int)) none=xs.drop k:=by
 unfold K1;rw [HT.qes,HT.qbL,List.take_of_length_le (by simp)];by_cases c:k<=xs.length
 ·rw [Nat.min_eq_left c]
 ·rw [Nat.min_eq_right (by omega),List.drop_of_length_le (v5 _),List.drop_of_length_le (by omega)]
def qmp {α:Type} (xs:List α):K1 xs (some (1:Int)) none=xs.drop 1:=qbk xs 1
def spd (ss:List (List Int)):PyData:=.list (ss.map λs=>PyData.list (s.map PyData.int))
def aw (ss:List (List Int)):List Int:=ss.flatMap λs=>(fl s).drop 1
def Sps (ss:List (List Int)):Prop:=ss.length<=4/\∀ s∈ss,s.length<=3/\∀ m∈s,0<=m
theorem X6 {k n:Nat}:∀ {ss:List (List Int)},ss.length<=n->(∀ s∈ss,s.length<=k)->(aw ss).length<=n*2 ^ k
 |[],_,_=>Nat.zero_le _
 |s::r,h,hs=>by
  obtain ⟨n,rfl⟩:∃ m,n=m+1:=⟨n-1,by simp at h;omega⟩
  have ih:=X6 (k:=k) (n:=n) (ss:=r) (by simp at h;omega) λx hx=>hs x (by simp [hx]);have l:=V6 s.length s rfl;have p:2 ^ s.length<=2 ^ k:=Nat.pow_le_pow_right (by omega) (hs s (by simp));rw [show aw (s::r)=(fl s).drop 1++aw r from List.flatMap_cons,length_append,List.length_drop,Nat.succ_mul];omega
def qmh {ss:List (List Int)} (h:Sps ss):qE [spd ss]=some (.list ((aw ss).map PyData.int)):=by
 have l:=X6 h.1 λs hs=>(h.2 s hs).1;rw [WD]
 try simp only [Pu.pwA,jw,spd]
 rw [qex (ds:=ss.map λs=>PyData.list (s.map PyData.int)) (fs:=(aw ss).map PyData.int)]
 ·try simp only [Pu.pwA]
 ·try simp only [Pu.pwA]
 ·have e:(aw ss).map PyData.int=ss.flatMap λs=>((fl s).drop 1).map PyData.int:=by unfold aw;rw [List.map_flatMap]
  rw [e];refine qbX λs hs=>?_
  try simp only [Pu.pwA,qg6,qnc (ks:=s) (by have:=(h.2 s hs).1;omega),qhE,qmp]
  rw [← List.map_drop,V1 (k:=PyData.int) λq hq=>?_]
  ·try simp only [Pu.pwA]
  ·try simp only [Pu.pwA,N0]
 ·rw [length_map];omega
theorem qah:∀ l:List Int,(dd l).length<=l.length
 |[]=>v5 _
 |x::r=>by
  have:=qah r;unfold dd;split
  ·simp;omega
  ·simp;omega
def bd (ss:List (List Int)):List Int:=srt (dd (aw ss))
def SR {ss:List (List Int)} {x:Int}:x∈bd ss↔x∈aw ss:=by
 unfold bd;rw [(DS _).mem_iff,XB]
def qk7 {ss:List (List Int)} (h:Sps ss):z8 [spd ss]=some (.list ((bd ss).map PyData.int)):=by
 have l:=X6 h.1 λs hs=>(h.2 s hs).1;rw [T6]
 try simp only [Pu.pwA,JH,spd]
 refine je (Q:=λo=>j2 true o=_) ss (λi ρ=>∃ s2,ρ=[.sh (spd ss),.ow ((aw (ss.take i)).map PyData.int),s2]) ⟨_,rfl⟩ ?_ ?_
 ·rintro i s ρ hs ⟨s2,rfl⟩;have hm:=v9 hs;have l2:=X6 (n:=4) (k:=3) (ss:=ss.take i) (by rw [List.length_take];have:=h.1;omega) λs hs=>(h.2 s (List.mem_of_mem_take hs)).1;have l3:=V6 s.length s rfl;have l4:2 ^ s.length<=2 ^ 3:=Nat.pow_le_pow_right (by omega) (h.2 s hm).1;have tk:aw (ss.take (i+1))=aw (ss.take i)++(fl s).drop 1:=by rw [List.take_succ,hs];simp [aw]
  try simp only [Pu.pwA,ql5 (ks:=s) (by have:=(h.2 s hm).1;omega) (h.2 s hm).2,qhE,qmp]
  have ex:qjz 1 (.list (((fl s).map PyData.int).drop 1)) [.sh (spd ss),.ow ((aw (ss.take i)).map PyData.int),.sh (.list (s.map PyData.int))]=some (.nx [.sh (spd ss),.ow ((aw (ss.take (i+1))).map PyData.int),.sh (.list (s.map PyData.int))]):=by
   rw [tk,List.map_append,List.map_drop];have le:((aw (ss.take i)).map PyData.int).length+(((fl s).map PyData.int).drop 1).length<=sizeLine:=by
    simp only [length_map,List.length_drop,y8];omega
   exact qU le
  rw [ex];exact ⟨_,rfl⟩
 ·rintro ρ ⟨s2,rfl⟩;rw [List.take_length];have e:NM (.list ((aw ss).map PyData.int))=some (.list ((bd ss).map PyData.int)):=by
   have:=qah (aw ss);unfold NM;simp only [UF,Option.bind_some];exact qU ⟨by omega,by omega⟩
  try simp only [Pu.pwA,qeA,e]
  try rfl
def JE {x:Int} {b:Nat} (h0:0<=x):Builtin.Int.intBits x<=b↔x<2 ^ b:=by
 refine ⟨λh=>?_,WX h0⟩;have p:(0:Int)<2 ^ b:=Int.pow_pos (by omega);unfold Builtin.Int.intBits at h;split at h
 ·rename_i c;have:x=0:=by simpa using c
  omega
 ·rename_i c;have hx:x≠0:=by simpa using c
  have:x.natAbs<2 ^ b:=(Nat.log2_lt (by omega)).mp (by omega);have:((2 ^ b:Nat):Int)=2 ^ b:=by simp
  omega
def qlU {ks:List Int} (hk:∀ m∈ks,0<=m):mx (ks++[0])=gr ks:=by
 have h1:mx (ks++[0])∈ks++[0]:=YV (by simp);have h0:0<=mx (ks++[0]):=X9 (by simp);cases ks with
 |nil=>rfl
 |cons a r=>
  unfold gr;simp only;have h3:mx (a::r)∈a::r:=YV (by simp);have h4:mx (a::r)<=mx (a::r++[0]):=X9 (List.mem_append.mpr (.inl h3));rcases List.mem_append.mp h1 with z|z
  ·have:=X9 z;omega
  ·have:=List.mem_singleton.mp z;have:=hk _ h3;omega
def la (t:Nat) (ks:List Int):Int:=if (2:Int) ^ t-1<2 ^ Builtin.Int.intBits (gr ks) then 2 ^ t-1 else 2 ^ Builtin.Int.intBits (gr ks)
def qgH {t:Nat} {ks:List Int} (hk:∀ m∈ks,0<=m) (hl:ks.length<=1000) (hb:Builtin.Int.intBits (gr ks)<=6) (ht:t<=8):z6 [.list (ks.map PyData.int),.int (t:Int)]=some (.int (la t ks)):=by
 have g0:0<=gr ks:=by cases ks with
  |nil=>exact Int.le_refl 0
  |cons a r=>exact hk _ (YV (by simp))
 have ct:TV (.list (ks.map PyData.int)) (.list [.int 0])=some (.list ((ks++[0]).map PyData.int)):=by
  rw [qdz (by simp;omega)];simp
 have em:mxD [.list ((ks++[0]).map PyData.int)]=some (.int (gr ks)):=by rw [qhj (by simp),qlU hk]
 rw [C6]
 try simp (disch:=omega) only [Pu.pwA,Q8,ct,em,qja]
 refine je (Q:=λo=>j2 false o=_) (CQ 0 (6:Int).toNat) (λi ρ=>∃ s3 v,v=2 ^ min i (Builtin.Int.intBits (gr ks))/\ρ=[.sh (.list (ks.map PyData.int)),.sh (.int (t:Int)),.sh (.int v),s3]) ⟨_,1,by rw [Nat.zero_min];rfl,rfl⟩ ?_ ?_
 ·rintro i x ρ hx ⟨s3,v,rfl,rfl⟩;obtain ⟨hi,rfl⟩:=Q0 hx
  try simp only [Pu.pwA,ct,em]
  have pw:=p2 (show min i (Builtin.Int.intBits (gr ks))<=8 by omega);have e4:cI VC (·*·) (.int 2) (.int (2 ^ min i (Builtin.Int.intBits (gr ks))))=some (.int (2*(2 ^ min i (Builtin.Int.intBits (gr ks))))):=TZ (by omega);rcases Nat.lt_or_ge i (Builtin.Int.intBits (gr ks)) with c|c
  ·have ge:¬ gr ks<2 ^ i:=λz=>by have:=(JE g0).mpr z;omega
   have mi:min i (Builtin.Int.intBits (gr ks))=i:=by omega
   rw [mi] at e4 ⊢;have d1:decide ((2:Int) ^ i<=gr ks)=true:=u8 (by omega)
   try simp only [Pu.pwA,d1,e4]
   refine ⟨_,_,?_,rfl⟩;rw [show min (i+1) (Builtin.Int.intBits (gr ks))=i+1 by omega,Int.pow_succ,Int.mul_comm (2 ^ i) 2]
  ·have lt:gr ks<2 ^ Builtin.Int.intBits (gr ks):=(JE g0).mp (v5 _);have mi:min i (Builtin.Int.intBits (gr ks))=Builtin.Int.intBits (gr ks):=by omega
   rw [mi];have d1:decide ((2:Int) ^ Builtin.Int.intBits (gr ks)<=gr ks)=false:=u7 (by omega)
   try simp only [Pu.pwA,d1]
   refine ⟨_,_,?_,rfl⟩;rw [show min (i+1) (Builtin.Int.intBits (gr ks))=Builtin.Int.intBits (gr ks) by omega]
 ·rintro ρ ⟨s3,v,rfl,rfl⟩;rw [Z5,show min (6:Int).toNat (Builtin.Int.intBits (gr ks))=Builtin.Int.intBits (gr ks) by omega]
  try simp only [Pu.pwA,KA ht]
  rfl
def qm2 {ks:List Int} {xs:List Int} (hl:ks.length<=8) (hx:∀ x∈xs,0<=x) (lx:xs.length<=1000000):zw [.list (xs.map PyData.int),.list (ks.map PyData.int)]=some (.bool (xs.all λx=>!decide (nm x.toNat ks=0))):=by
 rw [D6]
 try simp only [Pu.pwA,jo]
 rw [SU (ds:=xs.map PyData.int) (fs:=(xs.map λx=>!decide (nm x.toNat ks=0)).map PyData.bool)]
 ·try simp only [Pu.pwA,qaP,List.all_map]
  rfl
 ·try simp only [Pu.pwA]
 ·rw [map_map];refine V1 λx h=>?_;have:=hx x h;have e:=qmB (ks:=ks) (x:=x.toNat) hl;rw [Int.toNat_of_nonneg this] at e
  try simp only [Pu.pwA,N0,e,Function.comp_def]
  try rfl
 ·simp only [length_map];omega
def rwd (r:List Int):PyData:=.list (r.map PyData.int)
def XE {x b:Nat}:Builtin.Int.intBits (x:Int)<=b↔x<2 ^ b:=by
 have h3:((2 ^ b:Nat):Int)=2 ^ b:=by simp
 rw [JE (by omega)];omega
def brX (xs:List Nat) (ks:List Int):PyData:=tld (xs.find? (isl ks))
def chX (b:Nat) (ks:List Int):Nat:=(chn b ks).toNat
def qb1 {xs:List Nat} {r:List Int}:JF (brX xs r)=xs.all λx=>!isl r x:=by
 unfold brX;cases h:xs.find? (isl r) with
 |none=>
  have hn:=List.find?_eq_none.mp h;rw [show (xs.all λx=>!isl r x)=true from List.all_eq_true.mpr λx hx=>by simpa using hn x hx];rfl
 |some x=>
  have h1:=List.find?_some h;have h2:=List.mem_of_find?_eq_some h;cases e:xs.all λx=>!isl r x with
  |false=>rfl
  |true=>have:=List.all_eq_true.mp e x h2;rw [h1] at this;cases this
def NW {t:Nat} {ks:List Int} (h:Rw t ks):Builtin.Int.intBits (gr ks)<=t:=by
 have g:=qfz h;exact WX g.1 g.2
def qgc {b:Nat} {ks:List Int}:(chX b ks:Int)=la b ks+1:=by
 have c:=V3 (b:=b) (ks:=ks);unfold chX la;rw [Int.toNat_of_nonneg c.1];unfold chn;split<;>split<;>omega
def qdM {b t:Nat} {ks:List Int} (h:Rw t ks):chX b ks<=2 ^ b/\chX b ks<=2 ^ t+1:=by
 have c:=V3 (b:=b) (ks:=ks);have h3:((2 ^ b:Nat):Int)=2 ^ b:=by simp
 have p:2 ^ Builtin.Int.intBits (gr ks)<=2 ^ t:=Nat.pow_le_pow_right (by omega) (NW h);have h4:((2 ^ Builtin.Int.intBits (gr ks):Nat):Int)=2 ^ Builtin.Int.intBits (gr ks):=by simp
 unfold chX;refine ⟨by omega,?_⟩;unfold chn at c ⊢;split<;>omega
def axs (ss:List (List Int)):List Nat:=(aw ss).map Int.toNat
def U0 {neg:Bool} {n:Int} {ms:List Int}:inD neg (.int n) (.list (ms.map PyData.int))=some (.bool (if neg then !(ms.any (·==n)) else ms.any (·==n))):=by
 refine (qU ⟨rfl,by simp [R0]⟩).trans ?_;rw [List.any_map];rfl
def Spn (w:Nat) (s:List Int):Prop:=s.length<=3/\(∀ m∈s,0<=m/\m<2 ^ w)/\∀ x∈(fl s).drop 1,x≠0
def qeW {w:Nat}:Spn w []:=⟨by simp,by simp,by simp [fl]⟩
def qbT {w i:Nat} {s:List Int} {m:Int} (h:Spn w s) (hi:i<3) (hl:s.length<=i) (m0:0<=m) (m1:m<2 ^ w) (hm:¬ m∈fl s):Spn w (s++[m]):=by
 obtain ⟨_,h2,h3⟩:=h;have nn:=C9 s.length s rfl λm hm=>(h2 m hm).1;refine ⟨by simp;omega,λx hx=>?_,λx hx=>?_⟩
 ·rcases List.mem_append.mp hx with hx|hx
  ·exact h2 x hx
  ·rw [List.mem_singleton.mp hx];exact ⟨m0,m1⟩
 ·obtain ⟨r,e⟩:=qm6 s.length s rfl;have ex:(fl (s++[m])).drop 1=(fl s).drop 1++(fl s).map λf=>Builtin.bitXor f m:=by rw [jd,e];rfl
  rw [ex] at hx;rcases List.mem_append.mp hx with hx|hx
  ·exact h3 x hx
  ·obtain ⟨f,hf,rfl⟩:=mem_map.mp hx;intro z;refine hm ?_;have:f=m:=qaO (nn f hf) m0 m0 (by rw [z,PyProof.Rows.bitXor_self]);exact this▸hf
def qeO {w n:Nat} {Q:QD} (hn:n<900000) (hw1:1<=w) (hw:w<=8) (h:∀ ss:List (List Int),ss.length<=4->(∀ s∈ss,Spn w s)->Q (spd ss) (n+17)):zN.W [.int (w:Int)] n Q:=by
 have pw:=p2 hw;have pw2:(2:Int)<=2 ^ w:=by
  obtain ⟨v,rfl⟩:∃ v,w=v+1:=⟨w-1,by omega⟩
  have:=p2 (show v<=8 by omega);rw [Int.pow_succ];omega
 rw [CG];refine ⟨rfl,?_⟩;unfold j6;refine EO λY1 h1=>?_
 try simp only [Pu.pwA]
 rw [h1];refine EO λY2 h2=>?_
 try simp only [Pu.pwA]
 refine ⟨by omega,by omega,λc c0 c1=>?_⟩
 try simp (disch:=omega) only [Pu.pwA,qja]
 refine S0 (CQ 0 c.toNat) jx.mn (λi ρ n'=>n'<=n+1+4*i/\∃ (ss:List (List Int)) (s3 s4 s5 s6:Sl),ρ=[.un,.sh (.int (w:Int)),.ow (ss.map λs=>PyData.list (s.map PyData.int)),s3,s4,s5,s6]/\ss.length=i/\∀ s∈ss,Spn w s) ⟨by omega,[],_,_,_,_,rfl,rfl,by simp⟩ ?_ ?_
 ·rintro i x ρ n' hx ⟨hn',ss,s3,s4,s5,s6,rfl,ls,hs⟩;obtain ⟨hi,rfl⟩:=Q0 hx;refine ⟨_,rfl,?_⟩;unfold jx;refine EO λY3 h3=>?_
  try simp only [Pu.pwA]
  rw [h3];refine EO λY4 h4=>?_
  try simp only [Pu.pwA]
  refine ⟨by omega,by omega,λe e0 e1=>?_⟩
  try simp (disch:=omega) only [Pu.pwA,qja]
  refine S0 (CQ 0 e.toNat) jB.mn (λj ρ n2=>n2<=n'+1+j/\∃ (s:List Int) (s5 s6:Sl),ρ=[.un,.sh (.int (w:Int)),.ow (ss.map λs=>PyData.list (s.map PyData.int)),.sh (.int (0+(i:Int))),.ow (s.map PyData.int),s5,s6]/\s.length<=j/\Spn w s) ⟨by omega,[],_,_,rfl,v5 _,qeW⟩ ?_ ?_
  ·rintro j x ρ n2 hx ⟨hn2,s,s5,s6,rfl,lj,hsp⟩;obtain ⟨hj,rfl⟩:=Q0 hx;refine ⟨_,rfl,?_⟩;unfold jB;refine EO λY5 h5=>?_
   try simp only [Pu.pwA,KA hw]
   refine ⟨by omega,by omega,λm0 a0 a1=>?_⟩;rw [h5]
   try simp only [Pu.pwA,ql5 (ks:=s) (by have:=hsp.1;omega) λm hm=>(hsp.2.1 m hm).1,U0]
   by_cases hm:(fl s).any (·==1+m0)=true
   ·try simp only [Pu.pwA,hm]
    exact ⟨by omega,s,_,_,rfl,by omega,hsp⟩
   ·simp only [Bool.not_eq_true] at hm;have hm2:¬ (1+m0)∈fl s:=λz=>by
     rw [List.any_eq_true.mpr ⟨_,z,by simp⟩] at hm;cases hm
    try simp only [Pu.pwA,hm]
    refine ⟨by have:=hsp.1;simp;omega,by omega,s++[1+m0],_,_,by rw [List.map_append];rfl,by simp;omega,qbT hsp (by omega) lj (by omega) (by omega) hm2⟩
  ·rintro ρ n2 ⟨hn2,s,s5,s6,rfl,lj,hsp⟩;rw [Z5] at hn2;rw [h4]
   try simp only [Pu.pwA]
   refine ⟨by simp;omega,by omega,ss++[s],_,_,_,_,by rw [List.map_append];rfl,by simp [ls],λx hx=>?_⟩;rcases List.mem_append.mp hx with hx|hx
   ·exact hs x hx
   ·rw [List.mem_singleton.mp hx];exact hsp
 ·rintro ρ n' ⟨hn',ss,s3,s4,s5,s6,rfl,ls,hs⟩;rw [Z5] at hn' ls
  try simp only [Pu.pwA,h2]
  exact ⟨n+17,by omega,h ss (by omega) hs⟩
def at8 {c:Int} (h0:0<=c) (h1:c<8):∃ v:Int,L2.atI [PyData.int 3,.int 3,.int 3,.int 3,.int 4,.int 4,.int 4,.int 5] c=some (.int v)/\3<=v/\v<=5:=by
 have:c=0\/c=1\/c=2\/c=3\/c=4\/c=5\/c=6\/c=7:=by omega
 rcases this with rfl|rfl|rfl|rfl|rfl|rfl|rfl|rfl<;>exact ⟨_,rfl,by omega,by omega⟩
def at3 {c:Int} (h0:0<=c) (h1:c<3):∃ v:Int,L2.atI [PyData.int 3,.int 4,.int 6] c=some (.int v)/\3<=v/\v<=6:=by
 have:c=0\/c=1\/c=2:=by omega
 rcases this with rfl|rfl|rfl<;>exact ⟨_,rfl,by omega,by omega⟩
def qlJ {n:Nat} {Q:QD} (hn:n<800000) (h:∀ (w b:Nat) (ss:List (List Int)),1<=w->w<=5->b<=5->ss.length<=4->(∀ s∈ss,Spn w s)->Q (.tuple [.int (w:Int),.int (b:Int),spd ss]) (n+21)):jD.W [] n Q:=by
 rw [KW];refine ⟨rfl,?_⟩;unfold Z1;refine EO λY1 h1=>?_
 try simp only [Pu.pwA]
 refine ⟨by omega,by omega,λc c0 c1=>?_⟩;obtain ⟨v,ev,v0,v1⟩:=at8 c0 c1;refine ⟨_,ev,v,rfl,⟨by omega,by omega⟩,by omega,λw0 a0 a1=>?_⟩;obtain ⟨w,hw⟩:∃ w:Nat,1+w0=(w:Int):=⟨(1+w0).toNat,by omega⟩
 rw [hw,h1]
 try simp only [Pu.pwA]
 refine ⟨by omega,by omega,λe e0 e1=>?_⟩;obtain ⟨u,eu,u0,u1⟩:=at3 e0 e1;refine ⟨_,eu,u,rfl,⟨by omega,by omega⟩,by omega,λb0 b1 b2=>?_⟩;obtain ⟨b,rfl⟩:∃ b:Nat,b0=(b:Int):=⟨b0.toNat,by omega⟩
 refine qeO (by omega) (by omega) (by omega) λss ls hs=>?_
 try simp only [Pu.pwA]
 exact ⟨n+21,by omega,h w b ss (by omega) (by omega) (by omega) ls hs⟩
def qdB (ds:List PyData) (k:Nat):enD k ds=(ds.zipIdx k).map λp=>PyData.tuple [.int (p.2:Int),p.1]:=by
 have:=qfy (λd:PyData=>d) ds k
 rwa [List.map_id'] at this
def TrP:Nat->PyData->Prop
 |0,d=>∃ n:Nat,d=.int (n:Int)
 |j+1,d=>(∃ n:Nat,d=.int (n:Int))\/∃ ds:List PyData,d=.tuple ds/\ds.length<=1000/\∀ e∈ds,TrP j e
def jS {j:Nat} {d:PyData} (h:TrP j d):(∃ n:Nat,d=.int (n:Int))\/∃ ds:List PyData,d=.tuple ds/\ds.length<=1000/\∃ m,j=m+1/\∀ e∈ds,TrP m e:=by
 cases j with
 |zero=>exact .inl h
 |succ j=>
  rcases h with h|⟨ds,h1,h2,h3⟩
  ·exact .inl h
  ·exact .inr ⟨ds,h1,h2,j,rfl,h3⟩
theorem qc0:∀ {j:Nat} {d:PyData},TrP j d->noC d=true
 |0,_,⟨n,e⟩=>by subst e;exact ZU
 |j+1,d,h=>by
  rcases h with ⟨n,rfl⟩|⟨ds,rfl,_,h⟩
  ·exact ZU
  ·unfold noC;exact WU.mpr λe he=>qc0 (h e he)
theorem qdA:∀ {j:Nat} {d:PyData},TrP j d->dpt d<=j
 |0,_,⟨n,e⟩=>by subst e;exact v5 _
 |j+1,d,h=>by
  rcases h with ⟨n,rfl⟩|⟨ds,rfl,_,h⟩
  ·exact Nat.zero_le _
  ·have:∀ ds:List PyData,(∀ e∈ds,TrP j e)->qba ds<=j:=λds=>by
    induction ds with
    |nil=>intro _;exact Nat.zero_le _
    |cons x r ih=>
     intro h;have h1:=qdA (h x (by simp));have h2:=ih λe he=>h e (by simp [he]);simp only [qba];omega
   have:=this ds h;simp only [dpt];omega
theorem qgY:∀ {j:Nat} {d:PyData},TrP j d->zx d d=some true
 |0,_,⟨n,e⟩=>by subst e;simp [zx]
 |j+1,d,h=>by
  rcases h with ⟨n,rfl⟩|⟨ds,rfl,_,h⟩
  ·simp [zx]
  ·have:∀ ds:List PyData,(∀ e∈ds,TrP j e)->ZF ds ds=some true:=λds=>by
    induction ds with
    |nil=>intro _;rfl
    |cons x r ih=>
     intro h;simp [ZF,qgY (h x (by simp)),ih λe he=>h e (by simp [he])]
   unfold zx;exact this ds h
def K9 (xs:List Nat) (r:List Int):PyData->Bool
 |.int n=>xs.any (λx=>(x:Int)==n)&&isl r n.toNat
 |_=>false
def arm (xs:List Nat) (w:Nat) (r:List Int) (f:List Int->PyData->Bool) (d:PyData):Bool:=K9 xs r d||(decide (r.length≠w)&&f r d)
def brs (b w:Nat) (xs:List Nat):Nat->List Int->PyData->Bool
 |0,_,_=>false
 |j+1,ks,.tuple ds=>decide (ds.length=chX b ks)&&(ds.zipIdx 0).all λp=>arm xs w (ks++[(p.2:Int)]) (brs b w xs j) p.1
 |_+1,_,_=>false
def YE {b w:Nat} {xs:List Nat} {j:Nat} {ks:List Int} {n:Int}:brs b w xs j ks (.int n)=false:=by cases j<;>rfl
def qeE {neg:Bool} {n:Int} {xs:List Nat}:inD neg (.int n) (.list (xs.map λx:Nat=>PyData.int (x:Int)))=some (.bool (if neg then !(xs.any λx=>(x:Int)==n) else xs.any λx=>(x:Int)==n)):=by
 rw [UB,U0,List.any_map];rfl
def sIB:EK "int" "bool" = false:=by decide
def sII:EK "int" "int" = true:=by decide
def sTT:EK "tuple" "tuple" = true:=by decide
def sTI:EK "tuple" "int" = false:=by decide
def sIT:EK "int" "tuple" = false:=by decide
def qlu {n:Int}:zt [.int n]=some (.bool true):=by
 rw [YO]
 try simp only [Pu.pwA,jb,sIB,sII]
def qgS {ds:List PyData}:zt [.tuple ds]=some (.bool false):=by
 rw [YO]
 try simp only [Pu.pwA,jb,sTI]
def qeN {n:Int}:zM [.int n]=some (.bool true):=by
 rw [XQ]
 try simp only [Pu.pwA,j8,sIB,sII]
def qjf {ks:List Int} (hk:∀ m∈ks,0<=m) {xs:List Nat} {j:Nat} {d:PyData} (h:TrP j d):jG [.list (xs.map λx:Nat=>PyData.int (x:Int)),.list (ks.map PyData.int),d]=some (.bool (K9 xs ks d)):=by
 rw [T1];rcases jS h with ⟨n,rfl⟩|⟨ds,rfl,_⟩
 ·have e:=qju (ks:=ks) (x:=n) hk
  try simp only [Pu.pwA,QU,qlu,qeE,K9,Int.toNat_natCast]
  cases c:xs.any λx=>(x:Int)==(n:Int)
  ·try simp only [Pu.pwA]
  ·try simp only [Pu.pwA,e]
 ·try simp only [Pu.pwA,QU,qgS,K9]
def FL2 {b:Nat} {ks:List Int} (hb:b<=1000) (h:Builtin.Int.intBits (gr ks)<=1000):qhH [.list (ks.map PyData.int),.int (b:Int)]=some (.int (chn b ks)):=by
 rw [qjW]
 try simp only [Pu.pwA,qjO,qmH hb h]
def FL3 {ks:List Int} (hk:∀ m∈ks,0<=m) {xs:List Nat} {j:Nat} {d:PyData} (h:TrP j d):qhC [.list (ks.map PyData.int),d,.list (xs.map λx:Nat=>PyData.int (x:Int))]=some (.bool (K9 xs ks d)):=by
 rw [qld]
 try simp only [Pu.pwA,qjP,qjf hk h]
def qgt {x y z:PyData} (hx:noC x=true) (hy:noC y=true) (hz:noC z=true):EA [x,y,z]=true:=by
 unfold EA;rw [hx,JO hy hz];rfl
def Fv2 {b:Nat} {ks:List Int} (hb:b<=1000) (h:Builtin.Int.intBits (gr ks)<=1000):Fv PhL (UZ 2 [.int (b:Int)]) [.list (ks.map PyData.int)]=some (.int (chn b ks)):=by
 unfold Fv UZ;simp only [cons_append,List.nil_append];rw [if_pos ⟨by decide,JO jO ZU⟩];show (some qhH).bind _=_;rw [Option.bind_some,FL2 hb h,Option.bind_some,if_pos ZU]
def qdT {b:Bool}:noC (.bool b)=true:=by unfold noC;rfl
def Fv3 {ks:List Int} (hk:∀ m∈ks,0<=m) {xs:List Nat} {j:Nat} {d:PyData} (h:TrP j d):Fv PhL (UZ 3 [.list (xs.map λx:Nat=>PyData.int (x:Int))]) [.list (ks.map PyData.int),d]=some (.bool (K9 xs ks d)):=by
 unfold Fv UZ;simp only [cons_append,List.nil_append];rw [if_pos ⟨by decide,qgt jO (qc0 h) (by rw [UB];exact jO)⟩];show (some qhC).bind _=_;rw [Option.bind_some,FL3 hk h,Option.bind_some,if_pos qdT]
def TU {α:Type} (p:α->Bool) (xs:List α):xs.all p=(xs.find? λx=>!p x).isNone:=by
 induction xs with
 |nil=>rfl
 |cons x r ih=>
  rw [List.all_cons,List.find?_cons,ih];cases p x<;>simp
def qjd {w b:Nat} {xs:List Nat} (hb:b<=9) (hw:w<=1000):∀ (j m:Nat) (ks:List Int) (d:PyData),Rw b ks->ks.length<=w->w<ks.length+j->TrP m d ->
  qR j [.int (w:Int),UZ 2 [.int (b:Int)],UZ 3 [.list (xs.map λx:Nat=>PyData.int (x:Int))],.list (ks.map PyData.int),d]=some (.bool (decide (ks.length≠w)&&brs b w xs j ks d)):=by
 intro j;induction j with
 |zero=>intro m ks d _ _ h _;omega
 |succ j ih=>
  intro m ks d hk hl hj ht;rw [KY];have e0:((ks.length:Int)=(w:Int))↔ks.length=w:=by omega
  by_cases c:ks.length=w
  ·have e1:decide ((ks.length:Int)=(w:Int))=true:=u8 (e0.mpr c);have e2:decide (ks.length≠w)=false:=u7 (λz=>z c)
   try simp only [Pu.pwA,z9,length_map,e1,e2]
  ·have e1:decide ((ks.length:Int)=(w:Int))=false:=u7 (λz=>c (e0.mp z));have e2:decide (ks.length≠w)=true:=u8 c;rcases jS ht with ⟨n,rfl⟩|⟨ds,rfl,hd,m',rfl,hm⟩
   ·try simp only [Pu.pwA,z9,length_map,e1,YE,sIT]
   ·have g:=qfz hk;have cc:=V3 (b:=b) (ks:=ks);have f2:=Fv2 (b:=b) (ks:=ks) (by omega) (u3 (WX g.1 g.2) (by omega));have hlen:((ds.length:Int)=chn b ks)↔ds.length=chX b ks:=by unfold chX;omega
    by_cases c3:ds.length=chX b ks
    ·have e3:decide ((ds.length:Int)=chn b ks)=true:=u8 (hlen.mpr c3);have e4:decide (ds.length=chX b ks)=true:=u8 c3;have hcx:=(qdM (b:=b) hk).1
     try simp only [Pu.pwA,z9,length_map,e1,e2,e3,f2,sTT,qdB,LF,DG]
     unfold brs;rw [e4,TU];have st:∀ (i:Nat) (e:PyData),ds[i]?=some e->i<ds.length/\TrP m' e/\Rw b (ks++[(i:Int)]):=λi e h=>by
      have hi:=(za0 h).1;have e5:((2 ^ b:Nat):Int)=2 ^ b:=by simp
      refine ⟨hi,hm e (v9 h),λx hx=>?_⟩;rcases List.mem_append.mp hx with z|z
      ·exact hk x z
      ·obtain rfl:=List.mem_singleton.mp z;omega
     have ct:∀ i:Nat,TV (.list (ks.map PyData.int)) (.list [.int (i:Int)])=some (.list ((ks++[(i:Int)]).map PyData.int)):=λi=>by
      have mp:ks.map PyData.int++[PyData.int (i:Int)]=(ks++[(i:Int)]).map PyData.int:=by simp
      simp only [TV,mp];exact qU (by rw [length_map,List.length_singleton,y8];omega)
     have gv:∀ (i:Nat) (e:PyData),ds[i]?=some e->Fv PhL (UZ 3 [.list (xs.map λx:Nat=>PyData.int (x:Int))]) [.list ((ks++[(i:Int)]).map PyData.int),e]=some (.bool (K9 xs (ks++[(i:Int)]) e)) /\
       qR j [.int (w:Int),UZ 2 [.int (b:Int)],UZ 3 [.list (xs.map λx:Nat=>PyData.int (x:Int))],.list ((ks++[(i:Int)]).map PyData.int),e]=some (.bool (decide ((ks++[(i:Int)]).length≠w)&&brs b w xs j (ks++[(i:Int)]) e)):=λi e h=>by
      obtain ⟨hi,he,hr⟩:=st i e h;exact ⟨Fv3 (λx hx=>(hr x hx).1) he,ih m' _ e hr (by simp;omega) (by simp;omega) he⟩
     cases hf:(ds.zipIdx 0).find? λp=>!arm xs w (ks++[(p.2:Int)]) (brs b w xs j) p.1 with
     |none=>
      have hn:=List.find?_eq_none.mp hf;refine je (Q:=λo=>j2 false o=_) (ds.zipIdx 0) (λi ρ=>∃ s5 s6 s7,ρ=[.sh (.int (w:Int)),.sh (UZ 2 [.int (b:Int)]),.sh (UZ 3 [.list (xs.map λx:Nat=>PyData.int (x:Int))]),.sh (.list (ks.map PyData.int)),.sh (.tuple ds),s5,s6,s7]) ⟨_,_,_,rfl⟩ ?_ ?_
      ·rintro i p ρ hp ⟨s5,s6,s7,rfl⟩;have hp2:=hp;rw [List.getElem?_zipIdx] at hp;obtain ⟨e,he,rfl⟩:=u9 hp;have ok:arm xs w (ks++[(i:Int)]) (brs b w xs j) e=true:=by simpa using hn _ (v9 hp2)
       obtain ⟨g1,g2⟩:=gv i e he;unfold arm at ok
       try simp only [Pu.pwA,Nat.zero_add,ct,g1,LF,DG]
       cases hb:K9 xs (ks++[(i:Int)]) e with
       |true=>
        try simp only [Pu.pwA]
        exact ⟨_,_,_,rfl⟩
       |false=>
        rw [hb,Bool.false_or] at ok
        try simp only [Pu.pwA,g2,ok]
        exact ⟨_,_,_,rfl⟩
      ·rintro ρ ⟨s5,s6,s7,rfl⟩
       try simp only [Pu.pwA]
       try rfl
     |some p=>
      obtain ⟨hx,as,bs,e,ha⟩:=List.find?_eq_some_iff_append.mp hf;have at_:(ds.zipIdx 0)[as.length]?=some p:=by rw [e];simp
      have at2:=at_;rw [List.getElem?_zipIdx] at at2;obtain ⟨d0,hd0,rfl⟩:=u9 at2;refine WR (Q:=λo=>j2 false o=_) (ds.zipIdx 0) as.length _ (.bool false) false at_ (λi ρ=>∃ s5 s6 s7,ρ=[.sh (.int (w:Int)),.sh (UZ 2 [.int (b:Int)]),.sh (UZ 3 [.list (xs.map λx:Nat=>PyData.int (x:Int))]),.sh (.list (ks.map PyData.int)),.sh (.tuple ds),s5,s6,s7]) ⟨_,_,_,rfl⟩ ?_ ?_ rfl
      ·rintro i p ρ hin hp ⟨s5,s6,s7,rfl⟩;have ok0:p∈as:=by
        rw [e,List.getElem?_append_left hin] at hp;exact v9 hp
       rw [List.getElem?_zipIdx] at hp;obtain ⟨e',he,rfl⟩:=u9 hp;have ok:arm xs w (ks++[(i:Int)]) (brs b w xs j) e'=true:=by simpa using ha _ ok0
       obtain ⟨g1,g2⟩:=gv i e' he;unfold arm at ok
       try simp only [Pu.pwA,Nat.zero_add,ct,g1,LF,DG]
       cases hb:K9 xs (ks++[(i:Int)]) e' with
       |true=>
        try simp only [Pu.pwA]
        exact ⟨_,_,_,rfl⟩
       |false=>
        rw [hb,Bool.false_or] at ok
        try simp only [Pu.pwA,g2,ok]
        exact ⟨_,_,_,rfl⟩
      ·rintro ρ ⟨s5,s6,s7,rfl⟩;obtain ⟨g1,g2⟩:=gv as.length d0 hd0;have no:arm xs w (ks++[(as.length:Int)]) (brs b w xs j) d0=false:=by simpa using hx
       unfold arm at no;simp only [Bool.or_eq_false_iff] at no
       try simp only [Pu.pwA,Nat.zero_add,ct,g1,no.1,g2,no.2,LF,DG]
    ·have e3:decide ((ds.length:Int)=chn b ks)=false:=u7 (λz=>c3 (hlen.mp z));have e4:decide (ds.length=chX b ks)=false:=u7 c3
     try simp only [Pu.pwA,z9,length_map,e1,e2,e3,e4,f2,sTT,brs,LF,DG]
def WO {xs:List Nat} {r:List Int} {es:List PyData}:K9 xs r (.tuple es)=false:=rfl
def qb6 {xs:List Nat} {ks:List Int} {n:Nat}:isl ks n=(decide ((2:Int) ^ (ks.length-1)<=(n:Int))&&decide ((n:Int)<2*2 ^ (ks.length-1))&&decide (nm n ks=0))\/ks=[]:=by
 cases ks with
 |nil=>exact .inr rfl
 |cons a r=>
  refine .inl ?_;unfold isl;congr 1;have b1:=JE (x:=(n:Int)) (b:=r.length) (by omega);have b2:=JE (x:=(n:Int)) (b:=r.length+1) (by omega);rw [Int.pow_succ] at b2;rw [length_cons,Nat.add_sub_cancel];refine Bool.eq_iff_iff.mpr ?_;simp only [Bool.and_eq_true,decide_eq_true_eq];omega
def qdp {w b:Nat} {xs:List Nat} {bs:List Int} (hb:b<=6) (hw:w<=5) (hbs:∀ n:Nat,(bs.any (·==(n:Int)))=xs.any λx=>(x:Int)==(n:Int)):∀ (j m:Nat) (ks:List Int) (d:PyData),Rw b ks->ks.length<w->w<ks.length+j->TrP m d ->
  qJ j [.int (w:Int),.int (b:Int),.list (bs.map PyData.int),.list (ks.map PyData.int),d]=some (.bool (brs b w xs j ks d)):=by
 intro j;induction j with
 |zero=>intro m ks d _ _ h _;omega
 |succ j ih=>
  intro m ks d hk hl hj ht;rw [RV];rcases jS ht with ⟨n,rfl⟩|⟨ds,rfl,hd,m',rfl,hm⟩
  ·try simp only [Pu.pwA,z7,YE,sIT]
  ·have lae:=qgH (t:=b) (ks:=ks) (λx hx=>(hk x hx).1) (by omega) (u3 (NW hk) (by omega)) (by omega);have cl:=qgc (b:=b) (ks:=ks);have hlen:((ds.length:Int)=la b ks+1)↔ds.length=chX b ks:=by omega
   by_cases c3:ds.length=chX b ks
   ·have e3:decide ((ds.length:Int)=la b ks+1)=true:=u8 (hlen.mpr c3);have e4:decide (ds.length=chX b ks)=true:=u8 c3;have hcx:=(qdM (b:=b) hk).1;have tw:=KA (t:=ks.length) (by omega)
    try simp only [Pu.pwA,z7,length_map,e3,lae,tw,sTT,qdB]
    unfold brs;rw [e4,TU];have st:∀ (i:Nat) (e:PyData),ds[i]?=some e->i<ds.length/\TrP m' e/\Rw b (ks++[(i:Int)]):=λi e h=>by
     have hi:=(za0 h).1;have e5:((2 ^ b:Nat):Int)=2 ^ b:=by simp
     refine ⟨hi,hm e (v9 h),λx hx=>?_⟩;rcases List.mem_append.mp hx with z|z
     ·exact hk x z
     ·obtain rfl:=List.mem_singleton.mp z;omega
    have ct:∀ i:Nat,TV (.list (ks.map PyData.int)) (.list [.int (i:Int)])=some (.list ((ks++[(i:Int)]).map PyData.int)):=λi=>by
     have mp:ks.map PyData.int++[PyData.int (i:Int)]=(ks++[(i:Int)]).map PyData.int:=by simp
     simp only [TV,mp];exact qU (by rw [length_map,List.length_singleton,y8];omega)
    have pw:=p2 (t:=ks.length) (by omega);have m2:cI VC (·*·) (.int 2) (.int (2 ^ ks.length))=some (.int (2*2 ^ ks.length)):=TZ (by omega);have ln:∀ i:Nat,(((ks++[(i:Int)]).length:Nat):Int)=(w:Int)↔(ks++[(i:Int)]).length=w:=λi=>by omega
    have isl_:∀ i n:Nat,isl (ks++[(i:Int)]) n=(decide ((2:Int) ^ ks.length<=(n:Int))&&decide ((n:Int)<2*2 ^ ks.length)&&decide (nm n (ks++[(i:Int)])=0)):=λi n=>by
     rcases qb6 (xs:=xs) (ks:=ks++[(i:Int)]) (n:=n) with h|h
     ·rw [h,length_append,List.length_singleton,Nat.add_sub_cancel]
     ·simp at h
    have ll:∀ i n:Nat,zl [.list ((ks++[(i:Int)]).map PyData.int),.int (n:Int)]=some (.int (nm n (ks++[(i:Int)]))):=λi n=>qmB (by simp;omega);cases hf:(ds.zipIdx 0).find? λp=>!arm xs w (ks++[(p.2:Int)]) (brs b w xs j) p.1 with
    |none=>
     have hn:=List.find?_eq_none.mp hf;refine je (Q:=λo=>j2 false o=_) (ds.zipIdx 0) (λi ρ=>∃ s6 s7 s8,ρ=[.sh (.int (w:Int)),.sh (.int (b:Int)),.sh (.list (bs.map PyData.int)),.sh (.list (ks.map PyData.int)),.sh (.tuple ds),.sh (.int (2 ^ ks.length)),s6,s7,s8]) ⟨_,_,_,rfl⟩ ?_ ?_
     ·rintro i p ρ hp ⟨s5,s6,s7,rfl⟩;have hp2:=hp;rw [List.getElem?_zipIdx] at hp;obtain ⟨e,he,rfl⟩:=u9 hp;have ok:arm xs w (ks++[(i:Int)]) (brs b w xs j) e=true:=by simpa using hn _ (v9 hp2)
      obtain ⟨hi,hte,hr⟩:=st i e he;unfold arm at ok;rcases jS hte with ⟨n,rfl⟩|⟨es,rfl,_⟩
      ·rw [YE,Bool.and_false,Bool.or_false,K9,Int.toNat_natCast,isl_] at ok;simp only [Bool.and_eq_true] at ok;obtain ⟨o1,⟨o2,o3⟩,o4⟩:=ok
       try simp only [Pu.pwA,Nat.zero_add,ct,sIT,qeN,U0,hbs,o1,m2,o2,o3,ll,o4]
       exact ⟨_,_,_,rfl⟩
      ·rw [WO,Bool.false_or] at ok;simp only [Bool.and_eq_true,decide_eq_true_eq] at ok;have o1:decide ((((ks++[(i:Int)]).length:Nat):Int)=(w:Int))=false:=u7 λz=>ok.1 ((ln i).mp z);have o2:=ih m' (ks++[(i:Int)]) (.tuple es) hr (by have:=ok.1;simp at this ⊢;omega) (by simp;omega) hte;rw [ok.2] at o2
       try simp only [Pu.pwA,Nat.zero_add,ct,sTT,length_map,o1,o2]
       exact ⟨_,_,_,rfl⟩
     ·rintro ρ ⟨s5,s6,s7,rfl⟩
      try simp only [Pu.pwA]
      try rfl
    |some p=>
     obtain ⟨hx,as,as2,e,ha⟩:=List.find?_eq_some_iff_append.mp hf;have at_:(ds.zipIdx 0)[as.length]?=some p:=by rw [e];simp
     have at2:=at_;rw [List.getElem?_zipIdx] at at2;obtain ⟨d0,hd0,rfl⟩:=u9 at2;refine WR (Q:=λo=>j2 false o=_) (ds.zipIdx 0) as.length _ (.bool false) false at_ (λi ρ=>∃ s6 s7 s8,ρ=[.sh (.int (w:Int)),.sh (.int (b:Int)),.sh (.list (bs.map PyData.int)),.sh (.list (ks.map PyData.int)),.sh (.tuple ds),.sh (.int (2 ^ ks.length)),s6,s7,s8]) ⟨_,_,_,rfl⟩ ?_ ?_ rfl
     ·rintro i p ρ hin hp ⟨s5,s6,s7,rfl⟩;have ok0:p∈as:=by
       rw [e,List.getElem?_append_left hin] at hp;exact v9 hp
      rw [List.getElem?_zipIdx] at hp;obtain ⟨e',he,rfl⟩:=u9 hp;have ok:arm xs w (ks++[(i:Int)]) (brs b w xs j) e'=true:=by simpa using ha _ ok0
      obtain ⟨hi,hte,hr⟩:=st i e' he;unfold arm at ok;rcases jS hte with ⟨n,rfl⟩|⟨es,rfl,_⟩
      ·rw [YE,Bool.and_false,Bool.or_false,K9,Int.toNat_natCast,isl_] at ok;simp only [Bool.and_eq_true] at ok;obtain ⟨o1,⟨o2,o3⟩,o4⟩:=ok
       try simp only [Pu.pwA,Nat.zero_add,ct,sIT,qeN,U0,hbs,o1,m2,o2,o3,ll,o4]
       exact ⟨_,_,_,rfl⟩
      ·rw [WO,Bool.false_or] at ok;simp only [Bool.and_eq_true,decide_eq_true_eq] at ok;have o1:decide ((((ks++[(i:Int)]).length:Nat):Int)=(w:Int))=false:=u7 λz=>ok.1 ((ln i).mp z);have o2:=ih m' (ks++[(i:Int)]) (.tuple es) hr (by have:=ok.1;simp at this ⊢;omega) (by simp;omega) hte;rw [ok.2] at o2
       try simp only [Pu.pwA,Nat.zero_add,ct,sTT,length_map,o1,o2]
       exact ⟨_,_,_,rfl⟩
     ·rintro ρ ⟨s5,s6,s7,rfl⟩;have no:arm xs w (ks++[(as.length:Int)]) (brs b w xs j) d0=false:=by simpa using hx
      obtain ⟨hi,hte,hr⟩:=st as.length d0 hd0;unfold arm at no;rcases jS hte with ⟨n,rfl⟩|⟨es,rfl,_⟩
      ·rw [YE,Bool.and_false,Bool.or_false,K9,Int.toNat_natCast,isl_] at no
       try simp only [Pu.pwA,Nat.zero_add,ct,sIT,qeN,U0,hbs,m2,ll]
       cases o1:xs.any λx=>(x:Int)==(n:Int) with
       |false=>try simp only [Pu.pwA]
       |true=>
        rw [o1,Bool.true_and] at no;cases o2:decide ((2:Int) ^ ks.length<=(n:Int)) with
        |false=>try simp only [Pu.pwA,o2]
        |true=>
         cases o3:decide ((n:Int)<2*2 ^ ks.length) with
         |false=>try simp only [Pu.pwA,o2,o3]
         |true=>
          rw [o2,o3] at no;simp only [Bool.true_and] at no
          try simp only [Pu.pwA,o2,o3,no,m2,ll]
      ·rw [WO,Bool.false_or] at no;by_cases c:(ks++[(as.length:Int)]).length=w
       ·have o1:decide ((((ks++[(as.length:Int)]).length:Nat):Int)=(w:Int))=true:=u8 ((ln _).mpr c)
        try simp only [Pu.pwA,Nat.zero_add,ct,sTT,length_map,o1]
       ·have o1:decide ((((ks++[(as.length:Int)]).length:Nat):Int)=(w:Int))=false:=u7 λz=>c ((ln _).mp z);have o2:=ih m' (ks++[(as.length:Int)]) (.tuple es) hr (by simp at c ⊢;omega) (by simp;omega) hte;rw [u8 c,Bool.true_and] at no;rw [no] at o2
        try simp only [Pu.pwA,Nat.zero_add,ct,sTT,length_map,o1,o2]
   ·have e3:decide ((ds.length:Int)=la b ks+1)=false:=u7 (λz=>c3 (hlen.mp z));have e4:decide (ds.length=chX b ks)=false:=u7 c3
    try simp only [Pu.pwA,z7,length_map,e3,e4,lae,sTT,brs]
def KP (x:Int):Builtin.bitXor x 0=x:=by
 have r:=PyProof.Rows.bitAnd_range x (show (0:Int)<=0 by omega);rw [PyProof.Rows.bitXor_and];omega
def qeb {x:Nat} {ks:List Int} {i:Int} (h:x<2 ^ ks.length):nm x (ks++[i])=nm x ks:=by
 rw [zR,Nat.div_eq_of_lt h];simp [KP]
def qg5 {b:Nat} {ks:List Int}:chX b ks<=2 ^ b:=by
 have c:=V3 (b:=b) (ks:=ks);have h3:((2 ^ b:Nat):Int)=2 ^ b:=by simp
 unfold chX;omega
def qmr {w j:Nat} {ch:List Int->Nat} {br:List Int->PyData} {ks:List Int} (h:ks.length=w):(sr w ch br (j+1) ks).1=true:=by
 rw [sr,if_pos h]
theorem qaA {w b:Nat} {xs:List Nat} (hb:b<=9):∀ (m j:Nat) (ks:List Int),ks.length+m=w->m<j->(sr w (chX b) (brX xs) j ks).1=false ->
  TrP m (sr w (chX b) (brX xs) j ks).2/\brs b w xs j ks (sr w (chX b) (brX xs) j ks).2=true
 |0,j+1,ks,hk,_,h=>by rw [qmr (by omega)] at h;cases h
 |m+1,j+1,ks,hk,hj,h=>by
  have c:¬ ks.length=w:=by omega
  have pb:2 ^ b<=2 ^ 9:=Nat.pow_le_pow_right (by omega) hb;have cb:=qg5 (b:=b) (ks:=ks);rw [sr,if_neg c] at h ⊢;cases hf:(List.range (chX b ks)).find? (λi:Nat=>JF (brX xs (ks++[(i:Int)]))&&(sr w (chX b) (brX xs) j (ks++[(i:Int)])).1) with
  |some i=>rw [hf] at h;cases h
  |none=>
   have hn:=List.find?_eq_none.mp hf;have key:∀ i,i<chX b ks->TrP m (pap w (chX b) (brX xs) j ks i)/\arm xs w (ks++[(i:Int)]) (brs b w xs j) (pap w (chX b) (brX xs) j ks i)=true:=λi hi=>by
    have n1:=hn i (mem_range.mpr hi);unfold pap arm;cases hz:JF (brX xs (ks++[(i:Int)])) with
    |true=>
     rw [hz,Bool.true_and,Bool.not_eq_true] at n1;have ne:(ks++[(i:Int)]).length≠w:=λz=>by
      obtain ⟨j',rfl⟩:∃ j',j=j'+1:=⟨j-1,by omega⟩
      rw [qmr z] at n1;cases n1
     have ih:=qaA hb m j (ks++[(i:Int)]) (by simp;omega) (by omega) n1;rw [if_pos rfl];exact ⟨ih.1,by rw [ih.2,u8 ne];simp⟩
    |false=>
     rw [if_neg (by simp)];unfold brX at hz ⊢;cases hf:xs.find? (isl (ks++[(i:Int)])) with
     |none=>rw [hf] at hz;cases hz
     |some x=>
      refine ⟨?_,?_⟩
      ·cases m with
       |zero=>exact ⟨x,rfl⟩
       |succ m=>exact .inl ⟨x,rfl⟩
      ·have e1:=List.find?_some hf;have e2:=List.mem_of_find?_eq_some hf;show (xs.any (λy=>(y:Int)==(x:Int))&&isl (ks++[(i:Int)]) (x:Int).toNat||_)=true;rw [Int.toNat_natCast,e1,List.any_eq_true.mpr ⟨x,e2,by simp⟩];rfl
   refine ⟨.inr ⟨_,rfl,by rw [length_map,length_range];omega,λe he=>?_⟩,?_⟩
   ·obtain ⟨i,hi,rfl⟩:=mem_map.mp he;exact (key i (mem_range.mp hi)).1
   ·unfold brs;rw [length_map,length_range,u8 rfl,Bool.true_and,List.all_eq_true];intro p hp;obtain ⟨q,hq⟩:=List.mem_iff_getElem?.mp hp;rw [List.getElem?_zipIdx,getElem?_map] at hq;obtain ⟨a,ha,rfl⟩:=u9 hq;obtain ⟨i,hi,rfl⟩:=u9 ha;obtain ⟨h1,h2⟩:=za0 hi;rw [List.getElem_range] at h2;subst h2;rw [length_range] at h1;simp only [Nat.zero_add];exact (key _ h1).2
theorem NB {b:Nat} {xs:List Nat}:∀ {t:Nat} {r:List Int},r∈lv (stp (chX b) (brX xs)) t->r.length=t/\Rw b r/\∀ x∈xs,0<x->x<2 ^ t->nm x r≠0
 |0,r,h=>by
  unfold lv at h;obtain rfl:=List.mem_singleton.mp h;exact ⟨rfl,λm hm=>(by cases hm),λx _ h1 h2=>by omega⟩
 |t+1,r,h=>by
  unfold lv at h;obtain ⟨q,hq,hr⟩:=List.mem_flatMap.mp h;obtain ⟨h1,h2,h3⟩:=NB hq;unfold stp at hr;obtain ⟨i,hi,rfl⟩:=mem_map.mp hr;obtain ⟨hi,hn⟩:=List.mem_filter.mp hi;have hi:=mem_range.mp hi;have hc:=qg5 (b:=b) (ks:=q);have e1:((2 ^ b:Nat):Int)=2 ^ b:=by simp
  rw [qb1,List.all_eq_true] at hn;refine ⟨by simp [h1],λm hm=>?_,λx hx p0 p1 z=>?_⟩
  ·rcases List.mem_append.mp hm with z|z
   ·exact h2 m z
   ·obtain rfl:=List.mem_singleton.mp z;omega
  ·by_cases c:x<2 ^ t
   ·rw [qeb (by rw [h1];exact c)] at z;exact h3 x hx p0 c z
   ·have:=hn x hx;have b1:=XE (x:=x) (b:=t);have b2:=XE (x:=x) (b:=t+1);unfold isl at this;rw [z,length_append,List.length_singleton,h1,u8 (show (Builtin.Int.intBits (x:Int):Int)=((t+1:Nat):Int) by omega)] at this;simp at this
theorem MM (a b:Nat):∀ (j:Nat) {ks:List Int},ks.length=j->(∀ m∈ks,0<=m)->nm (a ^^^ b) ks=Builtin.bitXor (nm a ks) (nm b ks)
 |0,ks,h,_=>by have:=List.length_eq_zero_iff.mp h;subst this;exact (PyProof.Rows.bitXor_self 0).symm
 |j+1,ks,h,hk=>by
  obtain ⟨r,m,rfl,hl⟩:=zV h;have hr:∀ x∈r,0<=x:=λx hx=>hk x (by simp [hx]);have m0:0<=m:=hk m (by simp);have A:=LU a j hl hr;have B:=LU b j hl hr;have ih:=MM a b j hl hr;rw [zR,zR,zR,ih];have e:(a ^^^ b)/2 ^ r.length%2=(a/2 ^ r.length%2+b/2 ^ r.length%2)%2:=by
   rw [Nat.xor_div_two_pow];have q:=Nat.xor_mod_two_pow (a:=a/2 ^ r.length) (b:=b/2 ^ r.length) (n:=1);rw [Nat.pow_one] at q;rw [q];rcases Nat.mod_two_eq_zero_or_one (a/2 ^ r.length) with ha|ha<;>rcases Nat.mod_two_eq_zero_or_one (b/2 ^ r.length) with hb|hb<;>rw [ha,hb]<;>rfl
  rw [e];generalize nm a r=X at *;generalize nm b r=Y at *;rcases Nat.mod_two_eq_zero_or_one (a/2 ^ r.length) with ha|ha<;>rcases Nat.mod_two_eq_zero_or_one (b/2 ^ r.length) with hb|hb<;>rw [ha,hb]
  ·simp [KP]
  ·simp only [Nat.zero_add,Int.natCast_zero,Int.mul_zero,KP];rw [show (1%2:Nat)=1 from rfl,show ((1:Nat):Int)=1 from rfl,Int.mul_one];exact xor_assoc A B m0
  ·simp only [Nat.add_zero,Int.natCast_zero,Int.mul_zero,KP];rw [show (1%2:Nat)=1 from rfl,show ((1:Nat):Int)=1 from rfl,Int.mul_one,jj X Y,xor_assoc B A m0,jj Y]
  ·rw [show ((1+1)%2:Nat)=0 from rfl];simp only [Int.natCast_zero,Int.mul_zero,KP];rw [show ((1:Nat):Int)=1 from rfl,Int.mul_one];have e2:Builtin.bitXor (Builtin.bitXor X m) (Builtin.bitXor Y m)=Builtin.bitXor X (Builtin.bitXor m (Builtin.bitXor Y m)):=xor_assoc A m0 (jT B m0).1;rw [e2,jj m,WF B m0]
def qj9 {r:List Int} (hr:∀ m∈r,0<=m):∀ (n:Nat) (ks:List Int),ks.length=n->(∀ m∈ks,0<=m)->(fl ks).map (λx=>nm x.toNat r)=fl (ks.map λx=>nm x.toNat r):=by
 intro n;induction n with
 |zero=>
  intro ks h _;have:=List.eq_nil_of_length_eq_zero h;subst this;have:nm 0 r=0:=by
   have:=MM 0 0 r.length rfl hr;rw [PyProof.Rows.bitXor_self] at this;exact this
  simp [fl,this]
 |succ n ih=>
  intro ks h hm;obtain ⟨k',m,rfl,hl⟩:=zV h;have hm':∀ z∈k',0<=z:=λz hz=>hm z (by simp [hz]);rw [List.map_append,map_cons,List.map_nil,jd,jd,List.map_append,ih k' hl hm'];congr 1;rw [← ih k' hl hm',map_map,map_map];refine List.map_congr_left λf hf=>?_;have f0:=C9 n k' hl hm' f hf;have m0:=hm m (by simp);have:=MM f.toNat m.toNat r.length rfl hr;have e:Builtin.bitXor f m=((f.toNat ^^^ m.toNat:Nat):Int):=by
   rw [← UP,Int.toNat_of_nonneg f0,Int.toNat_of_nonneg m0]
  show nm (Builtin.bitXor f m).toNat r=_;rw [e,Int.toNat_natCast,this];rfl
theorem pig:∀ (n:Nat) (L:List Int),L.Nodup->(∀ x∈L,0<=x/\x<(n:Int))->L.length<=n
 |0,L,_,h=>by
  cases L with
  |nil=>exact v5 _
  |cons x r=>have:=h x (by simp);omega
 |n+1,L,hd,h=>by
  by_cases c:(n:Int)∈L
  ·have e:=List.length_erase_of_mem c;have:=pig n (L.erase (n:Int)) (hd.erase _) λx hx=>by
    have m:=(hd.mem_erase_iff).mp hx;have:=h x m.2;have:=m.1;omega
   omega
  ·have:=pig n L hd λx hx=>by
    have:=h x hx;have ne:x≠(n:Int):=λz=>c (z▸hx);omega
   omega
theorem qhT {b:Nat} (x:Nat):∀ (j:Nat) {ks:List Int},ks.length=j->Rw b ks->0<=nm x ks/\nm x ks<2 ^ b
 |0,ks,h,_=>by have:=List.length_eq_zero_iff.mp h;subst this;exact ⟨Int.le_refl 0,Int.pow_pos (by omega)⟩
 |j+1,ks,h,hk=>by
  obtain ⟨r,m,rfl,hl⟩:=zV h;have ih:=qhT x j hl λy hy=>hk y (by simp [hy]);have hm:=hk m (by simp);rw [zR];have p:(0:Int)<2 ^ b:=Int.pow_pos (by omega);rcases Nat.mod_two_eq_zero_or_one (x/2 ^ r.length) with ha|ha<;>rw [ha]
  ·simpa [KP] using ih
  ·rw [show ((1:Nat):Int)=1 from rfl,Int.mul_one];exact ⟨(jT ih.1 hm.1).1,NE b _ _ ih.1 ih.2 hm.1 hm.2⟩
def qmV {w b:Nat} {s r:List Int} (hs:Spn w s) (hr:Rw b r) (h:∀ x∈(fl s).drop 1,nm x.toNat r≠0):s.length<=b:=by
 have s0:∀ m∈s,0<=m:=λm hm=>(hs.2.1 m hm).1;have r0:∀ m∈r,0<=m:=λm hm=>(hr m hm).1;have e:=qj9 r0 s.length s rfl s0;have t0:∀ m∈s.map (λx=>nm x.toNat r),0<=m:=λm hm=>by
  obtain ⟨x,_,rfl⟩:=mem_map.mp hm;exact LU _ r.length rfl r0
 have nd:(fl (s.map λx=>nm x.toNat r)).Nodup:=Classical.byContradiction λc=>by
  obtain ⟨i,hi,hz⟩:=qgl s.length _ (by simp) t0 c;rw [← e,getElem?_map] at hz;obtain ⟨x,hx,z⟩:=u9 hz;refine h x ?_ z;obtain ⟨i',rfl⟩:∃ i',i=1+i':=⟨i-1,by omega⟩
  exact v9 (by rw [List.getElem?_drop];exact hx)
 have p:=pig (2 ^ b) _ nd λx hx=>by
  rw [← e] at hx;obtain ⟨y,_,rfl⟩:=mem_map.mp hx;have:=qhT y.toNat r.length rfl hr;have h3:((2 ^ b:Nat):Int)=2 ^ b:=by simp
  omega
 rw [V6 s.length _ (by simp)] at p;exact (Nat.pow_le_pow_iff_right (by omega)).mp p
def qk8 {k:Nat}:∀ (n:Nat) (ks:List Int),ks.length=n->(∀ m∈ks,0<=m/\m<2 ^ k)->∀ f∈fl ks,f<2 ^ k:=by
 intro n;induction n with
 |zero=>
  intro ks h _ f hf;have:=List.eq_nil_of_length_eq_zero h;subst this;simp [fl] at hf;subst hf;exact Int.pow_pos (by omega)
 |succ n ih=>
  intro ks h hm f hf;obtain ⟨k',m,rfl,hl⟩:=zV h;have hm':∀ z∈k',0<=z/\z<2 ^ k:=λz hz=>hm z (by simp [hz]);rw [jd] at hf;rcases List.mem_append.mp hf with hf|hf
  ·exact ih k' hl hm' f hf
  ·obtain ⟨g,hg,rfl⟩:=mem_map.mp hf;have m0:=hm m (by simp);exact NE k g m (C9 n k' hl (λz hz=>(hm' z hz).1) g hg) (ih k' hl hm' g hg) m0.1 m0.2
def qlq {w:Nat} {ss:List (List Int)} (hw:w<=8) (hs:∀ s∈ss,Spn w s):∀ x∈aw ss,0<x/\x<2 ^ w:=by
 intro x hx;obtain ⟨s,h,hm⟩:=List.mem_flatMap.mp hx;obtain ⟨h1,h2,h3⟩:=hs s h;have nn:=C9 s.length s rfl (λm hm=>(h2 m hm).1) x (List.mem_of_mem_drop hm);have ne:=h3 x hm;exact ⟨by omega,by
  have:=qk8 (k:=w) s.length s rfl h2 x (List.mem_of_mem_drop hm);exact this⟩
def MF {ss:List (List Int)} (h:∀ x∈aw ss,0<=x):(axs ss).map (λx:Nat=>PyData.int (x:Int))=(aw ss).map PyData.int:=by
 unfold axs;rw [map_map];refine List.map_congr_left λx hx=>?_;show PyData.int ((x.toNat:Nat):Int)=_;rw [Int.toNat_of_nonneg (h x hx)]
def qnf {w b:Nat} {ss:List (List Int)} (hw:w<=5) (hb:b<=9) (h:Sps ss) (hx:∀ x∈aw ss,0<=x):qM [.int (w:Int),.int (b:Int),spd ss]=some (imd (sr w (chX b) (brX (axs ss)) 6 [])):=
 qmN (xs:=axs ss) hw hb (by rw [qmh h,MF hx]) λp hp=>by rw [← hp];exact N7 (λks=>qaq) 6 []
def N8 {w b m:Nat} {ss:List (List Int)} {d:PyData} (h1:1<=w) (hw:w<=5) (hb:b<=9) (h:Sps ss) (hx:∀ x∈aw ss,0<=x) (ht:TrP m d):qC [.int (w:Int),.int (b:Int),spd ss,d]=some (.bool (brs b w (axs ss) 6 [] d)):=by
 have A:=qjd (w:=w) (b:=b) (xs:=axs ss) hb (by omega) 6 m [] d (λm hm=>by cases hm) (Nat.zero_le _) (by simp;omega) ht;rw [MF hx,List.map_nil] at A;rw [u8 (show ([]:List Int).length≠w by simp;omega),Bool.true_and] at A;rw [YF];unfold zq;have nb:noC (.bool (brs b w (axs ss) 6 [] d))=true:=qdT
 try simp only [Pu.pwA,qmh h,qd1,qbG,A,nb]
 try (rw [if_pos nb];try simp only [Pu.pwA])
def qhd {ss:List (List Int)} (hx:∀ x∈aw ss,0<=x) (n:Nat):((bd ss).any (·==(n:Int)))=(axs ss).any λx=>(x:Int)==(n:Int):=by
 refine Bool.eq_iff_iff.mpr ?_;rw [List.any_eq_true,List.any_eq_true];constructor
 ·rintro ⟨x,h1,h2⟩;have h3:=SR.mp h1;exact ⟨x.toNat,List.mem_map_of_mem h3,by rw [Int.toNat_of_nonneg (hx x h3)];exact h2⟩
 ·rintro ⟨x,h1,h2⟩;obtain ⟨y,h3,rfl⟩:=mem_map.mp h1;rw [Int.toNat_of_nonneg (hx y h3)] at h2;exact ⟨y,SR.mpr h3,h2⟩
def qfR {j:Nat} {n:Bool} {d:PyData} {s:Str} (h:TrP j d) (hj:j<=30):eqD n (.tuple [.str s,d]) (.tuple [.str s,d])=some (.bool (if n then false else true)):=by
 have h0:qaZ (.tuple [.str s,d]) (.tuple [.str s,d])=none:=rfl;unfold eqD;rw [h0];simp only;have:=qdA h;rw [qU (by simp [dpt,qba];omega)];have e:zx (.tuple [.str s,d]) (.tuple [.str s,d])=some true:=by simp [zx,ZF,qgY h]
 rw [e];cases n<;>rfl
def qhL:∀ k:Nat,k<=60->qbg.w [.un,.sh (.int k),.un,.un,.un,.un,.un,.un,.un,.un,.un] 0 okW:=by
 intro k hk;unfold qbg;refine EO λY1 h1=>?_
 try simp only [Pu.pwA]
 refine qlJ (by omega) λw b0 ss w1 w5 b5 ls hs=>?_;have hS:Sps ss:=⟨ls,λs h=>⟨(hs s h).1,λm hm=>((hs s h).2.1 m hm).1⟩⟩
 have hx:=qlq (by omega) hs;have x0:∀ x∈aw ss,0<=x:=λx h=>by have:=hx x h;omega
 have xp:∀ x∈aw ss,0<x:=λx h=>(hx x h).1;have es:spd ss=.list (ss.map rwd):=rfl
 try simp only [Pu.pwA]
 rw [h1];clear h1;refine EO λY2 h2=>?_
 try simp only [Pu.pwA,es]
 have lens:(PyData.list [.int 0]:PyData)=.list (([0]:List Int).map PyData.int):=rfl;have mo:∃ mn:Nat,mx (0::ss.map λs=>(s.length:Int))=(mn:Int)/\mn<=3/\(∀ s∈ss,s.length<=mn)/\(mn=0\/∃ s∈ss,s.length=mn):=by
  have h1:mx (0::ss.map λs=>(s.length:Int))∈0::ss.map λs=>(s.length:Int):=YV (by simp);have h0:0<=mx (0::ss.map λs=>(s.length:Int)):=X9 (by simp);have hl:∀ s∈ss,(s.length:Int)<=mx (0::ss.map λs=>(s.length:Int)):=λs hs=>X9 (v6 _ (mem_map.mpr ⟨s,hs,rfl⟩));generalize mx (0::ss.map λs=>(s.length:Int))=v at h1 h0 hl ⊢;refine ⟨v.toNat,by omega,?_,λs hs=>by have:=hl s hs;omega,?_⟩
  ·rcases mem_cons.mp h1 with z|z
   ·omega
   ·obtain ⟨s,h,e⟩:=mem_map.mp z;have:=(hs s h).1;omega
  ·rcases mem_cons.mp h1 with z|z
   ·left;omega
   ·obtain ⟨s,h,e⟩:=mem_map.mp z;right;exact ⟨s,h,by omega⟩
 obtain ⟨mn,em,m3,ml,me⟩:=mo;rw [SU (ds:=ss.map rwd) (fs:=(ss.map λs=>(s.length:Int)).map PyData.int) (by try simp only [Pu.pwA]) (by
  rw [map_map];exact V1 λs hs'=>by try simp only [Pu.pwA,N0,rwd,length_map,Function.comp_def]) (by simp;omega)]
 have ct:TV (.list [.int 0]) (.list ((ss.map λs=>(s.length:Int)).map PyData.int))=some (.list ((0::ss.map λs=>(s.length:Int)).map PyData.int)):=by
  rw [lens,qdz (by simp;omega)];rfl
 have ex:mxD [.list ((0::ss.map λs=>(s.length:Int)).map PyData.int)]=some (.int (mn:Int)):=by rw [qhj (by simp),em]
 try simp only [Pu.pwA,ct,ex]
 rw [h2];clear h2;refine EO λY3 h3=>?_
 try simp only [Pu.pwA]
 refine ⟨⟨by omega,by omega⟩,by omega,λd d0 d1=>⟨⟨by omega,by omega⟩,by omega,λe e0 e1=>?_⟩⟩;obtain ⟨b,hb,b4⟩:∃ b:Nat,((if (mn:Int)-d > 0 then (mn:Int)-d else 0)+if decide (e=0)=true then 1 else 0)=(b:Int)/\b<=4:=by
  refine ⟨((if (mn:Int)-d > 0 then (mn:Int)-d else 0)+if decide (e=0)=true then 1 else 0).toNat,?_,?_⟩<;>(split<;>split<;>omega)
 rw [hb,h3];clear h3 hb;refine EO λY4 h4=>?_;have im:=qnf (w:=w) (b:=b) w5 (by omega) hS x0;have fb:=qk7 hS;rw [es] at im fb
 try simp only [Pu.pwA,im,imd]
 rw [h4];clear h4;have tl:=qhF (many:=w) (ch:=chX b) (br:=brX (axs ss)) w 6 [] (Nat.zero_add _) (by omega);have tr:=qaA (w:=w) (b:=b) (xs:=axs ss) (by omega) w 6 [] (Nat.zero_add _) (by omega);rw [qkD] at tl;have lm:=λr h=>NB (b:=b) (xs:=axs ss) (t:=w) (r:=r) h;generalize sr w (chX b) (brX (axs ss)) 6 []=r at tl tr im ⊢;obtain ⟨f,t⟩:=r;cases f with
 |false=>
  obtain ⟨t1,t2⟩:=tr rfl;simp only at t1 t2;obtain ⟨td,rfl⟩:∃ td,t=.tuple td:=by
   rcases jS t1 with ⟨n,rfl⟩|⟨td,rfl,_⟩
   ·rw [YE] at t2;cases t2
   ·exact ⟨td,rfl⟩
  have bm:=qhd x0;have B1:=qdp (w:=w) (b:=b) (xs:=axs ss) (bs:=bd ss) (by omega) w5 bm 6 w [] (.tuple td) (λm hm=>by cases hm) (by simp;omega) (by simp;omega) t1;have B2:=qdp (w:=w) (b:=b+1) (xs:=axs ss) (bs:=bd ss) (by omega) w5 bm 6 w [] (.tuple td) (λm hm=>by cases hm) (by simp;omega) (by simp;omega) t1;have S1:=N8 (w:=w) (b:=b) w1 w5 (by omega) hS x0 t1;have S2:=N8 (w:=w) (b:=b+1) w1 w5 (by omega) hS x0 t1;rw [es] at S1 S2;rw [t2] at B1 S1;rw [List.map_nil] at B1 B2;rw [show ((b+1:Nat):Int)=(b:Int)+1 by omega] at B2 S2;have e2:decide (Str.ofString "none" = Str.ofString "none")=true:=u8 rfl;have e5:eqD false (.str "none") (.str "none")=some (.bool true):=by first|rfl|simp [eqD,qaZ]
  have sc1:∀ ds:List PyData,XH (.list ds)=false:=λ_=>rfl;have sc2:∀ ds:List PyData,XH (.tuple ds)=false:=λ_=>rfl;have q1:=λn=>qfR (n:=n) (s:="none") t1 (by omega)
  try simp only [Pu.pwA,e2,fb,qjy,sc1,sc2,B1,S1]
  rw [if_neg (by decide)];rw [SU (ds:=ss.map rwd) (fs:=ss.map rwd) (by try simp only [Pu.pwA]) (V1 λs hs'=>by try simp only [Pu.pwA,N0,rwd]) (by simp;omega)];have im2:qM [.int (w:Int),.int (b:Int),.list (ss.map rwd)]=some (.tuple [.str "none",.tuple td]):=im;generalize brs (b+1) w (axs ss) 6 [] (.tuple td)=g at B2 S2;have e6:eqD true (.bool g) (.bool g)=some (.bool false):=by cases g<;>rfl
  try simp only [Pu.pwA,im2,q1]
  refine ⟨_,B2,?_⟩
  try simp only [Pu.pwA,S2,e6]
 |true=>
  have t1:true=(lv (stp (chX b) (brX (axs ss))) w).head?.isSome:=tl.1;obtain ⟨r0,hr0⟩:∃ r0,(lv (stp (chX b) (brX (axs ss))) w).head?=some r0:=by
   cases h:(lv (stp (chX b) (brX (axs ss))) w).head? with
   |none=>rw [h] at t1;cases t1
   |some r0=>exact ⟨r0,rfl⟩
  have t2:=tl.2 r0 hr0;simp only at t2;subst t2;obtain ⟨l1,l2,l3⟩:=lm r0 (List.mem_of_mem_head? hr0);have nz:∀ x∈aw ss,nm x.toNat r0≠0:=λx h=>by
   have h1:=hx x h;have h3:((2 ^ w:Nat):Int)=2 ^ w:=by simp
   exact l3 x.toNat (List.mem_map_of_mem h) (by omega) (by omega)
  have nb:decide ((b:Int)<(mn:Int))=false:=u7 λz=>by
   rcases me with me|⟨s,h,me⟩
   ·omega
   ·have:=qmV (hs s h) l2 λx hx'=>nz x (List.mem_flatMap.mpr ⟨s,h,hx'⟩);omega
  have lb:=qah (aw ss);have la:=X6 ls λs hs'=>(hs s hs').1;have sv:=qm2 (ks:=r0) (xs:=bd ss) (by omega) (λx hx'=>by have:=hx x (SR.mp hx');omega) (by unfold bd;rw [(DS _).length_eq];omega);rw [show ((bd ss).all λx=>!decide (nm x.toNat r0=0))=true from List.all_eq_true.mpr λx hx'=>by
   rw [u7 (nz x (SR.mp hx'))];rfl] at sv
  have e2:decide (Str.ofString "image" = Str.ofString "none")=false:=by decide
  try simp only [Pu.pwA,e2,fb,nb,sv]
end K47
namespace K47
open PySem L2 L3 Bk
def Kf (P:Params):PySem.W.Frag:=[(3,Hd.oM P 35 "law_bankwalk_k47_papers_of_no_image" 318 [(.str "is_number" 195,.ref 21),(.str "searched" 212,.ref 28),(.str "flips" 220,.ref 33),(.str "led_to" 233,.ref 40),(.str "span_flips" 239,.ref 45),(.str "image_choices" 248,.ref 52),(.str "is_led_to_0" 256,.ref 59),(.str "first_led_to_0" 265,.ref 66),(.str "image_for" 278,.ref 73),(.str "is_tree" 294,.ref 80),(.str "is_lost" 305,.ref 87),(.str "shows_no_image" 317,.ref 94),(.str "_law_mix" 328,.ref 101),(.str "_law_left" 338,.ref 108),(.str "_law_pick" 347,.ref 115),(.str "_law_two" 354,.ref 122),(.str "_law_flips" 366,.ref 129),(.str "_law_spans" 379,.ref 136),(.str "_law_bad" 388,.ref 143),(.str "_law_led" 399,.ref 150),(.str "_law_last" 409,.ref 157),(.str "_law_serves" 415,.ref 162),(.str "_law_lot" 423,.ref 169),(.str "_law_bars" 438,.ref 176),(.str "_law_whole" 445,.ref 183),(.str "law" 451,.ref 188)]),
 (20,Hd.oC [.str "is_number" 189,.str "is_number" 190,.str "/claim/cut.py" 191,.int (2) 0,.int (1) 0,.int (0) 0,.int (0) 0,.int (3) 0,.ref 15,.bool true,.int (181) 0,.ref 16,.none,.ref 17,.ref 18,.ref 19,.int (193) 0,.int (2) 0,.str "/claim/cut.py" 194]),
 (21,Hd.oF "is_number" jm (.str "bankwalk.basics" 187) (.ref 20)),
 (27,Hd.oC [.str "searched" 198,.str "searched" 199,.str "/claim/cut.py" 200,.int (5) 0,.int (4) 0,.int (0) 0,.int (0) 0,.int (3) 0,.ref 22,.bool true,.int (181) 0,.ref 23,.none,.ref 24,.ref 25,.ref 26,.int (210) 0,.int (5) 0,.str "/claim/cut.py" 211]),
 (28,Hd.oF "searched" QE (.str "bankwalk.anyhow" 196) (.ref 27)),
 (32,Hd.oC [.str "flips" 215,.str "flips" 216,.str "/claim/cut.py" 217,.int (19) 0,.int (1) 0,.int (0) 0,.int (0) 0,.int (3) 0,.ref 29,.bool true,.int (181) 0,.ref 30,.none,.none,.none,.ref 31,.int (218) 0,.int (19) 0,.str "/claim/cut.py" 219]),
 (33,Hd.oF "flips" VI (.str "bankwalk.flips" 213) (.ref 32)),
 (39,Hd.oC [.str "led_to" 223,.str "led_to" 224,.str "/claim/cut.py" 225,.int (25) 0,.int (2) 0,.int (0) 0,.int (0) 0,.int (3) 0,.ref 34,.bool true,.int (181) 0,.ref 35,.none,.ref 36,.ref 37,.ref 38,.int (231) 0,.int (25) 0,.str "/claim/cut.py" 232]),
 (40,Hd.oF "led_to" Z7 za3 (.ref 39)),
 (44,Hd.oC [.str "span_flips" 234,.str "span_flips" 235,.str "/claim/cut.py" 236,.int (31) 0,.int (1) 0,.int (0) 0,.int (0) 0,.int (3) 0,.ref 41,.bool true,.int (181) 0,.ref 42,.none,.none,.none,.ref 43,.int (237) 0,.int (31) 0,.str "/claim/cut.py" 238]),
 (45,Hd.oF "span_flips" z5 za3 (.ref 44)),
 (51,Hd.oC [.str "image_choices" 240,.str "image_choices" 241,.str "/claim/cut.py" 242,.int (33) 0,.int (2) 0,.int (0) 0,.int (0) 0,.int (3) 0,.ref 46,.bool true,.int (181) 0,.ref 47,.none,.ref 48,.ref 49,.ref 50,.int (246) 0,.int (33) 0,.str "/claim/cut.py" 247]),
 (52,Hd.oF "image_choices" zn za3 (.ref 51)),
 (58,Hd.oC [.str "is_led_to_0" 249,.str "is_led_to_0" 250,.str "/claim/cut.py" 251,.int (36) 0,.int (2) 0,.int (0) 0,.int (0) 0,.int (3) 0,.ref 53,.bool true,.int (181) 0,.ref 54,.none,.ref 55,.ref 56,.ref 57,.int (254) 0,.int (36) 0,.str "/claim/cut.py" 255]),
 (59,Hd.oF "is_led_to_0" zO za3 (.ref 58)),
 (65,Hd.oC [.str "first_led_to_0" 257,.str "first_led_to_0" 258,.str "/claim/cut.py" 259,.int (38) 0,.int (2) 0,.int (0) 0,.int (0) 0,.int (3) 0,.ref 60,.bool true,.int (181) 0,.ref 61,.none,.ref 62,.ref 63,.ref 64,.int (263) 0,.int (38) 0,.str "/claim/cut.py" 264]),
 (66,Hd.oF "first_led_to_0" zf za3 (.ref 65)),
 (72,Hd.oC [.str "image_for" 266,.str "image_for" 267,.str "/claim/cut.py" 268,.int (43) 0,.int (3) 0,.int (0) 0,.int (0) 0,.int (3) 0,.ref 67,.bool true,.int (181) 0,.ref 68,.none,.ref 69,.ref 70,.ref 71,.int (276) 0,.int (43) 0,.str "/claim/cut.py" 277]),
 (73,Hd.oF "image_for" ju za3 (.ref 72)),
 (79,Hd.oC [.str "is_tree" 281,.str "is_tree" 282,.str "/claim/cut.py" 283,.int (52) 0,.int (5) 0,.int (0) 0,.int (0) 0,.int (3) 0,.ref 74,.bool true,.int (181) 0,.ref 75,.none,.ref 76,.ref 77,.ref 78,.int (292) 0,.int (52) 0,.str "/claim/cut.py" 293]),
 (80,Hd.oF "is_tree" ZA (.str "bankwalk.anycheck" 279) (.ref 79)),
 (86,Hd.oC [.str "is_lost" 297,.str "is_lost" 298,.str "/claim/cut.py" 299,.int (61) 0,.int (3) 0,.int (0) 0,.int (0) 0,.int (3) 0,.ref 81,.bool true,.int (181) 0,.ref 82,.none,.ref 83,.ref 84,.ref 85,.int (303) 0,.int (61) 0,.str "/claim/cut.py" 304]),
 (87,Hd.oF "is_lost" Q1 za2 (.ref 86)),
 (93,Hd.oC [.str "shows_no_image" 306,.str "shows_no_image" 307,.str "/claim/cut.py" 308,.int (63) 0,.int (4) 0,.int (0) 0,.int (0) 0,.int (3) 0,.ref 88,.bool true,.int (181) 0,.ref 89,.none,.ref 90,.ref 91,.ref 92,.int (315) 0,.int (63) 0,.str "/claim/cut.py" 316]),
 (94,Hd.oF "shows_no_image" ze za2 (.ref 93)),
 (100,Hd.oC [.str "_law_mix" 320,.str "_law_mix" 321,.str "/claim/cut.py" 322,.int (67) 0,.int (2) 0,.int (0) 0,.int (0) 0,.int (3) 0,.ref 95,.bool true,.int (181) 0,.ref 96,.none,.ref 97,.ref 98,.ref 99,.int (326) 0,.int (67) 0,.str "/claim/cut.py" 327]),
 (101,Hd.oF "_law_mix" QX za1 (.ref 100)),
 (107,Hd.oC [.str "_law_left" 329,.str "_law_left" 330,.str "/claim/cut.py" 331,.int (70) 0,.int (2) 0,.int (0) 0,.int (0) 0,.int (3) 0,.ref 102,.bool true,.int (181) 0,.ref 103,.none,.ref 104,.ref 105,.ref 106,.int (336) 0,.int (70) 0,.str "/claim/cut.py" 337]),
 (108,Hd.oF "_law_left" jY za1 (.ref 107)),
 (114,Hd.oC [.str "_law_pick" 339,.str "_law_pick" 340,.str "/claim/cut.py" 341,.int (74) 0,.int (2) 0,.int (0) 0,.int (0) 0,.int (3) 0,.ref 109,.bool true,.int (181) 0,.ref 110,.none,.ref 111,.ref 112,.ref 113,.int (345) 0,.int (74) 0,.str "/claim/cut.py" 346]),
 (115,Hd.oF "_law_pick" jV za1 (.ref 114)),
 (121,Hd.oC [.str "_law_two" 348,.str "_law_two" 349,.str "/claim/cut.py" 350,.int (81) 0,.int (1) 0,.int (0) 0,.int (0) 0,.int (3) 0,.ref 116,.bool true,.int (181) 0,.ref 117,.none,.ref 118,.ref 119,.ref 120,.int (352) 0,.int (81) 0,.str "/claim/cut.py" 353]),
 (122,Hd.oF "_law_two" Q2 za1 (.ref 121)),
 (128,Hd.oC [.str "_law_flips" 355,.str "_law_flips" 356,.str "/claim/cut.py" 357,.int (83) 0,.int (1) 0,.int (0) 0,.int (0) 0,.int (3) 0,.ref 123,.bool true,.int (181) 0,.ref 124,.none,.ref 125,.ref 126,.ref 127,.int (364) 0,.int (83) 0,.str "/claim/cut.py" 365]),
 (129,Hd.oF "_law_flips" js za1 (.ref 128)),
 (135,Hd.oC [.str "_law_spans" 367,.str "_law_spans" 368,.str "/claim/cut.py" 369,.int (91) 0,.int (2) 0,.int (0) 0,.int (0) 0,.int (3) 0,.ref 130,.bool true,.int (181) 0,.ref 131,.none,.ref 132,.ref 133,.ref 134,.int (377) 0,.int (91) 0,.str "/claim/cut.py" 378]),
 (136,Hd.oF "_law_spans" jk za1 (.ref 135)),
 (142,Hd.oC [.str "_law_bad" 380,.str "_law_bad" 381,.str "/claim/cut.py" 382,.int (101) 0,.int (1) 0,.int (0) 0,.int (0) 0,.int (3) 0,.ref 137,.bool true,.int (181) 0,.ref 138,.none,.ref 139,.ref 140,.ref 141,.int (386) 0,.int (101) 0,.str "/claim/cut.py" 387]),
 (143,Hd.oF "_law_bad" QY za1 (.ref 142)),
 (149,Hd.oC [.str "_law_led" 389,.str "_law_led" 390,.str "/claim/cut.py" 391,.int (106) 0,.int (2) 0,.int (0) 0,.int (0) 0,.int (3) 0,.ref 144,.bool true,.int (181) 0,.ref 145,.none,.ref 146,.ref 147,.ref 148,.int (397) 0,.int (106) 0,.str "/claim/cut.py" 398]),
 (150,Hd.oF "_law_led" QZ za1 (.ref 149)),
 (156,Hd.oC [.str "_law_last" 400,.str "_law_last" 401,.str "/claim/cut.py" 402,.int (111) 0,.int (2) 0,.int (0) 0,.int (0) 0,.int (3) 0,.ref 151,.bool true,.int (181) 0,.ref 152,.none,.ref 153,.ref 154,.ref 155,.int (407) 0,.int (111) 0,.str "/claim/cut.py" 408]),
 (157,Hd.oF "_law_last" j3 za1 (.ref 156)),
 (161,Hd.oC [.str "_law_serves" 410,.str "_law_serves" 411,.str "/claim/cut.py" 412,.int (117) 0,.int (2) 0,.int (0) 0,.int (0) 0,.int (3) 0,.ref 158,.bool true,.int (181) 0,.ref 159,.none,.none,.none,.ref 160,.int (413) 0,.int (117) 0,.str "/claim/cut.py" 414]),
 (162,Hd.oF "_law_serves" zX za1 (.ref 161)),
 (168,Hd.oC [.str "_law_lot" 416,.str "_law_lot" 417,.str "/claim/cut.py" 418,.int (119) 0,.int (1) 0,.int (0) 0,.int (0) 0,.int (3) 0,.ref 163,.bool true,.int (181) 0,.ref 164,.none,.ref 165,.ref 166,.ref 167,.int (421) 0,.int (119) 0,.str "/claim/cut.py" 422]),
 (169,Hd.oF "_law_lot" Q6 za1 (.ref 168)),
 (175,Hd.oC [.str "_law_bars" 424,.str "_law_bars" 425,.str "/claim/cut.py" 426,.int (122) 0,.int (5) 0,.int (0) 0,.int (0) 0,.int (3) 0,.ref 170,.bool true,.int (181) 0,.ref 171,.none,.ref 172,.ref 173,.ref 174,.int (436) 0,.int (122) 0,.str "/claim/cut.py" 437]),
 (176,Hd.oF "_law_bars" jZ za1 (.ref 175)),
 (182,Hd.oC [.str "_law_whole" 439,.str "_law_whole" 440,.str "/claim/cut.py" 441,.int (136) 0,.int (1) 0,.int (0) 0,.int (0) 0,.int (3) 0,.ref 177,.bool true,.int (181) 0,.ref 178,.none,.ref 179,.ref 180,.ref 181,.int (443) 0,.int (136) 0,.str "/claim/cut.py" 444]),
 (183,Hd.oF "_law_whole" ji za1 (.ref 182)),
 (187,Hd.oC [.str "law" 446,.str "law" 447,.str "/claim/cut.py" 448,.int (138) 0,.int (1) 0,.int (0) 0,.int (0) 0,.int (3) 0,.ref 184,.bool true,.int (181) 0,.ref 185,.none,.none,.none,.ref 186,.int (449) 0,.int (138) 0,.str "/claim/cut.py" 450]),
 (188,Hd.oF "law" ZK za1 (.ref 187))]
abbrev tsL:List (Addr×Addr×Str):=[(72,68,"image_for.<locals>.<lambda>"),(93,89,"shows_no_image.<locals>.<lambda>")]
abbrev flL:List FuncData:=Hd.qk0 "image_for.<locals>.<lambda>" (top 12)++Hd.qk0 "shows_no_image.<locals>.<lambda>" (top 17)
def Kg (P:Params):PySem.W.Frag:=Kf P++Hd.LM 3 flL tsL
def qfQ {l:PySem.W.OpenLaw} {w:World} {h:Heap} {mg:Str->Option Value} {fa:Addr} (X:(Kg w.params).In h) (G:h.Ns mainGlobals mg) (hfa:mg "law" = some (.ref fa)) :
  ∃ fd:FuncData,(∀ (s:Shared) (v:Value),BindsTo s fd ⟨[v],[]⟩ [("_law_script",v)])/\∀ base:Heap,(Kg w.params).In base->base.Ns mainGlobals mg->qcb mg base->FnOk l.prog w (Kg w.params) mg base CX0 12 fa fd ["_law_script"] (lSp (Kg w.params) XD):=by
 have e:=hfa.symm.trans (Hd.qk1 X G "law" (.ref 188) (by kernel_rfl));cases e;have E0:=Hd.e X G "is_number" jm ZP 21 (.str "bankwalk.basics" 187) (.ref 20);have E1:=Hd.e X G "flips" VI RU 33 (.str "bankwalk.flips" 213) (.ref 32);have E2:=Hd.e X G "led_to" Z7 WK 40 za3 (.ref 39);have E3:=Hd.e X G "span_flips" z5 QR 45 za3 (.ref 44);have E4:=Hd.e X G "image_choices" zn jf 52 za3 (.ref 51);have E5:=Hd.e X G "is_led_to_0" zO jX 59 za3 (.ref 58);have E6:=Hd.e X G "first_led_to_0" zf zQ 66 za3 (.ref 65);have E7:=Hd.e X G "is_lost" Q1 UH 87 za2 (.ref 86);have E8:=Hd.e X G "searched" QE J2 28 (.str "bankwalk.anyhow" 196) (.ref 27);have E9:=Hd.e X G "image_for" ju ZQ 73 za3 (.ref 72);have E10:=Hd.e X G "is_tree" ZA UJ 80 (.str "bankwalk.anycheck" 279) (.ref 79);have E11:=Hd.e X G "shows_no_image" ze zU 94 za2 (.ref 93);have E12:=Hd.e X G "_law_mix" QX UO 101 za1 (.ref 100);have E13:=Hd.e X G "_law_left" jY JU 108 za1 (.ref 107);have E14:=Hd.e X G "_law_pick" jV J8 115 za1 (.ref 114);have E15:=Hd.e X G "_law_two" Q2 UE 122 za1 (.ref 121);have E16:=Hd.e X G "_law_flips" js ZY 129 za1 (.ref 128);have E17:=Hd.e X G "_law_spans" jk ZV 136 za1 (.ref 135);have E18:=Hd.e X G "_law_bad" QY VZ 143 za1 (.ref 142);have E19:=Hd.e X G "_law_led" QZ UM 150 za1 (.ref 149);have E20:=Hd.e X G "_law_last" j3 JR 157 za1 (.ref 156);have E21:=Hd.e X G "_law_serves" zX QV 162 za1 (.ref 161);have E22:=Hd.e X G "_law_lot" Q6 VV 169 za1 (.ref 168);have E23:=Hd.e X G "_law_whole" ji ZL 183 za1 (.ref 182);have E24:=Hd.e X G "_law_bars" jZ YB 176 za1 (.ref 175);have F25:=Hd.ql2 (K:=Kg w.params) "law" ZK 188 za1 (.ref 187) (by kernel_rfl) (by kernel_rfl) (by kernel_rfl);have g0:=Hd.no X G "isinstance";have g1:=Hd.no X G "bool";have g2:=Hd.no X G "int";have g3:=Hd.no X G "enumerate";have g4:=Hd.no X G "max";have g5:=Hd.no X G "min";have g6:=Hd.no X G "len";have g7:=Hd.no X G "range";have g8:=Hd.no X G "tuple";have g9:RY (Kg w.params) 0=some (Hd.W5 "image_for.<locals>.<lambda>" (top 12) 0):=by kernel_rfl
 have g10:RY (Kg w.params) 1=some (Hd.W5 "image_for.<locals>.<lambda>" (top 12) 1):=by kernel_rfl
 have g11:RY (Kg w.params) 2=some (Hd.W5 "shows_no_image.<locals>.<lambda>" (top 17) 0):=by kernel_rfl
 have g12:RY (Kg w.params) 3=some (Hd.W5 "shows_no_image.<locals>.<lambda>" (top 17) 1):=by kernel_rfl
 have g13:=Hd.no X G "abs";have g14:=Hd.no X G "sorted";have g15:=Hd.no X G "set";have g16:=Hd.no X G "all";have g17:=Hd.no X G "list";refine ⟨PySem.W.fnOf "law" "law" (jA ZK) (qS ZK) (qf ZK) .none .none .none za1 none (.ref 187) .none,λs v=>.of_eq rfl,λbase Xb _ B_=>?_⟩;have g18:TabAt (Kg w.params) mg base 72 "image_for.<locals>.<lambda>" := Hd.qga (ts:=tsL) (P:=68) Xb B_ (by kernel_rfl);have g19:TabAt (Kg w.params) mg base 93 "shows_no_image.<locals>.<lambda>" := Hd.qga (ts:=tsL) (P:=89) Xb B_ (by kernel_rfl);have O20:=CH (P:=l.prog) (w:=w) (base:=base) (k:=0) g0 g1 g2 E0 CB;have O21:=qcf (P:=l.prog) (w:=w) (base:=base) (k:=0)  E1 Pv.qb3;have O22:=qaI (P:=l.prog) (w:=w) (base:=base) (k:=0) g3 E2 qas;have O23:=DW O21 E3 WP;have O24:=VB (P:=l.prog) (w:=w) (base:=base) (k:=0) g4 g5 E4 VF;have O25:=EF O22 g6 E5 EG;have O26:=JZ O25 E6 YA;have O27:=T2 O25 (O20.mono (by decide)) E7 KC;have O28:=KG (P:=l.prog) (w:=w) (base:=base) (k:=0)  E12 K5;have O29:=RM (P:=l.prog) (w:=w) (base:=base) (k:=0) g6 g13 E13 RC;have O30:=RH O28 E14 CY;have O31:=KJ (P:=l.prog) (w:=w) (base:=base) (k:=0)  E15 K3;have O32:=X5 g3 g6 g7 O31 E16 CO;have O33:=XZ g7 (O31.mono (by decide)) O30 O32 E17 XR;have O34:=KM O32 g14 g15 E18 K8;have O35:=T8 g3 O31 E19 LG;have O36:=RJ g4 g5 g7 O31 E20 RW;have O37:=WN O35 g16 E21 WL;have O38:=KI (O30.mono (by decide)) O33 E22 KB;have O39:=XV (P:=l.prog) (w:=w) (base:=base) (k:=0) g0 g1 g2 E23 XW;have O40:VS l.prog w (Kg w.params) mg base 4 (Pu.phS PhL):=Pu.zc.ok (Pu.zc.cons (qkK (P:=l.prog) (w:=w) (base:=base) (k:=3) g9 (O24.mono (by decide)) qj3) (Pu.zc.cons (qjV (P:=l.prog) (w:=w) (base:=base) (k:=3) g10 O26 ql0) (Pu.zc.cons (qkh (P:=l.prog) (w:=w) (base:=base) (k:=3) g11 (O24.mono (by decide)) qkq) (Pu.zc.cons (qkT (P:=l.prog) (w:=w) (base:=base) (k:=3) g12 O27 qk3) Pu.zc.nil))));have O41:∀ j:Nat,Fn3 l.prog w (Kg w.params) mg base (4+1*j) "searched" (Pu.PSp (qH j) false):=λj=>by
  induction j with
  |zero=>exact (Pu.Fn3.pz (WV (P:=l.prog) (w:=w) (base:=base) E8.F E8.b E8.m) false).mono (by decide)
  |succ j ih=>
   exact RF (P:=l.prog) (w:=w) (base:=base) (k:=4+1*j+0) g6 (O40.mono (by omega)) ih g7 g8 E8 (RR j)
 have O42:=XM (O41 6) (O23.mono (by decide)) g9 g10 g18 E9 rfl CA;have O43:∀ j:Nat,Fn3 l.prog w (Kg w.params) mg base (4+1*j) "is_tree" (Pu.PSp (qR j) false):=λj=>by
  induction j with
  |zero=>exact (Pu.Fn3.pz (WV (P:=l.prog) (w:=w) (base:=base) E10.F E10.b E10.m) false).mono (by decide)
  |succ j ih=>
   exact T4 (P:=l.prog) (w:=w) (base:=base) (k:=4+1*j+0) g0 g3 g6 (O40.mono (by omega)) g8 ih E10 (T3 j)
 have O44:=J6 (O23.mono (by decide)) (O43 6) g11 g12 g19 E11 rfl YJ;have O45:∀ j:Nat,Fn3 l.prog w (Kg w.params) mg base (2+1*j) "_law_bars" (Pu.PSp (qJ j) false):=λj=>by
  induction j with
  |zero=>exact (Pu.Fn3.pz (WV (P:=l.prog) (w:=w) (base:=base) E24.F E24.b E24.m) false).mono (by decide)
  |succ j ih=>
   exact RE (P:=l.prog) (w:=w) (base:=base) (k:=2+1*j+0) g0 g3 g6 g8 (O31.mono (by omega)) (O35.mono (by omega)) (O36.mono (by omega)) ih (O39.mono (by omega)) E24 (R6 j)
 exact qgh (k:=11) g2 g4 g5 g6 g7 (O30.mono (by decide)) ((O45 6).mono (by decide)) (O29.mono (by decide)) (O38.mono (by decide)) O42 (O34.mono (by decide)) O44 (O37.mono (by decide)) g17 F25 (qhV qhL)
abbrev Q : Program := PySem.W.view PySem.Challenge.pw_bankwalk_k47_papers_of_no_image [1,3,5,7,8,9,10,11,12,14,16,17,19,20,21,22,23,24,25,26,27,28,29,30,31,32]
set_option maxRecDepth 100000 in
set_option maxHeartbeats 0 in
def left : PySem.W.LeftO PySem.Challenge.pw_bankwalk_k47_papers_of_no_image Q [] (λs => PySem.W.xlAt Q [] s && PySem.W.recOk [] s) (λs => (([3,20,21,27,28,32,33,39,40,44,45,51,52,58,59,65,66,72,73,79,80,86,87,93,94,100,101,107,108,114,115,121,122,128,129,135,136,142,143,149,150,156,157,161,162,168,169,175,176,182,183,187,188] : List Addr).map s.heap.get?,([68,89] : List Addr).map s.heap.get?)) (λw => ((Kf w.params).map λp => some p.2,([68,89] : List Addr).map λ_ => some (PySem.W.tabObj #[]))) 1882 :=
 λw=>by kernel_rfl
end K47
open PySem PySem.W PyProof.Rows
set_option maxRecDepth 100000 in
set_option maxHeartbeats 0 in
def qnb : PySem.Challenge.rw_bankwalk_k47_papers_of_no_image.row.wellSaid = true := by kernel_rfl
set_option maxRecDepth 100000 in
set_option maxHeartbeats 0 in
def qnl : PySem.Challenge.rw_bankwalk_k47_papers_of_no_image.wellSaid = true := by
 unfold PySem.W.OpenLaw.wellSaid;rw [qnb]
 kernel_rfl
set_option maxRecDepth 100000 in
set_option maxHeartbeats 0 in
theorem PySem.Challenge.cw_bankwalk_k47_papers_of_no_image_holds : PySem.Challenge.rw_bankwalk_k47_papers_of_no_image.Holds :=
 Hd.qkV (a₀ := 3) (fds := K47.flL) (ts := K47.tsL) (tp := [68,89]) (l := PySem.Challenge.rw_bankwalk_k47_papers_of_no_image) (q := K47.Q) (loose := []) (K := K47.Kf) (as := [3,20,21,27,28,32,33,39,40,44,45,51,52,58,59,65,66,72,73,79,80,86,87,93,94,100,101,107,108,114,115,121,122,128,129,135,136,142,143,149,150,156,157,161,162,168,169,175,176,182,183,187,188]) (N := 1882) (k := 12) (x := "_law_script")
  (d:=⟨"law",L2.jA K47.ZK,L2.qS K47.ZK,L2.qf K47.ZK,⟨138,0,158,15⟩⟩) (λ_=>by kernel_rfl) (by kernel_rfl) qnl K47.left (by kernel_rfl) (by kernel_rfl) (by kernel_rfl) (by kernel_rfl) (by kernel_rfl)
  ⟨rfl,rfl,rfl,rfl,rfl,by decide +kernel⟩ (by w_witness2) rfl (by kernel_rfl) ⟨rfl,by decide,by decide,rfl⟩ (λw=>by kernel_rfl) (λw=>by kernel_rfl) (λw=>by kernel_rfl) (λw=>by kernel_rfl) λw mg fa h KX G hmg=>K47.qfQ KX G hmg
