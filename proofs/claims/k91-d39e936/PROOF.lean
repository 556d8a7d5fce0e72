import PyProof.Rows.All
import Wide.All
import OpenK.AllK
import Wide.FinOn
import Lean
import PyProof.EqAt
import PyProof.EqKinds
import PyProof.TupleCall
import PyProof.NeKinds
import KE.KRevSl
import PyProof.FactsAll.bool_2
import PyProof.Rows.EqBoolInt
import PyProof.Rows.IntBool
import KE.KUnpackStar
import KE.KIntText
import PySem.Challenge.RW_bankwalk_k91_whole_walks_beside_all_star
-- CHANGE: your row's module here,as the last of these rows
set_option Elab.async false
set_option genSizeOf false
set_option genInjectivity false
noncomputable section
theorem x6:type_of% @List.getElem?_cons_succ.{0}:=@List.getElem?_cons_succ.{0}
theorem x8:type_of% @List.getElem?_cons_zero.{0}:=@List.getElem?_cons_zero.{0}
theorem y3:type_of% @List.getElem_cons_zero.{0}:=@List.getElem_cons_zero.{0}
theorem y4:type_of% @List.getElem_cons_succ.{0}:=@List.getElem_cons_succ.{0}
theorem y6:type_of% @PySem.wpAny_bind:=@PySem.wpAny_bind
theorem y8:type_of% @PySem.wpAny_pure:=@PySem.wpAny_pure
theorem y9:type_of% @PySem.wpAny_mono:=@PySem.wpAny_mono
theorem v4:type_of% @PySem.Heap.get?_push_of_some:=@PySem.Heap.get?_push_of_some
theorem v5:type_of% @PySem.Heap.get?_push_size:=@PySem.Heap.get?_push_size
theorem v6:type_of% @PySem.Heap.lt_size:=@PySem.Heap.lt_size
theorem v7:type_of% @Bool.false_ne_true:=@Bool.false_ne_true
theorem v8:type_of% @PySem.sizeLine_eq:=@PySem.sizeLine_eq
theorem v9:type_of% @List.getElem?_eq_getElem.{0}:=@List.getElem?_eq_getElem.{0}
theorem u7:type_of% @Nat.zero_lt_succ:=@Nat.zero_lt_succ
theorem u8:type_of% @Nat.le_refl:=@Nat.le_refl
theorem u9:type_of% @List.mem_cons_of_mem.{0}:=@List.mem_cons_of_mem.{0}
theorem za0:type_of% @List.mem_append_right.{0}:=@List.mem_append_right.{0}
theorem za1:type_of% @Nat.lt_of_lt_of_le:=@Nat.lt_of_lt_of_le
theorem za2:type_of% @List.mem_of_getElem?.{0}:=@List.mem_of_getElem?.{0}
theorem za3:type_of% @Nat.le_trans:=@Nat.le_trans
theorem za4:type_of% @Nat.ne_of_lt:=@Nat.ne_of_lt
theorem za5:type_of% @Nat.lt_add_one:=@Nat.lt_add_one
theorem za6:type_of% @List.mem_cons_self.{0}:=@List.mem_cons_self.{0}
theorem za7:type_of% @List.getElem_mem.{0}:=@List.getElem_mem.{0}
theorem za8:type_of% @decide_eq_false:=@decide_eq_false
def za9{α β:Type}{b:β}{f:α->β}{o:Option α}(h:o.map f=some b):=Option.map_eq_some_iff.mp h
def zb0{α:Type}{l:List α}{i:Nat}{a:α}(h:l[i]?=some a):=List.getElem?_eq_some_iff.mp h
abbrev zb1:PySem.Value:=.str "law_bankwalk_k91_whole_walks_beside_all_star" 454
abbrev zb2:PySem.Value:=.str "bankwalk.dealings" 265
abbrev zb3:PySem.Value:=.str "bankwalk.clashes" 412
abbrev zb4:PySem.Value:=.str "bankwalk.basics" 187
abbrev zb5:PySem.Value:=.str "bankwalk.walks" 353
abbrev zb6:PySem.Str:="bankwalk.errors"
abbrev Frg:=PySem.W.Frag
open List (length_cons length_nil set_cons_zero set_cons_succ length_map not_mem_nil map_cons mem_cons getElem?_set getElem?_map cons_append size_toArray map_map mem_map length_append getD_eq_getElem?_getD mem_range length_range)
def obb{α β:Type _}{o:Option α}{f:α->Option β}{b:β}(h:o.bind f=some b):∃a,o=some a/\f a=some b:=Option.bind_eq_some_iff.mp h
set_option linter.all false
set_option maxRecDepth 100000
namespace L2
open PySem PySem.Spec PyProof.Rows
abbrev Key:=Sum Int Str
def qn4:Key->Value->Bool
 |.inl k,v=>Value.isInt k v
 |.inr x,v=>Value.isStrOf x v
def qtu (w:World):Key->Int
 |.inl k=>hashInt k
 |.inr x=>hashStr w x
def zV:∀ {k:Key} {v:Value},qn4 k v=true->(∃ i t,k=Sum.inl i/\v=Value.int i t)\/(∃ x t,k=Sum.inr x/\v=Value.str x t)
 |.inl i,v,h=>by
  obtain ⟨t,e⟩:=Value.isInt_shape (k:=i) (v:=v) h;exact .inl ⟨i,t,rfl,e⟩
 |.inr x,v,h=>by
  obtain ⟨t,e⟩:=Value.isStrOf_shape (x:=x) (v:=v) h;exact .inr ⟨x,t,rfl,e⟩
def qn5 (a b:Int):decide ((Sum.inl a:Key)=Sum.inl b)=(a==b):=by
 by_cases e:a=b
 ·subst e;simp
 ·have h:¬ (Sum.inl a:Key)=Sum.inl b:=λq=>e (Sum.inl.inj q);rw [za8 h];exact (beq_eq_false_iff_ne.mpr e).symm
def qo9 (a b:Str):decide ((Sum.inr a:Key)=Sum.inr b)=decide (a=b):=by
 by_cases e:a=b
 ·subst e;simp
 ·have h:¬ (Sum.inr a:Key)=Sum.inr b:=λq=>e (Sum.inr.inj q);rw [za8 h,za8 e]
def qpw (a:Int) (b:Str):decide ((Sum.inl a:Key)=Sum.inr b)=false:=za8 (λq=>nomatch q)
def qnJ (a:Str) (b:Int):decide ((Sum.inr a:Key)=Sum.inl b)=false:=za8 (λq=>nomatch q)
def qeL (prog:Program) (w:World):PySem.KeyKind prog w Key where
 is:=qn4
 hash:=qtu w
 inj:=λv a b ha hb=>by
  rcases zV ha with ⟨i,t,rfl,rfl⟩|⟨x,t,rfl,rfl⟩
  ·rcases zV hb with ⟨j,u,rfl,e⟩|⟨y,u,rfl,e⟩
   ·injection e with e1 _;rw [e1]
   ·exact nomatch e
  ·rcases zV hb with ⟨j,u,rfl,e⟩|⟨y,u,rfl,e⟩
   ·exact nomatch e
   ·injection e with e1 _;rw [e1]
 byValue:=λk v h=>by
  rcases zV h with ⟨i,t,rfl,rfl⟩|⟨x,t,rfl,rfl⟩<;>rfl
 pyHash:=λhv h=>by
  rcases zV hv with ⟨i,t,rfl,rfl⟩|⟨x,t,rfl,rfl⟩
  ·exact wpAny_pyHash_int h
  ·exact wpAny_pyHash_str h
 eqBool:=λhu hv h=>by
  rcases zV hu with ⟨i,t,rfl,rfl⟩|⟨x,t,rfl,rfl⟩
  ·rcases zV hv with ⟨j,u,rfl,rfl⟩|⟨y,u,rfl,rfl⟩
   ·rw [qn5] at h;exact wpAny_eqBool_int h
   ·rw [qpw] at h;exact SeqAt.EqAt.int_str i t y u _ _ _ _ h
  ·rcases zV hv with ⟨j,u,rfl,rfl⟩|⟨y,u,rfl,rfl⟩
   ·rw [qnJ] at h;exact SeqAt.EqAt.str_int x t j u _ _ _ _ h
   ·rw [qo9] at h;exact wpAny_eqBool_str h
 «strs»:=λk x t v h=>by
  rcases zV h with ⟨i,u,rfl,e⟩|⟨y,u,rfl,e⟩
  ·exact nomatch e
  ·injection e with e1 _;subst e1;cases v<;>rfl
set_option genInjectivity true in
inductive V where
 |non|bl (b:Bool)|int (i:Int)|str (x:Str)|byt (b:Array UInt8)|flt (b:UInt64)|ref (a:Addr)|ty (n:String)
 deriving DecidableEq
def jQ:V->Value->Prop
 |.non,u=>u=Value.none
 |.bl b,u=>u=Value.bool b
 |.int i,u=>∃ t,u=Value.int i t
 |.str x,u=>∃ t,u=Value.str x t
 |.byt b,u=>∃ t,u=Value.bytes b t
 |.flt b,u=>∃ t,u=Value.float b t
 |.ref a,u=>u=Value.ref a
 |.ty n,u=>u=Value.type n
abbrev jh:List V->List Value->Prop:=Paired jQ
theorem jh.length {xs:List V} {us:List Value} (r:jh xs us):xs.length=us.length:=Paired.length r
theorem jh.get:∀ {xs:List V} {us:List Value} {i:Nat} {x:V},jh xs us->xs[i]?=some x->∃ u,us[i]?=some u/\jQ x u
 |_,_,_,_,.nil,e=>by simp at e
 |_,_,0,_,.cons r _,e=>by simp at e;subst e;exact ⟨_,rfl,r⟩
 |_,_,i+1,x,.cons _ t,e=>by
  obtain ⟨u,h1,h2⟩:=jh.get (i:=i) (x:=x) t (by simpa using e);exact ⟨u,by simpa using h1,h2⟩
theorem jh.set {x:V} {u:Value} (r:jQ x u):∀ {xs:List V} {us:List Value} (i:Nat),jh xs us->jh (xs.set i x) (us.set i u)
 |_,_,_,.nil=>.nil
 |_,_,0,.cons _ t=>.cons r t
 |_,_,i+1,.cons q t=>.cons q (jh.set r i t)
theorem jh.append:∀ {xs ys:List V} {us ws:List Value},jh xs us->jh ys ws->jh (xs++ys) (us++ws)
 |_,_,_,_,.nil,s=>s
 |_,_,_,_,.cons r t,s=>.cons r (jh.append t s)
theorem jh.take:∀ {xs:List V} {us:List Value} (n:Nat),jh xs us->jh (xs.take n) (us.take n)
 |_,_,0,_=>.nil
 |_,_,_+1,.nil=>.nil
 |_,_,n+1,.cons r t=>.cons r (jh.take n t)
theorem jh.drop:∀ {xs:List V} {us:List Value} (n:Nat),jh xs us->jh (xs.drop n) (us.drop n)
 |_,_,0,r=>r
 |_,_,_+1,.nil=>.nil
 |_,_,n+1,.cons _ t=>jh.drop n t
def qte:Option V->Option Value->Prop
 |some v,some u=>jQ v u
 |none,none=>True
 |_,_=>False
def KV {κ:Type}:List (κ×V)->List (κ×Value)->Prop:=Paired λ(p:κ×V) (q:κ×Value)=>p.1=q.1/\jQ p.2 q.2
def kV:Key->V
 |.inl i=>.int i
 |.inr x=>.str x
inductive HO where
 /-- a list -/
 |lst (xs:List V)
 /-- a tuple (never changes) -/
 |tup (xs:List V)
 /-- a dict whose keys are ints and texts;one whose keys are tuples of ints and texts (the empty one is both) -/
 |dK (kvs:List (Key×V))|dT (kvs:List (List Key×V))
 /-- a set of ints: its members,its size -/
 |set (S:Int->Bool) (n:Nat)
 /-- an instance of the class at C,its dict at dx,its attributes -/
 |ins (C dx:Addr) (fs:List (Str×V))
 /-- the dict of the instance at x -/
 |own (x:Addr)
 /-- the dict of an exception -/
 |xd (fs:List (Str×V))
 /-- a bound method,f of x -/
 |met (f x:Addr)
 /-- a range object lo,lo+1,.. below hi -/
 |rng (lo hi:Int)
 /-- a thing that is known to the object (the script;a dict while a loop walks it): read,never written while it is so -/
 |frz (o:Obj) (u:HO)
 /-- a code object's table -/
 |tbl (ps:Array Value)
 /-- any other thing,by what is true of its one object (a def of one's own: SetO a S n:=HO.ext λh=>..) -/
 |ext (φ:Heap->Prop)
abbrev Hp:=Addr->Option HO
def upd (H:Hp) (a:Addr) (o:HO):Hp:=λb=>if b=a then some o else H b
def zu {H:Hp} {a:Addr} {o:HO}:upd H a o a=some o:=by unfold upd;rw [if_pos rfl]
def qO {H:Hp} {a b:Addr} {o:HO} (h:b≠a):upd H a o b=H b:=by unfold upd;rw [if_neg h]
def qI {H:Hp} {a b:Addr} {o:HO} (h:H a=some o) (h':H b=none):a≠b:=by
 intro e;subst e;rw [h] at h';cases h'
def C2 (h:Heap) (a:Addr) (items:Array Value):Prop:=∃ o,h.get? a=some o/\o.cls=.type "tuple"/\∃ n,o.data=.seq items n/\o.dict=none
def C2.tup {h:Heap} {a:Addr} {items:Array Value} (x:C2 h a items):IsTup h a items:=let ⟨o,a,b,n,d,_⟩:=x;⟨o,a,b,n,d⟩
def C2.new (h:Heap) (items:Array Value):C2 (h.push { cls:=.type "tuple",data:=.seq items }) h.objs.size items:=⟨_,v5 _ rfl,rfl,_,rfl,rfl⟩
section
variable (P:Program) (w:World)
def UC (H:Hp) (h:Heap) (a:Addr):HO->Prop
 |.lst xs=>xs.length<=sizeLine/\∃ (its:List Value) (n:Nat),jh xs its/\h.get? a=some { cls:=.type "list",data:=.seq its.toArray n }
 |.tup xs=>xs.length<=sizeLine/\∃ its:List Value,jh xs its/\C2 h a its.toArray
 |.dK kvs=>kvs.length<=sizeLine/\(a==sysModules)=false/\∃ vs,KV kvs vs/\h.DictOf (qeL P w) a vs
 |.dT kvs=>kvs.length<=sizeLine/\(a==sysModules)=false/\∃ xs:List (List Key×Addr×Value),
   Paired (λ(p:List Key×V) (q:List Key×Addr×Value)=>p.1=q.1/\H q.2.1=some (.tup (p.1.map kV))/\jQ p.2 q.2.2) kvs xs /\
   ∃ o es ep,h.get? a=some o/\o.ExactDict/\o.data=.dict es ep/\es.toList=xs.map (entryOfKey (tupleKind (qeL P w)))/\(xs.map (·.1)).Nodup
 |.set S n=>h.SetOf (intKind P w) a S n
 |.ins C dx fs=>H dx=some (.own a)/\fs.length<=1000/\dx≠a/\h.get? a=some (PySem.W.instObj C dx) /\
   ∃ mA,h.Ns1 dx mA/\(∀ f,qte (fs.lookup f) (mA f))/\PySem.Within mA (fs.map (·.1))
 |.own _=>∃ o,h.get? a=some o
 |.xd fs=>∃ mA,h.Ns1 a mA/\∀ f,qte (fs.lookup f) (mA f)
 |.rng lo hi=>∃ t u v,h.get? a=some { cls:=.type "range",data:=.fields #[.int lo t,.int hi u,.int 1 v] }
 |.frz o u=>h.get? a=some o/\UC H h a u
 |.tbl ps=>h.get? a=some { cls:=.none,data:=.fields ps }
 |.met f x=>h.get? a=some (PySem.W.methodObj (.ref f) (.ref x))
 |.ext φ=>φ h/\(∃ o,h.get? a=some o)/\∀ h1 h2:Heap,φ h1->(∀ o,h1.get? a=some o->h2.get? a=some o)->φ h2
def HOk (H:Hp) (h:Heap):Prop:=∀ a o,H a=some o->UC P w H h a o
end
section
variable {P:Program} {w:World} {H H':Hp} {h h':Heap} {a:Addr} {o:HO}
theorem UC.lt (x:UC P w H h a o):a<h.objs.size:=by
 cases o with
 |lst xs=>obtain ⟨_,_,_,_,e⟩:=x;exact v6 e
 |tup xs=>obtain ⟨_,_,_,p⟩:=x;exact p.tup.lt
 |dK kvs=>obtain ⟨_,_,_,_,o,_,_,e,_⟩:=x;exact v6 e
 |dT kvs=>obtain ⟨_,_,_,_,o,_,_,e,_⟩:=x;exact v6 e
 |set S n=>obtain ⟨o,_,_,_,e,_⟩:=x;exact v6 e
 |ins C dx fs=>obtain ⟨_,_,_,e,_⟩:=x;exact v6 e
 |own y=>obtain ⟨_,e⟩:=x;exact v6 e
 |xd fs=>obtain ⟨_,⟨_,_,_,e,_⟩,_⟩:=x;exact v6 e
 |rng lo hi=>obtain ⟨_,_,_,e⟩:=x;exact v6 e
 |frz ob u=>obtain ⟨e,_⟩:=x;exact v6 e
 |tbl ps=>exact v6 (show h.get? a=some _ from x)
 |met f y=>exact v6 (show h.get? a=some _ from x)
 |ext φ=>obtain ⟨_,⟨_,e⟩,_⟩:=x;exact v6 e
theorem Paired.mapP {α β:Type} {F G:α->β->Prop}:∀ {l₁:List α} {l₂:List β},Paired F l₁ l₂->(∀ a b,F a b->G a b)->Paired G l₁ l₂
 |_,_,.nil,_=>.nil
 |_,_,.cons r t,f=>.cons (f _ _ r) (Paired.mapP t f)
def UC.stay (x:UC P w H h a o) (k:∀ b u,(b=a\/H b=some (.own a))->h.get? b=some u->h'.get? b=some u)
  (ho:∀ b,H b=some (.own a)->H' b=some (.own a)) (ht:∀ b xs,H b=some (.tup xs)->H' b=some (.tup xs)):UC P w H' h' a o:=by
 induction o with
 |lst xs=>obtain ⟨z,its,n,r,e⟩:=x;exact ⟨z,its,n,r,k _ _ (.inl rfl) e⟩
 |tup xs=>obtain ⟨z,its,r,ob,e,c⟩:=x;exact ⟨z,its,r,ob,k _ _ (.inl rfl) e,c⟩
 |dK kvs=>obtain ⟨z,y,vs,r,ob,es,ep,e,c⟩:=x;exact ⟨z,y,vs,r,ob,es,ep,k _ _ (.inl rfl) e,c⟩
 |dT kvs=>
  obtain ⟨z,y,xs,r,ob,es,ep,e,c⟩:=x;exact ⟨z,y,xs,Paired.mapP r λp q z=>⟨z.1,ht _ _ z.2.1,z.2.2⟩,ob,es,ep,k _ _ (.inl rfl) e,c⟩
 |set S n=>obtain ⟨ob,es,ep,t,e,c⟩:=x;exact ⟨ob,es,ep,t,k _ _ (.inl rfl) e,c⟩
 |ins C dx fs=>
  obtain ⟨d,z,ne,e,mA,⟨od,es,ep,e2,c⟩,r⟩:=x;exact ⟨ho _ d,z,ne,k _ _ (.inl rfl) e,mA,⟨od,es,ep,k _ _ (.inr d) e2,c⟩,r⟩
 |own y=>obtain ⟨ob,e⟩:=x;exact ⟨ob,k _ _ (.inl rfl) e⟩
 |xd fs=>obtain ⟨mA,⟨od,es,ep,e,c⟩,r⟩:=x;exact ⟨mA,⟨od,es,ep,k _ _ (.inl rfl) e,c⟩,r⟩
 |rng lo hi=>obtain ⟨t,u,v,e⟩:=x;exact ⟨t,u,v,k _ _ (.inl rfl) e⟩
 |frz ob u ih=>obtain ⟨e,q⟩:=x;exact ⟨k _ _ (.inl rfl) e,ih q⟩
 |tbl ps=>
  have e:h.get? a=some { cls:=.none,data:=.fields ps }:=x;show h'.get? a=some { cls:=.none,data:=.fields ps };exact k a _ (.inl rfl) e
 |met f y=>
  have e:h.get? a=some (PySem.W.methodObj (.ref f) (.ref y)):=x;show h'.get? a=some (PySem.W.methodObj (.ref f) (.ref y));exact k a _ (.inl rfl) e
 |ext φ=>obtain ⟨p,⟨o,e⟩,st⟩:=x;exact ⟨st _ _ p λo q=>k _ _ (.inl rfl) q,⟨o,k _ _ (.inl rfl) e⟩,st⟩
theorem HOk.lt (x:HOk P w H h) (e:H a=some o):a<h.objs.size:=(x a o e).lt
def HOk.fresh (x:HOk P w H h) (e:h.objs.size<=a):H a=none:=by
 cases q:H a with
 |none=>rfl
 |some u=>exact absurd (za1 (x.lt q) e) (Nat.lt_irrefl _)
def HOk.kept (x:HOk P w H h) (k:∀ b u,h.get? b=some u->h'.get? b=some u):HOk P w H h':=λa o e=>
 (x a o e).stay (λb u _ q=>k b u q) (λ_ q=>q) λ_ _ q=>q
def HOk.laid (x:HOk P w H h) (k:∀ b u,h.get? b=some u->h'.get? b=some u) (hp:h.objs.size<=a) (new:UC P w (upd H a o) h' a o):HOk P w (upd H a o) h':=λb u e=>by
 have hn:=x.fresh hp;by_cases hb:b=a
 ·subst hb;rw [zu] at e;cases e;exact new
 ·rw [qO hb] at e;exact (x b u e).stay (λc v _ q=>k c v q) (λc q=>by rw [qO (qI q hn)];exact q) λc xs q=>by rw [qO (qI q hn)];exact q
end
def Rd (H:Hp) (a:Addr) (u:HO):Prop:=H a=some u\/∃ o,H a=some (.frz o u)
def Rd.ok {P:Program} {w:World} {H:Hp} {h:Heap} {a:Addr} {u:HO} (r:Rd H a u) (x:HOk P w H h):UC P w H h a u:=by
 rcases r with r|⟨o,r⟩
 ·exact x a u r
 ·obtain ⟨_,q⟩:=x a _ r;exact q
def Mut:Option HO->Prop
 |some (.lst _)=>True
 |some (.dK _)=>True
 |some (.dT _)=>True
 |some (.set _ _)=>True
 |some (.ins _ _ _)=>True
 |some (.ext _)=>True
 |_=>False
section
variable {P:Program} {w:World} {H:Hp} {h h':Heap} {x e:Addr} {o':HO}
def HOk.write (ok:HOk P w H h) (mu:Mut (H x)) (he:e=x\/H e=some (.own x)) (k:∀ b u,b≠e->h.get? b=some u->h'.get? b=some u) (heo:∃ u,h'.get? e=some u)
  (new:UC P w (upd H x o') h' x o'):HOk P w (upd H x o') h':=λb u q=>by
 have nown:∀ c y,H c=some (.own y)->c≠x:=λc y r z=>by subst z;rw [r] at mu;exact mu
 have ntup:∀ c xs,H c=some (.tup xs)->c≠x:=λc xs r z=>by subst z;rw [r] at mu;exact mu
 by_cases hb:b=x
 ·subst hb;rw [zu] at q;cases q;exact new
 ·rw [qO hb] at q;by_cases hbe:b=e
  ·have q':H b=some (.own x):=by
    rcases he with z|z
    ·exact absurd (hbe.trans z) hb
    ·rw [hbe];exact z
   rw [q] at q';cases q';obtain ⟨v,hv⟩:=heo;exact ⟨v,by rw [hbe];exact hv⟩
  ·refine (ok b u q).stay (λc v hc r=>k c v ?_ r) (λc r=>by rw [qO (nown c b r)];exact r) λc xs r=>by rw [qO (ntup c xs r)];exact r
   rcases hc with rfl|hc
   ·exact hbe
   ·rintro rfl;rcases he with z|z
    ·exact nown c b hc z
    ·rw [hc] at z;cases z;exact hb rfl
end
structure Un (fs ex:List Addr) (H H':Hp) (h h':Heap):Prop where
 keep:∀ b o,h.get? b=some o->H b=none->b∉fs->b∉ex->h'.get? b=some o
 slot:∀ b o,h.get? b=some o->H b=none->b∈fs->b∉ex->∃ sl,h'.get? b=some { o with slots:=sl }
 free:∀ b o,h.get? b=some o->H b=none->b∉ex->H' b=none
 there:∀ b o,h.get? b=some o->b∉ex->∃ o',h'.get? b=some o'
 tups:∀ b xs,H b=some (.tup xs)->H' b=some (.tup xs)
 frzs:∀ b o u,H b=some (.frz o u)->H' b=some (.frz o u)
 tbls:∀ b ps,H b=some (.tbl ps)->∃ more,H' b=some (.tbl (ps++more))
section
variable {fs fs' ex ex':List Addr} {H H1 H2:Hp} {h h1 h2 h':Heap} {a x e:Addr} {o:HO}
def Un.any (u:Un fs ex H H1 h h1) {b:Addr} {ob:Obj} (q:h.get? b=some ob) (n:H b=none) (hx:b∉ex):∃ sl,h1.get? b=some { ob with slots:=sl }:=by
 by_cases hb:b∈fs
 ·exact u.slot b ob q n hb hx
 ·exact ⟨ob.slots,u.keep b ob q n hb hx⟩
def Un.kept (k:∀ b u,h.get? b=some u->h'.get? b=some u):Un fs ex H H h h':=
 ⟨λb ob q _ _ _=>k b ob q,λb ob q _ _ _=>⟨ob.slots,k b ob q⟩,λ_ _ _ n _=>n,λb ob q _=>⟨ob,k b ob q⟩,λ_ _ q=>q,λ_ _ _ q=>q,λ_ ps q=>⟨#[],by rw [q];simp⟩⟩
def Un.refl:Un fs ex H H h h:=Un.kept λ_ _ q=>q
def Un.laid (k:∀ b u,h.get? b=some u->h'.get? b=some u) (hp:h.objs.size<=a) (hn:H a=none):Un fs ex H (upd H a o) h h' where
 keep:=λb u q _ _ _=>k b u q
 slot:=λb u q _ _ _=>⟨u.slots,k b u q⟩
 free:=λb u q n _=>by rw [qO (za4 (za1 (v6 q) hp))];exact n
 there:=λb u q _=>⟨u,k b u q⟩
 tups:=λb xs q=>by rw [qO (qI q hn)];exact q
 frzs:=λb u xs q=>by rw [qO (qI q hn)];exact q
 tbls:=λb ps q=>⟨#[],by rw [qO (qI q hn),q];simp⟩
def Un.write (mu:Mut (H x)) (he:e=x\/H e=some (.own x)) (k:∀ b u,b≠e->h.get? b=some u->h'.get? b=some u) (heo:∃ u,h'.get? e=some u):Un fs ex H (upd H x o) h h':=by
 have hx:∀ b,H b=none->b≠x:=λb n z=>by subst z;rw [n] at mu;exact mu
 have hb:∀ b,H b=none->b≠e:=λb n z=>by
  subst z;rcases he with r|r
  ·exact hx b n r
  ·rw [n] at r;cases r
 have hm:∀ b u,H b=some u->¬ Mut (some u)->b≠x:=λb u q nm z=>by subst z;rw [q] at mu;exact nm mu
 refine ⟨λb u q n _ _=>k b u (hb b n) q,λb u q n _ _=>⟨u.slots,k b u (hb b n) q⟩,λb u q n _=>by rw [qO (hx b n)];exact n,λb u q _=>?_,
  λb xs q=>by rw [qO (hm b _ q λz=>z)];exact q,λb u xs q=>by rw [qO (hm b _ q λz=>z)];exact q,λb ps q=>⟨#[],by rw [qO (hm b _ q λz=>z),q];simp⟩⟩
 by_cases hbe:b=e
 ·subst hbe;exact heo
 ·exact ⟨u,k b u hbe q⟩
end
def trk (h:Heap) (H:Hp):List Addr:=(List.range h.objs.size).filter λa=>(H a).isSome
def qfQ (h:Heap) (H:Hp):Heap:=PySem.W.hideAll h (trk h H)
def qc0 (h:Heap) (H:Hp):(qfQ h H).objs.size=h.objs.size:=PySem.W.hideAll_size _ _
def qfe {h:Heap} {H:Hp} {b:Addr} {o:Obj} (e:h.get? b=some o) (n:H b=none):(qfQ h H).get? b=some o:=
 PySem.W.hideAll_get _ e λhm=>by
  have q:(H b).isSome=true:=(List.mem_filter.mp hm).2;rw [n] at q;simp at q
def qjV {h:Heap} {H:Hp} {b:Addr} {o:Obj} (e:(qfQ h H).get? b=some o):h.get? b=some o/\H b=none:=by
 have e':h.get? b=some o:=PySem.W.of_hideAll (trk h H) e;refine ⟨e',?_⟩;cases q:H b with
 |none=>rfl
 |some x=>
  have hm:b∈trk h H:=List.mem_filter.mpr ⟨mem_range.mpr (v6 e'),by simp [q]⟩;have z:(qfQ h H).get? b=none:=PySem.W.hideAll_none (trk h H) hm;rw [z] at e;cases e
def qkY (g h:Heap) (L:Addr):List (Addr×Obj):=(List.range h.objs.size).filterMap λa=>if a=L\/(g.get? a).isSome=true then none else (h.get? a).map λo=>(a,o)
def VV (g h:Heap) (L d:Addr):List (Addr×Obj):=(qkY g h L).filter λp=>decide (p.1≠d)
structure Mod (K:Frg) (mg:Str->Option Value) (base:Heap):Prop where
 kin:K.In base
 glob:base.Ns mainGlobals mg
 blt:∃ mb,base.Ns builtinsNs mb/\∀ x:Str,x≠"__name__" -> mb x=bootBuiltins x
 nolimit:base.NoLimit
structure Cx where
 prog:Program
 w:World
 K:PySem.W.Frag
 mg:Str->Option Value
 base:Heap
 A:Around
 N:List Str
 s₀:Shared
 H₀:Hp
 env:Env
 outer:List Env
 stack:List Env
 ex:List Addr
 fn:Str->Bool
 calm:Bool
 pn:List (Addr×Obj)
 xe:Value->Shared->Prop
def frs (l:List Env):List Addr:=l.filterMap (·.frame)
abbrev Cx.fs (X:Cx):List Addr:=frs X.outer
def Vis (sc:Scope) (x:Str):Prop:=sc.names.lookup x=some .local\/sc.names.lookup x=some .cell\/sc.names.lookup x=some .free
def Loc (sc:Scope) (x:Str):Prop:=sc.names.lookup x=some .local\/sc.names.lookup x=some .cell
def qtn (env:Env) (h:Heap) (m:Str->Option Value) (x:Str) (u:Value):Prop:=
 (env.kindOf x=some .local/\m x=some u)\/((env.kindOf x=some .cell\/env.kindOf x=some .free)/\∃ c,env.cells.lookup x=some c/\h.IsCell c (some u))
structure Cx.Ok (X:Cx):Prop where
 mod:Mod X.K X.mg X.base
 kind:X.env.scope.kind=.function
 glob:X.env.globals=mainGlobals
 blt:X.env.builtins=builtinsNs
 above:X.s₀.heap.objs.size<=X.env.locals
 inj:∀ x y c,X.env.cells.lookup x=some c->X.env.cells.lookup y=some c->x=y
 has:∀ x,(X.env.kindOf x=some .cell\/X.env.kindOf x=some .free)->∃ c,X.env.cells.lookup x=some c
 cab:∀ x c,X.fn x=true->X.env.cells.lookup x=some c->X.s₀.heap.objs.size<=c
 hd:X.calm=true->X.A.handled=none
 frames:X.A.frames=some X.stack
 stk:X.stack=X.outer\/(X.stack=X.env::X.outer/\X.env.frame=some X.env.locals)
 exf:∀ b∈X.ex,b≠X.env.locals/\∀ x c,X.env.cells.lookup x=some c->c≠b
 bs:∀ b o,X.base.get? b=some o->X.s₀.heap.get? b=some o/\X.H₀ b=none
 bsz:X.base.objs.size<=X.s₀.heap.objs.size
 noex:∀ b o,X.base.get? b=some o->b∉X.ex
 exfs:∀ b∈X.ex,b∉X.fs
 funs:X.s₀.heap.FunFrames X.base X.outer
 frf:∀ b∈X.fs,X.H₀ b=none
structure Inv (X:Cx) (pins:List (Addr×Obj)) (σ:List (Option V)) (H:Hp) (s:Shared):Prop where
 ok:X.Ok
 os:s.os=X.s₀.os
 bare:AllBare s.gens
 base:Un X.fs X.ex X.H₀ H X.s₀.heap s.heap
 loc:∃ m,s.heap.Ns X.env.locals m/\∀ (i:Nat) (x:Str) (v:V),X.N[i]?=some x->σ[i]?=some (some v)->Vis X.env.scope x->∃ u,jQ v u/\qtn X.env s.heap m x u
 cell:∀ x c,X.env.cells.lookup x=some c->∃ v,s.heap.IsCell c v
 free:H X.env.locals=none
 freeC:∀ x c,X.env.cells.lookup x=some c->H c=none
 pin:∀ p∈X.pn++pins,s.heap.get? p.1=some p.2/\H p.1=none/\p.1≠X.env.locals/\p.1∉X.fs/\∀ v,p.2.data≠.cell v
 hok:HOk X.prog X.w H s.heap
 len:σ.length=X.N.length
section
variable {X:Cx} {pins:List (Addr×Obj)} {σ:List (Option V)} {H H':Hp} {s:Shared} {h':Heap}
def Cx.Ok.nofr (ok:X.Ok) {b:Addr} {o:Obj} (e:X.base.get? b=some o):b∉X.fs:=λhb=>by
 have:=(ok.funs.mem hb).1;rw [e] at this;cases this
theorem Inv.bs (I:Inv X pins σ H s):∀ b o,X.base.get? b=some o->s.heap.get? b=some o/\H b=none:=λb o e=>
 ⟨I.base.keep b o (I.ok.bs b o e).1 (I.ok.bs b o e).2 (I.ok.nofr e) (I.ok.noex b o e),I.base.free b o (I.ok.bs b o e).1 (I.ok.bs b o e).2 (I.ok.noex b o e)⟩
def Inv.bk (I:Inv X pins σ H s):∀ b o,X.base.get? b=some o->s.heap.get? b=some o:=λb o e=>(I.bs b o e).1
theorem Inv.mod (I:Inv X pins σ H s):Mod X.K X.mg X.base:=I.ok.mod
def Inv.kIn (I:Inv X pins σ H s):X.K.In s.heap:=I.ok.mod.kin.keeps I.bk
theorem Inv.nolimit (I:Inv X pins σ H s):s.heap.NoLimit:=I.ok.mod.nolimit.keeps I.bk
def Inv.fr (I:Inv X pins σ H s):∃ m,Fr X.base X.env.locals s.heap m:=
 let ⟨m,hn,_⟩:=I.loc
 ⟨m,hn,I.bk,za3 I.ok.bsz I.ok.above⟩
theorem Inv.lt (I:Inv X pins σ H s):X.env.locals<s.heap.objs.size:=let ⟨_,hn,_⟩:=I.loc;hn.lt
def Inv.sz (I:Inv X pins σ H s):X.s₀.heap.objs.size<=s.heap.objs.size:=za3 I.ok.above (Nat.le_of_lt I.lt)
def Inv.nofs (I:Inv X pins σ H s) {a:Addr} (h:s.heap.objs.size<=a):a∉X.fs:=λhb=>by
 obtain ⟨_,o,ho,_⟩:=I.ok.funs.mem hb;exact absurd (za1 (v6 ho) (za3 I.sz h)) (Nat.lt_irrefl _)
def Inv.cne (I:Inv X pins σ H s):∀ x c,X.env.cells.lookup x=some c->c≠X.env.locals:=λx c e z=>by
 obtain ⟨v,o,ho,hd⟩:=I.cell x c e;obtain ⟨m,⟨o',es,ep,ho',hd',_⟩,_⟩:=I.loc;rw [z,ho'] at ho;cases ho;rw [hd'] at hd;cases hd
theorem Inv.funs (I:Inv X pins σ H s):s.heap.FunFrames X.base X.outer:=by
 have all:∀ (l:List Env),(∀ b∈frs l,b∈X.fs)->X.s₀.heap.FunFrames X.base l->s.heap.FunFrames X.base l:=by
  intro l;induction l with
  |nil=>intro _ _;trivial
  |cons env r ih=>
   intro hs hl;obtain ⟨hk,⟨L,o,hf,hn,ho,hd⟩,hr⟩:=hl;have hL:L∈X.fs:=hs L (by unfold frs;rw [List.filterMap_cons,hf];exact za6);obtain ⟨sl,e⟩:=I.base.slot L o ho (I.ok.frf L hL) hL λz=>I.ok.exfs L z hL;exact ⟨hk,⟨L,_,hf,hn,e,hd⟩,ih (λb hb=>hs b (by unfold frs;rw [List.filterMap_cons,hf];exact u9 _ hb)) hr⟩
 exact all X.outer (λ_ hb=>hb) I.ok.funs
theorem Inv.stack (I:Inv X pins σ H s):s.heap.FunFrames X.base X.stack:=by
 rcases I.ok.stk with e|⟨e,hf⟩
 ·rw [e];exact I.funs
 ·rw [e];obtain ⟨m,hn,_⟩:=I.loc;refine .cons (by rw [I.ok.kind];decide) hf hn ?_ I.funs;exact Heap.get?_none_of_le (za3 I.ok.bsz I.ok.above)
def Inv.stkSub (I:Inv X pins σ H s):∀ b∈frs X.stack,b∈X.env.locals::X.fs:=λb hb=>by
 rcases I.ok.stk with e|⟨e,hf⟩
 ·rw [e] at hb;exact u9 _ hb
 ·rw [e] at hb;unfold frs at hb;rw [List.filterMap_cons,hf] at hb;exact hb
def Inv.stkFree (I:Inv X pins σ H s):∀ b∈frs X.stack,H b=none:=λb hb=>by
 rcases mem_cons.mp (I.stkSub b hb) with e|hb
 ·rw [e];exact I.free
 ·obtain ⟨_,o,ho,_⟩:=I.ok.funs.mem hb;exact I.base.free b o ho (I.ok.frf b hb) λz=>I.ok.exfs b z hb
def Inv.step {g':Array GenState} {t':Nat} {d':Drawn} {ch:List Addr} (I:Inv X pins σ H s)
  (hch:∀ b∈ch,(b∈X.ex\/X.s₀.heap.objs.size<=b)/\b≠X.env.locals/\(∀ x c,X.env.cells.lookup x=some c->c≠b)/\∀ p∈X.pn++pins,p.1≠b)
  (keep:∀ b o,b≠X.env.locals->b∉X.fs->b∉ch->s.heap.get? b=some o->H b=none->h'.get? b=some o)
  (slot:∀ b o,b≠X.env.locals->b∈X.fs->b∉ch->s.heap.get? b=some o->H b=none->∃ sl,h'.get? b=some { o with slots:=sl }) (free:∀ b o,b∉ch->s.heap.get? b=some o->H b=none->H' b=none)
  (there:∀ b o,b∉ch->s.heap.get? b=some o->∃ o',h'.get? b=some o')
  (tups:∀ b xs,H b=some (.tup xs)->H' b=some (.tup xs)) (frzs:∀ b o u,H b=some (.frz o u)->H' b=some (.frz o u)) (tbls:∀ b ps,H b=some (.tbl ps)->∃ more,H' b=some (.tbl (ps++more)))
  (ns:∀ m,s.heap.Ns X.env.locals m->h'.Ns X.env.locals m) (hok:HOk X.prog X.w H' h') (hg:AllBare g') :
  Inv X pins σ H' { s with heap:=h',gens:=g',drawn:=d',toks:=t' }:=by
 have neL:∀ b o,X.s₀.heap.get? b=some o->b≠X.env.locals:=λb o e=>za4 (za1 (v6 e) I.ok.above);have neC:∀ b o,X.s₀.heap.get? b=some o->b∉X.ex->b∉ch:=λb o e hx hb=>by
  rcases (hch b hb).1 with z|z
  ·exact hx z
  ·exact absurd (za1 (v6 e) z) (Nat.lt_irrefl _)
 have cellK:∀ x c,X.env.cells.lookup x=some c->∀ v,s.heap.IsCell c v->h'.IsCell c v:=λx c e v ⟨o,ho,hd⟩=>by
  have nch:c∉ch:=λz=>(hch c z).2.2.1 x c e rfl;by_cases hc:c∈X.fs
  ·obtain ⟨sl,q⟩:=slot c o (I.cne x c e) hc nch ho (I.freeC x c e);exact ⟨_,q,hd⟩
  ·exact ⟨o,keep c o (I.cne x c e) hc nch ho (I.freeC x c e),hd⟩
 refine ⟨I.ok,I.os,hg,⟨λb o e n hb hx=>?_,λb o e n hb hx=>?_,λb o e n hx=>?_,λb o e hx=>?_,λb xs e=>tups b xs (I.base.tups b xs e),λb o xs e=>frzs b o xs (I.base.frzs b o xs e),λb ps e=>?_⟩,?_,λx c e=>?_,?_,λx c e=>?_,λp hp=>?_,hok,I.len⟩
 ·exact keep b o (neL b o e) hb (neC b o e hx) (I.base.keep b o e n hb hx) (I.base.free b o e n hx)
 ·obtain ⟨sl,e1⟩:=I.base.slot b o e n hb hx;obtain ⟨sl',e2⟩:=slot b _ (neL b o e) hb (neC b o e hx) e1 (I.base.free b o e n hx);exact ⟨sl',e2⟩
 ·obtain ⟨o',e1⟩:=I.base.there b o e hx;exact free b o' (neC b o e hx) e1 (I.base.free b o e n hx)
 ·obtain ⟨o',e1⟩:=I.base.there b o e hx;exact there b o' (neC b o e hx) e1
 ·obtain ⟨m1,e1⟩:=I.base.tbls b ps e;obtain ⟨m2,e2⟩:=tbls b _ e1;exact ⟨m1++m2,by rw [e2,Array.append_assoc]⟩
 ·obtain ⟨m,hn,hl⟩:=I.loc;refine ⟨m,ns m hn,λi x v e1 e2 e3=>?_⟩;obtain ⟨u,r,l⟩:=hl i x v e1 e2 e3;refine ⟨u,r,?_⟩;rcases l with l|⟨k,c,e,z⟩
  ·exact .inl l
  ·exact .inr ⟨k,c,e,cellK x c e _ z⟩
 ·obtain ⟨v,z⟩:=I.cell x c e;exact ⟨v,cellK x c e v z⟩
 ·obtain ⟨m,⟨o,_,_,ho,_⟩,_⟩:=I.loc;exact free _ o (λz=>(hch _ z).2.1 rfl) ho I.free
 ·obtain ⟨v,o,ho,hd⟩:=I.cell x c e;exact free c o (λz=>(hch c z).2.2.1 x c e rfl) ho (I.freeC x c e)
 ·obtain ⟨e,n,ne,nf,d⟩:=I.pin p hp;have nch:p.1∉ch:=λz=>(hch p.1 z).2.2.2 p hp rfl;exact ⟨keep p.1 p.2 ne nf nch e n,free p.1 p.2 nch e n,ne,nf,d⟩
def Inv.un {t':Nat} (I:Inv X pins σ H s) (u:Un X.fs [] H H' s.heap h') (hok:HOk X.prog X.w H' h'):Inv X pins σ H' { s with heap:=h',toks:=t' }:=by
 obtain ⟨m,⟨o,es,ep,ho,r⟩,_⟩:=id I.loc;obtain ⟨sl,hL⟩:=u.any ho I.free (by simp);exact I.step (g':=s.gens) (d':=s.drawn) (ch:=[]) (λ_ z=>nomatch z) (λb o _ hb _ e n=>u.keep b o e n hb (by simp)) (λb o _ hb _ e n=>u.slot b o e n hb (by simp)) (λb o _ e n=>u.free b o e n (by simp)) (λb o _ e=>u.there b o e (by simp)) u.tups u.frzs u.tbls (λm' hm=>by
  obtain ⟨o',es',ep',ho',r'⟩:=hm;rw [ho] at ho';cases ho';exact ⟨_,es',ep',hL,r'⟩) hok I.bare
def Inv.call {g':Array GenState} {t':Nat} {d':Drawn} {ch:List Addr} (I:Inv X pins σ H s) (u:Un (frs X.stack) ch H H' s.heap h') (hok:HOk X.prog X.w H' h') (hg:AllBare g')
  (hch:∀ b∈ch,(b∈X.ex\/X.s₀.heap.objs.size<=b)/\b≠X.env.locals/\(∀ x c,X.env.cells.lookup x=some c->c≠b)/\∀ p∈X.pn++pins,p.1≠b) :
  Inv X pins σ H' { s with heap:=h',gens:=g',drawn:=d',toks:=t' }:=by
 obtain ⟨m,⟨o,es,ep,ho,r⟩,_⟩:=id I.loc;obtain ⟨sl,hL⟩:=u.any ho I.free λz=>(hch _ z).2.1 rfl;exact I.step (ch:=ch) hch (λb o hL hb hc e n=>u.keep b o e n (λz=>(mem_cons.mp (I.stkSub b z)).elim hL hb) hc) (λb o _ _ hc e n=>u.any e n hc) (λb o hc e n=>u.free b o e n hc) (λb o hc e=>u.there b o e hc) u.tups u.frzs u.tbls (λm' hm=>by
  obtain ⟨o',es',ep',ho',r'⟩:=hm;rw [ho] at ho';cases ho';exact ⟨_,es',ep',hL,r'⟩) hok hg
def Inv.turned {t':Nat} {it:Addr} (I:Inv X pins σ H s) (k:∀ b o,b≠it->s.heap.get? b=some o->h'.get? b=some o) (hn:H it=none) (hL:it≠X.env.locals)
  (h1:it∈X.ex\/X.s₀.heap.objs.size<=it) (h2:∀ x c,X.env.cells.lookup x=some c->c≠it) (h3:∀ p∈X.pn++pins,p.1≠it):Inv X pins σ H { s with heap:=h',toks:=t' }:=by
 have nit:∀ b u,H b=some u->b≠it:=λb u e z=>by rw [z,hn] at e;cases e
 refine I.step (g':=s.gens) (d':=s.drawn) (ch:=[it]) (λb hb=>?_) (λb o _ _ hc e _=>k b o (λz=>hc (by simp [z])) e) (λb o _ _ hc e _=>⟨o.slots,k b o (λz=>hc (by simp [z])) e⟩) (λ_ _ _ _ n=>n)
  (λb o hc e=>⟨o,k b o (λz=>hc (by simp [z])) e⟩) (λ_ _ e=>e) (λ_ _ _ e=>e) (λb ps e=>⟨#[],by rw [e];simp⟩) (λm hm=>?_) (λb u e=>?_) I.bare
 ·have e:b=it:=by simpa using hb
  subst e;exact ⟨h1,hL,h2,h3⟩
 ·obtain ⟨o,es,ep,ho,r⟩:=hm;exact ⟨o,es,ep,k _ o (Ne.symm hL) ho,r⟩
 ·refine (I.hok b u e).stay (λc v hc q=>k c v ?_ q) (λ_ q=>q) λ_ _ q=>q;rcases hc with z|z
  ·rw [z];exact nit b u e
  ·exact nit c _ z
def Inv.tok (I:Inv X pins σ H s) (t:Nat):Inv X pins σ H { s with toks:=t }:=I.un (h':=s.heap) (t':=t) Un.refl I.hok
theorem Inv.kept {t':Nat} (I:Inv X pins σ H s) (k:∀ b u,s.heap.get? b=some u->h'.get? b=some u):Inv X pins σ H { s with heap:=h',toks:=t' }:=I.un (Un.kept k) (I.hok.kept k)
theorem Inv.laid {a:Addr} {o:HO} {t':Nat} (I:Inv X pins σ H s) (k:∀ b u,s.heap.get? b=some u->h'.get? b=some u) (hp:s.heap.objs.size<=a) (new:UC X.prog X.w (upd H a o) h' a o) :
  Inv X pins σ (upd H a o) { s with heap:=h',toks:=t' }:=I.un (Un.laid k hp (I.hok.fresh hp)) (I.hok.laid k hp new)
theorem Inv.write {x e:Addr} {o:HO} {t':Nat} (I:Inv X pins σ H s) (mu:Mut (H x)) (he:e=x\/H e=some (.own x)) (k:∀ b u,b≠e->s.heap.get? b=some u->h'.get? b=some u) (heo:∃ u,h'.get? e=some u)
  (new:UC X.prog X.w (upd H x o) h' x o):Inv X pins σ (upd H x o) { s with heap:=h',toks:=t' }:=I.un (Un.write mu he k heo) (I.hok.write mu he k heo new)
def Inv.pins_of {pins':List (Addr×Obj)} (I:Inv X pins σ H s) (h:∀ p∈pins',s.heap.get? p.1=some p.2/\H p.1=none/\p.1≠X.env.locals/\p.1∉X.fs/\∀ v,p.2.data≠.cell v):Inv X pins' σ H s:=
 ⟨I.ok,I.os,I.bare,I.base,I.loc,I.cell,I.free,I.freeC,λp hp=>(List.mem_append.mp hp).elim (λz=>I.pin p (List.mem_append_left _ z)) (h p),I.hok,I.len⟩
def qbw {N:List Str} (hN:N.Nodup) {i j:Nat} {x:Str} (a:N[i]?=some x) (b:N[j]?=some x):i=j:=by
 obtain ⟨h1,e1⟩:=zb0 a;obtain ⟨h2,e2⟩:=zb0 b;exact (List.getElem_inj hN).mp (e1.trans e2.symm)
def NL {M:Model} {A:Around} {E:Value->Shared->Prop} {i:Nat} {x:Str} {v:V} {u:Value} {Q:Unit->Shared->Prop} (I:Inv X pins σ H s) (hN:X.N.Nodup) (hi:X.N[i]?=some x) (hx:Loc X.env.scope x) (r:jQ v u)
  (h:∀ s',Inv X pins (σ.set i (some v)) H s'->(∃ a,Heap.SameBut a s.heap s'.heap/\(a=X.env.locals\/X.env.cells.lookup x=some a))->Q () s') (hf:X.fn x=true\/X.env.scope.names.lookup x=some .local:=by first|exact .inl rfl|exact .inr rfl|assumption):wpAny M A (storeName X.env x u) Q E s:=by
 obtain ⟨m,hn,hl⟩:=id I.loc;have hcls:(X.env.scope.kind==.class||(X.env.scope.kind==.module&&X.env.locals != X.env.globals))=false:=by rw [I.ok.kind];rfl
 have hiσ:i<σ.length:=by rw [I.len];exact (zb0 hi).1
 have cne:=I.cne;have tracked:∀ {a:Addr} {h':Heap},(∃ o,s.heap.get? a=some o/\H a=none)->Heap.SameBut a s.heap h'->HOk X.prog X.w H h':=λ{a h'} ha hs b ob e=>by
  obtain ⟨_,_,hfree⟩:=ha;refine (I.hok b ob e).stay (λc w' hc q=>(hs.2 c ?_).trans q) (λ_ q=>q) λ_ _ q=>q;rintro rfl;rcases hc with rfl|hc
  ·rw [hfree] at e;cases e
  ·rw [hfree] at hc;cases hc
 rcases hx with hk|hk
 ·refine wpAny_storeName_local hk hn (λh' hn' hs=>?_) hcls;obtain ⟨oL,_,_,hoL,_⟩:=id hn;refine h _ ⟨I.ok,I.os,I.bare,⟨λb o e n hb hx=>?_,λb o e n hb hx=>?_,I.base.free,λb o e hx=>?_,I.base.tups,I.base.frzs,I.base.tbls⟩,⟨_,hn',λj y v' e1 e2 e3=>?_⟩,λy c e=>?_,I.free,I.freeC,λp hp=>?_,tracked ⟨oL,hoL,I.free⟩ hs,by simpa using I.len⟩ ⟨_,hs,.inl rfl⟩
  ·exact (hs.2 b (za4 (za1 (v6 e) I.ok.above))).trans (I.base.keep b o e n hb hx)
  ·obtain ⟨sl,e1⟩:=I.base.slot b o e n hb hx;exact ⟨sl,(hs.2 b (za4 (za1 (v6 e) I.ok.above))).trans e1⟩
  ·obtain ⟨o',e1⟩:=I.base.there b o e hx;exact ⟨o',(hs.2 b (za4 (za1 (v6 e) I.ok.above))).trans e1⟩
  ·by_cases hj:j=i
   ·subst hj;rw [hi] at e1;cases e1;rw [List.getElem?_set_self hiσ] at e2;cases e2;exact ⟨u,r,.inl ⟨hk,by simp⟩⟩
   ·rw [List.getElem?_set_ne (Ne.symm hj)] at e2;obtain ⟨u',r',q⟩:=hl j y v' e1 e2 e3;refine ⟨u',r',?_⟩;rcases q with ⟨k,e⟩|⟨k,c,e,z⟩
    ·refine .inl ⟨k,?_⟩;have:y≠x:=λe=>hj (qbw hN e1 (e▸hi));simp [this,e]
    ·exact .inr ⟨k,c,e,z.sameBut hs (cne y c e)⟩
  ·obtain ⟨w',z⟩:=I.cell y c e;exact ⟨w',z.sameBut hs (cne y c e)⟩
  ·obtain ⟨e,n,ne,nf,d⟩:=I.pin p hp;exact ⟨(hs.2 p.1 ne).trans e,n,ne,nf,d⟩
 ·have hfn:X.fn x=true:=by
   rcases hf with z|z
   ·exact z
   ·rw [z] at hk;cases hk
  obtain ⟨c,hc⟩:=I.ok.has x (.inl hk);obtain ⟨w',z⟩:=I.cell x c hc;refine wpAny_storeName_cell I.ok.kind hk hc z (λh' hc' hs=>?_);obtain ⟨oc,hoc,hocd⟩:=id z;refine h { s with heap:=h' } ⟨I.ok,I.os,I.bare,⟨λb o e n hb hx=>?_,λb o e n hb hx=>?_,I.base.free,λb o e hx=>?_,I.base.tups,I.base.frzs,I.base.tbls⟩,⟨m,hn.sameBut hs (Ne.symm (cne x c hc)),λj y v' e1 e2 e3=>?_⟩,λy c' e=>?_,I.free,I.freeC,λp hp=>?_,tracked ⟨oc,hoc,I.freeC x c hc⟩ hs,by simpa using I.len⟩ ⟨c,hs,.inr hc⟩
  ·exact (hs.2 b (za4 (za1 (v6 e) (I.ok.cab x c hfn hc)))).trans (I.base.keep b o e n hb hx)
  ·obtain ⟨sl,e1⟩:=I.base.slot b o e n hb hx;exact ⟨sl,(hs.2 b (za4 (za1 (v6 e) (I.ok.cab x c hfn hc)))).trans e1⟩
  ·obtain ⟨o',e1⟩:=I.base.there b o e hx;exact ⟨o',(hs.2 b (za4 (za1 (v6 e) (I.ok.cab x c hfn hc)))).trans e1⟩
  ·by_cases hj:j=i
   ·subst hj;rw [hi] at e1;cases e1;rw [List.getElem?_set_self hiσ] at e2;cases e2;exact ⟨u,r,.inr ⟨.inl hk,c,hc,hc'⟩⟩
   ·rw [List.getElem?_set_ne (Ne.symm hj)] at e2;obtain ⟨u',r',q⟩:=hl j y v' e1 e2 e3;refine ⟨u',r',?_⟩;rcases q with q|⟨k,c',e,z'⟩
    ·exact .inl q
    ·refine .inr ⟨k,c',e,z'.sameBut hs ?_⟩;rintro rfl;exact hj (qbw hN e1 (I.ok.inj _ _ _ e hc▸hi))
  ·by_cases hcc:c'=c
   ·subst hcc;exact ⟨_,hc'⟩
   ·obtain ⟨w2,z2⟩:=I.cell y c' e;exact ⟨w2,z2.sameBut hs hcc⟩
  ·obtain ⟨e,n,ne,nf,d⟩:=I.pin p hp;refine ⟨(hs.2 p.1 ?_).trans e,n,ne,nf,d⟩;intro q;rw [q,hoc] at e;have q':oc=p.2:=Option.some.inj e;exact d w' (by rw [← q'];exact hocd)
def WX {M:Model} {A:Around} {E:Value->Shared->Prop} {i:Nat} {x:Str} {v:V} {u:Value} {Q:Unit->Shared->Prop} (I:Inv X pins σ H s) (hN:X.N.Nodup) (hi:X.N[i]?=some x) (hx:Loc X.env.scope x) (r:jQ v u)
  (h:∀ s',Inv X pins (σ.set i (some v)) H s'->Q () s') (hf:X.fn x=true\/X.env.scope.names.lookup x=some .local:=by first|exact .inl rfl|exact .inr rfl|assumption):wpAny M A (storeName X.env x u) Q E s:=
 NL I hN hi hx r (λs' I' _=>h s' I') hf
def Inv.call' {s':Shared} {ch:List Addr} (I:Inv X pins σ H s) (ho:s'.os=s.os) (u:Un (frs X.stack) ch H H' s.heap s'.heap) (hok:HOk X.prog X.w H' s'.heap) (hg:AllBare s'.gens)
  (hch:∀ b∈ch,(b∈X.ex\/X.s₀.heap.objs.size<=b)/\b≠X.env.locals/\(∀ x c,X.env.cells.lookup x=some c->c≠b)/\∀ p∈X.pn++pins,p.1≠b):Inv X pins σ H' s':=by
 obtain ⟨h',g',d',t',o'⟩:=s';have e:o'=s.os:=ho;subst e;exact I.call (g':=g') (t':=t') (d':=d') u hok hg hch
end
abbrev XK:=Value->Option Addr->Hp->Prop
abbrev St:=List (Option V)
abbrev VK:=V->Hp->Prop
abbrev TE:=St->Hp->VK->Prop
abbrev TT:=St->Hp->(Bool->Hp->Prop)->Prop
abbrev TA:=St->Hp->(List V->Hp->Prop)->Prop
structure Ends where
 nx:St->Hp->Prop
 rt:VK
 bk:St->Hp->Prop:=λ_ _=>False
 ct:St->Hp->Prop:=λ_ _=>False
abbrev TS:=Ends->St->Hp->Prop
def EP (X:Cx) (pins:List (Addr×Obj)) (σ:St) (Q:VK) (u:Value) (s':Shared):Prop:=∃ v H',Inv X pins σ H' s'/\jQ v u/\Q v H'
def TP (X:Cx) (pins:List (Addr×Obj)) (σ:St) (Q:Bool->Hp->Prop) (b:Bool) (s':Shared):Prop:=∃ H',Inv X pins σ H' s'/\Q b H'
def AP (X:Cx) (pins:List (Addr×Obj)) (σ:St) (Q:List V->Hp->Prop) (us:List Value) (s':Shared):Prop:=∃ vs H',Inv X pins σ H' s'/\jh vs us/\Q vs H'
def SP (X:Cx) (pins:List (Addr×Obj)) (D:Ends) (f:Flow) (s':Shared):Prop:=
 match f with
 |.next=>∃ σ' H',Inv X pins σ' H' s'/\D.nx σ' H'
 |.brk=>∃ σ' H',Inv X pins σ' H' s'/\D.bk σ' H'
 |.cont=>∃ σ' H',Inv X pins σ' H' s'/\D.ct σ' H'
 |.ret u=>∃ v σ' H',Inv X pins σ' H' s'/\jQ v u/\D.rt v H'
def PE (X:Cx) (e:Expr) (t:TE):Prop:=
 ∀ (pins:List (Addr×Obj)) (s:Shared) (σ:St) (H:Hp) (Q:VK),Inv X pins σ H s->t σ H Q->wpAny (model X.prog X.w) X.A (eval e X.env) (EP X pins σ Q) X.xe s
def PT (X:Cx) (e:Expr) (t:TT):Prop:=
 ∀ (pins:List (Addr×Obj)) (s:Shared) (σ:St) (H:Hp) (Q:Bool->Hp->Prop),Inv X pins σ H s->t σ H Q->wpAny (model X.prog X.w) X.A (isTrue e X.env (eval e X.env)) (TP X pins σ Q) X.xe s
def PW (X:Cx) (e:Expr) (t:TT):Prop:=
 ∀ (whole:Sem Value) (pins:List (Addr×Obj)) (s:Shared) (σ:St) (H:Hp) (Q:Bool->Hp->Prop),Inv X pins σ H s->t σ H Q->wpAny (model X.prog X.w) X.A (isTrue e X.env whole) (TP X pins σ Q) X.xe s
def PW.pt {X:Cx} {e:Expr} {t:TT} (h:PW X e t):PT X e t:=h _
def PA (X:Cx) (es:List Expr) (t:TA):Prop:=
 ∀ (pos:Pos) (pins:List (Addr×Obj)) (s:Shared) (σ:St) (H:Hp) (Q:List V->Hp->Prop),Inv X pins σ H s->t σ H Q->wpAny (model X.prog X.w) X.A (spliced (backTo pos (starEach es X.env))) (AP X pins σ Q) X.xe s
def PS (X:Cx) (st:Stmt) (t:TS):Prop:=
 ∀ (pins:List (Addr×Obj)) (s:Shared) (σ:St) (H:Hp) (D:Ends),Inv X pins σ H s->t D σ H->wpAny (model X.prog X.w) X.A (exec st X.env) (SP X pins D) X.xe s
def PSs (X:Cx) (st:List Stmt) (t:TS):Prop:=
 ∀ (pins:List (Addr×Obj)) (s:Shared) (σ:St) (H:Hp) (D:Ends),Inv X pins σ H s->t D σ H->wpAny (model X.prog X.w) X.A (execs st X.env) (SP X pins D) X.xe s
def thn {α:Type} {t:Sem α} {Q Q':α->Shared->Prop} {M:Model} {A:Around} {E:Value->Shared->Prop} {s:Shared} (h:wpAny M A t Q E s) (hQ:∀ a s,Q a s->Q' a s):wpAny M A t Q' E s:=y9 h hQ λ_ _ x=>x
section
variable {X:Cx}
def qtX (i:Nat):TE:=λσ H Q=>∃ v,σ[i]?=some (some v)/\Q v H
def tC (v:V):TE:=λ_ H Q=>Q v H
def qmv {i:Nat} {x:Str} {pos:Pos} (hN:X.N[i]?=some x) (hv:Vis X.env.scope x) (hd:(x==("__debug__" : Str))=false:=by decide) (hcd:(x==("__classdict__" : Str))=false:=by decide):PE X (.Name x pos) (qtX i):=by
 intro pins s σ H Q I h;obtain ⟨v,e,h⟩:=h;obtain ⟨m,hn,hl⟩:=I.loc;obtain ⟨u,r,l⟩:=hl i x v hN e hv;have fin:EP X pins σ Q u s:=⟨v,H,I,r,h⟩
 rcases l with ⟨hk,hm⟩|⟨hk,c,hc,hcell⟩
 ·exact wpAny_Name (wpAny_loadName_local I.ok.kind hk hn hm fin) hd
 ·rcases hk with hk|hk
  ·exact wpAny_Name (wpAny_loadName_cell I.ok.kind hk hc hcell fin) hd
  ·exact wpAny_Name (wpAny_loadName_free I.ok.kind hk hc hcell fin hcd) hd
def qnV {i j pos}:PE X (.Constant (.int i) j pos) (tC (.int i)):=λ_ _ _ H _ I h=>wpAny_Constant_int ⟨.int i,H,I.tok _,⟨_,rfl⟩,h⟩
def qrJ {b j pos}:PE X (.Constant (.bool b) j pos) (tC (.bl b)):=λ_ _ _ H _ I h=>Constant_bool ⟨.bl b,H,I,rfl,h⟩
def qnz {j pos}:PE X (.Constant .none j pos) (tC .non):=λ_ _ _ H _ I h=>Constant_none ⟨.non,H,I,rfl,h⟩
def qiO {x j pos}:PE X (.Constant (.str x) j pos) (tC (.str x)):=λ_ _ _ H _ I h=>Calls.Constant_str ⟨.str x,H,I.tok _,⟨_,rfl⟩,h⟩
def Gl (X:Cx) (x:Str):Prop:=X.env.kindOf x=some .globalImplicit
def qdc {E:Value->Shared->Prop} {pins:List (Addr×Obj)} {s:Shared} {σ:St} {H:Hp} {x:Str} {u:Value} {pos:Pos} {Q:Value->Shared->Prop} (I:Inv X pins σ H s) (hg:Gl X x) (hm:X.mg x=some u) (h:Q u s)
  (hd:(x==("__debug__" : Str))=false:=by decide):wpAny (model X.prog X.w) X.A (eval (.Name x pos) X.env) Q E s:=
 Calls.Name_function_global I.ok.kind hg (Calls.loadGlobal_global (by rw [I.ok.glob];exact I.mod.glob.keeps I.bk) hm h) hd
def SL {E:Value->Shared->Prop} {pins:List (Addr×Obj)} {s:Shared} {σ:St} {H:Hp} {x:Str} {u:Value} {pos:Pos} {Q:Value->Shared->Prop} (I:Inv X pins σ H s) (hg:Gl X x) (hm:X.mg x=none) (hv:bootBuiltins x=some u) (h:Q u s)
  (hn:x≠"__name__" := by decide) (hd:(x==("__debug__" : Str))=false:=by decide):wpAny (model X.prog X.w) X.A (eval (.Name x pos) X.env) Q E s:=by
 obtain ⟨mb,h1,h2⟩:=I.mod.blt;exact Calls.Name_function_global I.ok.kind hg (Calls.loadGlobal_builtin (by rw [I.ok.glob];exact I.mod.glob.keeps I.bk) hm (by rw [I.ok.blt];exact h1.keeps I.bk) ((h2 x hn).trans hv) h) hd
def qj4 {x:Str} {v:V} {u:Value} {pos:Pos} (hg:Gl X x) (hm:X.mg x=some u) (r:jQ v u) (hd:(x==("__debug__" : Str))=false:=by decide):PE X (.Name x pos) (tC v):=
 λ_ _ _ H _ I h=>qdc I hg hm ⟨v,H,I,r,h⟩ hd
def qaX {x:Str} {v:V} {u:Value} {pos:Pos} (hg:Gl X x) (hm:X.mg x=none) (hv:bootBuiltins x=some u) (r:jQ v u) (hn:x≠"__name__" := by decide) (hd:(x==("__debug__" : Str))=false:=by decide):PE X (.Name x pos) (tC v):=
 λ_ _ _ H _ I h=>SL I hg hm hv ⟨v,H,I,r,h⟩ hn hd
variable {a b:Expr} {ta tb:TE} {pos:Pos}
def tB (t:TE):TT:=λσ H Q=>t σ H λx H1=>∃ c,x=.bl c/\Q c H1
def qnL {e:Expr} {t:TE} (h:PE X e t) (he:∀ whole,isTrue e X.env whole=(do let v←whole;standAt e.pos;holding [v] (truthy v)):=by intro _;rfl):PT X e (tB t):=by
 intro pins s σ H Q I hw;refine isTrue_plain (thn (h pins s σ H _ I hw) λv s1 ⟨x,H1,I1,r1,q1⟩=>?_) (he _);obtain ⟨d,rfl,q⟩:=q1;cases r1;exact wpAny_truthy_bool ⟨H1,I1,q⟩
variable {tA tB':TT} {VV:List Expr}
def tOr (t u:TT):TT:=λσ H Q=>t σ H λc H1=>if c=true then Q true H1 else u σ H1 Q
def qtC (t:TT):TT:=λσ H Q=>t σ H λc H1=>Q (!c) H1
def qor (ha:PT X a tA):PW X (.BoolOp .Or [a] pos) tA:=by
 intro wh pins s σ H Q I h;refine isTrue_or (thn (ha pins s σ H Q I h) λc s1 e=>?_);cases c with
 |false=>exact isTrue_or_nil e
 |true=>exact e
def qqM (ha:PT X a tA) (hb:PW X (.BoolOp .Or (b::VV) pos) tB'):PW X (.BoolOp .Or (a::b::VV) pos) (tOr tA tB'):=by
 intro wh pins s σ H Q I h;refine isTrue_or (thn (ha pins s σ H _ I h) λc s1 ⟨H1,I1,q1⟩=>?_);cases c with
 |true=>exact ⟨H1,I1,q1⟩
 |false=>exact hb wh pins s1 σ H1 Q I1 q1
def qlJ (ha:PT X a tA):PT X (.UnaryOp .Not a pos) (qtC tA):=by
 intro pins s σ H Q I h;exact isTrue_not (ha pins s σ H (λc H1=>Q (!c) H1) I h)
def qrY (ta tb:TE):TE:=λσ H Q=>ta σ H λx H1=>∃ c,x=.bl c/\if c=true then tb σ H1 Q else Q (.bl false) H1
def qrs (ta:TE):TE:=λσ H Q=>ta σ H λx H1=>∃ c,x=.bl c/\Q (.bl (!c)) H1
def qlB {op} {t:TE} (h:PE X a t):PE X (.BoolOp op [a] pos) t:=λpins s σ H Q I hw=>BoolOp_one (h pins s σ H Q I hw)
def qoo (ha:PE X a ta) (hb:PE X (.BoolOp .And (b::VV) pos) tb):PE X (.BoolOp .And (a::b::VV) pos) (qrY ta tb):=by
 intro pins s σ H Q I h;refine BoolOp_and (thn (ha pins s σ H _ I h) λv s1 ⟨x,H1,I1,r1,q1⟩=>?_);obtain ⟨c,rfl,q1⟩:=q1;cases r1;refine wpAny_truthy_bool ?_;cases c with
 |true=>exact hb pins s1 σ H1 Q I1 q1
 |false=>exact ⟨.bl false,H1,I1,rfl,q1⟩
def qmo (ha:PE X a ta):PE X (.UnaryOp .Not a pos) (qrs ta):=by
 intro pins s σ H Q I h;refine UnaryOp_ (thn (ha pins s σ H _ I h) λv s1 ⟨x,H1,I1,r1,q1⟩=>?_);obtain ⟨c,rfl,q1⟩:=q1;cases r1;exact not_of (wpAny_truthy_bool ⟨.bl (!c),H1,I1,rfl,q1⟩)
def tIf (t:TT) (ta tb:TE):TE:=λσ H Q=>t σ H λc H1=>if c=true then ta σ H1 Q else tb σ H1 Q
def qe3 {c:Expr} (hc:PT X c tA) (ha:PE X a ta) (hb:PE X b tb):PE X (.IfExp c a b pos) (tIf tA ta tb):=by
 intro pins s σ H Q I h;refine wpAny_IfExp (thn (hc pins s σ H _ I h) λd s1 ⟨H1,I1,q1⟩=>?_);cases d with
 |true=>exact ha pins s1 σ H1 Q I1 q1
 |false=>exact hb pins s1 σ H1 Q I1 q1
end
def SqL (K:Frg) (H:Hp) (a:Addr) (xs:List V):Prop:=
 Rd H a (.lst xs) ∨
  ∃ (o:Obj) (its:Array Value) (n:Nat),K.lookup a=some o/\o.cls=.type "list"/\o.dict=none/\o.data=.seq its n/\its.size<=sizeLine/\jh xs its.toList
def SqT (K:Frg) (H:Hp) (a:Addr) (xs:List V):Prop:=
 Rd H a (.tup xs) ∨
  ∃ (o:Obj) (its:Array Value) (n:Nat),K.lookup a=some o/\o.cls=.type "tuple"/\o.data=.seq its n/\its.size<=sizeLine/\jh xs its.toList/\o.dict=none
def qtm:Value->Option V
 |.none=>some .non
 |.bool b=>some (.bl b)
 |.int i _=>some (.int i)
 |.str x _=>some (.str x)
 |.bytes b _=>some (.byt b)
 |.float b _=>some (.flt b)
 |.ref a=>some (.ref a)
 |.type n=>some (.ty n)
 |_=>none
def jQ.abs {x:V} {u:Value} (r:jQ x u):qtm u=some x:=by
 cases x with
 |non=>cases r;rfl
 |bl _=>cases r;rfl
 |int _=>obtain ⟨t,rfl⟩:=r;rfl
 |str _=>obtain ⟨t,rfl⟩:=r;rfl
 |byt _=>obtain ⟨t,rfl⟩:=r;rfl
 |flt _=>obtain ⟨t,rfl⟩:=r;rfl
 |ref _=>cases r;rfl
 |ty _=>cases r;rfl
theorem jQ.inj {x y:V} {u:Value} (r:jQ x u) (q:jQ y u):x=y:=Option.some.inj (r.abs.symm.trans q.abs)
theorem jh.inj:∀ {xs ys:List V} {us:List Value},jh xs us->jh ys us->xs=ys
 |_,_,_,.nil,.nil=>rfl
 |_,_,_,.cons r t,.cons r' t'=>by rw [r.inj r',jh.inj t t']
section
variable {X:Cx} {pins:List (Addr×Obj)} {σ:St} {H:Hp} {s:Shared} {a:Addr} {xs ys:List V}
def SqL.of {K:Frg} (h:H a=some (.lst xs)):SqL K H a xs:=.inl (.inl h)
def SqT.of {K:Frg} (h:H a=some (.tup xs)):SqT K H a xs:=.inl (.inl h)
def Inv.list (I:Inv X pins σ H s) (h:SqL X.K H a xs):∃ its:List Value,jh xs its/\PlainL s.heap a its.toArray/\xs.length<=sizeLine:=by
 rcases h with h|⟨o,its,n,hk,hc,hd,hs,hz,r⟩
 ·obtain ⟨z,its,n,r,e⟩:=h.ok I.hok;exact ⟨its,r,⟨_,n,e,rfl,rfl,rfl⟩,z⟩
 ·refine ⟨its.toList,r,⟨o,n,I.kIn a o hk,hc,hd,by simpa using hs⟩,?_⟩;have e:=r.length;simp only [Array.length_toList] at e;omega
def Inv.tuple (I:Inv X pins σ H s) (h:SqT X.K H a xs):∃ its:List Value,jh xs its/\IsTup s.heap a its.toArray/\xs.length<=sizeLine:=by
 rcases h with h|⟨o,its,n,hk,hc,hs,hz,r,_⟩
 ·obtain ⟨z,its,r,p⟩:=h.ok I.hok;exact ⟨its,r,p.tup,z⟩
 ·refine ⟨its.toList,r,⟨o,I.kIn a o hk,hc,n,by simpa using hs⟩,?_⟩;have e:=r.length;simp only [Array.length_toList] at e;omega
def Inv.list_inj (I:Inv X pins σ H s) (h:SqL X.K H a xs) (h':SqL X.K H a ys):xs=ys:=by
 obtain ⟨its,r,⟨o,n,e,_,_,d⟩,_⟩:=I.list h;obtain ⟨its',r',⟨o',n',e',_,_,d'⟩,_⟩:=I.list h';rw [e] at e';cases e';rw [d] at d';injection d' with d1 _;have:its=its':=by simpa using congrArg Array.toList d1
 subst this;exact r.inj r'
def Inv.tuple_inj (I:Inv X pins σ H s) (h:SqT X.K H a xs) (h':SqT X.K H a ys):xs=ys:=by
 obtain ⟨its,r,⟨o,e,_,n,d⟩,_⟩:=I.tuple h;obtain ⟨its',r',⟨o',e',_,n',d'⟩,_⟩:=I.tuple h';rw [e] at e';cases e';rw [d] at d';injection d' with d1 _;have:its=its':=by simpa using congrArg Array.toList d1
 subst this;exact r.inj r'
end
abbrev Cx.wish (X:Cx) (E:Value->Shared->Prop):Cx:={ X with xe:=E }
abbrev Cx.nox (X:Cx):Cx:=X.wish λ_ _=>False
theorem Cx.Ok.wish {X:Cx} (ok:X.Ok) (E:Value->Shared->Prop):(X.wish E).Ok:=
 ⟨ok.mod,ok.kind,ok.glob,ok.blt,ok.above,ok.inj,ok.has,ok.cab,ok.hd,ok.frames,ok.stk,ok.exf,ok.bs,ok.bsz,ok.noex,ok.exfs,ok.funs,ok.frf⟩
def Cx.Ok.unwish {X:Cx} {E:Value->Shared->Prop} (ok:(X.wish E).Ok):X.Ok:=
 ⟨ok.mod,ok.kind,ok.glob,ok.blt,ok.above,ok.inj,ok.has,ok.cab,ok.hd,ok.frames,ok.stk,ok.exf,ok.bs,ok.bsz,ok.noex,ok.exfs,ok.funs,ok.frf⟩
section
variable {X:Cx} {pins:List (Addr×Obj)} {σ:St} {H:Hp} {s:Shared} {E:Value->Shared->Prop}
theorem Inv.wish (I:Inv X pins σ H s) (E:Value->Shared->Prop):Inv (X.wish E) pins σ H s:=⟨I.ok.wish E,I.os,I.bare,I.base,I.loc,I.cell,I.free,I.freeC,I.pin,I.hok,I.len⟩
theorem Inv.unwish (I:Inv (X.wish E) pins σ H s):Inv X pins σ H s:=⟨I.ok.unwish,I.os,I.bare,I.base,I.loc,I.cell,I.free,I.freeC,I.pin,I.hok,I.len⟩
theorem SP.unwish {D:Ends} {f:Flow} {s':Shared} (h:SP (X.wish E) pins D f s'):SP X pins D f s':=by
 cases f with
 |next=>obtain ⟨σ',H',I,q⟩:=h;exact ⟨σ',H',I.unwish,q⟩
 |brk=>obtain ⟨σ',H',I,q⟩:=h;exact ⟨σ',H',I.unwish,q⟩
 |cont=>obtain ⟨σ',H',I,q⟩:=h;exact ⟨σ',H',I.unwish,q⟩
 |ret u=>obtain ⟨v,σ',H',I,r,q⟩:=h;exact ⟨v,σ',H',I.unwish,r,q⟩
theorem PSs.nox {st:List Stmt} {t:TS} (h:PSs X.nox st t):PSs X st t:=λpins s σ H D I hw=>
 y9 (h pins s σ H D (I.wish _) hw) (λ_ _ q=>q.unwish) λ_ _ z=>False.elim z
end
section
variable {X:Cx} {st:Stmt} {VV:List Stmt} {t u:TS} {e:Expr} {te:TE} {pos:Pos}
def qru:TS:=λD σ H=>D.nx σ H
def qtW (t u:TS):TS:=λD σ H=>t { D with nx:=u D } σ H
def qkq:PSs X [] qru:=λ_ _ σ H _ I h=>wpAny_execs_nil ⟨σ,H,I,h⟩
def qfI (h1:PS X st t) (h2:PSs X VV u):PSs X (st::VV) (qtW t u):=by
 intro pins s σ H D I h;refine wpAny_execs_cons (thn (h1 pins s σ H { D with nx:=u D } I h) λf s1 q=>?_);cases f with
 |next=>
  obtain ⟨σ',H',I',q⟩:=q;exact h2 pins s1 σ' H' D I' q
 |ret v=>exact q
 |brk=>exact q
 |cont=>exact q
def qkH (h1:PS X st t):PSs X [st] t:=by
 intro pins s σ H D I h;refine wpAny_execs_cons (thn (h1 pins s σ H D I h) λf s1 q=>?_);cases f with
 |next=>exact wpAny_execs_nil q
 |ret v=>exact q
 |brk=>exact q
 |cont=>exact q
def Inv.quiet {pins:List (Addr×Obj)} {σ:St} {H:Hp} {s:Shared} (I:Inv X pins σ H s):interactive X.env=false:=by simp [interactive,I.ok.kind]
def qrk (te:TE):TS:=λD σ H=>te σ H λ_ H1=>D.nx σ H1
def qkx (he:PE X e te) (hs:swapsWith e none pos.line X.env=pure false:=by rfl):PS X (.Expr e pos) (qrk te):=by
 intro pins s σ H D I h;exact wpAny_Expr_any (thn (he pins s σ H _ I h) λv s1 ⟨x,H1,I1,r1,q1⟩=>⟨σ,H1,I1,q1⟩) I.quiet hs
def qtw (te:TE):TS:=λD σ H=>te σ H D.rt
def qnY (he:PE X e te):PS X (.Return (some e) pos) (qtw te):=by
 intro pins s σ H D I h;exact wpAny_Return_some (thn (he pins s σ H _ I h) λv s1 ⟨x,H1,I1,r1,q1⟩=>⟨x,σ,H1,I1,r1,q1⟩)
def qtx (c:TT) (t u:TS):TS:=λD σ H=>c σ H λb H1=>if b=true then t D σ H1 else u D σ H1
def qrz {c:Expr} {a b:List Stmt} {tc:TT} (hc:PT X c tc) (ha:PSs X a t) (hb:PSs X b u):PS X (.If c a b pos) (qtx tc t u):=by
 intro pins s σ H D I h;refine wpAny_If (thn (hc pins s σ H _ I h) λd s1 ⟨H1,I1,q1⟩=>?_);cases d with
 |true=>exact ha pins s1 σ H1 D I1 q1
 |false=>exact hb pins s1 σ H1 D I1 q1
end
abbrev TG:=V->St->Hp->(St->Hp->Prop)->Prop
abbrev TGs:=List V->St->Hp->(St->Hp->Prop)->Prop
def PG (X:Cx) (target:Expr) (t:TG):Prop:=
 ∀ (pins:List (Addr×Obj)) (s:Shared) (σ:St) (H:Hp) (v:V) (u:Value) (Q:St->Hp->Prop),Inv X pins σ H s->jQ v u->t v σ H Q ->
  wpAny (model X.prog X.w) X.A (assign target X.env u) (λ_ s'=>∃ σ' H',Inv X pins σ' H' s'/\Q σ' H') X.xe s
def PGs (X:Cx) (ts:List Expr) (t:TGs):Prop:=
 ∀ (pins:List (Addr×Obj)) (s:Shared) (σ:St) (H:Hp) (vs:List V) (us:List Value) (Q:St->Hp->Prop),Inv X pins σ H s->jh vs us->t vs σ H Q ->
  wpAny (model X.prog X.w) X.A (assignInOrder ((assignEach ts X.env).map (·.2)) us) (λ_ s'=>∃ σ' H',Inv X pins σ' H' s'/\Q σ' H') X.xe s
abbrev qmf:=V->V->V->Hp->(Hp->Prop)->Prop
def qsl (X:Cx) (t:qmf):Prop:=
 ∀ (pins:List (Addr×Obj)) (s:Shared) (σ:St) (H:Hp) (o i v:V) (ov iv u:Value) (Q:Hp->Prop),Inv X pins σ H s->jQ o ov->jQ i iv->jQ v u->t o i v H Q ->
  wpAny (model X.prog X.w) X.A (setItem ov iv u) (λ_ s'=>∃ H',Inv X pins σ H' s'/\Q H') X.xe s
abbrev TIp:=V->V->Hp->VK->Prop
def PIp (X:Cx) (op:Operator) (t:TIp):Prop:=
 ∀ (pins:List (Addr×Obj)) (s:Shared) (σ:St) (H:Hp) (x y:V) (v u:Value) (Q:VK),Inv X pins σ H s->jQ x v->jQ y u->t x y H Q ->
  wpAny (model X.prog X.w) X.A (inplaceOp op v u) (EP X pins σ Q) X.xe s
section
variable {X:Cx} {pos:Pos}
def qk3 (i:Nat):TG:=λv σ H Q=>Q (σ.set i (some v)) H
def qk0 {i:Nat} {x:Str} (hN:X.N.Nodup) (hi:X.N[i]?=some x) (hx:Loc X.env.scope x) (hf:X.fn x=true\/X.env.scope.names.lookup x=some .local:=by first|exact .inl rfl|exact .inr rfl|assumption):PG X (.Name x pos) (qk3 i):=by
 intro pins s σ H v u Q I r h;exact wpAny_assign_Name (WX I hN hi hx r (λs' I'=>⟨_,H,I',h⟩) hf)
def M3:TGs:=λvs σ H Q=>vs=[]/\Q σ H
def zW (t:TG) (u:TGs):TGs:=λvs σ H Q=>∃ v r,vs=v::r/\t v σ H λσ' H'=>u r σ' H' Q
def qjy:PGs X [] M3:=by
 intro pins s σ H vs us Q I r h;obtain ⟨e,h⟩:=h;subst e;cases r;exact assignInOrder_nil ⟨σ,H,I,h⟩
def qfH {e:Expr} {es:List Expr} {t:TG} {u:TGs} (h1:PG X e t) (h2:PGs X es u)
  (hs:(assignEach (e::es) X.env).map (·.2)=assign e X.env::(assignEach es X.env).map (·.2):=by rfl):PGs X (e::es) (zW t u):=by
 intro pins s σ H vs us Q I r h;obtain ⟨v,vr,e1,h⟩:=h;subst e1;cases r with
 |cons r rr=>
  rw [hs];refine assignInOrder_cons (thn (h1 pins s σ H _ _ _ I r h) λ_ s1 ⟨σ1,H1,I1,q1⟩=>?_);exact h2 pins s1 σ1 H1 _ _ Q I1 rr q1
def M1 (K:Frg) (n:Nat) (t:TGs):TG:=λv σ H Q=>∃ a xs,v=.ref a/\SqT K H a xs/\xs.length=n/\t xs σ H Q
def qmY {es:List Expr} {k:Nat} {t:TGs} {n:Nat} (hc:X.calm=true) (h:PGs X es t)
  (hn:(assignEach es X.env).length=n:=by rfl) (hst:(assignEach es X.env).findIdx? (·.1)=none:=by rfl):PG X (.Tuple es k pos) (M1 X.K n t):=by
 intro pins s σ H v u Q I r hw;obtain ⟨a,xs,e1,hq,hl,hw⟩:=hw;subst e1;cases r;obtain ⟨its,rv,ht,hz⟩:=I.tuple hq;refine assign_Tuple_tuple (I.ok.hd hc) ht (by simp [hn,← hl,rv.length]) hst λh' hx=>?_;have I1:Inv X pins σ H { s with heap:=h' }:=I.kept (t':=s.toks) λb o e=>hx b o (za4 (v6 e)) e;exact h pins _ σ H xs _ Q I1 (by simpa using rv) hw
def qtT (to ti:TE) (t:qmf):TG:=λv σ H Q=>to σ H λo H1=>ti σ H1 λi H2=>t o i v H2 λH3=>Q σ H3
def qlM {o i:Expr} {to ti:TE} {t:qmf} (ho:PE X o to) (hi:PE X i ti) (hs:qsl X t)
  (ha:∀ v,assign (.Subscript o i pos) X.env v=(do
   let ov←holding [v] (eval o X.env)
   let iv←holding [v,ov] (eval i X.env)
   standAt pos
   holding [v,ov,iv] (setItem ov iv v)
   release [v,ov,iv] []):=by intro _;rfl):PG X (.Subscript o i pos) (qtT to ti t):=by
 intro pins s σ H v u Q I r h;rw [ha];refine y6 (wpAny_holding (thn (ho pins s σ H _ I h) λov s1 ⟨x,H1,I1,r1,q1⟩=>?_));refine y6 (wpAny_holding (thn (hi pins s1 σ H1 _ I1 q1) λiv s2 ⟨y,H2,I2,r2,q2⟩=>?_));refine y6 (wpAny_standAt (y6 (wpAny_holding (thn (hs pins s2 σ H2 x y v ov iv u _ I2 r1 r2 r q2) λ_ s3 ⟨H3,I3,q3⟩=>?_))));exact wpAny_release ⟨σ,H3,I3,q3⟩
def qq1 (te:TE) (g:TG):TS:=λD σ H=>te σ H λx H1=>g x σ H1 D.nx
def qns {tg e:Expr} {te:TE} {g:TG} (he:PE X e te) (hg:PG X tg g) (hs:swapsWithSole [tg] e pos.line X.env=pure false:=by rfl) (hw:swappedStores [tg] e X.env=pure none:=by rfl)
  (h1:(assignEach [tg] X.env).map (·.2)=[assign tg X.env]:=by rfl):PS X (.Assign [tg] e pos) (qq1 te g):=by
 intro pins s σ H D I h;refine wpAny_Assign_stores (thn (he pins s σ H _ I h) λv s1 ⟨x,H1,I1,r1,q1⟩=>?_) hs hw;rw [h1];exact thn (hg pins s1 σ H1 x v _ I1 r1 q1) λ_ s2 q=>q
def qln {i:Nat} {x:Str} {e:Expr} {te:TE} {pos':Pos} (hN:X.N.Nodup) (hi:X.N[i]?=some x) (hx:Loc X.env.scope x) (he:PE X e te) (hs:swapsWith e (some (.Name x pos')) pos.line X.env=pure false:=by rfl) (hf:X.fn x=true\/X.env.scope.names.lookup x=some .local:=by first|exact .inl rfl|exact .inr rfl|assumption) :
  PS X (.Assign [.Name x pos'] e pos) (qq1 te (qk3 i)):=by
 intro pins s σ H D I h;refine wpAny_Assign_Name (thn (he pins s σ H _ I h) λv s1 ⟨y,H1,I1,r1,q1⟩=>?_) hs;exact WX I1 hN hi hx r1 (λs2 I2=>⟨_,H1,I2,q1⟩) hf
def qtG (i j:Nat) (ta:TA):TS:=λD σ H=>ta σ H λvs H1=>∃ v w,vs=[v,w]/\D.nx ((σ.set i (some v)).set j (some w)) H1
def qmT {i j:Nat} {x y:Str} {a b:Expr} {ta:TA} {px py pt:Pos} {kt k2 pt2} (hc:X.calm=true) (hN:X.N.Nodup) (hi:X.N[i]?=some x) (hj:X.N[j]?=some y) (hij:i≠j)
  (hx:X.env.scope.names.lookup x=some .local) (hy:X.env.scope.names.lookup y=some .local) (ha:PA X [a,b] ta)
  (hw:swappedStores [.Tuple [.Name x px,.Name y py] kt pt] (.Tuple [a,b] k2 pt2) X.env=pure (some [x,y]))
  (hs:swapsWithSole [.Tuple [.Name x px,.Name y py] kt pt] (.Tuple [a,b] k2 pt2) pos.line X.env=pure false:=by rfl) :
  PS X (.Assign [.Tuple [.Name x px,.Name y py] kt pt] (.Tuple [a,b] k2 pt2) pos) (qtG i j ta):=by
 intro pins s σ H D I h;rw [exec_Assign_arm];refine y6 (wpAny_standAt ?_);rw [hs];refine y6 (y8 ?_);rw [if_neg (by decide)];refine y6 (Tuple_ (thn (ha _ pins s σ H _ I h) λus s1 ⟨vs,H1,I1,r1,q1⟩=>?_));obtain ⟨v,w,e1,q1⟩:=q1;subst e1;obtain ⟨u1,u2,rfl,rv,rw'⟩:∃ u1 u2,us=[u1,u2]/\jQ v u1/\jQ w u2:=by
  cases r1 with
  |cons p q=>
   cases q with
   |cons p' q'=>
    cases q';exact ⟨_,_,rfl,p,p'⟩
 refine wpAny_newObj_type ?_ (by show 2<=sizeLine;decide);have I2:Inv X pins σ H1 { s1 with heap:=s1.heap.push { cls:=.type "tuple",data:=.seq [u1,u2].toArray } }:=I1.kept (t':=s1.toks) λb o e=>v4 _ e;rw [hw];refine y6 (y8 ?_);show wpAny (model X.prog X.w) X.A (do rule "assign.swapped-stores";let items←unpackItems (.ref s1.heap.objs.size) 2 none;assignInOrder [λv=>bindName X.env y v,λv=>bindName X.env x v] items.reverse;pure Flow.next) _ _ _;refine y6 (wpAny_rule (y6 (unpackItems_tuple (items:=#[u1,u2]) (I.ok.hd hc) (IsTup.new s1.heap _) λh' hx'=>?_)));have I3:=I2.kept (h':=h') (t':=s1.toks) λb o e=>hx' b o (za4 (v6 e)) e;show wpAny _ _ (assignInOrder [λv=>bindName X.env y v,λv=>bindName X.env x v] [u2,u1] >>= λ_=>pure Flow.next) _ _ _;refine y6 (assignInOrder_cons (wpAny_bindName (WX I3 hN hj (.inl hy) rw' (λs2 I4=>?_) (.inr hy))));refine assignInOrder_cons (wpAny_bindName (WX I4 hN hi (.inl hx) rv (λs3 I5=>assignInOrder_nil (y8 ?_)) (.inr hx)));rw [List.set_comm _ _ (Ne.symm hij)] at I5;exact ⟨_,H1,I5,q1⟩
def qtK (i:Nat) (te:TE) (ti:TIp):TS:=λD σ H=>∃ x,σ[i]?=some (some x)/\te σ H λy H1=>ti x y H1 λz H2=>D.nx (σ.set i (some z)) H2
def qnB {i:Nat} {x:Str} {e:Expr} {te:TE} {op:Operator} {ti:TIp} {pos':Pos} (hN:X.N.Nodup) (hi:X.N[i]?=some x) (hx:Loc X.env.scope x) (he:PE X e te) (ho:PIp X op ti) (hf:X.fn x=true\/X.env.scope.names.lookup x=some .local:=by first|exact .inl rfl|exact .inr rfl|assumption) :
  PS X (.AugAssign (.Name x pos') op e pos) (qtK i te ti):=by
 intro pins s σ H D I h;obtain ⟨v,e1,h⟩:=h;obtain ⟨m,hn,hl⟩:=I.loc;have vis:Vis X.env.scope x:=by rcases hx with k|k;exact .inl k;exact .inr (.inl k)
 obtain ⟨u,r,l⟩:=hl i x v hi e1 vis;refine wpAny_AugAssign_Name ?_;have go:wpAny (model X.prog X.w) X.A (eval e X.env) (λw s₂=>wpAny (model X.prog X.w) X.A (inplaceOp op u w) (λr s₃=>wpAny (model X.prog X.w) X.A (storeName X.env x r) (λ_=>SP X pins D .next) X.xe s₃) X.xe s₂) X.xe s:=by
  refine thn (he pins s σ H _ I h) λw s1 ⟨y,H1,I1,r1,q1⟩=>?_;refine thn (ho pins s1 σ H1 v y u w _ I1 r r1 q1) λz s2 ⟨zv,H2,I2,r2,q2⟩=>?_;exact WX I2 hN hi hx r2 (λs3 I3=>⟨_,H2,I3,q2⟩) hf
 rcases l with ⟨hk,hm⟩|⟨hk,c,hc,hcell⟩
 ·exact wpAny_loadName_local I.ok.kind hk hn hm go
 ·rcases hk with hk|hk
  ·exact wpAny_loadName_cell I.ok.kind hk hc hcell go
  ·rcases hx with k|k
   ·have:X.env.scope.names.lookup x=some .free:=hk;rw [k] at this;cases this
   ·have:X.env.scope.names.lookup x=some .free:=hk;rw [k] at this;cases this
def qqR (to ti te:TE) (tget:V->V->Hp->VK->Prop) (tip:TIp) (tset:qmf):TS:=λD σ H=>to σ H λo H1=>ti σ H1 λi H2=>tget o i H2 λx H3=>te σ H3 λy H4=>tip x y H4 λz H5=>tset o i z H5 λH6=>D.nx σ H6
def qs8 (X:Cx) (t:V->V->Hp->VK->Prop):Prop:=
 ∀ (pins:List (Addr×Obj)) (s:Shared) (σ:St) (H:Hp) (o i:V) (ov iv:Value) (Q:VK),Inv X pins σ H s->jQ o ov->jQ i iv->t o i H Q ->
  wpAny (model X.prog X.w) X.A (getItem ov iv) (EP X pins σ Q) X.xe s
def qku {o i e:Expr} {to ti te:TE} {tget:V->V->Hp->VK->Prop} {tip:TIp} {tset:qmf} {op:Operator} {tpos:Pos} (ho:PE X o to) (hi:PE X i ti) (hg:qs8 X tget) (he:PE X e te) (hp:PIp X op tip) (hs:qsl X tset)
  (ha:∀ ov iv new,augStore i ov iv new=(do holding [new,ov,iv] (setItem ov iv new);release [new,ov,iv] [];pure .next):=by intros;rfl):PS X (.AugAssign (.Subscript o i tpos) op e pos) (qqR to ti te tget tip tset):=by
 intro pins s σ H D I h;refine wpAny_AugAssign_SubscriptAny (thn (ho pins s σ H _ I h) λov s1 ⟨x1,H1,I1,r1,q1⟩=>?_) ha;refine thn (hi pins s1 σ H1 _ I1 q1) λiv s2 ⟨x2,H2,I2,r2,q2⟩=>?_;refine thn (hg pins s2 σ H2 x1 x2 ov iv _ I2 r1 r2 q2) λold s3 ⟨x3,H3,I3,r3,q3⟩=>?_;refine thn (he pins s3 σ H3 _ I3 q3) λv s4 ⟨x4,H4,I4,r4,q4⟩=>?_;refine thn (hp pins s4 σ H4 x3 x4 old v _ I4 r3 r4 q4) λnew s5 ⟨x5,H5,I5,r5,q5⟩=>?_;exact thn (hs pins s5 σ H5 x1 x2 x5 ov iv new _ I5 r1 r2 r5 q5) λ_ s6 ⟨H6,I6,q6⟩=>⟨σ,H6,I6,q6⟩
def ipI (f:Int->Int->Int):TIp:=λx y H Q=>∃ i j,x=.int i/\y=.int j/\Q (.int (f i j)) H
def qhS:PIp X .Add (ipI λi j=>i+j):=by
 intro pins s σ H x y v u Q I r1 r2 h;obtain ⟨i,j,e1,e2,q⟩:=h;subst e1;subst e2;obtain ⟨t,rfl⟩:=r1;obtain ⟨t',rfl⟩:=r2;exact iadd_int ⟨.int _,H,I.tok _,⟨_,rfl⟩,q⟩
end
section
variable {X:Cx} {pos:Pos}
def qoY (c:TT) (tb:TS):TS:=λD σ H=>∃ W:Nat->St->Hp->Prop,(∃ m,W m σ H)/\∀ m σ H,W m σ H ->
 c σ H λb H1=>if b=true then ∃ N:St->Hp->Prop,(∀ σ' H',N σ' H'->∃ m',m'<m/\W m' σ' H')/\tb { D with nx:=N,ct:=N,bk:=D.nx } σ H1 else D.nx σ H1
def qfw {c:Expr} {body:List Stmt} {tc:TT} {tb:TS} (hp:PassesOwn (model X.prog X.w) X.A X.env X.xe) (hc:PT X c tc) (hb:PSs X body tb):PS X (.While c body [] pos) (qoY tc tb):=by
 intro pins s σ H D I h;obtain ⟨W,⟨m0,w0⟩,turn⟩:=h;refine wpAny_While (codeAny_whileLoop (λn s'=>∃ σ' H',Inv X pins σ' H' s'/\W n σ' H') ?_ m0 ⟨σ,H,I,w0⟩);rintro n s1 ⟨σ1,H1,I1,w1⟩;refine wpAny_passesOwn hp (thn (hc pins s1 σ1 H1 _ I1 (turn n σ1 H1 w1)) λb s2 ⟨H2,I2,q2⟩=>?_);cases b with
 |true=>
  obtain ⟨N,hN,q2⟩:=q2;rw [if_pos rfl];refine wpAny_passesOwn hp (thn (hb pins s2 σ1 H2 _ I2 q2) λf s3 q3=>?_);cases f with
  |next=>
   obtain ⟨σ3,H3,I3,n3⟩:=q3;obtain ⟨m',hm,w3⟩:=hN σ3 H3 n3;exact ⟨m',hm,σ3,H3,I3,w3⟩
  |cont=>
   obtain ⟨σ3,H3,I3,n3⟩:=q3;obtain ⟨m',hm,w3⟩:=hN σ3 H3 n3;exact ⟨m',hm,σ3,H3,I3,w3⟩
  |brk=>exact q3
  |ret v=>exact q3
 |false=>
  rw [if_neg v7];exact wpAny_execs_nil ⟨σ1,H2,I2,q2⟩
end
structure It where
 go:Nat->Hp->Prop
 yld:Nat->Hp->V->Hp->Prop
 stop:Nat->Hp->Prop
def qao (X:Cx) (pins:List (Addr×Obj)) (H:Hp) (b:Addr):Prop:=
 H b=none/\b≠X.env.locals/\b∉X.fs/\(b∈X.ex\/X.s₀.heap.objs.size<=b)/\(∀ x c,X.env.cells.lookup x=some c->c≠b)/\∀ p∈X.pn++pins,p.1≠b
def Inv.fpOk {X:Cx} {pins:List (Addr×Obj)} {σ:St} {H H':Hp} {s:Shared} {b:Addr} (I:Inv X pins σ H s) (hb:s.heap.objs.size<=b) (hn:H' b=none):qao X pins H' b:=by
 refine ⟨hn,Nat.ne_of_gt (za1 I.lt hb),I.nofs hb,.inr (za3 I.sz hb),λx c e z=>?_,λp hp z=>?_⟩
 ·obtain ⟨v,q⟩:=I.cell x c e;exact absurd (za1 q.lt (by rw [z];exact hb)) (Nat.lt_irrefl _)
 ·exact absurd (za1 (v6 (I.pin p hp).1) (by rw [z];exact hb)) (Nat.lt_irrefl _)
structure Turn (P:Program) (w:World) (K:Frg) (tg:Expr) (J:It) (fp:List Addr) (it:Addr) (tn:Nat->Heap->Prop):Prop where
 mem:it∈fp
 obj:∀ i h,tn i h->∀ b∈fp,∃ o,h.get? b=some o/\∀ v,o.data≠.cell v
 keep:∀ i h h',tn i h->(∀ b∈fp,∀ o,h.get? b=some o->h'.get? b=some o)->tn i h'
 item:∀ (X:Cx),X.prog=P->X.w=w->X.K=K->X.calm=true->∀ (i:Nat) (pins:List (Addr×Obj)) (s:Shared) (σ:St) (H:Hp) (E:Value->Shared->Prop),Inv X pins σ H s->(∀ b∈fp,qao X pins H b)->tn i s.heap->J.go i H ->
  wpAny (model P w) X.A (pyNext (.ref it)) (λr s1=>∃ u,r=some u /\
   wpAny (model P w) X.A (letOwnedTupleGo tg (.ref it) u) (λ_ s2=>∃ x H',Inv X pins σ H' s2/\jQ x u/\J.yld i H x H'/\tn (i+1) s2.heap/\∀ b∈fp,H' b=none) E s1) E s
 done:∀ (X:Cx),X.prog=P->X.w=w->X.K=K->X.calm=true->∀ (i:Nat) (pins:List (Addr×Obj)) (s:Shared) (σ:St) (H:Hp) (E:Value->Shared->Prop),Inv X pins σ H s->(∀ b∈fp,qao X pins H b)->tn i s.heap->J.stop i H ->
  wpAny (model P w) X.A (pyNext (.ref it)) (λr s1=>r=none/\Inv X pins σ H s1) E s
 self:∀ (A:Around) (i:Nat) (s:Shared) (Q:Value->Shared->Prop) (E:Value->Shared->Prop),tn i s.heap->Q (.ref it) s->wpAny (model P w) A (pyIter (.ref it)) Q E s
abbrev TI:=St->Hp->(It->Hp->Prop)->Prop
def PIE (X:Cx) (pins:List (Addr×Obj)) (σ:St) (tg:Expr) (R:It->Hp->Prop) (itv:Value) (s2:Shared):Prop:=
 ∃ (it:Addr) (fp:List Addr) (tn:Nat->Heap->Prop) (J:It) (H':Hp),itv=.ref it/\Inv X pins σ H' s2/\Turn X.prog X.w X.K tg J fp it tn/\tn 0 s2.heap/\(∀ b∈fp,qao X pins H' b)/\R J H'
def PI (X:Cx) (tg iter:Expr) (wi:TI):Prop:=
 ∀ (pins:List (Addr×Obj)) (s:Shared) (σ:St) (H:Hp) (R:It->Hp->Prop),Inv X pins σ H s->wi σ H R ->
  wpAny (model X.prog X.w) X.A (eval iter X.env) (λv s1=>wpAny (model X.prog X.w) X.A (pyIter v) (PIE X pins σ tg R) X.xe s1) X.xe s
def qjC {M:Model} {A:Around} {E:Value->Shared->Prop} {s:Shared} {tg:Expr} {it:Addr} {u:Value} {o:Obj} {n:String} {vs:Array Value} {Q:Unit->Shared->Prop} (ho:s.heap.get? it=some o) (hc:o.cls=.type n) (hd:o.data=.fields vs)
    (hn:["enumerate","zip","dict_itemiterator","dict_reverseitemiterator","odict_iterator","itertools.zip_longest","itertools.pairwise"].contains n=false) (hQ:Q () s):wpAny M A (letOwnedTupleGo tg (.ref it) u) Q E s:=by
  unfold letOwnedTupleGo;cases tg<;>first
    |exact y8 hQ
    | (cases u<;>first
        |exact y8 hQ
        | (refine y6 (wpAny_load ho ?_)
           rw [hc,hd];show wpAny M A (if (["enumerate","zip","dict_itemiterator","dict_reverseitemiterator","odict_iterator","itertools.zip_longest","itertools.pairwise"].contains n&&vs[0]?==some (rawInt _))=true then _ else _) Q E s;rw [if_neg (by intro h;rw [hn,Bool.false_and] at h;cases h)];exact y8 hQ))
def Itl (K:Frg) (a:Addr):It:=
 ⟨λi H=>∃ xs x,SqL K H a xs/\xs[i]?=some x,λi H x H'=>H'=H/\∀ xs,SqL K H a xs->xs[i]?=some x,λi H=>∃ xs,SqL K H a xs/\xs.length<=i⟩
def Itt (K:Frg) (a:Addr):It:=
 ⟨λi H=>∃ xs x,SqT K H a xs/\xs[i]?=some x,λi H x H'=>H'=H/\∀ xs,SqT K H a xs->xs[i]?=some x,λi H=>∃ xs,SqT K H a xs/\xs.length<=i⟩
def Itr (lo:Int) (n:Nat):It:=⟨λi _=>i<n,λi H x H'=>H'=H/\x=.int (lo+i),λi _=>n<=i⟩
def qeT {P:Program} {w:World} {K:Frg} {tg:Expr} (a it:Addr):Turn P w K tg (Itl K a) [it] it (λi h=>h.IsListIter it a i) where
 mem:=by simp
 obj:=λi h st b hb=>by
  have e:b=it:=by simpa using hb
  subst e;obtain ⟨o,e,c,d⟩:=st;exact ⟨o,e,λv z=>by rw [d] at z;cases z⟩
 keep:=λi h h' st k=>st.at λo e=>k it (by simp) o e
 item:=by
  intro X hP hw hK hc i pins s σ H E I hf st hg;subst hP hw hK;obtain ⟨xs,x,hq,hx⟩:=hg;obtain ⟨its,rv,p,hz⟩:=I.list hq;obtain ⟨u,hu,ru⟩:=rv.get hx;obtain ⟨f0,f1,f2,f3,f4,f5⟩:=hf it (by simp);refine wpAny_pyNext_list_item st p.isList (x:=u) (by simpa using hu) λh' st' sb=>?_;have I1:Inv X pins σ H { s with heap:=h' }:=I.turned (t':=s.toks) (λb o hb e=>(sb.2 b hb).trans e) f0 f1 f3 f4 f5;obtain ⟨o,e,c,d⟩:=id st';exact ⟨u,rfl,qjC (s:={ s with heap:=h' }) e c d (by decide) ⟨x,H,I1,ru,⟨rfl,λys hy=>by rw [I.list_inj hy hq];exact hx⟩,st',λb hb=>(hf b hb).1⟩⟩
 done:=by
  intro X hP hw hK hc i pins s σ H E I hf st hg;subst hP hw hK;obtain ⟨xs,hq,hx⟩:=hg;obtain ⟨its,rv,p,hz⟩:=I.list hq;obtain ⟨f0,f1,f2,f3,f4,f5⟩:=hf it (by simp);have hl:=rv.length;exact wpAny_pyNext_list_end (I.ok.hd hc) st p.isList (by simp;omega) λh' eb=>⟨rfl,I.turned (t':=s.toks) (λb o hb e=>eb b o hb e) f0 f1 f3 f4 f5⟩
 self:=λ_ _ _ _ _ st h=>wpAny_pyIter_listiter st h
def qcz {P:Program} {w:World} {K:Frg} {tg:Expr} (a it:Addr):Turn P w K tg (Itt K a) [it] it (λi h=>h.IsTupleIter it a i) where
 mem:=by simp
 obj:=λi h st b hb=>by
  have e:b=it:=by simpa using hb
  subst e;obtain ⟨o,e,c,d⟩:=st;exact ⟨o,e,λv z=>by rw [d] at z;cases z⟩
 keep:=λi h h' st k=>st.at λo e=>k it (by simp) o e
 item:=by
  intro X hP hw hK hc i pins s σ H E I hf st hg;subst hP hw hK;obtain ⟨xs,x,hq,hx⟩:=hg;obtain ⟨its,rv,p,hz⟩:=I.tuple hq;obtain ⟨u,hu,ru⟩:=rv.get hx;obtain ⟨f0,f1,f2,f3,f4,f5⟩:=hf it (by simp);refine wpAny_pyNext_tuple_item st (show s.heap.IsTuple a its.toArray from p) (x:=u) (by simpa using hu) λh' st' sb=>?_;have I1:Inv X pins σ H { s with heap:=h' }:=I.turned (t':=s.toks) (λb o hb e=>(sb.2 b hb).trans e) f0 f1 f3 f4 f5;obtain ⟨o,e,c,d⟩:=id st';exact ⟨u,rfl,qjC (s:={ s with heap:=h' }) e c d (by decide) ⟨x,H,I1,ru,⟨rfl,λys hy=>by rw [I.tuple_inj hy hq];exact hx⟩,st',λb hb=>(hf b hb).1⟩⟩
 done:=by
  intro X hP hw hK hc i pins s σ H E I hf st hg;subst hP hw hK;obtain ⟨xs,hq,hx⟩:=hg;obtain ⟨its,rv,p,hz⟩:=I.tuple hq;obtain ⟨f0,f1,f2,f3,f4,f5⟩:=hf it (by simp);have hl:=rv.length;exact wpAny_pyNext_tuple_end (I.ok.hd hc) st (show s.heap.IsTuple a its.toArray from p) (by simp;omega) λh' eb=>⟨rfl,I.turned (t':=s.toks) (λb o hb e=>eb b o hb e) f0 f1 f3 f4 f5⟩
 self:=λ_ _ _ _ _ st h=>wpAny_pyIter_tupleiter st h
def qco {P:Program} {w:World} {K:Frg} {tg:Expr} (it:Addr) (lo:Int) (n:Nat):Turn P w K tg (Itr lo n) [it] it (λi h=>IsRangeIter h it (lo+(i:Nat)*1) ((n:Int)-(i:Nat)) 1) where
 mem:=by simp
 obj:=λi h st b hb=>by
  have e:b=it:=by simpa using hb
  subst e;exact ⟨_,st,λv z=>by
   have z':Data.fields _=Data.cell v:=z;cases z'⟩
 keep:=λi h h' st k=>k it (by simp) _ st
 item:=by
  intro X hP hw hK hc i pins s σ H E I hf st hg;subst hP hw hK;obtain ⟨f0,f1,f2,f3,f4,f5⟩:=hf it (by simp);have W:=Walks.range (prog:=X.prog) (w:=X.w) (I.ok.hd hc) it lo 1 n;refine W.item i s _ _ hg st λv h' tk hv st' kk=>?_;obtain ⟨t,rfl⟩:=hv;have I1:Inv X pins σ H { s with heap:=h',toks:=tk }:=I.turned (λb o hb e=>kk b o (by simpa using hb) e) f0 f1 f3 f4 f5;refine ⟨_,rfl,qjC (s:={ s with heap:=h',toks:=tk }) (n:="range_iterator") st' rfl rfl (by decide) ⟨.int (lo+i),H,I1,⟨t,?_⟩,⟨rfl,rfl⟩,st',λb hb=>(hf b hb).1⟩⟩;rw [Int.mul_one]
 done:=by
  intro X hP hw hK hc i pins s σ H E I hf st hg;subst hP hw hK;obtain ⟨f0,f1,f2,f3,f4,f5⟩:=hf it (by simp);exact wpAny_pyNext_range_end (I.ok.hd hc) st (by have:n<=i:=hg;omega) λh' eb=>⟨rfl,I.turned (t':=s.toks) (λb o hb e=>eb b o hb e) f0 f1 f3 f4 f5⟩
 self:=λ_ _ _ _ _ st h=>wpAny_pyIter_rangeiter st h
section
variable {X:Cx} {tg:Expr}
def qbH {pins:List (Addr×Obj)} {σ:St} {H:Hp} {s:Shared} {R:It->Hp->Prop} {E:Value->Shared->Prop} {lo hi:Int} {t u v:Tok} {tk:Nat} (I:Inv X pins σ H s) (h1:-(2 ^ 62)<=lo) (h2:lo<2 ^ 62) (h3:-(2 ^ 62)<=hi) (h4:hi<2 ^ 62)
  (q:R (Itr lo (hi-lo).toNat) H):wpAny (model X.prog X.w) X.A (pyIter (.ref s.heap.objs.size)) (PIE X pins σ tg R) E { s with heap:=s.heap.push { cls:=.type "range",data:=.fields #[.int lo t,.int hi u,.int 1 v] },toks:=tk }:=by
 refine wpAny_pyIter_range (IsRange.new ..) (small_one h1 h2 h3 h4) ?_;have I1:Inv X pins σ H { s with heap:=s.heap.push { cls:=.type "range",data:=.fields #[.int lo t,.int hi u,.int 1 v] },toks:=tk }:=I.kept λb o e=>v4 _ e;refine ⟨(s.heap.push { cls:=.type "range",data:=.fields #[.int lo t,.int hi u,.int 1 v] }).objs.size,[(s.heap.push { cls:=.type "range",data:=.fields #[.int lo t,.int hi u,.int 1 v] }).objs.size],_,_,H,rfl,
  I1.kept (t':=tk) λb o e=>v4 _ e,qco _ lo (hi-lo).toNat,?_,λb hb=>?_,q⟩
 ·have e1:lo+((0:Nat):Int)*1=lo:=by simp
  have e2:(((hi-lo).toNat:Nat):Int)-((0:Nat):Int)=Builtin.Range.rangeSize lo hi 1:=by rw [rangeSize_one];split<;>omega
  show IsRangeIter _ _ (lo+((0:Nat):Int)*1) ((((hi-lo).toNat:Nat):Int)-((0:Nat):Int)) 1;rw [e1,e2];exact v5 _ rfl
 ·have e:b=(s.heap.push { cls:=.type "range",data:=.fields #[.int lo t,.int hi u,.int 1 v] }).objs.size:=by simpa using hb
  subst e;exact I1.fpOk (u8 _) (I1.hok.fresh (u8 _))
def qqS (ta:TA):TI:=λσ H R=>ta σ H λvs H1=>∃ j:Int,vs=[.int j]/\-(2 ^ 62)<=j/\j<2 ^ 62/\R (Itr 0 j.toNat) H1
def qrn (ta:TA):TI:=λσ H R=>ta σ H λvs H1=>∃ i j:Int,vs=[.int i,.int j]/\(-(2 ^ 62)<=i/\i<2 ^ 62/\-(2 ^ 62)<=j/\j<2 ^ 62)/\R (Itr i (j-i).toNat) H1
def qdS {a:Expr} {ta:TA} {p pos:Pos} (hg:Gl X "range") (hm:X.mg "range" = none) (ha:PA X [a] ta) (hs:starEach [a] X.env=[(false,eval a X.env)]:=by rfl):PI X tg (.Call (.Name "range" p) [a] [] pos) (qqS ta):=by
 intro pins s σ H R I h;refine Call_ (SL I hg hm boot_range (PyProof.Rows.callWith_type1 (thn (ha pos pins s σ H _ I h) λus s1 ⟨vs,H1,I1,r1,q1⟩=>?_) hs rfl));obtain ⟨j,e,q1,q2,q⟩:=q1;subst e;cases r1 with
 |cons r rr=>
  cases rr;obtain ⟨t,rfl⟩:=r;exact call_range_1 (qbH I1 (by omega) (by omega) q1 q2 (by simpa using q))
def qdn {a b:Expr} {ta:TA} {p pos:Pos} (hg:Gl X "range") (hm:X.mg "range" = none) (ha:PA X [a,b] ta) (hs:starEach [a,b] X.env=[(false,eval a X.env),(false,eval b X.env)]:=by rfl) (hs2:starEach [b] X.env=[(false,eval b X.env)]:=by rfl) :
  PI X tg (.Call (.Name "range" p) [a,b] [] pos) (qrn ta):=by
 intro pins s σ H R I h;refine Call_ (SL I hg hm boot_range (PyProof.Rows.callWith_type1 (thn (ha pos pins s σ H _ I h) λus s1 ⟨vs,H1,I1,r1,q1⟩=>?_) (by rw [hs,hs2]) (by rw [hs2];rfl)));obtain ⟨i,j,e,⟨q1,q2,q3,q4⟩,q⟩:=q1;subst e;cases r1 with
 |cons r rr=>
  cases rr with
  |cons r' rr=>
   cases rr;obtain ⟨t,rfl⟩:=r;obtain ⟨t',rfl⟩:=r';exact call_range_2 (qbH I1 q1 q2 q3 q4 q)
def qtZ (wi:TI) (g:TG) (tb:TS):TS:=λD σ H=>wi σ H λJ H1=>∃ W:Nat->Nat->St->Hp->Prop,(∃ m,W 0 m σ H1)/\∀ i m σ H,W i m σ H ->
 (J.stop i H/\D.nx σ H)\/(J.go i H/\∃ N:St->Hp->Prop,(∀ σ' H',N σ' H'->∃ m',m'<m/\W (i+1) m' σ' H')/\∀ x H',J.yld i H x H'->g x σ H' λσ2 H2=>tb { D with nx:=N,ct:=N,bk:=D.nx } σ2 H2)
def RB (fp:List Addr) (h:Heap):List (Addr×Obj):=fp.filterMap λb=>(h.get? b).map λo=>(b,o)
def jb {fp:List Addr} {h:Heap} {b:Addr} {o:Obj} (hb:b∈fp) (e:h.get? b=some o):(b,o)∈RB fp h:=List.mem_filterMap.mpr ⟨b,hb,by rw [e];rfl⟩
def qdu {fp:List Addr} {h:Heap} {p:Addr×Obj} (hp:p∈RB fp h):p.1∈fp/\h.get? p.1=some p.2:=by
 obtain ⟨b,hb,e⟩:=List.mem_filterMap.mp hp;cases q:h.get? b with
 |none=>rw [q] at e;cases e
 |some o=>
  rw [q] at e;have e':(b,o)=p:=Option.some.inj e;subst e';exact ⟨hb,q⟩
def Inv.pinned {pins:List (Addr×Obj)} {σ:St} {H:Hp} {s:Shared} {fp:List Addr} (I:Inv X pins σ H s) (hf:∀ b∈fp,qao X pins H b) (ho:∀ b∈fp,∃ o,s.heap.get? b=some o/\∀ v,o.data≠.cell v):Inv X (pins++RB fp s.heap) σ H s:=
 I.pins_of λp hp=>(List.mem_append.mp hp).elim (λz=>I.pin p (za0 _ z)) λz=>by
  obtain ⟨hb,e⟩:=qdu z;obtain ⟨f0,f1,f2,_⟩:=hf p.1 hb;obtain ⟨o,e',d⟩:=ho p.1 hb;rw [e] at e';cases e';exact ⟨e,f0,f1,f2,d⟩
def Inv.unpinned {pins pl:List (Addr×Obj)} {σ:St} {H:Hp} {s:Shared} (I:Inv X (pins++pl) σ H s):Inv X pins σ H s:=I.pins_of λp hp=>I.pin p (za0 _ (List.mem_append_left _ hp))
def ql0 {iter:Expr} {body:List Stmt} {wi:TI} {g:TG} {tb:TS} {pos:Pos} (hp:PassesOwn (model X.prog X.w) X.A X.env X.xe) (hc:X.calm=true) (hi:PI X tg iter wi) (hg:PG X tg g) (hb:PSs X body tb)
  (hs:∀ x,foldedSetIterable iter X.env x=pure x:=by intro _;rfl):PS X (.For tg iter body [] pos) (qtZ wi g tb):=by
 intro pins s σ H D I h;refine wpAny_For (thn (hi pins s σ H _ I h) λv s1 h1=>thn h1 λitv s2 h2=>?_) hs;obtain ⟨it,fp,tn,J,H2,e,I2,T,st2,f2,W,⟨m0,w0⟩,turn⟩:=h2;subst e
 -- what stays true of the iterator's objects through the loop
 have stat:∀ {H':Hp},(∀ b∈fp,H' b=none)->∀ b∈fp,qao X pins H' b:=λhn b hb=>⟨hn b hb,(f2 b hb).2⟩
 refine codeAny_forLoop_any (λn s'=>∃ i σ' H',Inv X pins σ' H' s'/\tn i s'.heap/\(∀ b∈fp,H' b=none)/\W i n σ' H') ?_ m0 ⟨0,σ,H2,I2,st2,λb hb=>(f2 b hb).1,w0⟩;rintro n s3 ⟨i,σ3,H3,I3,st3,fr3,w3⟩;rcases turn i n σ3 H3 w3 with ⟨stop,qn⟩|⟨go,N,hN,step⟩
 ·refine wpAny_passesOwn hp (thn (T.done X rfl rfl rfl hc i pins s3 σ3 H3 X.xe I3 (stat fr3) st3 stop) λr s4 ⟨hr,I4⟩=>?_);subst hr;exact wpAny_execs_nil ⟨σ3,H3,I4,qn⟩
 ·refine wpAny_passesOwn hp (thn (T.item X rfl rfl rfl hc i pins s3 σ3 H3 X.xe I3 (stat fr3) st3 go) λr s4 ⟨u,hr,h4⟩=>?_);subst hr;refine wpAny_passesOwn hp (thn h4 λ_ s5 ⟨x,H5,I5,r5,y5,st5,fr5⟩=>?_);have I5':=I5.pinned (stat fr5) (T.obj _ _ st5);refine wpAny_passesOwn hp (thn (hg _ s5 σ3 H5 x u _ I5' r5 (step x H5 y5)) λ_ s6 ⟨σ6,H6,I6,q6⟩=>?_);refine wpAny_passesOwn hp (thn (hb _ s6 σ6 H6 _ I6 q6) λf s7 q7=>?_);have again:∀ {σ7:St} {H7:Hp},Inv X (pins++RB fp s5.heap) σ7 H7 s7->N σ7 H7->∃ m,m<n/\∃ i σ' H',Inv X pins σ' H' s7/\tn i s7.heap/\(∀ b∈fp,H' b=none)/\W i m σ' H':=λ{σ7 H7} I7 n7=>by
   obtain ⟨m',hm,w7⟩:=hN σ7 H7 n7;refine ⟨m',hm,i+1,σ7,H7,I7.unpinned,T.keep _ _ _ st5 λb hb o e=>(I7.pin (b,o) (za0 _ (za0 _ (jb hb e)))).1,λb hb=>?_,w7⟩;obtain ⟨o,e,d⟩:=T.obj _ _ st5 b hb;exact (I7.pin (b,o) (za0 _ (za0 _ (jb hb e)))).2.1
  cases f with
  |next=>obtain ⟨σ7,H7,I7,n7⟩:=q7;exact again I7 n7
  |cont=>obtain ⟨σ7,H7,I7,n7⟩:=q7;exact again I7 n7
  |brk=>obtain ⟨σ7,H7,I7,q7⟩:=q7;exact ⟨σ7,H7,I7.unpinned,q7⟩
  |ret v=>obtain ⟨x7,σ7,H7,I7,r7,q7⟩:=q7;exact ⟨x7,σ7,H7,I7.unpinned,r7,q7⟩
end
abbrev R2:=V->V->Hp->VK->Prop
def OpR (X:Cx) (f:Value->Value->Sem Value) (r:R2):Prop:=
 ∀ (pins:List (Addr×Obj)) (s:Shared) (σ:St) (H:Hp) (x y:V) (v u:Value) (Q:VK),Inv X pins σ H s->jQ x v->jQ y u->r x y H Q ->
  wpAny (model X.prog X.w) X.A (f v u) (EP X pins σ Q) X.xe s
def UnR (X:Cx) (f:Value->Sem Value) (r:V->Hp->VK->Prop):Prop:=
 ∀ (pins:List (Addr×Obj)) (s:Shared) (σ:St) (H:Hp) (x:V) (v:Value) (Q:VK),Inv X pins σ H s->jQ x v->r x H Q ->
  wpAny (model X.prog X.w) X.A (f v) (EP X pins σ Q) X.xe s
def JZ (X:Cx) (f:Value) (r:List V->Hp->VK->Prop):Prop:=
 ∀ (pins:List (Addr×Obj)) (s:Shared) (σ:St) (H:Hp) (xs:List V) (us:List Value) (Q:VK),Inv X pins σ H s->jh xs us->r xs H Q ->
  wpAny (model X.prog X.w) X.A (call f us) (EP X pins σ Q) X.xe s
def tOp (r:R2) (ta tb:TE):TE:=λσ H Q=>ta σ H λx H1=>tb σ H1 λy H2=>r x y H2 Q
def tUn (r:V->Hp->VK->Prop) (ta:TE):TE:=λσ H Q=>ta σ H λx H1=>r x H1 Q
def rI (C:Int->Int->Prop) (g:Int->Int->V):R2:=λx y H Q=>∃ i j,x=.int i/\y=.int j/\C i j/\Q (g i j) H
def rI0 (g:Int->Int->V):R2:=λx y H Q=>∃ i j,x=.int i/\y=.int j/\Q (g i j) H
def rU (g:Int->V):V->Hp->VK->Prop:=λx H Q=>∃ i,x=.int i/\Q (g i) H
section
variable {X:Cx} {a b c:Expr} {ta tb tc:TE} {pos:Pos}
def qr7 (ha:PE X a ta) (hb:PE X b tb) {pins:List (Addr×Obj)} {s:Shared} {σ:St} {H:Hp} {R:V->V->Hp->Prop} (I:Inv X pins σ H s)
  (h:ta σ H λx H1=>tb σ H1 λy H2=>R x y H2) {Q:Value->Shared->Prop} {f:Value->Value->Sem Value}
  (hf:∀ v u s2 x y H2,Inv X pins σ H2 s2->jQ x v->jQ y u->R x y H2->wpAny (model X.prog X.w) X.A (f v u) Q X.xe s2) :
  wpAny (model X.prog X.w) X.A (eval a X.env) (λv s₁=>wpAny (model X.prog X.w) X.A (eval b X.env) (λu s₂=>wpAny (model X.prog X.w) X.A (f v u) Q X.xe s₂) X.xe s₁) X.xe s:=by
 refine thn (ha pins s σ H _ I h) λv s1 ⟨x,H1,I1,r1,q1⟩=>?_;refine thn (hb pins s1 σ H1 _ I1 q1) λu s2 ⟨y,H2,I2,r2,q2⟩=>?_;exact hf v u s2 x y H2 I2 r1 r2 q2
def qrP {op:Operator} {r:R2} (ho:OpR X (binaryOp op) r) (ha:PE X a ta) (hb:PE X b tb):PE X (.BinOp a op b pos) (tOp r ta tb):=by
 intro pins s σ H Q I h;exact wpAny_BinOp (qr7 ha hb I h λv u s2 x y H2 I2 rx ry q=>ho pins s2 σ H2 x y v u Q I2 rx ry q)
def qrW {op:UnaryOp} {r:V->Hp->VK->Prop} (ho:UnR X (unaryOp op) r) (ha:PE X a ta):PE X (.UnaryOp op a pos) (tUn r ta):=by
 intro pins s σ H Q I h;exact UnaryOp_ (thn (ha pins s σ H _ I h) λv s1 ⟨x,H1,I1,r1,q1⟩=>ho pins s1 σ H1 x v Q I1 r1 q1)
def opI {f:Value->Value->Sem Value} {C:Int->Int->Prop} {g:Int->Int->Int}
  (rule:∀ (i j:Int) (t u:Tok) (s:Shared) (Q:Value->Shared->Prop) (E:Value->Shared->Prop),C i j->Q (.int (g i j) s.toks) { s with toks:=s.toks+1 }->wpAny (model X.prog X.w) X.A (f (.int i t) (.int j u)) Q E s) :
  OpR X f (rI C λi j=>.int (g i j)):=by
 intro pins s σ H x y v u Q I rx ry h;obtain ⟨i,j,rfl,rfl,hc,q⟩:=h;obtain ⟨t,rfl⟩:=rx;obtain ⟨t',rfl⟩:=ry;exact rule i j t t' s _ _ hc ⟨.int (g i j),H,I.tok _,⟨_,rfl⟩,q⟩
def qrh {f:Value->Value->Sem Value} {g:Int->Int->Int}
  (rule:∀ (i j:Int) (t u:Tok) (s:Shared) (Q:Value->Shared->Prop) (E:Value->Shared->Prop),Q (.int (g i j) s.toks) { s with toks:=s.toks+1 }->wpAny (model X.prog X.w) X.A (f (.int i t) (.int j u)) Q E s) :
  OpR X f (rI0 λi j=>.int (g i j)):=by
 intro pins s σ H x y v u Q I rx ry h;obtain ⟨i,j,rfl,rfl,q⟩:=h;obtain ⟨t,rfl⟩:=rx;obtain ⟨t',rfl⟩:=ry;exact rule i j t t' s _ _ ⟨.int (g i j),H,I.tok _,⟨_,rfl⟩,q⟩
def qqE {f:Value->Value->Sem Value} {g:Int->Int->Bool}
  (rule:∀ (i j:Int) (t u:Tok) (s:Shared) (Q:Value->Shared->Prop) (E:Value->Shared->Prop),Q (.bool (g i j)) s->wpAny (model X.prog X.w) X.A (f (.int i t) (.int j u)) Q E s) :
  OpR X f (rI0 λi j=>.bl (g i j)):=by
 intro pins s σ H x y v u Q I rx ry h;obtain ⟨i,j,rfl,rfl,q⟩:=h;obtain ⟨t,rfl⟩:=rx;obtain ⟨t',rfl⟩:=ry;exact rule i j t t' s _ _ ⟨.bl (g i j),H,I,rfl,q⟩
def qcf (i j:Int):Prop:=0<j/\j<1073741824
def qcD (i j:Int):Prop:=0<=j/\j<=1000000/\i.natAbs<2 ^ 64
def JJ (i j:Int):Prop:=(-(2 ^ 64)<i/\i<2 ^ 64)\/(-(2 ^ 64)<j/\j<2 ^ 64)
def JJ.ok {i j:Int} (h:JJ i j):IntMulOk i j:=by
 rcases h with ⟨h1,h2⟩|⟨h1,h2⟩
 ·exact .of_left (intBits_le_64 h1 h2)
 ·exact .of_right (intBits_le_64 h1 h2)
def qcy (k:Nat):(0:Int)<=2 ^ k:=by
 rw [two_pow_cast];exact Int.natCast_nonneg _
def qnZ:OpR X (binaryOp .Add) (rI0 λi j=>.int (i+j)):=qrh λ_ _ _ _ _ _ _ q=>add_int q
def qlC:OpR X (binaryOp .Sub) (rI0 λi j=>.int (i-j)):=qrh λ_ _ _ _ _ _ _ q=>sub_int q
def qpG:OpR X (binaryOp .Mult) (rI JJ λi j=>.int (i*j)):=opI λ_ _ _ _ _ _ _ hc q=>mul_int q hc.ok
def qj8:OpR X (binaryOp .FloorDiv) (rI qcf λi j=>.int (i/j)):=opI λi j _ _ _ _ _ hc q=>by
 have h1:(0:Int)<j:=hc.1;have h2:j<1073741824:=hc.2;exact floordiv_int (by omega) (by rw [Int.fdiv_eq_ediv_of_nonneg i (by omega)];exact q) (.inl (PyProof.noPylong_small (by omega)))
def qmj:OpR X (binaryOp .Mod) (rI (λ_ j=>0<j) λi j=>.int (i%j)):=opI λi j _ _ _ _ _ hc q=>by
 have h1:(0:Int)<j:=hc;exact mod_int' (by omega) (by rw [Int.fmod_eq_emod_of_nonneg i (by omega)];exact q)
def qou:OpR X (binaryOp .Pow) (rI qcD λi j=>.int (i ^ j.toNat)):=opI λ_ _ _ _ _ _ _ hc q=>pow_int_small hc.1 hc.2.1 hc.2.2 q
def qpk:OpR X (binaryOp .LShift) (rI qcD λi j=>.int (i*2 ^ j.toNat)):=opI λ_ _ _ _ _ _ _ hc q=>lshift_int_small hc.1 hc.2.1 hc.2.2 q
def qpC:OpR X (binaryOp .RShift) (rI (λ_ j=>0<=j) λi j=>.int (i/2 ^ j.toNat)):=opI λi j _ _ _ _ _ hc q=>
 rshift_int hc (by rw [Int.fdiv_eq_ediv_of_nonneg i (qcy _)];exact q)
def qnA:OpR X (binaryOp .BitAnd) (rI0 λi j=>.int (Builtin.bitAnd i j)):=qrh λ_ _ _ _ _ _ _ q=>and_int q
def unI {f:Value->Sem Value} {g:Int->Int}
  (rule:∀ (i:Int) (t:Tok) (s:Shared) (Q:Value->Shared->Prop) (E:Value->Shared->Prop),Q (.int (g i) s.toks) { s with toks:=s.toks+1 }->wpAny (model X.prog X.w) X.A (f (.int i t)) Q E s) :
  UnR X f (rU λi=>.int (g i)):=by
 intro pins s σ H x v Q I rx h;obtain ⟨i,rfl,q⟩:=h;obtain ⟨t,rfl⟩:=rx;exact rule i t s _ _ ⟨.int (g i),H,I.tok _,⟨_,rfl⟩,q⟩
def qmX:UnR X (unaryOp .USub) (rU λi=>.int (-i)):=unI λ_ _ _ _ _ q=>neg_int q
end
def qrN:V->V->Bool
 |.non,.non=>true|.non,.int _=>true|.int _,.non=>true|.non,.bl _=>true|.bl _,.non=>true|.non,.str _=>true|.str _,.non=>true
 |.int _,.int _=>true|.bl _,.bl _=>true|.str _,.str _=>true|.byt _,.byt _=>true
 |.int _,.str _=>true|.str _,.int _=>true|.bl _,.str _=>true|.str _,.bl _=>true
 |_,_=>false
def rEq:R2:=λx y H Q=>qrN x y=true/\Q (.bl (decide (x=y))) H
def rNe:R2:=λx y H Q=>qrN x y=true/\Q (.bl (!decide (x=y))) H
def qd1 {i j:Int}:decide (V.int i=V.int j)=(i==j):=by
 rw [Bool.eq_iff_iff];simp
def qgz {i j:Bool}:decide (V.bl i=V.bl j)=(i==j):=by
 rw [Bool.eq_iff_iff];simp
def qep {i j:Str}:decide (V.str i=V.str j)=(i==j):=by
 rw [Bool.eq_iff_iff];simp
def qeX {i j:Array UInt8}:decide (V.byt i=V.byt j)=(i.toList==j.toList):=by
 rw [Bool.eq_iff_iff];cases i;cases j;simp
section
variable {X:Cx} {a b c:Expr} {ta tb tc:TE} {pos:Pos}
def zl {pins:List (Addr×Obj)} {σ:St} {H:Hp} {s:Shared} {Q:VK} {k k':Bool} (I:Inv X pins σ H s) (q:Q (.bl k) H) (e:k=k'):EP X pins σ Q (.bool k') s:=by
 subst e;exact ⟨.bl k,H,I,rfl,q⟩
def qrv:OpR X (compareOp .Eq) rEq:=by
 intro pins s σ H x y v u Q I rx ry h;obtain ⟨hs,q⟩:=h;cases x with
 |non=>
  cases rx;cases y with
  |non=>cases ry;exact PySem.EqNone.eq_none_none (zl I q (by simp))
  |bl j=>cases ry;exact PySem.EqNone.eq_none_bool (zl I q (by simp))
  |int j=>obtain ⟨t',rfl⟩:=ry;exact PySem.EqNone.eq_none_int (zl I q (by simp))
  |str j=>obtain ⟨t',rfl⟩:=ry;exact PySem.EqNone.eq_none_str (zl I q (by simp))
  |_=>exact absurd (show false=true from hs) v7
 |bl i=>
  cases rx;cases y with
  |non=>cases ry;exact PySem.EqNone.eq_bool_none (zl I q (by simp))
  |bl j=>cases ry;exact eq_bool (zl I q qgz)
  |str j=>obtain ⟨t',rfl⟩:=ry;exact PySem.EqMixed.eq_bool_str (zl I q (by simp))
  |_=>exact absurd (show false=true from hs) v7
 |int i=>
  obtain ⟨t,rfl⟩:=rx;cases y with
  |non=>cases ry;exact PySem.EqNone.eq_int_none (zl I q (by simp))
  |int j=>obtain ⟨t',rfl⟩:=ry;exact eq_int (zl I q qd1)
  |str j=>obtain ⟨t',rfl⟩:=ry;exact PySem.EqMixed.eq_int_str (zl I q (by simp))
  |_=>exact absurd (show false=true from hs) v7
 |str i=>
  obtain ⟨t,rfl⟩:=rx;cases y with
  |non=>cases ry;exact PySem.EqNone.eq_str_none (zl I q (by simp))
  |bl j=>cases ry;exact PySem.EqMixed.eq_str_bool (zl I q (by simp))
  |int j=>obtain ⟨t',rfl⟩:=ry;exact PySem.EqMixed.eq_str_int (zl I q (by simp))
  |str j=>obtain ⟨t',rfl⟩:=ry;exact eq_str (zl I q qep)
  |_=>exact absurd (show false=true from hs) v7
 |byt i=>
  obtain ⟨t,rfl⟩:=rx;cases y with
  |byt j=>obtain ⟨t',rfl⟩:=ry;exact PySem.W.eq_bytes (zl I q qeX)
  |_=>exact absurd (show false=true from hs) v7
 |_=>cases y<;>exact absurd (show false=true from hs) v7
def qrO:OpR X (compareOp .NotEq) rNe:=by
 intro pins s σ H x y v u Q I rx ry h;obtain ⟨hs,q⟩:=h;cases x with
 |non=>
  cases rx;cases y with
  |non=>cases ry;exact PySem.EqNone.ne_none_none (zl I q (by simp))
  |bl j=>cases ry;exact PySem.EqNone.ne_none_bool (zl I q (by simp))
  |int j=>obtain ⟨t',rfl⟩:=ry;exact PySem.EqNone.ne_none_int (zl I q (by simp))
  |str j=>obtain ⟨t',rfl⟩:=ry;exact PySem.EqNone.ne_none_str (zl I q (by simp))
  |_=>exact absurd (show false=true from hs) v7
 |bl i=>
  cases rx;cases y with
  |non=>cases ry;exact PySem.EqNone.ne_bool_none (zl I q (by simp))
  |bl j=>cases ry;exact ne_bool (zl I q (congrArg not qgz))
  |str j=>obtain ⟨t',rfl⟩:=ry;exact PySem.EqMixed.ne_bool_str (zl I q (by simp))
  |_=>exact absurd (show false=true from hs) v7
 |int i=>
  obtain ⟨t,rfl⟩:=rx;cases y with
  |non=>cases ry;exact PySem.EqNone.ne_int_none (zl I q (by simp))
  |int j=>obtain ⟨t',rfl⟩:=ry;exact ne_int (zl I q (congrArg not qd1))
  |str j=>obtain ⟨t',rfl⟩:=ry;exact PySem.EqMixed.ne_int_str (zl I q (by simp))
  |_=>exact absurd (show false=true from hs) v7
 |str i=>
  obtain ⟨t,rfl⟩:=rx;cases y with
  |non=>cases ry;exact PySem.EqNone.ne_str_none (zl I q (by simp))
  |bl j=>cases ry;exact PySem.EqMixed.ne_str_bool (zl I q (by simp))
  |int j=>obtain ⟨t',rfl⟩:=ry;exact PySem.EqMixed.ne_str_int (zl I q (by simp))
  |str j=>obtain ⟨t',rfl⟩:=ry;exact ne_str (zl I q (congrArg not qep))
  |_=>exact absurd (show false=true from hs) v7
 |byt i=>
  obtain ⟨t,rfl⟩:=rx;cases y with
  |byt j=>obtain ⟨t',rfl⟩:=ry;exact PySem.W.ne_bytes (zl I q (congrArg not qeX))
  |_=>exact absurd (show false=true from hs) v7
 |_=>cases y<;>exact absurd (show false=true from hs) v7
def KD:OpR X (compareOp .Lt) (rI0 λi j=>.bl (decide (i<j))):=qqE λ_ _ _ _ _ _ _ q=>lt_int q
def qkl:OpR X (compareOp .LtE) (rI0 λi j=>.bl (decide (i<=j))):=qqE λ_ _ _ _ _ _ _ q=>le_int q
def qcj:OpR X (compareOp .Gt) (rI0 λi j=>.bl (decide (j<i))):=qqE λ_ _ _ _ _ _ _ q=>gt_int q
def qst:OpR X (compareOp .GtE) (rI0 λi j=>.bl (decide (j<=i))):=qqE λ_ _ _ _ _ _ _ q=>ge_int q
def RA:OpR X (compareOp .Is) (λx y H Q=>y=.non/\Q (.bl (decide (x=.non))) H):=by
 intro pins s σ H x y v u Q I rx ry h;obtain ⟨rfl,q⟩:=h;cases ry;refine is_none_gen (zl I q ?_);cases x<;>first
  | (cases rx;rfl)
  | (obtain ⟨t,rfl⟩:=rx;rfl)
def qkB:OpR X (compareOp .IsNot) (λx y H Q=>y=.non/\Q (.bl (!decide (x=.non))) H):=by
 intro pins s σ H x y v u Q I rx ry h;obtain ⟨rfl,q⟩:=h;cases ry;refine isnot_none_gen (zl I q ?_);cases x<;>first
  | (cases rx;rfl)
  | (obtain ⟨t,rfl⟩:=rx;rfl)
def OpR.or {f:Value->Value->Sem Value} {r r':R2} (h:OpR X f r) (h':OpR X f r'):OpR X f (λx y H Q=>r x y H Q\/r' x y H Q):=by
 intro pins s σ H x y v u Q I rx ry q;rcases q with q|q
 ·exact h pins s σ H x y v u Q I rx ry q
 ·exact h' pins s σ H x y v u Q I rx ry q
def qv (b:Expr) {op:CmpOp} (h:op≠.In:=by decide) (h2:op≠.NotIn:=by decide):behindInMarks op b=false:=by
 have e1:(op==CmpOp.In)=false:=by cases op<;>first|rfl|exact absurd rfl h
 have e2:(op==CmpOp.NotIn)=false:=by cases op<;>first|rfl|exact absurd rfl h2
 cases b<;>simp [behindInMarks,e1,e2]
def qjG {op:CmpOp} {r:R2} (ho:OpR X (compareOp op) r) (ha:PE X a ta) (hb:PE X b tb) (hm:behindInMarks op b=false):PE X (.Compare a [op] [b] pos) (tOp r ta tb):=by
 intro pins s σ H Q I h;exact wpAny_Compare1 (qr7 ha hb I h λv u s2 x y H2 I2 rx ry q=>ho pins s2 σ H2 x y v u Q I2 rx ry q) hm
def ql1 (t:TE):TT:=λσ H Q=>t σ H λx H'=>∃ k,x=.bl k/\Q k H'
def qka {op:CmpOp} {r:R2} (ho:OpR X (compareOp op) r) (ha:PE X a ta) (hb:PE X b tb) (hm:behindInMarks op b=false):PT X (.Compare a [op] [b] pos) (ql1 (tOp r ta tb)):=by
 intro pins s σ H Q I h;refine wpAny_isTrue_Compare1 (thn (ha pins s σ H _ I h) λv s1 ⟨x,H1,I1,r1,q1⟩=>thn (hb pins s1 σ H1 _ I1 q1) λu s2 ⟨y,H2,I2,r2,q2⟩=>
  thn (ho pins s2 σ H2 x y v u _ I2 r1 r2 q2) λc s3 ⟨z,H3,I3,r3,k,e,q3⟩=>?_) hm
 subst e;cases r3;exact wpAny_truthy_bool ⟨H3,I3,q3⟩
def qhK (r r':R2) (ta tb tc:TE):TE:=λσ H Q=>ta σ H λx H1=>tb σ H1 λy H2=>r x y H2 λz H3=>∃ k,z=.bl k /\
 (if k=true then tc σ H3 λw' H4=>r' y w' H4 Q else Q (.bl false) H3)
def qfK {op op':CmpOp} {r r':R2} (ho:OpR X (compareOp op) r) (ho':OpR X (compareOp op') r') (ha:PE X a ta) (hb:PE X b tb) (hc:PE X c tc)
  (hm:lastMarks [op,op'] [b,c]=false:=by with_unfolding_all rfl):PE X (.Compare a [op,op'] [b,c] pos) (qhK r r' ta tb tc):=by
 intro pins s σ H Q I h;refine Compare_chain (thn (ha pins s σ H _ I h) λv s1 ⟨x,H1,I1,r1,q1⟩=>chain_link (thn (hb pins s1 σ H1 _ I1 q1) λu s2 ⟨y,H2,I2,r2,q2⟩=>
  thn (ho pins s2 σ H2 x y v u _ I2 r1 r2 q2) λd s3 ⟨z,H3,I3,r3,k,e,q3⟩=>?_)) hm
 subst e;cases r3;refine wpAny_truthy_bool ?_;cases k with
 |false=>exact ite_ff ⟨.bl false,H3,I3,rfl,q3⟩
 |true=>exact ite_tt (chain_last (thn (hc pins s3 σ H3 _ I3 q3) λw' s4 ⟨z',H4,I4,r4,q4⟩=>ho' pins s4 σ H4 y z' u w' Q I4 r2 r4 q4))
def K6:(sizeLine:Nat)<2 ^ 63:=by rw [v8];decide
def XY {x:V} {us:List Value} (r:jh [x] us):∃ u,us=[u]/\jQ x u:=by
 cases r with
 |cons r1 r2=>cases r2;exact ⟨_,rfl,r1⟩
def qcL {x y:V} {us:List Value} (r:jh [x,y] us):∃ u w',us=[u,w']/\jQ x u/\jQ y w':=by
 cases r with
 |cons r1 r2=>
  cases r2 with
  |cons r3 r4=>cases r4;exact ⟨_,_,rfl,r1,r3⟩
def RX:JZ X (.builtin "abs") (λxs H Q=>∃ i,xs=[.int i]/\Q (.int (if i<0 then -i else i)) H):=by
 intro pins s σ H xs us Q I r h;obtain ⟨i,rfl,q⟩:=h;obtain ⟨u,rfl,t,rfl⟩:=XY r;exact call_abs_int λu tk=>⟨.int (if i<0 then -i else i),H,I.tok _,⟨_,rfl⟩,q⟩
def qcY (hc:X.calm=true):JZ X (.builtin "max") (λxs H Q=>∃ i j,xs=[.int i,.int j]/\Q (.int (if j > i then j else i)) H):=by
 intro pins s σ H xs us Q I r h;obtain ⟨i,j,rfl,q⟩:=h;obtain ⟨u,w',rfl,⟨t,rfl⟩,⟨t',rfl⟩⟩:=qcL r;refine max_two_ints (I.ok.hd hc) λh' tk k=>⟨_,H,I.kept k,?_,q⟩
 by_cases hj:j > i
 ·rw [if_pos hj,if_pos hj];exact ⟨_,rfl⟩
 ·rw [if_neg hj,if_neg hj];exact ⟨_,rfl⟩
def qd6 (hc:X.calm=true):JZ X (.builtin "min") (λxs H Q=>∃ i j,xs=[.int i,.int j]/\Q (.int (if j<i then j else i)) H):=by
 intro pins s σ H xs us Q I r h;obtain ⟨i,j,rfl,q⟩:=h;obtain ⟨u,w',rfl,⟨t,rfl⟩,⟨t',rfl⟩⟩:=qcL r;refine min_two_ints (I.ok.hd hc) λh' tk k=>⟨_,H,I.kept k,?_,q⟩
 by_cases hj:j<i
 ·rw [if_pos hj,if_pos hj];exact ⟨_,rfl⟩
 ·rw [if_neg hj,if_neg hj];exact ⟨_,rfl⟩
def R7:JZ X (.type "int") (λxs H Q=>(∃ i,xs=[.int i]/\Q (.int i) H)\/∃ k,xs=[.bl k]/\Q (.int (if k then 1 else 0)) H):=by
 intro pins s σ H xs us Q I r h;rcases h with ⟨i,rfl,q⟩|⟨k,rfl,q⟩
 ·obtain ⟨u,rfl,t,rfl⟩:=XY r;exact call_int_int ⟨.int i,H,I,⟨_,rfl⟩,q⟩
 ·obtain ⟨u,rfl,r1⟩:=XY r;cases r1;exact call_int_bool ⟨.int (if k then 1 else 0),H,I.tok _,⟨_,rfl⟩,q⟩
def qsJ (K:Frg) (x:V) (H:Hp) (n:Nat):Prop:=
 match x with
 |.str y=>y.length<=sizeLine/\n=y.length
 |.byt y=>y.size<=sizeLine/\n=y.size
 |.ref p=>(∃ xs,SqL K H p xs/\n=xs.length)\/∃ xs,SqT K H p xs/\n=xs.length
 |_=>False
def zm:JZ X (.builtin "len") (λxs H Q=>∃ x n,xs=[x]/\qsJ X.K x H n/\Q (.int n) H):=by
 intro pins s σ H xs us Q I r h;obtain ⟨x,n,rfl,e,q⟩:=h;obtain ⟨u,rfl,rx⟩:=XY r;have hl:=K6;have hs:sizeLine=16777216:=v8;cases x with
 |str y=>
  obtain ⟨t,rfl⟩:=rx;obtain ⟨hy,e'⟩:y.length<=sizeLine/\n=y.length:=e;subst e';exact len_str (by omega) ⟨.int _,H,I.tok _,⟨_,rfl⟩,q⟩
 |byt y=>
  obtain ⟨t,rfl⟩:=rx;obtain ⟨hy,e'⟩:y.size<=sizeLine/\n=y.size:=e;subst e';exact PySem.W.len_bytes (by omega) ⟨.int _,H,I.tok _,⟨_,rfl⟩,q⟩
 |ref p=>
  cases rx;have e':(∃ xs,SqL X.K H p xs/\n=xs.length)\/∃ xs,SqT X.K H p xs/\n=xs.length:=e;rcases e' with ⟨xs,hx,e'⟩|⟨xs,hx,e'⟩
  ·subst e';obtain ⟨its,r',pl,hz⟩:=I.list hx;have hlen:=r'.length;exact Calls.call_len_list pl.isList (by simp only [size_toArray];omega) ⟨.int xs.length,H,I.tok _,⟨_,by simp only [size_toArray];rw [hlen]⟩,q⟩
  ·subst e';obtain ⟨its,r',pl,hz⟩:=I.tuple hx;have hlen:=r'.length;exact len_tuple pl (by simp only [size_toArray];omega) ⟨.int xs.length,H,I.tok _,⟨_,by simp only [size_toArray];rw [hlen]⟩,q⟩
 |_=>exact (show False from e).elim
end
section
variable {prog:Program} {w:World} {A:Around} {E:Value->Shared->Prop} {s:Shared} {K:Frg} {x dx C f:Addr} {mA:Str->Option Value} {name:Str} {v:Value}
end
section
variable {P:Program} {w:World} {H H':Hp} {h h':Heap} {a C dx:Addr} {fs fs':List (Str×V)}
end
section
variable {X:Cx} {pins:List (Addr×Obj)} {σ:St} {H:Hp} {s:Shared} {a C dx:Addr} {fs:List (Str×V)} {f:Str} {v:V} {A:Around} {E:Value->Shared->Prop}
end
section
variable {X:Cx} {o e value:Expr} {f:Str} {pos pos' tpos:Pos} {ta tv:TE}
end
section
variable {X:Cx} {pins:List (Addr×Obj)} {σ:St} {H:Hp} {s:Shared} {A:Around} {E:Value->Shared->Prop} {Q:Value->Shared->Prop} {c:Value} {b:Bool}
end
structure Room (k:Nat) (A:Around):Prop where
 hd:A.handled=none
 dp:A.depth+3*k+5<recursionLimit
 un:A.units+16*k+200<cLine
 gd:A.guards=some []
def Room.mono {j k:Nat} {A:Around} (r:Room k A) (h:j<=k):Room j A:=⟨r.hd,by have:=r.dp;omega,by have:=r.un;omega,r.gd⟩
theorem Room.deeper {k:Nat} {A:Around} (r:Room (k+1) A) (env:Env):Room k (A.deeper env):=
 ⟨r.hd,by have:=r.dp;show A.depth+1+3*k+5<_;omega,by have:=r.un;show A.units+3+16*k+200<_;omega,r.gd⟩
theorem Room.in1 {k:Nat} {A:Around} (r:Room (k+1) A):Room k A.in1:=
 ⟨r.hd,by have:=r.dp;show A.depth+3*k+5<_;omega,by have:=r.un;show A.units+1+16*k+200<_;omega,r.gd⟩
theorem Room.depth {k:Nat} {A:Around} (r:Room k A):A.depth<recursionLimit:=by have:=r.dp;omega
theorem Room.units {k:Nat} {A:Around} (r:Room k A):A.units+64<cLine:=by have:=r.un;omega
def qty:TA:=λ_ H Q=>Q [] H
def qse (ta:TE) (tr:TA):TA:=λσ H Q=>ta σ H λx H1=>tr σ H1 λxs H2=>Q (x::xs) H2
section
variable {X:Cx} {e:Expr} {es:List Expr} {te:TE} {t:TA} {pos:Pos}
def KI:PA X [] qty:=λ_ _ _ _ H Q I h=>Calls.spliced_nil ⟨[],H,I,.nil,h⟩
def VE (ha:PE X e te) (hr:PA X es t) (hs:starEach (e::es) X.env=(false,eval e X.env)::starEach es X.env:=by rfl):PA X (e::es) (qse te t):=by
 intro pos pins s σ H Q I h;rw [hs];show wpAny _ _ (spliced ((false,eval e X.env)::backTo pos (starEach es X.env))) _ _ s;refine Calls.spliced_cons (thn (ha pins s σ H _ I h) λu s1 ⟨x,H1,I1,r1,q1⟩=>?_);exact thn (hr pos pins s1 σ H1 _ I1 q1) λus s2 ⟨xs,H2,I2,r2,q2⟩=>⟨x::xs,H2,I2,.cons r1 r2,q2⟩
def qt0 (t:TA):TE:=λσ H Q=>t σ H λxs H1=>xs.length<=sizeLine/\∀ p,H1 p=none->Q (.ref p) (upd H1 p (.tup xs))
def qtt (t:TA):TE:=λσ H Q=>t σ H λxs H1=>xs.length<=sizeLine/\∀ p,H1 p=none->Q (.ref p) (upd H1 p (.lst xs))
def qi4 {x1} (h:PA X es t):PE X (.Tuple es x1 pos) (qt0 t):=by
 intro pins s σ H Q I hq;refine wpAny_Tuple_spliced (thn (h pos pins s σ H _ I hq) λus s1 ⟨xs,H1,I1,r,z,q⟩=>⟨by rw [← r.length];exact z,?_⟩);have hf:H1 s1.heap.objs.size=none:=I1.hok.fresh (u8 _);refine ⟨.ref s1.heap.objs.size,upd H1 s1.heap.objs.size (.tup xs),I1.laid (t':=s1.toks) (λb u e=>v4 _ e) (u8 _) ?_,rfl,q _ hf⟩;exact ⟨z,us,r,⟨_,v5 _ rfl,rfl,_,rfl,rfl⟩⟩
def ql7 (h:PA X es t):PE X (.List es pos) (qtt t):=by
 intro pins s σ H Q I hq;refine wpAny_List_spliced (thn (h pos pins s σ H _ I hq) λus s1 ⟨xs,H1,I1,r,z,q⟩=>⟨by rw [← r.length];exact z,?_⟩);have hf:H1 s1.heap.objs.size=none:=I1.hok.fresh (u8 _);refine ⟨.ref s1.heap.objs.size,upd H1 s1.heap.objs.size (.lst xs),I1.laid (t':=s1.toks) (λb u e=>v4 _ e) (u8 _) ?_,rfl,q _ hf⟩;exact ⟨z,us,0,r,v5 _ rfl⟩
end
abbrev Sp:=List V->Hp->VK->XK->Prop
abbrev CXT:=List Env->Hp->Shared->XK->Value->Shared->Prop
structure Env0 (P:Program) (w:World) (K:Frg) (mg:Str->Option Value) (base:Heap) (A:Around) (outer:List Env) (s:Shared) (H:Hp):Prop where
 frames:A.frames=some outer
 mod:Mod K mg base
 bs:∀ b o,base.get? b=some o->s.heap.get? b=some o/\H b=none
 bsz:base.objs.size<=s.heap.objs.size
 funs:s.heap.FunFrames base outer
 frf:∀ b∈frs outer,H b=none
 hok:HOk P w H s.heap
 bare:AllBare s.gens
def CE (outer:List Env) (P:Program) (w:World) (H:Hp) (s:Shared) (Q:VK) (u:Value) (s':Shared):Prop:=
 ∃ v H',s'.os=s.os/\AllBare s'.gens/\Un (frs outer) [] H H' s.heap s'.heap/\HOk P w H' s'.heap/\jQ v u/\Q v H'
def CR (CX:CXT) (outer:List Env) (P:Program) (w:World) (H:Hp) (s:Shared) (Q:VK) (E:XK) (r:Result) (s':Shared):Prop:=
 match r with
 |.ok (.ret u)=>CE outer P w H s Q u s'
 |.ok _=>False
 |.error e=>CX outer H s E e s'
structure FnOk (P:Program) (w:World) (K:Frg) (mg:Str->Option Value) (base:Heap) (CX:CXT) (k:Nat) (f:Addr) (fd:FuncData) (ps:List Str) (sp:Sp):Prop where
 len:∀ vs H Q E,sp vs H Q E->vs.length=ps.length
 run:∀ (A:Around) (outer:List Env) (s:Shared) (H:Hp) (args:Args) (us:List Value) (vs:List V) (Q:VK) (E:XK),Room k A->Env0 P w K mg base A outer s H->BindsTo s fd args (ps.zip us)->jh vs us->sp vs H Q E ->
  codeAny (model P w) A (.call (.ref f) args) (CR CX outer P w H s Q E) s
theorem FnOk.mono {P:Program} {w:World} {K:Frg} {mg:Str->Option Value} {base:Heap} {CX:CXT} {j k:Nat} {f:Addr} {fd:FuncData} {ps:List Str} {sp:Sp} (F:FnOk P w K mg base CX j f fd ps sp) (h:j<=k) :
  FnOk P w K mg base CX k f fd ps sp:=⟨F.len,λA outer s H args us vs Q E hr=>F.run A outer s H args us vs Q E (hr.mono h)⟩
theorem Env0.in1 {P:Program} {w:World} {K:Frg} {mg:Str->Option Value} {base:Heap} {A:Around} {outer:List Env} {s:Shared} {H:Hp} (e:Env0 P w K mg base A outer s H) :
  Env0 P w K mg base A.in1 outer s H:=⟨e.frames,e.mod,e.bs,e.bsz,e.funs,e.frf,e.hok,e.bare⟩
section
variable {X:Cx} {pins:List (Addr×Obj)} {σ:St} {H:Hp} {s s':Shared}
def Inv.env0 (I:Inv X pins σ H s):Env0 X.prog X.w X.K X.mg X.base X.A X.stack s H:=
 ⟨I.ok.frames,I.ok.mod,I.bs,za3 I.ok.bsz I.sz,I.stack,I.stkFree,I.hok,I.bare⟩
def Inv.after {Q:VK} {u:Value} (I:Inv X pins σ H s) (h:CE X.stack X.prog X.w H s Q u s'):EP X pins σ Q u s':=by
 obtain ⟨v,H',os,bare,un,hok,r,q⟩:=h;obtain ⟨hh,g,d,t,os'⟩:=s';obtain rfl:os'=s.os:=os;exact ⟨v,H',I.call (h':=hh) (g':=g) (d':=d) (t':=t) (ch:=[]) un hok bare (λb z=>absurd z (by simp)),r,q⟩
end
def qq6 (sp:Sp) (dvs:List V) (E:XK) (t:TA):TE:=λσ H Q=>t σ H λvs H1=>sp (vs++dvs) H1 Q E
def KB (K:Frg) (fd:FuncData) (ps:List Str) (ds:List Value):Prop:=
 ∀ (s:Shared) (us:List Value),K.In s.heap->(us++ds).length=ps.length->BindsTo s fd ⟨us,[]⟩ (ps.zip (us++ds))
def KB.all {K:Frg} {fd:FuncData} {ps:List Str} (h:∀ us:List Value,us.length=ps.length->bindArgs fd ⟨us,[]⟩=pure (ps.zip us)):KB K fd ps []:=λs us _ hl=>by
 rw [List.append_nil] at hl ⊢;exact .of_eq (h us hl)
def qeR (CX:CXT) (X:Cx) (E:XK):Prop:=∀ (pins:List (Addr×Obj)) (σ:St) (H:Hp) (s:Shared) (e:Value) (s':Shared),Inv X pins σ H s->CX X.stack H s E e s'->X.xe e s'
section
variable {X:Cx} {CX:CXT} {k:Nat} {f C:Addr} {fd:FuncData} {ps:List Str} {sp:Sp} {dvs:List V} {ds:List Value} {E:XK} {x m:Str} {p pos apos:Pos} {e o:Expr} {es:List Expr} {ta:TE} {t:TA}
def qo0 {pins:List (Addr×Obj)} {σ:St} {H:Hp} {s:Shared} {Q:VK} {us:List Value} {vs:List V} (F:FnOk X.prog X.w X.K X.mg X.base CX k f fd ps sp) (hr:Room k X.A) (hb:KB X.K fd ps ds) (hd:jh dvs ds) (hx:qeR CX X E)
  (I:Inv X pins σ H s) (r:jh vs us) (h:sp (vs++dvs) H Q E):wpAny (model X.prog X.w) X.A (call (.ref f) us) (EP X pins σ Q) X.xe s:=by
 have r2:jh (vs++dvs) (us++ds):=r.append hd;have hl:(us++ds).length=ps.length:=by rw [← r2.length];exact F.len _ _ _ _ h
 refine wpAny_call (codeAny_mono (F.run X.A X.stack s H ⟨us,[]⟩ (us++ds) (vs++dvs) Q E hr I.env0 (hb s us I.kIn hl) r2 h) λr s' hq=>?_);cases r with
 |error e=>exact hx pins σ H s e s' I hq
 |ok fl=>
  cases fl with
  |ret u=>exact I.after hq
  |next=>exact False.elim hq
  |brk=>exact False.elim hq
  |cont=>exact False.elim hq
def qkb (F:FnOk X.prog X.w X.K X.mg X.base CX k f fd ps sp) (hr:Room k X.A) (hg:Gl X x) (hm:X.mg x=some (.ref f)) (hk:PySem.W.keepIn X.K (.ref f)=true) (hb:KB X.K fd ps ds) (hd:jh dvs ds) (hx:qeR CX X E)
  (ha:PA X (e::es) t) (hdb:(x==("__debug__" : Str))=false:=by decide) (he:starEach (e::es) X.env=(false,eval e X.env)::starEach es X.env:=by rfl) (hpl:(backTo pos (starEach es X.env)).any (·.1)=false:=by rfl) :
  PE X (.Call (.Name x p) (e::es) [] pos) (qq6 sp dvs E t):=by
 intro pins s σ H Q I h;refine wpAny_Call_Name_kw (qdc I hg hm ?_ hdb);refine PySem.W.callWith_K (h₀:=X.base) I.ok.mod.kin hk (thn (ha pos pins s σ H _ I h) λus s1 ⟨vs,H1,I1,r,q⟩=>⟨I1.kIn,?_⟩) he hpl;exact qo0 F hr hb hd hx I1 r q
end
section
variable {X:Cx} {CX:CXT} {k:Nat} {f C:Addr} {fd:FuncData} {ps ks:List Str} {sp:Sp} {E:XK} {x m:Str} {p pos apos kpos:Pos} {e o:Expr} {es:List Expr} {kws:List Keyword} {te ta:TE} {t tk:TA} {nm:Option Str}
variable {g:List Value->List Value->List Value} {gV:List V->List V->List V}
end
structure FnScope (N P:List Str) (sc:Scope):Prop where
 kind:sc.kind=.function
 co:sc.isCoroutine=false
 gen:sc.isGenerator=false
 nd:N.Nodup
 pre:N.take P.length=P
 par:∀ x∈P,sc.names.lookup x=some .local\/sc.names.lookup x=some .cell
 nofree:∀ y∈sc.names,y.2≠.free
theorem N9 {kindOf:Str->Option NameKind} {x:Str}:∀ {binds:List (Str×Value)} {m:Str->Option Value},(∀ v,(x,v)∉binds)->bindL kindOf binds m x=m x
 |[],_,_=>rfl
 | (n,v)::r,m,h=>by
  unfold bindL;rw [N9 λw hw=>h w (u9 _ hw)];split
  ·have:x≠n:=by rintro rfl;exact h v za6
   simp [this]
  ·rfl
theorem N8 {kindOf:Str->Option NameKind} {x:Str}:∀ {binds:List (Str×Value)} {m:Str->Option Value},(∀ v,(x,v)∉binds)->bindC kindOf binds m x=m x
 |[],_,_=>rfl
 | (n,v)::r,m,h=>by
  unfold bindC;rw [N8 λw hw=>h w (u9 _ hw)];split
  ·rfl
  ·have:x≠n:=by rintro rfl;exact h v za6
   simp [this]
theorem qaa {kindOf:Str->Option NameKind} {x:Str} {v:Value}:∀ {P:List Str} {vs:List Value} {i:Nat} {m:Str->Option Value},P.Nodup->P[i]?=some x->vs[i]?=some v->kindOf x=some .local ->
  bindL kindOf (P.zip vs) m x=some v
 |[],_,_,_,_,h,_,_=>by simp at h
 |_::_,[],_,_,_,_,h,_=>by simp at h
 |p::P,w::vs,0,m,nd,h1,h2,hk=>by
  simp at h1 h2;subst h1;subst h2;show bindL kindOf ((p,w)::P.zip vs) m p=_;unfold bindL;rw [N9 λv hv=>(List.nodup_cons.mp nd).1 (List.of_mem_zip hv).1,if_pos hk];simp
 |p::P,w::vs,i+1,m,nd,h1,h2,hk=>by
  show bindL kindOf ((p,w)::P.zip vs) m x=_;unfold bindL;exact qaa (i:=i) (List.nodup_cons.mp nd).2 (by simpa using h1) (by simpa using h2) hk
theorem NM {kindOf:Str->Option NameKind} {x:Str} {v:Value}:∀ {P:List Str} {vs:List Value} {i:Nat} {m:Str->Option Value},P.Nodup->P[i]?=some x->vs[i]?=some v->kindOf x≠some .local ->
  bindC kindOf (P.zip vs) m x=some v
 |[],_,_,_,_,h,_,_=>by simp at h
 |_::_,[],_,_,_,_,h,_=>by simp at h
 |p::P,w::vs,0,m,nd,h1,h2,hk=>by
  simp at h1 h2;subst h1;subst h2;show bindC kindOf ((p,w)::P.zip vs) m p=_;unfold bindC;rw [N8 λv hv=>(List.nodup_cons.mp nd).1 (List.of_mem_zip hv).1,if_neg hk];simp
 |p::P,w::vs,i+1,m,nd,h1,h2,hk=>by
  show bindC kindOf ((p,w)::P.zip vs) m x=_;unfold bindC;exact NM (i:=i) (List.nodup_cons.mp nd).2 (by simpa using h1) (by simpa using h2) hk
def TC (N:List Str) (vs:List V):St:=vs.map some++List.replicate (N.length-vs.length) none
def qeE (CX:CXT) (P:Program) (w:World) (K:Frg) (mg:Str->Option Value) (base:Heap) (N:List Str) (qual:Str) (scope:Scope) (f:Addr) (cd:Value) (A:Around) (outer:List Env) (s:Shared) (H:Hp) (E:XK):Cx where
 prog:=P
 w:=w
 K:=K
 mg:=mg
 base:=base
 A:=A.deeper (envOfC qual scope s.heap.objs.size f cd)
 N:=N
 s₀:=s
 H₀:=H
 env:=envOfC qual scope s.heap.objs.size f cd
 outer:=outer
 stack:=envOfC qual scope s.heap.objs.size f cd::outer
 ex:=[]
 calm:=true
 fn:=λ_=>true
 pn:=[]
 xe:=λe s'=>wpAny (model P w) (A.deeper (envOfC qual scope s.heap.objs.size f cd)) (leaving (envOfC qual scope s.heap.objs.size f cd) e) (λ_ s''=>CX outer H s E e s'') (λe' s''=>CX outer H s E e' s'') s'
def qb2 {sc:Scope} {n:Nat} {x:Str} (h:sc.names.lookup x=some .cell):∃ c,(cellsFrom n sc.names []).lookup x=some c:=by
 have q:=PySem.W.cellsFrom_some sc.names n [] (.inl h);exact Option.isSome_iff_exists.mp q
def qec {CX:CXT} {P:Program} {w:World} {K:Frg} {mg:Str->Option Value} {base:Heap} {N ps:List Str} {qual:Str} {scope:Scope} {f:Addr} {cd:Value} {A:Around} {outer:List Env} {s s1:Shared} {H:Hp} {E:XK} {us:List Value} {vs:List V}
  (S:FnScope N ps scope) (hd:A.handled=none) (e0:Env0 P w K mg base A outer s H) (hl:vs.length=ps.length) (r:jh vs us)
  (x:InCallC s s.heap.objs.size (bindL (envOfC qual scope s.heap.objs.size f cd).kindOf (ps.zip us) λ_=>none) (cellsFrom (s.heap.objs.size+1) scope.names []) (bindC (envOfC qual scope s.heap.objs.size f cd).kindOf (ps.zip us) λ_=>none) s1) :
  Inv (qeE CX P w K mg base N qual scope f cd A outer s H E) [] (TC N vs) H s1:=by
 have hpl:ps.length<=N.length:=by have:=congrArg List.length S.pre;rw [List.length_take] at this;omega
 obtain ⟨h1,tk,rfl,hk⟩:=x.done;have noA:∀ b:Addr,b∉(qeE CX P w K mg base N qual scope f cd A outer s H E).ex:=λb z=>absurd (show b∈([]:List Addr) from z) (by simp);refine ⟨⟨e0.mod,S.kind,rfl,rfl,u8 _,λy z c h1 h2=>?_,λy hy=>?_,λy c _ h=>?_,λ_=>hd,Around.frames_deeper e0.frames,.inr ⟨rfl,rfl⟩,λb z=>absurd z (noA b),e0.bs,e0.bsz,λb _ _=>noA b,λb z=>absurd z (noA b),e0.funs,e0.frf⟩,
  rfl,e0.bare,Un.kept hk,⟨_,x.toInCall.ns,λi y v h1 h2 h3=>?_⟩,λy c h=>⟨_,x.cell y c h⟩,e0.hok.fresh (u8 _),λy c h=>?_,λp hp=>absurd (show p∈([]:List (Addr×Obj)) from hp) (by simp),e0.hok.kept hk,?_⟩
 ·exact name_of_addr x.apart (PySem.mem_of_lookup h1) (PySem.mem_of_lookup h2)
 ·have hy:scope.names.lookup y=some .cell\/scope.names.lookup y=some .free:=hy;rcases hy with hy|hy
  ·exact qb2 hy
  ·exact absurd rfl (S.nofree _ (PySem.mem_of_lookup hy))
 ·exact Nat.le_of_lt (x.above y c (PySem.mem_of_lookup h))
 ·have hi:i<vs.length:=by
   unfold TC at h2;by_cases hi:i<vs.length
   ·exact hi
   ·rw [List.getElem?_append_right (by simpa using hi)] at h2;rw [List.getElem?_replicate] at h2;split at h2<;>cases h2
  have ha:vs[i]?=some v:=by
   unfold TC at h2;rw [List.getElem?_append_left (by simpa using hi),getElem?_map] at h2;cases e:vs[i]? with
   |none=>rw [e] at h2;cases h2
   |some a=>rw [e] at h2;cases h2;rfl
  obtain ⟨u,hu,rv⟩:=r.get ha;have hp:ps[i]?=some y:=by
   rw [← S.pre,List.getElem?_take_of_lt (by omega)];exact h1
  have ndP:ps.Nodup:=by rw [← S.pre];exact S.nd.sublist (List.take_sublist _ _)
  refine ⟨u,rv,?_⟩;rcases S.par y (za2 hp) with k|k
  ·exact .inl ⟨k,qaa ndP hp hu k⟩
  ·obtain ⟨c,e⟩:=qb2 (n:=s.heap.objs.size+1) k;refine .inr ⟨.inl k,c,e,?_⟩;have q:=x.cell y c e;rw [NM ndP hp hu (by show scope.names.lookup y≠_;rw [k];decide)] at q;exact q
 ·exact e0.hok.fresh (Nat.le_of_lt (x.above y c (PySem.mem_of_lookup h)))
 ·unfold TC;show _=N.length;rw [length_append,length_map,List.length_replicate];omega
def qrx {CX:CXT} {P:Program} {w:World} {K:Frg} {mg:Str->Option Value} {base:Heap} {k:Nat} {f:Addr} {name qual:Str} {params:Arguments} {body:List Stmt} {scope:Scope} {dV kV doc pm cdv ct oc:Value} {an od:Option Addr}
  {osl:Array (Option Value)} {N ps:List Str} {sp:Sp} (lk:K.lookup f=some ⟨oc,od,.func (PySem.W.fnOf name qual params body scope dV kV doc pm an cdv ct),osl⟩) (hcd:PySem.W.codeIn K cdv qual=true) (S:FnScope N ps scope)
  (len:∀ vs H Q E,sp vs H Q E->vs.length=ps.length)
  (hbody:∀ (A:Around) (outer:List Env) (s:Shared) (H:Hp) (vs:List V) (Q:VK) (E:XK),Room k (A.deeper (envOfC qual scope s.heap.objs.size f cdv))->sp vs H Q E ->
   ∃ t,PSs (qeE CX P w K mg base N qual scope f cdv A outer s H E) body t/\t { nx:=λ_ H'=>Q .non H',rt:=Q } (TC N vs) H) :
  FnOk P w K mg base CX (k+1) f (PySem.W.fnOf name qual params body scope dV kV doc pm an cdv ct) ps sp:=by
 refine ⟨len,λA outer s H args us vs Q E hr e0 hb r hsp=>?_⟩;have hl:=len _ _ _ _ hsp;have KX:K.In s.heap:=e0.mod.kin.keeps λb o e=>(e0.bs b o e).1;have lim:s.heap.NoLimit:=e0.mod.nolimit.keeps λb o e=>(e0.bs b o e).1;have hkind:∀ y∈ps.zip us,scope.names.lookup y.1=some .local\/(scope.names.lookup y.1=some .cell/\((cellsFrom (s.heap.objs.size+1) scope.names []).lookup y.1).isSome=true):=λ⟨n,v⟩ hy=>by
  rcases S.par n (List.of_mem_zip hy).1 with q|q
  ·exact .inl q
  ·exact .inr ⟨q,PySem.W.cellsFrom_some _ _ _ (.inl q)⟩
 refine codeAny_call_function hr.depth (KX _ _ lk) rfl S.co S.gen rfl (PySem.W.codeRec_of KX hcd) (hb _ _ _ _ ?_);refine wpAny_newFunctionEnv_cells S.kind hkind λenv he s1 x=>?_;subst he;refine ⟨lim.keeps x.toInCall.keep,codeAny_func ?_⟩;obtain ⟨t,ht,hq⟩:=hbody A outer s H vs Q E (hr.deeper _) hsp;have I:Inv (qeE CX P w K mg base N qual scope f cdv A outer s H E) [] (TC N vs) H s1:=qec S hr.hd e0 hl r x;refine y9 (ht [] s1 (TC N vs) H _ I hq) (λfl s' hs=>?_) λe s' hs=>hs;have fin:∀ {σ':St} {H':Hp} {v:V} {u:Value},Inv (qeE CX P w K mg base N qual scope f cdv A outer s H E) [] σ' H' s'->jQ v u->Q v H'->CE outer P w H s Q u s':=
  λ{σ' H' v u} J rv q=>⟨v,H',J.os,J.bare,J.base,J.hok,rv,q⟩
 cases fl with
 |ret u=>
  obtain ⟨v,σ',H',J,rv,q⟩:=hs;exact fin J rv q
 |next=>
  obtain ⟨σ',H',J,q⟩:=hs;exact fin (v:=V.non) (u:=Value.none) J rfl q
 |brk=>
  obtain ⟨_,_,_,q⟩:=hs;exact False.elim q
 |cont=>
  obtain ⟨_,_,_,q⟩:=hs;exact False.elim q
section
variable {X:Cx} {x:Str} {p pos:Pos} {e:Expr} {es:List Expr} {t:TA} {id T:String} {r:List V->Hp->VK->Prop}
def tCB (r:List V->Hp->VK->Prop) (t:TA):TE:=λσ H Q=>t σ H λvs H1=>r vs H1 Q
def R0 (hc:JZ X (.builtin id) r) (hg:Gl X x) (hm:X.mg x=none) (hv:bootBuiltins x=some (.builtin id)) (ha:PA X (e::es) t) (hn:x≠"__name__" := by decide) (hdb:(x==("__debug__" : Str))=false:=by decide)
  (he:starEach (e::es) X.env=(false,eval e X.env)::starEach es X.env:=by rfl) (hpl:(backTo pos (starEach es X.env)).any (·.1)=false:=by rfl):PE X (.Call (.Name x p) (e::es) [] pos) (tCB r t):=by
 intro pins s σ H Q I h;refine wpAny_Call_Name_kw (SL I hg hm hv ?_ hn hdb);exact PyProof.Rows.callWith_builtin1 (thn (ha pos pins s σ H _ I h) λus s1 ⟨vs,H1,I1,r1,q1⟩=>hc pins s1 σ H1 vs us Q I1 r1 q1) he hpl
def NU (hc:JZ X (.type T) r) (hg:Gl X x) (hm:X.mg x=none) (hv:bootBuiltins x=some (.type T)) (ha:PA X (e::es) t) (hn:x≠"__name__" := by decide) (hdb:(x==("__debug__" : Str))=false:=by decide)
  (he:starEach (e::es) X.env=(false,eval e X.env)::starEach es X.env:=by rfl) (hpl:(backTo pos (starEach es X.env)).any (·.1)=false:=by rfl):PE X (.Call (.Name x p) (e::es) [] pos) (tCB r t):=by
 intro pins s σ H Q I h;refine wpAny_Call_Name_kw (SL I hg hm hv ?_ hn hdb);exact PyProof.Rows.callWith_type1 (thn (ha pos pins s σ H _ I h) λus s1 ⟨vs,H1,I1,r1,q1⟩=>hc pins s1 σ H1 vs us Q I1 r1 q1) he hpl
end
end L2
namespace HT
open PySem PyProof.Rows
section
open PySem.SeqAt
open PySem.MeetsSeq PySem.MeetsSeq2 PySem.MeetsSeq3
end
section
variable {prog:Program} {w:World} {A:Around} {E:Value->Shared->Prop} {s:Shared}
def qjF {t b:Addr} {vs ws:List Value} {Q:Value->Shared->Prop} (ht:IsTup s.heap t vs.toArray) (hb:IsTup s.heap b ws.toArray) (hv:vs≠[])
  (h1:ws=[]->Q (.ref t) s) (h2:ws≠[]->Q (.ref s.heap.objs.size) { s with heap:=s.heap.push { cls:=.type "tuple",data:=.seq (vs++ws).toArray } })
  (hsz:vs.length+ws.length<=sizeLine):wpAny (model prog w) A (binaryOp .Add (.ref t) (.ref b)) Q E s:=by
 obtain ⟨⟨cls,dd,data,sl⟩,ho,hc,n,hd⟩:=id ht;obtain ⟨⟨cls2,dd2,data2,sl2⟩,ho2,hc2,n2,hd2⟩:=id hb;simp only at hc hd hc2 hd2;subst hc hd hc2 hd2;have e:vs.toArray++ws.toArray=(vs++ws).toArray:=by simp
 by_cases hw:ws=[]
 ·exact concat_meets ⟨_,ho,rfl⟩ ⟨_,ho2,rfl⟩ noFill_tuple_add seq_tuple_add PySem.F.slot_tuple_add PySem.F.entry_tuple_add (PySem.F.args_tuple_add_2 _ _)
   (tuple_addW1 t b vs.toArray ws.toArray n n2 dd dd2 sl sl2 (by simpa using hv) (by simp [hw])) ⟨ho,ho2,h1 hw⟩
 ·refine concat_meets ⟨_,ho,rfl⟩ ⟨_,ho2,rfl⟩ noFill_tuple_add seq_tuple_add PySem.F.slot_tuple_add PySem.F.entry_tuple_add (PySem.F.args_tuple_add_2 _ _)
   (tuple_addW2 t b vs.toArray ws.toArray n n2 dd dd2 sl sl2 (by simpa using hv) (by simpa using hw) (by rw [size_toArray,size_toArray];exact hsz)) ⟨ho,ho2,?_⟩
  rw [e];exact h2 hw
def sIx (n d:Nat):Option Int->Nat
 |none=>d
 |some v=>if v<0 then (v+(n:Int)).toNat else min v.toNat n
def qbE (n d:Nat):sIx n d none=d:=rfl
def qcX (n d k:Nat):sIx n d (some (k:Int))=min k n:=by
 show (if (k:Int)<0 then ((k:Int)+(n:Int)).toNat else min (k:Int).toNat n)=min k n;rw [if_neg (by omega),Int.toNat_natCast]
def qmU (n d:Nat) (hd:d<=n) (o:Option Int):sIx n d o<=n:=by
 cases o with
 |none=>exact hd
 |some v=>
  show (if v<0 then (v+(n:Int)).toNat else min v.toNat n)<=n;by_cases hv:v<0
  ·rw [if_pos hv];omega
  ·rw [if_neg hv];exact Nat.min_le_right _ _
def qdh (v:Int) (n d:Nat):(if v<0 then max (v+(n:Int)) 0 else min v (n:Int))=((sIx n d (some v):Nat):Int):=by
 show (if v<0 then max (v+(n:Int)) 0 else min v (n:Int))=(((if v<0 then (v+(n:Int)).toNat else min v.toNat n):Nat):Int);by_cases hv:v<0
 ·simp only [if_pos hv];omega
 ·simp only [if_neg hv];omega
def qb7 (lo hi:Option Int) (n:Nat):Builtin.Slice.sliceAdjust lo hi 1 (n:Int)=(((sIx n 0 lo:Nat):Int),((sIx n n hi:Nat):Int)):=by
 have h1:¬ ((1:Int)<0):=by omega
 unfold Builtin.Slice.sliceAdjust;simp only [h1,if_false];refine Prod.ext ?_ ?_
 ·cases lo with
  |none=>rfl
  |some v=>exact qdh v n 0
 ·cases hi with
  |none=>rfl
  |some v=>exact qdh v n n
def qb8 (i j:Nat):Builtin.Slice.slicePlaces (i:Int) (j:Int) 1=j-i:=by
 unfold Builtin.Slice.slicePlaces;have h1:(1:Int) > 0:=by omega
 simp only [h1,if_true,Int.ediv_one];split<;>omega
def KT {v:Value} {o:Option Int} {Q:Option Int->Shared->Prop} (p:IsPart v o) (h:Q o s):wpAny (model prog w) A (Builtin.Slice.slicePartIndex v) Q E s:=by
 cases p with
 |none=>exact slicePart_none h
 |int i t=>exact slicePart_int h
def RG {sl:Addr} {vl vu:Value} {lo hi:Option Int} {n:Nat} {Q:Int×Int×Nat->Shared->Prop} (hs:s.heap.IsSliceOf sl vl vu .none) (pl:IsPart vl lo) (pu:IsPart vu hi)
  (h:Q (((sIx n 0 lo:Nat):Int),1,sIx n n hi-sIx n 0 lo) s):wpAny (model prog w) A (Builtin.Slice.sliceApplied (.ref sl) (pure (n:Int))) Q E s:=by
 obtain ⟨os,hos,hcs,hds⟩:=id hs;unfold Builtin.Slice.sliceApplied Builtin.Slice.sliceFields;refine y6 (y6 (wpAny_field hos hds (x:=vl) rfl (y6 (wpAny_field hos hds (x:=vu) rfl (y6 (wpAny_field hos hds (x:=.none) rfl (y8 ?_)))))));refine y6 (slicePart_none ?_);show wpAny _ _ (if ((1:Int)==0)=true then _ else _) _ _ s;rw [if_neg (by decide)];refine y6 (KT pl (y6 (KT pu (y6 (y8 ?_)))));show wpAny _ _ (match Builtin.Slice.sliceAdjust lo hi 1 (n:Int) with|(lo,hi)=>pure (lo,(1:Int),Builtin.Slice.slicePlaces lo hi 1)) _ _ s;rw [qb7 lo hi n];show wpAny _ _ (pure (((sIx n 0 lo:Nat):Int),(1:Int),Builtin.Slice.slicePlaces ((sIx n 0 lo:Nat):Int) ((sIx n n hi:Nat):Int) 1)) _ _ s;rw [qb8];exact y8 h
def qfp (xs:Array Value) (i k:Nat):((List.range k).filterMap λ(m:Nat)=>xs[((i:Int)+(m:Int)*1).toNat]?).toArray=((xs.toList.drop i).take k).toArray:=by
 have e:(λ(m:Nat)=>xs[((i:Int)+(m:Int)*1).toNat]?)=λm=>xs[i+m]?:=by
  funext m;have:((i:Int)+(m:Int)*1).toNat=i+m:=by omega
  rw [this]
 rw [e];have:=pick_run xs i k;rw [List.filterMap_map] at this;have e2:((λx=>xs[x]?)∘λx=>i+x)=λm=>xs[i+m]?:=rfl;rw [e2] at this;rw [this]
def XG {t sl:Addr} {items:Array Value} {vl vu:Value} {lo hi:Option Int} {Q:Value->Shared->Prop} (ht:IsTup s.heap t items) (hs:s.heap.IsSliceOf sl vl vu .none) (pl:IsPart vl lo) (pu:IsPart vu hi)
  (hw:¬ (sIx items.size 0 lo=0/\sIx items.size items.size hi=items.size))
  (h:Q (.ref s.heap.objs.size) { s with heap:=s.heap.push { cls:=.type "tuple",data:=.seq ((items.toList.drop (sIx items.size 0 lo)).take (sIx items.size items.size hi-sIx items.size 0 lo)).toArray } })
  (hsz:items.size<=sizeLine):wpAny (model prog w) A (getItem (.ref t) (.ref sl)) Q E s:=by
 have htake:sizeOk (.seq ((items.toList.drop (sIx items.size 0 lo)).take (sIx items.size items.size hi-sIx items.size 0 lo)).toArray):=by
  show ((items.toList.drop (sIx items.size 0 lo)).take (sIx items.size items.size hi-sIx items.size 0 lo)).toArray.size<=sizeLine;rw [size_toArray,List.length_take,List.length_drop,Array.length_toList];omega
 have hj:sIx items.size items.size hi<=items.size:=qmU _ _ (u8 _) hi;obtain ⟨os,hos,hcs,hds⟩:=id hs;have hTs:s.TypeIs (.ref sl) "slice" := ⟨os,hos,hcs⟩
 unfold getItem
 try with_reducible refine wpAny_holding ?_
 first|refine y6 (y8 ?_)|skip
 refine y6 (wpAny_sequenceKey ht.typeIs (by decide) ?_);refine y6 (wpAny_callSpecial?_slot (name:=Str.ofString "__getitem__") ht.typeIs PyProof.Rows.slot_tuple_getitem
  (wpAny_call_entry PyProof.Rows.slot_tuple_getitem ht.typeIs entry_tuple_getitem ?_ (args_tuple_getitem _ _)))
 show wpAny _ _ (Builtin.Tuple.tupleItemsOf (.ref t) >>= _) _ _ s;refine y6 (tupleItemsOf_ ht ?_);refine y6 (wpAny_typeOf hTs ?_);rw [if_pos (by decide)];refine y6 (RG hs pl pu ?_);have hno:¬ ((((sIx items.size 0 lo:Nat):Int)==0&&(1:Int)==1&&(sIx items.size items.size hi-sIx items.size 0 lo)==items.size)=true):=by
  intro q;rw [Bool.and_eq_true,Bool.and_eq_true] at q;have q1:((sIx items.size 0 lo:Nat):Int)=0:=eq_of_beq q.1.1;have q2:sIx items.size items.size hi-sIx items.size 0 lo=items.size:=eq_of_beq q.2;exact hw ⟨by omega,by omega⟩
 show wpAny _ _ (if (((sIx items.size 0 lo:Nat):Int)==0&&(1:Int)==1&&(sIx items.size items.size hi-sIx items.size 0 lo)==items.size)=true then _ else _) _ _ s;rw [if_neg hno,qfp]
 first
  |exact y6 (m:=Builtin.Tuple.tupleExact _) (wpAny_newObj_type (y8 ⟨_,rfl,y8 h⟩) htake)
  |exact y6 (m:=Builtin.Tuple.tupleExact _) (wpAny_newObj_type (y6 (y8 (y8 ⟨_,rfl,y8 h⟩))) htake)
  |exact y6 (y6 (m:=Builtin.Tuple.tupleExact _) (wpAny_newObj_type (y8 (y8 ⟨_,rfl,y8 h⟩)) htake))
  |exact y6 (y6 (m:=Builtin.Tuple.tupleExact _) (wpAny_newObj_type (y8 ⟨_,rfl,y8 h⟩) htake))
end
end HT
namespace L2
open PySem PySem.Spec PyProof.Rows
abbrev TO:=St->Hp->(Option Int->Hp->Prop)->Prop
def PO (X:Cx) (e:Option Expr) (t:TO):Prop:=
 ∀ (pins:List (Addr×Obj)) (s:Shared) (σ:St) (H:Hp) (Q:Option Int->Hp->Prop),Inv X pins σ H s->t σ H Q ->
  wpAny (model X.prog X.w) X.A (evalPart e X.env) (λu s'=>∃ o H',Inv X pins σ H' s'/\IsPart u o/\Q o H') X.xe s
def qj9:TO:=λ_ H Q=>Q none H
def qrD (t:TE):TO:=λσ H Q=>t σ H λx H1=>∃ i,x=.int i/\Q (some i) H1
section
variable {X:Cx} {e:Expr} {te:TE} {lo hi:Option Expr} {tl th:TO} {pos p2:Pos}
def qk4:PO X none qj9:=by
 intro pins s σ H Q I h;rw [evalPart_none];exact y8 ⟨none,H,I,.none,h⟩
def qld (h:PE X e te):PO X (some e) (qrD te):=by
 intro pins s σ H Q I hw;rw [evalPart_some];refine thn (h pins s σ H _ I hw) λu s1 ⟨x,H1,I1,r1,q1⟩=>?_;obtain ⟨i,rfl,q⟩:=q1;obtain ⟨t,rfl⟩:=r1;exact ⟨some i,H1,I1,.int i t,q⟩
def SlR (X:Cx) (r:V->Option Int->Option Int->Hp->VK->Prop):Prop:=
 ∀ (pins:List (Addr×Obj)) (s:Shared) (σ:St) (H:Hp) (x:V) (v vl vu:Value) (lo hi:Option Int) (sl:Addr) (Q:VK),Inv X pins σ H s->jQ x v->s.heap.IsSliceOf sl vl vu .none->IsPart vl lo->IsPart vu hi->r x lo hi H Q ->
  ∃ T id,typeLookup (.type T) "__getitem__" = pure (some (.builtin id))/\s.TypeIs v T/\wpAny (model X.prog X.w) X.A (getItem v (.ref sl)) (EP X pins σ Q) X.xe s
def SlR.or {r r':V->Option Int->Option Int->Hp->VK->Prop} (h:SlR X r) (h':SlR X r'):SlR X (λx lo hi H Q=>r x lo hi H Q\/r' x lo hi H Q):=by
 intro pins s σ H x v vl vu lo hi sl Q I rx hs pl pu q;rcases q with q|q
 ·exact h pins s σ H x v vl vu lo hi sl Q I rx hs pl pu q
 ·exact h' pins s σ H x v vl vu lo hi sl Q I rx hs pl pu q
def tSl (r:V->Option Int->Option Int->Hp->VK->Prop) (te:TE) (tl th:TO):TE:=λσ H Q=>te σ H λx H1=>tl σ H1 λl H2=>th σ H2 λu H3=>r x l u H3 Q
def qfs {r:V->Option Int->Option Int->Hp->VK->Prop} (hr:SlR X r) (he:PE X e te) (hl:PO X lo tl) (hu:PO X hi th):PE X (.Subscript e (.Slice lo hi none p2) pos) (tSl r te tl th):=by
 intro pins s σ H Q I h;refine Subscript_ (thn (he pins s σ H _ I h) λv s1 ⟨x,H1,I1,r1,q1⟩=>?_);refine wpAny_Slice (thn (hl pins s1 σ H1 _ I1 q1) λvl s2 ⟨l,H2,I2,pl,q2⟩=>thn (hu pins s2 σ H2 _ I2 q2) λvu s3 ⟨u,H3,I3,pu,q3⟩=>?_);rw [evalPart_none];refine y8 ?_;have I4:Inv X pins σ H3 { s3 with heap:=s3.heap.push { cls:=.type "slice",data:=.fields #[vl,vu,.none] } }:=I3.kept (t':=s3.toks) λb ob q=>v4 _ q;obtain ⟨T,id,hT,ht,hg⟩:=hr pins { s3 with heap:=s3.heap.push { cls:=.type "slice",data:=.fields #[vl,vu,.none] } } σ H3 x v vl vu l u s3.heap.objs.size Q I4 r1 (Heap.IsSliceOf.new ..) pl pu q3;show wpAny (model X.prog X.w) X.A (subscriptTail e (.Slice lo hi none p2) v (.ref s3.heap.objs.size)) (EP X pins σ Q) X.xe { s3 with heap:=s3.heap.push { cls:=.type "slice",data:=.fields #[vl,vu,.none] } };exact tail_any (ops:=[.ref s3.heap.objs.size,v]) ht hT hg (by with_unfolding_all rfl)
def qg4 (xs:List V) (lo hi:Option Int):List V:=(xs.drop (HT.sIx xs.length 0 lo)).take (HT.sIx xs.length xs.length hi-HT.sIx xs.length 0 lo)
def SS (xs:List V) (lo hi:Option Int):(qg4 xs lo hi).length<=xs.length:=by
 unfold qg4;rw [List.length_take,List.length_drop];omega
def qtr (K:Frg):V->Option Int->Option Int->Hp->VK->Prop:=λx lo hi H Q=>∃ a xs,x=.ref a/\SqT K H a xs /\
 ¬ (HT.sIx xs.length 0 lo=0/\HT.sIx xs.length xs.length hi=xs.length)/\∀ p,H p=none->Q (.ref p) (upd H p (.tup (qg4 xs lo hi)))
def qlo:SlR X (qtr X.K):=by
 intro pins s σ H x v vl vu lo hi sl Q I rx hs pl pu h;obtain ⟨a,xs,rfl,hx,hw,q⟩:=h;cases rx;obtain ⟨its,r,ht,hz⟩:=I.tuple hx;have hlen:its.toArray.size=xs.length:=by rw [size_toArray];exact r.length.symm
 refine ⟨"tuple",_,PyProof.Rows.slot_tuple_getitem.lookup,ht.typeIs,?_⟩;refine HT.XG ht hs pl pu (by rw [hlen];exact hw) ?_ (by rw [hlen];exact hz);rw [hlen];refine ⟨.ref s.heap.objs.size,_,I.laid (t':=s.toks) (o:=.tup (qg4 xs lo hi)) (λb ob q=>v4 _ q) (u8 _) ?_,rfl,q _ (I.hok.fresh (u8 _))⟩;exact ⟨za3 (SS xs lo hi) hz,_,(r.drop (HT.sIx xs.length 0 lo)).take (HT.sIx xs.length xs.length hi-HT.sIx xs.length 0 lo),C2.new _ _⟩
def qo2 (K:Frg):R2:=λx y H Q=>∃ a b xs ys,x=.ref a/\y=.ref b/\SqT K H a xs/\SqT K H b ys/\xs≠[]/\xs.length+ys.length<=sizeLine /\
 (ys=[]->Q (.ref a) H)/\(ys≠[]->∀ p,H p=none->Q (.ref p) (upd H p (.tup (xs++ys))))
def jh.nil_iff {xs:List V} {us:List Value} (r:jh xs us):us=[]↔xs=[]:=by
 cases r with
 |nil=>simp
 |cons _ _=>simp
def qjf:OpR X (binaryOp .Add) (qo2 X.K):=by
 intro pins s σ H x y v u Q I rx ry h;obtain ⟨a,b,xs,ys,rfl,rfl,ha,hb,hx,hz,q1,q2⟩:=h;cases rx;cases ry;obtain ⟨its,r1,p1,_⟩:=I.tuple ha;obtain ⟨its2,r2,p2,_⟩:=I.tuple hb;refine HT.qjF p1 p2 (λz=>hx (r1.nil_iff.mp z)) (λz=>⟨.ref a,H,I,rfl,q1 (r2.nil_iff.mp z)⟩) (λz=>?_) (by rw [← r1.length,← r2.length];exact hz);refine ⟨.ref s.heap.objs.size,_,I.laid (t':=s.toks) (o:=.tup (xs++ys)) (λb ob q=>v4 _ q) (u8 _) ?_,rfl,q2 (λw=>z (r2.nil_iff.mpr w)) _ (I.hok.fresh (u8 _))⟩;exact ⟨by rw [length_append];exact hz,_,r1.append r2,C2.new _ _⟩
end
def ixN (n:Nat) (i:Int):Option Nat:=if 0<=i then (if i<n then some i.toNat else none) else if -(n:Int)<=i then some (i+n).toNat else none
def atI {α:Type} (xs:List α) (i:Int):Option α:=(ixN xs.length i).bind λj=>xs[j]?
def qdL {n:Nat} {i:Int} {j:Nat} (h:ixN n i=some j):seqIndex? i n=some j/\j<n/\-(n:Int)<=i/\i<n:=by
 unfold ixN at h;by_cases h0:0<=i
 ·rw [if_pos h0] at h;by_cases h1:i<n
  ·rw [if_pos h1] at h;have e:i.toNat=j:=Option.some.inj h;exact ⟨by rw [seqIndex_of h0 h1,e],by omega,by omega,h1⟩
  ·rw [if_neg h1] at h;cases h
 ·rw [if_neg h0] at h;by_cases h1:-(n:Int)<=i
  ·rw [if_pos h1] at h;have e:(i+n).toNat=j:=Option.some.inj h;exact ⟨by rw [seqIndex_neg (by omega) h1,e],by omega,h1,by omega⟩
  ·rw [if_neg h1] at h;cases h
def MO {α:Type} {xs:List α} {i:Int} {v:α} (h:atI xs i=some v):∃ j,seqIndex? i xs.length=some j/\xs[j]?=some v/\j<xs.length/\-(xs.length:Int)<=i/\i<xs.length:=by
 unfold atI at h;cases e:ixN xs.length i with
 |none=>rw [e] at h;cases h
 |some j=>
  rw [e] at h;obtain ⟨h1,h2,h3,h4⟩:=qdL e;exact ⟨j,h1,h,h2,h3,h4⟩
def W8 (b:Expr):Prop:=∀ o i,subscripted b false o i=operate [o,i] (getItem o i)
def IxR (X:Cx) (r:R2):Prop:=
 ∀ (value slice:Expr) (pins:List (Addr×Obj)) (s:Shared) (σ:St) (H:Hp) (x y:V) (v u:Value) (Q:VK),Inv X pins σ H s->jQ x v->jQ y u->r x y H Q ->
  subscripted slice false v u=operate [v,u] (getItem v u)->wpAny (model X.prog X.w) X.A (subscriptTail value slice v u) (EP X pins σ Q) X.xe s
def MtR (X:Cx) (id:String) (r:V->List V->Hp->VK->Prop):Prop:=
 ∀ (pins:List (Addr×Obj)) (s:Shared) (σ:St) (H:Hp) (x:V) (xs:List V) (v:Value) (us:List Value) (Q:VK),Inv X pins σ H s->jQ x v->jh xs us->r x xs H Q ->
  wpAny (model X.prog X.w) X.A (call (.builtin id) (v::us)) (EP X pins σ Q) X.xe s
section
variable {X:Cx} {a b:Expr} {ta tb:TE} {pos:Pos}
def IxR.or {r r':R2} (h:IxR X r) (h':IxR X r'):IxR X (λx y H Q=>r x y H Q\/r' x y H Q):=by
 intro value slice pins s σ H x y v u Q I rx ry q hs;rcases q with q|q
 ·exact h value slice pins s σ H x y v u Q I rx ry q hs
 ·exact h' value slice pins s σ H x y v u Q I rx ry q hs
def qlI {r:R2} (hr:IxR X r) (ha:PE X a ta) (hb:PE X b tb) (hs:W8 b):PE X (.Subscript a b pos) (tOp r ta tb):=by
 intro pins s σ H Q I h;exact Subscript_ (qr7 ha hb I h λv u s2 x y H2 I2 rx ry q=>hr a b pins s2 σ H2 x y v u Q I2 rx ry q (hs _ _))
def qsR (K:Frg):R2:=λx y H Q=>∃ p xs i v,x=.ref p/\y=.int i/\SqL K H p xs/\atI xs i=some v/\Q v H
def qsO (K:Frg):R2:=λx y H Q=>∃ p xs i v,x=.ref p/\y=.int i/\SqT K H p xs/\atI xs i=some v/\Q v H
def qsY:R2:=λx y H Q=>∃ z i c,x=.str z/\y=.int i/\z.length<=sizeLine/\atI z.cps.toList i=some c/\Q (.str ⟨#[c]⟩) H
def qj2:IxR X (qsR X.K):=by
 intro value slice pins s σ H x y v u Q I rx ry h hs;obtain ⟨p,xs,i,z,rfl,rfl,hq,he,q⟩:=h;cases rx;obtain ⟨t,rfl⟩:=ry;obtain ⟨its,r,pl,hz⟩:=I.list hq;obtain ⟨j,h1,h2,h3,h4,h5⟩:=MO he;obtain ⟨w,ew,rw'⟩:=r.get h2;have hl:=r.length;have hn:=K6;have fin:EP X pins σ Q w s:=⟨z,H,I,rw',q⟩
 by_cases h0:0<=i
 ·have hj:i.toNat=j:=by
   rw [seqIndex_of h0 h5] at h1;exact Option.some.inj h1
  exact item_listR pl.isList h0 (by omega) (by rw [hj];simpa using ew) fin hs
 ·have hj:(i+(its.toArray.size:Int)).toNat=j:=by
   rw [seqIndex_neg (by omega) h4] at h1;rw [size_toArray,← hl];exact Option.some.inj h1
  exact subscriptTail_builtinR (x:=w) pl.isList.typeIs slot_list_getitem.lookup
   (wpAny_getItem_list_neg (Q:=λr s'=>r=w/\EP X pins σ Q r s') pl.isList (by omega) (by rw [size_toArray]<;>omega) (by omega) (by rw [hj];simpa using ew) ⟨rfl,fin⟩) hs
def qmb:IxR X (qsO X.K):=by
 intro value slice pins s σ H x y v u Q I rx ry h hs;obtain ⟨p,xs,i,z,rfl,rfl,hq,he,q⟩:=h;cases rx;obtain ⟨t,rfl⟩:=ry;obtain ⟨its,r,pl,hz⟩:=I.tuple hq;obtain ⟨j,h1,h2,h3,h4,h5⟩:=MO he;obtain ⟨w,ew,rw'⟩:=r.get h2;have hl:=r.length;have hn:=K6;have fin:EP X pins σ Q w s:=⟨z,H,I,rw',q⟩
 exact subscriptTail_builtinR (x:=w) pl.typeIs slot_tuple_getitem.lookup
  (getItem_tuple (j:=j) (Q:=λr s'=>r=w/\EP X pins σ Q r s') pl (by omega) (by omega) (by rw [size_toArray,← hl];exact h1) (by simpa using ew) ⟨rfl,fin⟩) hs
def qoQ:IxR X qsY:=by
 intro value slice pins s σ H x y v u Q I rx ry h hs;obtain ⟨z,i,c,rfl,rfl,hz,he,q⟩:=h;obtain ⟨t,rfl⟩:=rx;obtain ⟨t',rfl⟩:=ry;obtain ⟨j,h1,h2,h3,h4,h5⟩:=MO he;have hl:z.cps.toList.length=z.length:=by simp [Str.length]
 rw [hl] at h1 h4 h5;have hn:=K6;exact tail_any (typeIs_str s z t) slot_str_getitem.lookup (getItem_str (c:=c) (by
  have e1:decide (i < -(2 ^ 63:Int))=false:=za8 (by omega);have e2:decide (i ≥ 2 ^ 63)=false:=za8 (by omega);rw [e1,e2,Bool.or_false]) (by rw [h1];simpa using h2) ⟨.str ⟨#[c]⟩,H,I.tok _,⟨_,rfl⟩,q⟩) hs
def rIx (K:Frg):R2:=λx y H Q=>qsR K x y H Q\/qsO K x y H Q\/qsY x y H Q
def qlN:IxR X (rIx X.K):=qj2.or (qmb.or qoQ)
def qcp (its:List Value) (n j:Nat) (u:Value):Obj.mapSeq (·.setIfInBounds j u) { cls:=.type "list",data:=.seq its.toArray n }={ cls:=.type "list",data:=.seq (its.set j u).toArray n }:=by
 simp [Obj.mapSeq]
theorem Inv.lst {pins:List (Addr×Obj)} {σ:St} {H:Hp} {s:Shared} {p:Addr} {xs:List V} (I:Inv X pins σ H s) (h:H p=some (.lst xs)) :
  ∃ (its:List Value) (n:Nat),jh xs its/\s.heap.get? p=some { cls:=.type "list",data:=.seq its.toArray n }/\xs.length<=sizeLine:=by
 obtain ⟨z,its,n,r,e⟩:=I.hok p _ h;exact ⟨its,n,r,e,z⟩
def Inv.lstUpd {pins:List (Addr×Obj)} {σ:St} {H:Hp} {s:Shared} {p:Addr} {xs ys:List V} {its its':List Value} {n n':Nat} {f:Obj->Obj} (I:Inv X pins σ H s) (h:H p=some (.lst xs))
  (ho:s.heap.get? p=some { cls:=.type "list",data:=.seq its.toArray n }) (hf:f { cls:=.type "list",data:=.seq its.toArray n }={ cls:=.type "list",data:=.seq its'.toArray n' }) (r:jh ys its') (hz:ys.length<=sizeLine) (t:Nat) :
  Inv X pins σ (upd H p (.lst ys)) { s with heap:=s.heap.update p f,toks:=t }:=by
 have e:(s.heap.update p f).get? p=some { cls:=.type "list",data:=.seq its'.toArray n' }:=by
  rw [Heap.get?_update_self f ho (by rw [hf]<;>rfl),hf]
 refine I.write (x:=p) (e:=p) (by rw [h];trivial) (.inl rfl) (λb u hb q=>(Heap.get?_update_other _ _ (Ne.symm hb)).trans q) ⟨_,e⟩ ?_;exact ⟨hz,its',n',r,e⟩
def qrR:V->V->V->Hp->(Hp->Prop)->Prop:=λo i v H Q=>∃ p xs k j,o=.ref p/\i=.int k/\H p=some (.lst xs)/\ixN xs.length k=some j/\Q (upd H p (.lst (xs.set j v)))
def qbO:qsl X qrR:=by
 intro pins s σ H o i v ov iv u Q I ro ri rv h;obtain ⟨p,xs,k,j,rfl,rfl,hp,hj,q⟩:=h;cases ro;obtain ⟨t,rfl⟩:=ri;obtain ⟨its,n,r,ho,hz⟩:=I.lst hp;obtain ⟨h1,h2,h3,h4⟩:=qdL hj;have hl:=r.length;have hn:=K6;have I':Inv X pins σ (upd H p (.lst (xs.set j v))) { s with heap:=s.heap.update p (Obj.mapSeq (·.setIfInBounds j u)) }:=
  I.lstUpd hp ho (qcp its n j u) (r.set rv j) (by rw [List.length_set];exact hz) s.toks
 by_cases h0:0<=k
 ·have hk:k.toNat=j:=by
   rw [seqIndex_of h0 h4] at h1;exact Option.some.inj h1
  exact PySem.W.ki_setAt ho h0 (by omega) (by rw [size_toArray,← hl];exact h4) (by rw [hk];exact ⟨_,I',q⟩)
 ·have hk:(k+(its.toArray.size:Int)).toNat=j:=by
   rw [seqIndex_neg (by omega) h3] at h1;rw [size_toArray,← hl];exact Option.some.inj h1
  exact PySem.W.ki_setBack ho (by omega) (by rw [size_toArray,← hl];exact h3) (by omega) (by rw [hk];exact ⟨_,I',q⟩)
def NQ (lo hi:Option Int) (n:Nat):(sliceBounds lo hi none n).1=((HT.sIx n 0 lo:Nat):Int)/\(sliceBounds lo hi none n).2.1=((HT.sIx n n hi:Nat):Int)/\(sliceBounds lo hi none n).2.2=1:=by
 refine ⟨?_,?_,rfl⟩
 ·cases lo with
  |none=>simp [sliceBounds,HT.sIx]
  |some i=>
   simp only [sliceBounds,HT.sIx,Option.getD_none,show (1:Int) > 0 by decide,if_true];by_cases h:i<0
   ·simp only [h,if_true]<;>omega
   ·simp only [h,if_false]<;>omega
 ·cases hi with
  |none=>simp [sliceBounds,HT.sIx]
  |some i=>
   simp only [sliceBounds,HT.sIx,Option.getD_none,show (1:Int) > 0 by decide,if_true];by_cases h:i<0
   ·simp only [h,if_true]<;>omega
   ·simp only [h,if_false]<;>omega
def LW (its:List Value) (lo hi:Option Int):slicePick its.toArray lo hi none=((its.drop (HT.sIx its.length 0 lo)).take (HT.sIx its.length its.length hi-HT.sIx its.length 0 lo)).toArray:=by
 obtain ⟨h1,h2,h3⟩:=NQ lo hi its.toArray.size;unfold slicePick;rw [h1,h2,h3];simp only [sliceRange_one,pick_run,size_toArray]<;>rfl
def qtk (K:Frg):V->Option Int->Option Int->Hp->VK->Prop:=λx lo hi H Q=>∃ a xs,x=.ref a/\SqL K H a xs/\∀ p,H p=none->Q (.ref p) (upd H p (.lst (qg4 xs lo hi)))
def qkw:SlR X (qtk X.K):=by
 intro pins s σ H x v vl vu lo hi sl Q I rx hs pl pu h;obtain ⟨a,xs,rfl,hx,q⟩:=h;cases rx;obtain ⟨its,r,ht,hz⟩:=I.list hx;have hlen:=r.length;refine ⟨"list",_,slot_list_getitem.lookup,ht.isList.typeIs,?_⟩;refine wpAny_getItem_list_slice ht.isList hs pl pu .none (by simp) ?_ (by rw [size_toArray]<;>omega);rw [LW,← hlen];refine ⟨.ref s.heap.objs.size,_,I.laid (t':=s.toks) (o:=.lst (qg4 xs lo hi)) (λb ob q=>v4 _ q) (u8 _) ?_,rfl,q _ (I.hok.fresh (u8 _))⟩;exact ⟨za3 (SS xs lo hi) hz,_,0,(r.drop (HT.sIx xs.length 0 lo)).take (HT.sIx xs.length xs.length hi-HT.sIx xs.length 0 lo),v5 _ rfl⟩
def T7:V->Bool
 |.non=>true
 |.bl _=>true
 |.int _=>true
 |.str _=>true
 |_=>false
def eqV:V->V->Bool
 |.non,.non=>true
 |.bl a,.bl b=>a==b
 |.bl a,.int b=>(if a then 1 else 0)==b
 |.int a,.bl b=>a==(if b then 1 else 0)
 |.int a,.int b=>a==b
 |.str a,.str b=>a==b
 |_,_=>false
def qmP {A:Around} {s:Shared} {y x:V} {u v:Value} (ry:jQ y u) (rx:jQ x v) (fy:T7 y=true) (fx:T7 x=true):SeqAt.EqAt A s u v (eqV y x):=by
 cases y with
 |non=>
  cases ry;cases x with
  |non=>cases rx;exact SeqAt.EqAt.same _
  |bl b=>cases rx;exact SeqAt.EqAt.none_bool b
  |int b=>obtain ⟨t,rfl⟩:=rx;exact SeqAt.EqAt.none_int b t
  |str b=>obtain ⟨t,rfl⟩:=rx;exact SeqAt.EqAt.none_str b t
  |_=>exact absurd (show false=true from fx) v7
 |bl a=>
  cases ry;cases x with
  |non=>cases rx;exact SeqAt.EqAt.bool_none a
  |bl b=>cases rx;exact SeqAt.EqAt.bool_bool a b
  |int b=>obtain ⟨t,rfl⟩:=rx;exact SeqAt.EqAt.bool_int a b t
  |str b=>obtain ⟨t,rfl⟩:=rx;exact SeqAt.EqAt.bool_str a b t
  |_=>exact absurd (show false=true from fx) v7
 |int a=>
  obtain ⟨t',rfl⟩:=ry;cases x with
  |non=>cases rx;exact SeqAt.EqAt.int_none a t'
  |bl b=>cases rx;exact SeqAt.EqAt.int_bool a t' b
  |int b=>obtain ⟨t,rfl⟩:=rx;exact SeqAt.EqAt.int_int a t' b t
  |str b=>obtain ⟨t,rfl⟩:=rx;exact SeqAt.EqAt.int_str a t' b t
  |_=>exact absurd (show false=true from fx) v7
 |str a=>
  obtain ⟨t',rfl⟩:=ry;cases x with
  |non=>cases rx;exact SeqAt.EqAt.str_none a t'
  |bl b=>cases rx;exact SeqAt.EqAt.str_bool a t' b
  |int b=>obtain ⟨t,rfl⟩:=rx;exact SeqAt.EqAt.str_int a t' b t
  |str b=>obtain ⟨t,rfl⟩:=rx;exact SeqAt.EqAt.str_str a t' b t
  |_=>exact absurd (show false=true from fx) v7
 |_=>exact absurd (show false=true from fy) v7
def eqU (x:V) (u:Value):Bool:=match u with
 |.none=>eqV .non x
 |.bool b=>eqV (.bl b) x
 |.int i _=>eqV (.int i) x
 |.str z _=>eqV (.str z) x
 |_=>false
def qij {x y:V} {u:Value} (r:jQ y u) (f:T7 y=true):eqU x u=eqV y x:=by
 cases y with
 |non=>cases r;rfl
 |bl b=>cases r;rfl
 |int i=>obtain ⟨t,rfl⟩:=r;rfl
 |str z=>obtain ⟨t,rfl⟩:=r;rfl
 |_=>exact absurd (show false=true from f) v7
theorem qaF {x:V}:∀ {xs:List V} {us:List Value},jh xs us->xs.all T7=true->us.any (eqU x)=xs.any λy=>eqV y x
 |_,_,.nil,_=>rfl
 |y::xs,u::us,.cons r t,f=>by
  rw [List.all_cons,Bool.and_eq_true] at f;rw [List.any_cons,List.any_cons,qij r f.1,qaF t f.2]
theorem MS {A:Around} {s:Shared} {x:V} {v:Value} (rx:jQ x v) (fx:T7 x=true):∀ {xs:List V} {us:List Value},jh xs us->xs.all T7=true->∀ u∈us,SeqAt.EqAt A s u v (eqU x u)
 |_,_,.nil,_=>λu hu=>by cases hu
 |y::xs,u::us,.cons r t,f=>λu' hu=>by
  rw [List.all_cons,Bool.and_eq_true] at f;rcases mem_cons.mp hu with rfl|hu
  ·rw [qij r f.1];exact qmP r rx f.1 fx
  ·exact MS rx fx t f.2 u' hu
def inV (x:V) (xs:List V):Bool:=xs.any λy=>eqV y x
def rIn (K:Frg) (neg:Bool):R2:=λx y H Q=>∃ p xs,y=.ref p/\(SqL K H p xs\/SqT K H p xs)/\T7 x=true/\xs.all T7=true/\Q (.bl (if neg then !inV x xs else inV x xs)) H
def qeC:OpR X (compareOp .In) (rIn X.K false):=by
 intro pins s σ H x y v u Q I rx ry h;obtain ⟨p,xs,rfl,hq,fx,fs,q⟩:=h;cases ry;rcases hq with hq|hq
 ·obtain ⟨its,r,pl,hz⟩:=I.list hq;refine SeqAt.in_listAt (eqU x) pl.isList (λw hw=>MS rx fx r fs w (by simpa using hw)) ⟨.bl _,H,I,rfl,?_⟩;rw [show its.toArray.any (eqU x)=its.any (eqU x) by simp,qaF r fs];exact q
 ·obtain ⟨its,r,pl,hz⟩:=I.tuple hq;refine SeqAt.in_tupleAt (eqU x) pl (λw hw=>MS rx fx r fs w (by simpa using hw)) ⟨.bl _,H,I,rfl,?_⟩;rw [show its.toArray.any (eqU x)=its.any (eqU x) by simp,qaF r fs];exact q
def C0:JZ X (.type "list") (λxs H Q=>∃ p ys,xs=[.ref p]/\(SqL X.K H p ys\/SqT X.K H p ys)/\∀ l,H l=none->Q (.ref l) (upd H l (.lst ys))):=by
 intro pins s σ H xs us Q I r h;obtain ⟨p,ys,rfl,hq,q⟩:=h;obtain ⟨u,rfl,rx⟩:=XY r;cases rx;have fin:∀ (its:List Value),jh ys its->ys.length<=sizeLine->∀ (h':Heap) (c':Nat),(∀ b o',s.heap.get? b=some o'->h'.get? b=some o') ->
   h'.get? s.heap.objs.size=some { cls:=.type "list",dict:=none,data:=.seq its.toArray c',slots:=#[] }->EP X pins σ Q (.ref s.heap.objs.size) { s with heap:=h' }:=λits r' hz h' c' kp e=>
  ⟨.ref s.heap.objs.size,_,I.laid (t':=s.toks) kp (u8 _) (show UC X.prog X.w _ h' _ (.lst ys) from ⟨hz,its,c',r',e⟩),rfl,q _ (I.hok.fresh (u8 _))⟩
 rcases hq with hq|hq
 ·obtain ⟨its,r',pl,hz⟩:=I.list hq;have hlen:=r'.length;obtain ⟨o,ho,hc,n,hd⟩:=pl.isList;exact call_list_seq p (.inl rfl) ho hc hd (λh' c' kp e=>fin its r' hz h' c' kp e) (by simp only [size_toArray]<;>omega)
 ·obtain ⟨its,r',pl,hz⟩:=I.tuple hq;have hlen:=r'.length;obtain ⟨o,ho,hc,n,hd⟩:=pl;exact call_list_seq p (.inr rfl) ho hc hd (λh' c' kp e=>fin its r' hz h' c' kp e) (by simp only [size_toArray]<;>omega)
def za:JZ X (.type "tuple") (λxs H Q=>∃ p ys,xs=[.ref p]/\((SqL X.K H p ys/\∀ l,H l=none->Q (.ref l) (upd H l (.tup ys)))\/(SqT X.K H p ys/\Q (.ref p) H))):=by
 intro pins s σ H xs us Q I r h;obtain ⟨p,ys,rfl,h⟩:=h;obtain ⟨u,rfl,rx⟩:=XY r;cases rx;rcases h with ⟨hq,q⟩|⟨hq,q⟩
 ·obtain ⟨its,r',pl,hz⟩:=I.list hq;have hlen:=r'.length;refine call_tuple_list pl.isList (λh' kp=>?_) (by simp only [size_toArray]<;>omega);have I1:Inv X pins σ H { s with heap:=h' }:=I.kept (t':=s.toks) kp;have I2:Inv X pins σ (upd H h'.objs.size (.tup ys)) { s with heap:=h'.push { cls:=.type "tuple",data:=.seq its.toArray } }:=
   I1.laid (t':=s.toks) (λb o e=>v4 _ e) (u8 _) (show UC X.prog X.w _ _ _ (.tup ys) from ⟨hz,its,r',C2.new _ _⟩)
  exact ⟨.ref h'.objs.size,_,I2,rfl,q _ (I1.hok.fresh (u8 _))⟩
 ·obtain ⟨its,r',pl,hz⟩:=I.tuple hq;exact call_tuple_same pl ⟨.ref p,H,I,rfl,q⟩
def tyV (K:Frg) (T:String) (x:V) (H:Hp):Prop:=match x with
 |.str _=>T="str"
 |.int _=>T="int"
 |.ref p=>(T="list"/\∃ xs,SqL K H p xs)\/(T="tuple"/\∃ o,K.lookup p=some o/\o.cls=.type "tuple"/\o.dict=none) ∨
   (T="dict"/\((∃ kvs,H p=some (.dK kvs))\/∃ kvs,H p=some (.dT kvs)))\/(T="set"/\∃ S n,H p=some (.set S n))
 |_=>False
def qpM {pins:List (Addr×Obj)} {σ:St} {H:Hp} {s:Shared} {T:String} {x:V} {v:Value} (I:Inv X pins σ H s) (r:jQ x v) (ty:tyV X.K T x H) :
  s.TypeIs v T/\∀ a,v=.ref a->∃ ob,s.heap.get? a=some ob/\ob.dict=none:=by
 cases x with
 |str z=>
  obtain ⟨t,rfl⟩:=r;cases (show T="str" from ty);exact ⟨typeIs_str s z t,λ_ e=>nomatch e⟩
 |int i=>
  obtain ⟨t,rfl⟩:=r;cases (show T="int" from ty);exact ⟨typeIs_int s i t,λ_ e=>nomatch e⟩
 |ref p=>
  cases r;rcases ty with ⟨rfl,xs,hq⟩|⟨rfl,o,hk,hc,hd⟩|⟨rfl,hk⟩|⟨rfl,S,n,hk⟩
  ·obtain ⟨its,_,pl,_⟩:=I.list hq;refine ⟨pl.isList.typeIs,λa e=>?_⟩;cases e;obtain ⟨o,n,e,c,hd,_⟩:=pl;exact ⟨o,e,hd⟩
  ·refine ⟨⟨o,I.kIn p o hk,hc⟩,λa e=>?_⟩;cases e;exact ⟨o,I.kIn _ o hk,hd⟩
  ·have z:∃ o,s.heap.get? p=some o/\o.ExactDict:=by
    rcases hk with ⟨kvs,hk⟩|⟨kvs,hk⟩
    ·obtain ⟨_,_,_,_,o,_,_,e,ex,_⟩:=I.hok p _ hk;exact ⟨o,e,ex⟩
    ·obtain ⟨_,_,_,_,o,_,_,e,ex,_⟩:=I.hok p _ hk;exact ⟨o,e,ex⟩
   obtain ⟨o,e,ex⟩:=z;refine ⟨⟨o,e,ex.1⟩,λa e2=>?_⟩;cases e2;exact ⟨o,e,ex.2.1⟩
  ·obtain ⟨o,_,_,_,e,ex,_⟩:=I.hok p _ hk;refine ⟨⟨o,e,ex.1⟩,λa e2=>?_⟩;cases e2;exact ⟨o,e,ex.2.1⟩
 |_=>exact False.elim ty
def tBM (K:Frg) (T:String) (r:V->List V->Hp->VK->Prop) (to:TE) (t:TA):TE:=λσ H Q=>to σ H λx H1=>tyV K T x H1/\t σ H1 λxs H2=>r x xs H2 Q
variable {o e:Expr} {es:List Expr} {to:TE} {t:TA} {name:Str} {apos cpos:Pos} {T id:String} {r:V->List V->Hp->VK->Prop}
def qrb (pa:PlainAttrs T) (slot:Slot T name id) (hty:typeOf (.builtin id)=pure (.type "method_descriptor")) (hm:MtR X id r) (ho:PE X o to) (ha:PA X (e::es) t)
  (hbase:attributeBase o name X.env (eval o X.env)=eval o X.env:=by rfl)
  (hfew:((backTo cpos (starEach (e::es) X.env)).all (λx=>!x.1)&&(backToKw cpos (keywordEach [] X.env)).all (λx=>x.1.isSome)
   && decide ((e::es).length+([]:List Keyword).length+(if ([]:List Keyword).isEmpty then 0 else 1)<30))=true:=by rfl)
  (hline:(apos.endLine==cpos.line)=true:=by rfl) (hs:starEach (e::es) X.env=(false,eval e X.env)::starEach es X.env:=by rfl) (hplain:(backTo cpos (starEach es X.env)).any (·.1)=false:=by rfl) :
  PE X (.Call (.Attribute o name apos) (e::es) [] cpos) (tBM X.K T r to t):=by
 intro pins s σ H Q I h;refine wpAny_Call_method_late hbase hfew hline rfl (thn (ho pins s σ H _ I h) λv s1 ⟨x,H1,I1,r1,ty,q1⟩=>?_);obtain ⟨h1,h2⟩:=qpM I1 r1 ty;refine ⟨T,id,pa,slot,hty,h1,h2,?_⟩;have hA:=ha cpos pins s1 σ H1 _ I1 q1;rw [hs] at hA ⊢;refine Calls.callWith_builtin (by show (false||(backTo cpos (starEach es X.env)).any (·.1))=false;rw [hplain]<;>rfl) (Calls.evalArgs_plain ?_);exact thn hA λus s2 ⟨vs,H2,I2,r2,q2⟩=>hm pins s2 σ H2 x vs v us Q I2 r1 r2 q2
end
def MtM (X:Cx) (id:String) (r:V->List V->Hp->VK->Prop):Prop:=
 ∀ (pins:List (Addr×Obj)) (s:Shared) (σ:St) (H:Hp) (x:V) (xs:List V) (v:Value) (us:List Value) (Q:VK),Inv X pins σ H s->jQ x v->jh xs us->r x xs H Q ->
  wpAny (model X.prog X.w) X.A (call (.builtin id) (v::us)) (EP X pins σ Q) X.xe s
def jh.one:∀ {x:V} {us:List Value},jh [x] us->∃ u,us=[u]/\jQ x u
 |_,_,.cons r .nil=>⟨_,rfl,r⟩
theorem jh.eraseIdx:∀ {xs:List V} {us:List Value} (i:Nat),jh xs us->jh (xs.eraseIdx i) (us.eraseIdx i)
 |_,_,_,.nil=>.nil
 |_,_,0,.cons _ t=>t
 |_,_,i+1,.cons r t=>.cons r (jh.eraseIdx i t)
theorem jh.reverse {xs:List V} {us:List Value} (h:jh xs us):jh xs.reverse us.reverse:=by
 induction h with
 |nil=>exact .nil
 |cons r t ih=>rw [List.reverse_cons,List.reverse_cons];exact jh.append ih (.cons r .nil)
section
variable {X:Cx} {pins:List (Addr×Obj)} {σ:St} {H:Hp} {s:Shared} {l b:Addr} {xs ys zs:List V}
def Inv.lset {its its':List Value} {n:Nat} {f:Array Value->Array Value} {t':Nat} (I:Inv X pins σ H s) (hH:H l=some (.lst xs))
  (e:s.heap.get? l=some { cls:=.type "list",data:=.seq its.toArray n }) (hf:f its.toArray=its'.toArray) (hv:jh ys its') (hz:ys.length<=sizeLine) :
  Inv X pins σ (upd H l (.lst ys)) { s with heap:=s.heap.update l (Obj.mapSeq f),toks:=t' }:=by
 have q:=PySem.IsL.update e f;rw [hf] at q;refine I.write (x:=l) (e:=l) (by rw [hH];exact trivial) (.inl rfl) (λb' u hb hu=>(Heap.get?_update_other s.heap (Obj.mapSeq f) (Ne.symm hb)).trans hu) ⟨_,q⟩ ?_;exact ⟨hz,its',_,hv,q⟩
def Inv.lnew {its:List Value} {t':Nat} (I:Inv X pins σ H s) (hv:jh ys its) (hz:ys.length<=sizeLine) :
  Inv X pins σ (upd H s.heap.objs.size (.lst ys)) { s with heap:=s.heap.push { cls:=.type "list",data:=.seq its.toArray },toks:=t' }:=
 I.laid (λ_ _ q=>v4 _ q) (u8 _) ⟨hz,its,0,hv,v5 _ rfl⟩
theorem Inv.fresh (I:Inv X pins σ H s):H s.heap.objs.size=none:=I.hok.fresh (u8 _)
def Inv.lstM (I:Inv X pins σ H s) (hH:H l=some (.lst xs)):xs.length<=sizeLine/\∃ (its:List Value) (n:Nat),jh xs its/\xs.length=its.length/\s.heap.get? l=some { cls:=.type "list",data:=.seq its.toArray n }:=by
 obtain ⟨z,its,n,r,e⟩:=I.hok l _ hH;exact ⟨z,its,n,r,r.length,e⟩
def qf4 {n:Nat} (h:n<=sizeLine):Builtin.List.listTooLong n=false:=by
 unfold Builtin.List.listTooLong;exact za8 (by omega)
end
section
variable {X:Cx}
def qde:V->List V->Hp->VK->Prop:=λx vs H Q=>∃ l xs y,x=.ref l/\vs=[y]/\H l=some (.lst xs)/\xs.length<sizeLine/\Q .non (upd H l (.lst (xs++[y])))
def WU:MtM X "list.append" qde:=by
 intro pins s σ H x vs v us Q I rx rv h;obtain ⟨l,xs,y,rfl,rfl,hH,hz,q⟩:=h;cases rx;obtain ⟨u,rfl,ru⟩:=rv.one;obtain ⟨z,its,n,r,hl,e⟩:=I.lstM hH;refine call_meets F.slot_list_append ⟨_,e,rfl⟩ F.entry_list_append (F.args_list_append_2 _ _) (PySem.list_append l its.toArray n u (by rw [size_toArray];omega)) ⟨e,?_⟩;refine ⟨.non,_,I.lset (its':=its++[u]) hH e (by simp) (r.append (.cons ru .nil)) ?_,rfl,q⟩;rw [length_append,List.length_singleton];omega
def qdZ:V->List V->Hp->VK->Prop:=λx vs H Q=>∃ l b xs zs,x=.ref l/\vs=[.ref b]/\H l=some (.lst xs)/\H b=some (.lst zs)/\xs.length+zs.length<=sizeLine/\Q .non (upd H l (.lst (xs++zs)))
def qeo:MtM X "list.extend" qdZ:=by
 intro pins s σ H x vs v us Q I rx rv h;obtain ⟨l,b,xs,zs,rfl,rfl,hH,hB,hz,q⟩:=h;cases rx;obtain ⟨u,rfl,ru⟩:=rv.one;cases ru;obtain ⟨z,its,n,r,hl,e⟩:=I.lstM hH;obtain ⟨z2,its2,n2,r2,hl2,e2⟩:=I.lstM hB;have hsz:its.toArray.size+its2.toArray.size<=sizeLine:=by rw [size_toArray,size_toArray];omega
 have hlong:¬ (!its.toArray.isEmpty&&Builtin.List.listTooLong (its.toArray.size+its2.toArray.size))=true:=by
  rw [qf4 hsz,Bool.and_false];exact v7
 refine call_meets F.slot_list_extend ⟨_,e,rfl⟩ F.entry_list_extend (F.args_list_extend_2 _ _)
  (AutoSeq1.list_extend_list_list_0 l its.toArray n b its2.toArray n2 hlong (by rw [size_toArray];omega) (by omega)) ⟨e,e2,?_⟩
 refine ⟨.non,_,I.lset (its':=its++its2) hH e (by simp) (r.append r2) ?_,rfl,q⟩;rw [length_append];omega
def qsU:R2:=λx y H Q=>∃ l b xs zs,x=.ref l/\y=.ref b/\H l=some (.lst xs)/\H b=some (.lst zs)/\xs.length+zs.length<=sizeLine/\∀ p,H p=none->Q (.ref p) (upd H p (.lst (xs++zs)))
def qma:OpR X (binaryOp .Add) qsU:=by
 intro pins s σ H x y v u Q I rx ry h;obtain ⟨l,b,xs,zs,rfl,rfl,hH,hB,hz,q⟩:=h;cases rx;cases ry;obtain ⟨z,its,n,r,hl,e⟩:=I.lstM hH;obtain ⟨z2,its2,n2,r2,hl2,e2⟩:=I.lstM hB;refine PySem.P.add_list e e2 ?_ (by rw [size_toArray,size_toArray];omega);have ea:its.toArray++its2.toArray=(its++its2).toArray:=by simp
 rw [ea];exact ⟨.ref _,_,I.lnew (t':=s.toks) (r.append r2) (by rw [length_append];omega),rfl,q _ I.fresh⟩
end
section
variable {prog:Program} {w:World} {A:Around} {E:Value->Shared->Prop} {s:Shared}
end
section
variable {X:Cx}
end
end L2
namespace Att
open PySem PySem.W PySem.Calls PyProof.Rows
def SQ {P:Params} {h:Heap}:∀ (ns:List Int) (vs:List Value),WellAll P h vs (ns.map WData.int)->IntsAre vs ns:=by
 intro ns;induction ns with
 |nil=>
  intro vs w;rw [List.map_nil] at w;cases w;exact .nil
 |cons n ns ih=>
  intro vs w;rw [map_cons] at w;cases w with
  |cons a b=>
   cases a;exact .cons _ _ (ih _ b)
def qdb {l:OpenLaw} {n:Nat} (hn:l.most=some n) {P:Params} {h:Heap} {args:List WData} {vals:List Value}
  (hpre:l.row.toRowW.claim.pre args=true) (hwl:WellAll P h vals args) :
  ∃ a vs ns,vals=[Value.ref a]/\args=[WData.list (ns.map WData.int)]/\h.get? a=some { cls:=.type "list",data:=.seq vs.toArray }/\IntsAre vs ns/\ns.length<=n:=by
 have hsh:WShape.hasAll [] args [.list .int]=true:=(pre_splitW hpre).1;have hc:l.pre.holds [] { args:=args }=true:=(pre_splitW hpre).2;obtain ⟨d,r,rfl,h1,h2⟩:=hasAllW_cons hsh;obtain rfl:=hasAllW_nil h2;obtain ⟨xs,rfl,h3⟩:=hasW_list h1;obtain ⟨ns,rfl⟩:=items_int h3;have hlen:ns.length<=n:=by
  unfold OpenLaw.pre at hc;have h4:(WTm.not (.lt (.lit (.int (n:Int))) (.len (.arg 0)))).holds [] { args:=[.list (ns.map .int)] }=true:=by
   have h4:=(holds_andW hc).1;rw [hn] at h4;exact h4
  have h5:=condW_of h4 (w_not (w_lt w_lit (w_len_list (w_arg rfl))));rw [length_map] at h5;refine Nat.le_of_not_lt λq=>?_;have q':(n:Int)<((ns.length:Nat):Int):=by omega
  first
   | (rw [decide_eq_true q'] at h5;exact absurd h5 (by decide))
   | (simp at h5;omega)
 cases hwl with
 |cons w1 w2=>
  cases w2;cases w1 with
  |list ho hall=>exact ⟨_,_,ns,rfl,rfl,ho,SQ ns _ hall,hlen⟩
def qdt (l:OpenLaw) (args:List WData):l.row.toRowW.claim.post args (.bool true) args=true:=
 postW_of (r:=l.row.toRowW) (X:=(true==true))
  (show WShape.has [] (.bool true) .bool=true by first|rfl|decide|simp [WShape.has,WShape.arms,WShape.armsAll])
  (show (WTm.eq .res (.lit (.bool true))).value [] { args:=args,res:=some (.bool true),after:=args }=some (.bool (true==true)) from w_eq_bool (w_res rfl) w_lit) rfl
def qbh {l:OpenLaw} {n:Nat} {q:Program} {loose:List Str} {XP:(Str->Option Value)->Heap->Prop} {YP:World->Heap->Prop} {d:DefRec}
  (hn:l.most=some n) (hdf:d.params.defaults=[])
  (call:∀ (w:World) (s₀ s₁:Shared) (mg mb:Str->Option Value) (fa:Addr) (o:Obj) (pm cd doc:Value) (a:Addr) (vs:List Value) (ns:List Int),
   Ground q loose [] XP w s₀ mg mb s₁.heap->YP w s₁.heap ->
   s₁.heap.get? fa=some o->o.data=.func (docDef d.name d.params d.body d.scope pm cd doc)->s₁.heap.CodeRec cd d.name->mg d.name=some (.ref fa) ->
   s₁.heap.get? a=some { cls:=.type "list",data:=.seq vs.toArray }->IntsAre vs ns->ns.length<=n->s₁.gens=#[] ->
   codeAny (model l.prog w) callerA (.call (.ref fa) ⟨[.ref a],[]⟩) (λr s'=>r=.ok (.ret (.bool true))/\OldK s₁.heap s'.heap/\s'.os=s₁.os/\AllBare s'.gens) s₁) :
  WalkO q loose XP YP l.row.toRowW d [] (λf vs=>PySem.call f vs):=by
 intro w s₀ s₁ mg mb G Y fa o pm cd doc dV kV ho hd hcd hD hmg hg args vals as hpre hlay hrd hwl hlo;obtain rfl:dV=.none:=Dflts.none hD hdf;obtain rfl:kV=.none:=Dflts.noKw hD;obtain ⟨a,vs,ns,rfl,rfl,hobj,hints,hlen⟩:=qdb hn hpre hwl;refine enter_call (codeAny_mono (call w s₀ s₁ mg mb fa o pm cd doc a vs ns G Y ho (fd_plain hd) hcd hmg hobj hints hlen hg) λr s' hq=>?_);obtain ⟨rfl,h2,h3,h4⟩:=hq;exact ⟨.inl ⟨.bool true,.bool true,[],rfl,λ_=>rfl,.bool true,qdt l _,λ_=>⟨List.Pairwise.nil,λ_ hm=>(nomatch hm)⟩⟩,h2,h3,h4⟩
section
variable {prog:Program} {w:World} {A:Around} {E:Value->Shared->Prop} {s:Shared} {K:Frag}
end
end Att
namespace L2
open PySem PySem.Spec PyProof.Rows
theorem NS:∀ {vs:List Value} {ns:List Int},IntsAre vs ns->jh (ns.map V.int) vs
 |_,_,.nil=>.nil
 |_,_,.cons n t h=>.cons ⟨t,rfl⟩ (NS h)
def qqr (H:Hp):Prop:=∀ b,H b=none\/∃ o xs,H b=some (.frz o (.lst xs))
def qfm {P:Program} {w:World} {K:Frg} {mg mb:Str->Option Value} {CX:CXT} {k:Nat} {fa a:Addr} {fd:FuncData} {x:Str} {sp:Sp} {s₁:Shared} {vs:List Value} {ns:List Int}
  (KX:K.In s₁.heap) (hns:s₁.heap.Ns mainGlobals mg) (hb:s₁.heap.Ns builtinsNs mb) (hbb:∀ x:Str,x≠"__name__" -> mb x=bootBuiltins x) (hlim:s₁.heap.NoLimit) (hg:s₁.gens=#[])
  (ha:s₁.heap.get? a=some { cls:=.type "list",data:=.seq vs.toArray }) (hi:IntsAre vs ns) (hl:ns.length<=sizeLine) (hr:Room k callerA)
  (F:∀ base:Heap,K.In base->base.Ns mainGlobals mg->FnOk P w K mg base CX k fa fd [x] sp) (hbind:∀ (s:Shared) (u:Value),BindsTo s fd ⟨[u],[]⟩ [(x,u)])
  (hsp:∀ H:Hp,qqr H->SqL K H a (ns.map V.int)->sp [.ref a] H (λv _=>v=.bl true) λ_ _ _=>False)
  (hCX:∀ H e s',CX [] H s₁ (λ_ _ _=>False) e s'->False) :
  codeAny (model P w) callerA (.call (.ref fa) ⟨[.ref a],[]⟩) (λr s'=>r=.ok (.ret (.bool true))/\OldK s₁.heap s'.heap/\s'.os=s₁.os/\AllBare s'.gens) s₁:=by
 have rv:=NS hi;have lenV:=hi.length
 -- from an abstract heap in which nothing but the script may be tracked
 have core:∀ H:Hp,qqr H->SqL K H a (ns.map V.int)->HOk P w H s₁.heap->(∀ b,H b≠none->b=a)->(H a≠none->K.lookup a=none) ->
   codeAny (model P w) callerA (.call (.ref fa) ⟨[.ref a],[]⟩) (λr s'=>r=.ok (.ret (.bool true))/\OldK s₁.heap s'.heap/\s'.os=s₁.os/\AllBare s'.gens) s₁:=by
  intro H hO hS hok hA hK;have base_of:∀ {b:Addr} {o:Obj},s₁.heap.get? b=some o->H b=none->(qfQ s₁.heap H).get? b=some o:=λe n=>qfe e n;have noA:∀ {b:Addr} {o:Obj} {es:Array DictEntry} {ep:Nat},s₁.heap.get? b=some o->o.data=.dict es ep->H b=none:=λ{b o es ep} e d=>by
   cases q:H b with
   |none=>rfl
   |some u=>
    have e':b=a:=hA b (by rw [q];simp);subst e';rw [ha] at e;cases e;have d':Data.seq vs.toArray _=Data.dict es ep:=d;cases d'
  have nsK:∀ {b:Addr} {m:Str->Option Value},s₁.heap.Ns b m->(qfQ s₁.heap H).Ns b m:=λ{b m} ⟨o,es,ep,e,d,r⟩=>⟨o,es,ep,base_of e (noA e d),d,r⟩
  have hKb:K.In (qfQ s₁.heap H):=λb o e=>base_of (KX b o e) (by
   cases q:H b with
   |none=>rfl
   |some u=>
    have e':b=a:=hA b (by rw [q];simp);subst e';rw [hK (by rw [q];simp)] at e;cases e)
  have hM:Mod K mg (qfQ s₁.heap H):=⟨hKb,nsK hns,⟨mb,nsK hb,hbb⟩,let ⟨mc,h1,h2⟩:=hlim;⟨mc,nsK h1,h2⟩⟩
  have e0:Env0 P w K mg (qfQ s₁.heap H) callerA [] s₁ H:=⟨rfl,hM,λb o e=>qjV e,Nat.le_of_eq (qc0 _ _),trivial,λb hb=>absurd (show b∈([]:List Addr) from hb) (by simp),hok,.of_eq hg⟩
  refine codeAny_mono ((F _ hKb (nsK hns)).run callerA [] s₁ H ⟨[.ref a],[]⟩ [.ref a] [.ref a] _ _ hr e0 (hbind s₁ (.ref a)) (.cons rfl .nil) (hsp H hO hS)) λr s' h=>?_;cases r with
  |error e=>exact (hCX H e s' h).elim
  |ok fl=>
   cases fl with
   |next=>exact False.elim h
   |brk=>exact False.elim h
   |cont=>exact False.elim h
   |ret u=>
    obtain ⟨v,H',os,bare,un,hok',r',q⟩:=h;have q':v=.bl true:=q;subst q';obtain rfl:u=Value.bool true:=r';refine ⟨rfl,OldK.of_keep λb o e=>?_,os,bare⟩;cases q:H b with
    |none=>exact un.keep b o e q (by intro z;exact absurd (show b∈([]:List Addr) from z) (by simp)) (by simp)
    |some u=>
     rcases hO b with z|⟨ob,xs,z⟩
     ·rw [q] at z;cases z
     ·have z2:=un.frzs b ob _ z;obtain ⟨e1,_⟩:=hok b _ z;obtain ⟨e2,_⟩:=hok' b _ z2;rw [e] at e1;cases e1;exact e2
 cases hk:K.lookup a with
 |some o=>
  -- the script is one of the module's own objects
  have e:=KX a o hk;rw [ha] at e;cases e;refine core (λ_=>none) (λ_=>.inl rfl) (.inr ⟨_,vs.toArray,_,hk,rfl,rfl,rfl,by rw [size_toArray,lenV];exact hl,by simpa using rv⟩) (λb u z=>by have z':(none:Option HO)=some u:=z;cases z') (λb z=>absurd rfl z) λz=>absurd rfl z
 |none=>
  refine core (λb=>if b=a then some (.frz { cls:=.type "list",data:=.seq vs.toArray } (.lst (ns.map V.int))) else none) (λb=>?_) (.inl (.inr ⟨{ cls:=.type "list",data:=.seq vs.toArray },if_pos rfl⟩)) (λb u z=>?_) (λb z=>?_) λ_=>hk
  ·by_cases hb:b=a
   ·exact .inr ⟨_,_,if_pos hb⟩
   ·exact .inl (if_neg hb)
  ·by_cases hb:b=a
   ·have z':=(if_pos hb).symm.trans z;cases z';subst hb;exact ⟨ha,by rw [length_map];exact hl,vs,_,rv,ha⟩
   ·have z':=(if_neg hb).symm.trans z;cases z'
  ·by_cases hb:b=a
   ·exact hb
   ·exact absurd (if_neg hb) z
def qjD {l:PySem.W.OpenLaw} {n k:Nat} {q:Program} {loose:List Str} {XP:(Str->Option Value)->Heap->Prop} {YP:World->Heap->Prop} {d:DefRec} {K:Params->PySem.W.Frag} {CX:World->CXT} {sp:World->Sp} {x:Str}
  (hn:l.most=some n) (hn2:n<=sizeLine) (hdf:d.params.defaults=[]) (hr:Room k callerA)
  (hY:∀ (w:World) (h:Heap),YP w h->(K w.params).In h)
  (F:∀ (w:World) (mg:Str->Option Value) (fa:Addr) (h:Heap),(K w.params).In h->h.Ns mainGlobals mg->mg d.name=some (.ref fa) ->
   ∃ fd:FuncData,(∀ (s:Shared) (u:Value),BindsTo s fd ⟨[u],[]⟩ [(x,u)]) /\
    ∀ base:Heap,(K w.params).In base->base.Ns mainGlobals mg->FnOk l.prog w (K w.params) mg base (CX w) k fa fd [x] (sp w))
  (hsp:∀ (w:World) (H:Hp) (a:Addr) (ns:List Int),ns.length<=n->qqr H->SqL (K w.params) H a (ns.map V.int)->sp w [.ref a] H (λv _=>v=.bl true) λ_ _ _=>False)
  (hCX:∀ (w:World) (H:Hp) (s:Shared) (e:Value) (s':Shared),CX w [] H s (λ_ _ _=>False) e s'->False) :
  PySem.W.WalkO q loose XP YP l.row.toRowW d [] (λf vs=>PySem.call f vs):=by
 refine Att.qbh hn hdf λw s₀ s₁ mg mb fa o pm cd doc a vs ns G Y ho hd hcd hmg hobj hints hlen hg=>?_;have KX:=hY w _ Y;obtain ⟨fd,hb,hF⟩:=F w mg fa _ KX G.T.g hmg;exact qfm KX G.T.g G.T.b G.T.builtins G.T.nolimit hg hobj hints (za3 hlen hn2) hr hF hb (λH hO hS=>hsp w H a ns hlen hO hS) λH e s'=>hCX w H s₁ e s'
def Z1 (s:Stmt):Arguments:=match s with
 |.FunctionDef _ a _ _ _ _ _ _ _ _=>a
 |_=>{ posonlyargs:=[],args:=[],vararg:=none,kwonlyargs:=[],kw_defaults:=[],kwarg:=none,defaults:=[] }
def jk (s:Stmt):List Stmt:=match s with
 |.FunctionDef _ _ b _ _ _ _ _ _ _=>b
 |_=>[]
def qj (s:Stmt):Scope:=match s with
 |.FunctionDef _ _ _ _ _ _ sc _ _ _=>sc
 |_=>{ kind:=.function,names:=[],isGenerator:=false,isCoroutine:=false }
abbrev CX0:CXT:=λ_ _ _ _ _ _=>False
abbrev E0:XK:=λ_ _ _=>False
def qsc {X:Cx}:qeR CX0 X E0:=λ_ _ _ _ _ _ _ h=>h.elim
structure Fun (K:Frg) (x qual:Str) (st:Stmt) (f:Addr) (fd:FuncData):Prop where
 ex:∃ (oc:Value) (od:Option Addr) (kV doc pm:Value) (an:Option Addr) (cdv ct:Value) (osl:Array (Option Value)),
  fd=PySem.W.fnOf x qual (Z1 st) (jk st) (qj st) .none kV doc pm an cdv ct/\K.lookup f=some ⟨oc,od,.func fd,osl⟩/\PySem.W.codeIn K cdv qual=true
 kp:PySem.W.keepIn K (.ref f)=true
section
variable {P:Program} {w:World} {K:Frg} {mg:Str->Option Value} {base:Heap}
def Fun.ok {x qual:Str} {st:Stmt} {f:Addr} {fd:FuncData} {N ps:List Str} {k:Nat} {sp:Sp} (F:Fun K x qual st f fd) (S:FnScope N ps (qj st)) (len:∀ vs H Q E,sp vs H Q E->vs.length=ps.length)
  (hbody:∀ (cdv:Value) (A:Around) (outer:List Env) (s:Shared) (H:Hp) (vs:List V) (Q:VK) (E:XK),Room k (A.deeper (envOfC qual (qj st) s.heap.objs.size f cdv))->sp vs H Q E ->
   ∃ t,PSs (qeE CX0 P w K mg base N qual (qj st) f cdv A outer s H E).nox (jk st) t/\t { nx:=λ_ H'=>Q .non H',rt:=Q } (TC N vs) H):FnOk P w K mg base CX0 (k+1) f fd ps sp:=by
 obtain ⟨oc,od,kV,doc,pm,an,cdv,ct,osl,rfl,lk,hcd⟩:=F.ex;refine qrx lk hcd S len λA outer s H vs Q E hr hsp=>?_;obtain ⟨t,h,q⟩:=hbody cdv A outer s H vs Q E hr hsp;exact ⟨t,h.nox,q⟩
def Fun.binds {x qual:Str} {st:Stmt} {f:Addr} {fd:FuncData} {ps:List Str} (F:Fun K x qual st f fd)
  (h:∀ (kV doc pm:Value) (an:Option Addr) (cdv ct:Value) (us:List Value),us.length=ps.length->bindArgs (PySem.W.fnOf x qual (Z1 st) (jk st) (qj st) .none kV doc pm an cdv ct) ⟨us,[]⟩=pure (ps.zip us)):KB K fd ps []:=by
 obtain ⟨oc,od,kV,doc,pm,an,cdv,ct,osl,rfl,lk,hcd⟩:=F.ex;exact .all (h kV doc pm an cdv ct)
def qcW {x qual:Str} {st:Stmt} {f:Addr} {oc:Value} {od an:Option Addr} {osl:Array (Option Value)} {kV doc pm cdv ct:Value} (l:K.lookup f=some ⟨oc,od,.func (PySem.W.fnOf x qual (Z1 st) (jk st) (qj st) .none kV doc pm an cdv ct),osl⟩)
  (c:PySem.W.codeIn K cdv qual=true) (k:PySem.W.keepIn K (.ref f)=true):Fun K x qual st f (PySem.W.fnOf x qual (Z1 st) (jk st) (qj st) .none kV doc pm an cdv ct):=⟨⟨oc,od,kV,doc,pm,an,cdv,ct,osl,rfl,l,c⟩,k⟩
end
section
variable {X:Cx}
end
def qqL {A B:Prop} (h:B):if false=true then A else B:=by
 rw [if_neg v7];exact h
def qqs {A B:Prop} (h:A):if true=true then A else B:=by
 rw [if_pos rfl];exact h
end L2
set_option maxHeartbeats 4000000
namespace L3
open PySem PySem.Spec PyProof.Rows L2
set_option genInjectivity true in
inductive T where
 |non|bl (b:Bool)|int (i:Int)|str (x:Str)|tup (xs:List T)|ref (a:Addr)
inductive O where
 |lst (xs:List T)
 |frz (xs:List T)
 |dct (kvs:List (Int×T))
 |exn (C:Addr)
 |tab (ks:List Str) (xs:List T)
abbrev Gp:=Addr->Option O
def gu (G:Gp) (a:Addr) (o:O):Gp:=λb=>if b=a then some o else G b
def qx {G:Gp} {a:Addr} {o:O}:gu G a o a=some o:=by unfold gu;rw [if_pos rfl]
def j8 {G:Gp} {a b:Addr} {o:O} (h:b≠a):gu G a o b=G b:=by unfold gu;rw [if_neg h]
mutual
inductive Rp (K:Frg) (H:Hp):T->V->Prop
 |non:Rp K H .non .non
 |bl (b:Bool):Rp K H (.bl b) (.bl b)
 |int (i:Int):Rp K H (.int i) (.int i)
 |str (x:Str):Rp K H (.str x) (.str x)
 |ref (a:Addr):Rp K H (.ref a) (.ref a)
 |tup {xs:List T} {a:Addr} {vs:List V}:SqT K H a vs->Rps K H xs vs->Rp K H (.tup xs) (.ref a)
inductive Rps (K:Frg) (H:Hp):List T->List V->Prop
 |nil:Rps K H [] []
 |cons {x:T} {v:V} {xs:List T} {vs:List V}:Rp K H x v->Rps K H xs vs->Rps K H (x::xs) (v::vs)
end
def IsX (a C:Addr) (h:Heap):Prop:=∃ o vs,h.get? a=some o/\o.cls=.ref C/\o.data=.fields vs
def OR (K:Frg) (H:Hp) (a:Addr):O->Prop
 |.lst xs=>∃ vs,H a=some (.lst vs)/\Rps K H xs vs
 |.frz xs=>∃ vs,(∃ o,H a=some (.frz o (.lst vs)))/\Rps K H xs vs
 |.dct kvs=>∃ vs,H a=some (.dK ((kvs.map λp=>(Sum.inl p.1:Key)).zip vs))/\Rps K H (kvs.map λp=>p.2) vs
 |.exn C=>H a=some (.ext (IsX a C))
 |.tab ks xs=>∃ vs,H a=some (.dK ((ks.map λk=>(Sum.inr k:Key)).zip vs))/\Rps K H xs vs
def HR (K:Frg) (G:Gp) (H:Hp):Prop:=∀ a o,G a=some o->OR K H a o
def Kp (G:Gp) (H:Hp) (G':Gp) (H':Hp):Prop:=∀ a o,H a=some o->G a=none->H' a=some o/\G' a=none
def Kp.refl {G:Gp} {H:Hp}:Kp G H G H:=λ_ _ h g=>⟨h,g⟩
def Kp.trans {G G1 G2:Gp} {H H1 H2:Hp} (a:Kp G H G1 H1) (b:Kp G1 H1 G2 H2):Kp G H G2 H2:=λx o h g=>
 let ⟨h1,g1⟩:=a x o h g;b x o h1 g1
section
variable {K:Frg} {G G':Gp} {H H':Hp}
def HR.noneT (hr:HR K G H) {a:Addr} {vs:List V} (h:Rd H a (.tup vs)):G a=none:=by
 cases e:G a with
 |none=>rfl
 |some o=>
  have q:=hr a o e;cases o with
  |lst xs=>
   obtain ⟨us,q1,_⟩:=q;rcases h with h|⟨ob,h⟩<;>(rw [q1] at h;cases h)
  |frz xs=>
   obtain ⟨us,⟨o1,q1⟩,_⟩:=q;rcases h with h|⟨ob,h⟩<;>(rw [q1] at h;cases h)
  |dct kvs=>
   obtain ⟨us,q1,_⟩:=q;rcases h with h|⟨ob,h⟩<;>(rw [q1] at h;cases h)
  |exn C=>
   have q1:H a=some (.ext (IsX a C)):=q;rcases h with h|⟨ob,h⟩<;>(rw [q1] at h;cases h)
  |tab ks xs=>
   obtain ⟨us,q1,_⟩:=q;rcases h with h|⟨ob,h⟩<;>(rw [q1] at h;cases h)
def MA (hr:HR K G H) (k:Kp G H G' H') {a:Addr} {vs:List V} (h:SqT K H a vs):SqT K H' a vs:=by
 rcases h with h|h
 ·have g:=hr.noneT h;rcases h with h|⟨o,h⟩
  ·exact .inl (.inl (k a _ h g).1)
  ·exact .inl (.inr ⟨o,(k a _ h g).1⟩)
 ·exact .inr h
mutual
theorem Rp.keep (hr:HR K G H) (k:Kp G H G' H'):∀ {x:T} {v:V},Rp K H x v->Rp K H' x v
 |_,_,.non=>.non
 |_,_,.bl b=>.bl b
 |_,_,.int i=>.int i
 |_,_,.str x=>.str x
 |_,_,.ref a=>.ref a
 |_,_,.tup h hs=>.tup (MA hr k h) (Rps.keep hr k hs)
theorem Rps.keep (hr:HR K G H) (k:Kp G H G' H'):∀ {x:List T} {v:List V},Rps K H x v->Rps K H' x v
 |_,_,.nil=>.nil
 |_,_,.cons a b=>.cons (Rp.keep hr k a) (Rps.keep hr k b)
end
theorem Rps.length:∀ {xs:List T} {vs:List V},Rps K H xs vs->xs.length=vs.length
 |_,_,.nil=>rfl
 |_,_,.cons _ b=>by simp [Rps.length b]
theorem Rps.get:∀ {xs:List T} {vs:List V} {i:Nat} {x:T},Rps K H xs vs->xs[i]?=some x->∃ v,vs[i]?=some v/\Rp K H x v
 |_,_,_,_,.nil,e=>by simp at e
 |_,_,0,_,.cons r _,e=>by simp at e;subst e;exact ⟨_,rfl,r⟩
 |_,_,i+1,x,.cons _ t,e=>by
  obtain ⟨u,h1,h2⟩:=Rps.get (i:=i) (x:=x) t (by simpa using e);exact ⟨u,by simpa using h1,h2⟩
theorem Rps.append:∀ {xs ys:List T} {vs us:List V},Rps K H xs vs->Rps K H ys us->Rps K H (xs++ys) (vs++us)
 |_,_,_,_,.nil,s=>s
 |_,_,_,_,.cons r t,s=>.cons r (Rps.append t s)
theorem Rps.take:∀ {xs:List T} {vs:List V} (n:Nat),Rps K H xs vs->Rps K H (xs.take n) (vs.take n)
 |_,_,0,_=>.nil
 |_,_,_+1,.nil=>.nil
 |_,_,n+1,.cons r t=>.cons r (Rps.take n t)
theorem Rps.drop:∀ {xs:List T} {vs:List V} (n:Nat),Rps K H xs vs->Rps K H (xs.drop n) (vs.drop n)
 |_,_,0,r=>r
 |_,_,_+1,.nil=>.nil
 |_,_,n+1,.cons _ t=>Rps.drop n t
theorem Rps.set {x:T} {v:V} (r:Rp K H x v):∀ {xs:List T} {vs:List V} (i:Nat),Rps K H xs vs->Rps K H (xs.set i x) (vs.set i v)
 |_,_,_,.nil=>.nil
 |_,_,0,.cons _ t=>.cons r t
 |_,_,i+1,.cons q t=>.cons q (Rps.set r i t)
theorem Rps.ints:∀ (ns:List Int),Rps K H (ns.map T.int) (ns.map V.int)
 |[]=>.nil
 |n::r=>.cons (.int n) (Rps.ints r)
theorem Rps.reverse {xs:List T} {vs:List V} (h:Rps K H xs vs):Rps K H xs.reverse vs.reverse:=by
 induction xs generalizing vs with
 |nil=>cases h;exact .nil
 |cons x r ih=>
  cases h with
  |cons a b=>
   rw [List.reverse_cons,List.reverse_cons];exact (ih b).append (.cons a .nil)
def Kp.laid {p:Addr} {ho:HO} (hp:H p=none):Kp G H G (upd H p ho):=λa o h g=>⟨by rw [qO (qI h hp)];exact h,g⟩
def HR.free (hr:HR K G H) {p:Addr} (hp:H p=none):G p=none:=by
 cases e:G p with
 |none=>rfl
 |some o=>
  have q:=hr p o e;cases o with
  |lst xs=>obtain ⟨us,q1,_⟩:=q;rw [hp] at q1;cases q1
  |frz xs=>obtain ⟨us,⟨o1,q1⟩,_⟩:=q;rw [hp] at q1;cases q1
  |dct kvs=>obtain ⟨us,q1,_⟩:=q;rw [hp] at q1;cases q1
  |exn C=>have q1:H p=some (.ext (IsX p C)):=q;rw [hp] at q1;cases q1
  |tab ks xs=>obtain ⟨us,q1,_⟩:=q;rw [hp] at q1;cases q1
theorem OR.keep (hr:HR K G H) (k:Kp G H G' H') {a:Addr} {o:O} (h:OR K H a o) (e:∀ u,H a=some u->H' a=some u):OR K H' a o:=by
 cases o with
 |lst xs=>obtain ⟨vs,h1,h2⟩:=h;exact ⟨vs,e _ h1,h2.keep hr k⟩
 |frz xs=>obtain ⟨vs,⟨o,h1⟩,h2⟩:=h;exact ⟨vs,⟨o,e _ h1⟩,h2.keep hr k⟩
 |dct kvs=>obtain ⟨vs,h1,h2⟩:=h;exact ⟨vs,e _ h1,h2.keep hr k⟩
 |exn C=>exact e _ h
 |tab ks xs=>obtain ⟨vs,h1,h2⟩:=h;exact ⟨vs,e _ h1,h2.keep hr k⟩
theorem HR.laid (hr:HR K G H) {p:Addr} {ho:HO} (hp:H p=none):HR K G (upd H p ho):=λa o e=>
 (hr a o e).keep hr (Kp.laid hp) λu h=>by rw [qO (qI h hp)];exact h
def Kp.newL {p:Addr} {ho:HO} {o':O} (hp:H p=none):Kp G H (gu G p o') (upd H p ho):=λa o h g=>
 ⟨by rw [qO (qI h hp)];exact h,by rw [j8 (qI h hp)];exact g⟩
def HR.newL (hr:HR K G H) {p:Addr} {xs:List T} {vs:List V} (hp:H p=none) (r:Rps K H xs vs):HR K (gu G p (.lst xs)) (upd H p (.lst vs)):=λa o e=>by
 by_cases ha:a=p
 ·subst ha;rw [qx] at e;cases e;exact ⟨vs,zu,r.keep hr (Kp.laid hp)⟩
 ·rw [j8 ha] at e;exact (hr a o e).keep hr (Kp.laid hp) λu h=>by rw [qO ha];exact h
def Kp.wr {p:Addr} {ho:HO} {o o':O} (g:G p=some o):Kp G H (gu G p o') (upd H p ho):=λa ob h ga=>by
 have ha:a≠p:=by intro e;subst e;rw [g] at ga;cases ga
 exact ⟨by rw [qO ha];exact h,by rw [j8 ha];exact ga⟩
theorem HR.wr (hr:HR K G H) {p:Addr} {ys xs:List T} {vs:List V} (g:G p=some (.lst ys)) (r:Rps K H xs vs):HR K (gu G p (.lst xs)) (upd H p (.lst vs)):=λa o e=>by
 have k:Kp G H (gu G p (.lst xs)) (upd H p (.lst vs)):=Kp.wr g;by_cases ha:a=p
 ·subst ha;rw [qx] at e;cases e;exact ⟨vs,zu,r.keep hr k⟩
 ·rw [j8 ha] at e;exact (hr a o e).keep hr k λu h=>by rw [qO ha];exact h
end
abbrev St3:=List (Option T)
structure Rel (K:Frg) (τ:St3) (G:Gp) (σ:L2.St) (H:Hp):Prop where
 hp:HR K G H
 len:τ.length=σ.length
 st:∀ (i:Nat) (t:T),τ[i]?=some (some t)->∃ v,σ[i]?=some (some v)/\Rp K H t v
def Rel.next {K:Frg} {τ:St3} {G G':Gp} {σ:L2.St} {H H':Hp} (r:Rel K τ G σ H) (hr:HR K G' H') (k:Kp G H G' H'):Rel K τ G' σ H':=
 ⟨hr,r.len,λi t e=>let ⟨v,h1,h2⟩:=r.st i t e;⟨v,h1,h2.keep r.hp k⟩⟩
theorem Rel.set {K:Frg} {τ:St3} {G:Gp} {σ:L2.St} {H:Hp} {t:T} {v:V} (r:Rel K τ G σ H) (i:Nat) (h:Rp K H t v):Rel K (τ.set i (some t)) G (σ.set i (some v)) H:=by
 refine ⟨r.hp,by simp [r.len],λj u e=>?_⟩;by_cases hij:i=j
 ·subst hij;rw [List.getElem?_set_self'] at e;have hl:i<τ.length:=by
   cases q:τ[i]? with
   |none=>rw [q] at e;cases e
   |some z=>exact (zb0 q).1
  rw [v9 hl] at e;have e':t=u:=by simpa using e
  subst e';exact ⟨v,by rw [List.getElem?_set_self (by rw [← r.len];exact hl)],h⟩
 ·rw [List.getElem?_set_ne hij] at e;obtain ⟨w,h1,h2⟩:=r.st j u e;exact ⟨w,by rw [List.getElem?_set_ne hij];exact h1,h2⟩
abbrev Q3:=T->Gp->Prop
abbrev TE3:=St3->Gp->Q3->Prop
abbrev TT3:=St3->Gp->(Bool->Gp->Prop)->Prop
abbrev TA3:=St3->Gp->(List T->Gp->Prop)->Prop
def Aft (K:Frg) (G:Gp) (H:Hp) (q:Q3) (Q:VK):Prop:=∀ x G',q x G'->∀ v H',Rp K H' x v->HR K G' H'->Kp G H G' H'->Q v H'
def qqG (K:Frg) (G:Gp) (H:Hp) (q:Bool->Gp->Prop) (Q:Bool->Hp->Prop):Prop:=∀ x G',q x G'->∀ H',HR K G' H'->Kp G H G' H'->Q x H'
def qtz (K:Frg) (G:Gp) (H:Hp) (q:List T->Gp->Prop) (Q:List V->Hp->Prop):Prop:=∀ x G',q x G'->∀ v H',Rps K H' x v->HR K G' H'->Kp G H G' H'->Q v H'
def lE (K:Frg) (t:TE3):TE:=λσ H Q=>∃ τ G q,Rel K τ G σ H/\t τ G q/\Aft K G H q Q
def lT (K:Frg) (t:TT3):TT:=λσ H Q=>∃ τ G q,Rel K τ G σ H/\t τ G q/\qqG K G H q Q
def lA (K:Frg) (t:TA3):TA:=λσ H Q=>∃ τ G q,Rel K τ G σ H/\t τ G q/\qtz K G H q Q
abbrev E3 (X:Cx) (e:Expr) (t:TE3):Prop:=PE X e (lE X.K t)
abbrev C3 (X:Cx) (e:Expr) (t:TT3):Prop:=PT X e (lT X.K t)
abbrev W3 (X:Cx) (e:Expr) (t:TT3):Prop:=PW X e (lT X.K t)
abbrev A3 (X:Cx) (es:List Expr) (t:TA3):Prop:=PA X es (lA X.K t)
def Aft.back {K:Frg} {G G1:Gp} {H H1:Hp} {q:Q3} {Q:VK} (a:Aft K G H q Q) (k:Kp G H G1 H1):Aft K G1 H1 q Q:=λx G' h v H' r hr k'=>a x G' h v H' r hr (k.trans k')
def qqG.back {K:Frg} {G G1:Gp} {H H1:Hp} {q:Bool->Gp->Prop} {Q:Bool->Hp->Prop} (a:qqG K G H q Q) (k:Kp G H G1 H1):qqG K G1 H1 q Q:=λx G' h H' hr k'=>a x G' h H' hr (k.trans k')
def RK {X:Cx} {e:Expr} {t t':TE} (h:PE X e t) (w:∀ σ H Q,t' σ H Q->t σ H Q):PE X e t':=λpins s σ H Q I q=>h pins s σ H Q I (w σ H Q q)
def qr0 {X:Cx} {e:Expr} {t t':TT} (h:PT X e t) (w:∀ σ H Q,t' σ H Q->t σ H Q):PT X e t':=λpins s σ H Q I q=>h pins s σ H Q I (w σ H Q q)
def qtA {X:Cx} {e:Expr} {t t':TT} (h:PW X e t) (w:∀ σ H Q,t' σ H Q->t σ H Q):PW X e t':=λwh pins s σ H Q I q=>h wh pins s σ H Q I (w σ H Q q)
def qtg {X:Cx} {e:List Expr} {t t':TA} (h:PA X e t) (w:∀ σ H Q,t' σ H Q->t σ H Q):PA X e t':=λpos pins s σ H Q I q=>h pos pins s σ H Q I (w σ H Q q)
def zy {K:Frg} {ta:TE3} {τ:St3} {G:Gp} {σ:L2.St} {H:Hp} {q:Q3} {Q:VK} (r:Rel K τ G σ H) (h:ta τ G q)
  (n:∀ x G1,q x G1->∀ v H1,Rp K H1 x v->HR K G1 H1->Kp G H G1 H1->Rel K τ G1 σ H1->Q v H1):lE K ta σ H Q:=
 ⟨τ,G,q,r,h,λx G1 hq v H1 rx hr k=>n x G1 hq v H1 rx hr k (r.next hr k)⟩
def NR {K:Frg} {ta:TT3} {τ:St3} {G:Gp} {σ:L2.St} {H:Hp} {q:Bool->Gp->Prop} {Q:Bool->Hp->Prop} (r:Rel K τ G σ H) (h:ta τ G q)
  (n:∀ x G1,q x G1->∀ H1,HR K G1 H1->Kp G H G1 H1->Rel K τ G1 σ H1->Q x H1):lT K ta σ H Q:=
 ⟨τ,G,q,r,h,λx G1 hq H1 hr k=>n x G1 hq H1 hr k (r.next hr k)⟩
def UK {K:Frg} {ta:TA3} {τ:St3} {G:Gp} {σ:L2.St} {H:Hp} {q:List T->Gp->Prop} {Q:List V->Hp->Prop} (r:Rel K τ G σ H) (h:ta τ G q)
  (n:∀ x G1,q x G1->∀ v H1,Rps K H1 x v->HR K G1 H1->Kp G H G1 H1->Rel K τ G1 σ H1->Q v H1):lA K ta σ H Q:=
 ⟨τ,G,q,r,h,λx G1 hq v H1 rx hr k=>n x G1 hq v H1 rx hr k (r.next hr k)⟩
section
variable {X:Cx} {a b c:Expr} {ta tb tc:TE3} {pos:Pos}
def v3 (i:Nat):TE3:=λτ G q=>match τ[i]? with|some (some t)=>q t G|_=>False
def qq8 (i:Nat) {x:Str} {pos:Pos} (hN:X.N[i]?=some x:=by rfl) (hv:Vis X.env.scope x:=by first|exact Or.inl rfl|exact Or.inr (Or.inl rfl)|exact Or.inr (Or.inr rfl)) (hd:(x==("__debug__" : Str))=false:=by decide)
  (hcd:(x==("__classdict__" : Str))=false:=by decide):E3 X (.Name x pos) (v3 i):=by
 refine RK (qmv (i:=i) hN hv hd hcd) λσ H Q ⟨τ,G,q,r,h,af⟩=>?_;unfold v3 at h;split at h
 ·rename_i t e;obtain ⟨v,e2,rv⟩:=r.st i t e;exact ⟨v,e2,af t G h v H rv r.hp Kp.refl⟩
 ·exact h.elim
def c3 (t:T):TE3:=λ_ G q=>q t G
def e_c {t:T} {v:V} {e:Expr} (h:PE X e (tC v)) (hr:∀ H,Rp X.K H t v):E3 X e (c3 t):=RK h λσ H Q ⟨τ,G,q,r,h,af⟩=>af t G h v H (hr H) r.hp Kp.refl
def qq5 {i:Int} {j pos}:E3 X (.Constant (.int i) j pos) (c3 (.int i)):=e_c qnV λ_=>.int i
def qt1 {b:Bool} {j pos}:E3 X (.Constant (.bool b) j pos) (c3 (.bl b)):=e_c qrJ λ_=>.bl b
def qsz {j pos}:E3 X (.Constant .none j pos) (c3 .non):=e_c qnz λ_=>.non
def qrd {x:Str} {j pos}:E3 X (.Constant (.str x) j pos) (c3 (.str x)):=e_c qiO λ_=>.str x
def n3:TE3:=λ_ _ _=>False
abbrev R3:=T->T->Gp->Q3->Prop
def RR (K:Frg) (r3:R3) (r:R2):Prop:=∀ x y v u G H q Q,HR K G H->Rp K H x v->Rp K H y u->r3 x y G q->Aft K G H q Q->r v u H Q
def o3 (r:R3) (ta tb:TE3):TE3:=λτ G q=>ta τ G λx G1=>tb τ G1 λy G2=>r x y G2 q
def qft {K:Frg} {r3:R3} {r:R2} (hr:RR K r3 r) {σ:L2.St} {H:Hp} {Q:VK} (h:lE K (o3 r3 ta tb) σ H Q):tOp r (lE K ta) (lE K tb) σ H Q:=by
 obtain ⟨τ,G,q,rl,h,af⟩:=h;refine zy rl h λx G1 h1 v H1 rx hr1 k1 rl1=>zy rl1 h1 λy G2 h2 u H2 ry hr2 k2 rl2=>?_;exact hr x y v u G2 H2 q Q hr2 (rx.keep hr1 k2) ry h2 (af.back (k1.trans k2))
def qfC {op:Operator} {r3:R3} {r:R2} (ho:OpR X (binaryOp op) r) (hr:RR X.K r3 r) (ha:E3 X a ta) (hb:E3 X b tb):E3 X (.BinOp a op b pos) (o3 r3 ta tb):=
 RK (qrP ho ha hb) λ_ _ _ h=>qft hr h
def qrZ {op:CmpOp} {r3:R3} {r:R2} (ho:OpR X (compareOp op) r) (hr:RR X.K r3 r) (ha:E3 X a ta) (hb:E3 X b tb) (hm:behindInMarks op b=false):E3 X (.Compare a [op] [b] pos) (o3 r3 ta tb):=
 RK (qjG ho ha hb hm) λ_ _ _ h=>qft hr h
def tb3 (t:TE3):TT3:=λτ G q=>t τ G λx G'=>match x with|.bl k=>q k G'|_=>False
def qnH {K:Frg} {t:TE3} {t2:TE} (hw:∀ σ H Q,lE K t σ H Q->t2 σ H Q) {σ:L2.St} {H:Hp} {Q:Bool->Hp->Prop} (h:lT K (tb3 t) σ H Q):ql1 t2 σ H Q:=by
 obtain ⟨τ,G,q,rl,h,af⟩:=h;refine hw _ _ _ (zy rl h λx G1 h1 v H1 rx hr1 k1 rl1=>?_);cases x with
 |bl k=>cases rx;exact ⟨k,rfl,af k G1 h1 H1 hr1 k1⟩
 |_=>exact h1.elim
def qqZ {op:CmpOp} {r3:R3} {r:R2} (ho:OpR X (compareOp op) r) (hr:RR X.K r3 r) (ha:E3 X a ta) (hb:E3 X b tb) (hm:behindInMarks op b=false):C3 X (.Compare a [op] [b] pos) (tb3 (o3 r3 ta tb)):=
 qr0 (qka ho ha hb hm) λ_ _ _ h=>qnH (λ_ _ _=>qft hr) h
def ch3 (r r':R3) (ta tb tc:TE3):TE3:=λτ G q=>ta τ G λx G1=>tb τ G1 λy G2=>r x y G2 λz G3=>match z with
 |.bl k=>if k=true then tc τ G3 λw G4=>r' y w G4 q else q (.bl false) G3
 |_=>False
def qrS {K:Frg} {r3 r3':R3} {r r':R2} (hr:RR K r3 r) (hr':RR K r3' r') {σ:L2.St} {H:Hp} {Q:VK} (h:lE K (ch3 r3 r3' ta tb tc) σ H Q):qhK r r' (lE K ta) (lE K tb) (lE K tc) σ H Q:=by
 obtain ⟨τ,G,q,rl,h,af⟩:=h;refine zy rl h λx G1 h1 v H1 rx hr1 k1 rl1=>zy rl1 h1 λy G2 h2 u H2 ry hr2 k2 rl2=>?_;refine hr x y v u G2 H2 _ _ hr2 (rx.keep hr1 k2) ry h2 λz G3 h3 w H3 rz hr3 k3=>?_;cases z with
 |bl k=>
  cases rz;refine ⟨k,rfl,?_⟩;cases k with
  |false=>
   rw [if_neg v7];rw [show (match T.bl false with|.bl k=>if k=true then tc τ G3 λw G4=>r3' y w G4 q else q (.bl false) G3|_=>False)=q (.bl false) G3 from by simp] at h3;exact af _ G3 h3 _ H3 (.bl false) hr3 ((k1.trans k2).trans k3)
  |true=>
   rw [if_pos rfl];refine zy (rl2.next hr3 k3) (show tc τ G3 λw G4=>r3' y w G4 q from by simpa using h3) λw G4 h4 w' H4 rw' hr4 k4 rl4=>?_;exact hr' y w _ _ G4 H4 q Q hr4 ((ry.keep hr2 k3).keep hr3 k4) rw' h4 (af.back (((k1.trans k2).trans k3).trans k4))
 |_=>exact h3.elim
def qkP {op op':CmpOp} {r3 r3':R3} {r r':R2} (ho:OpR X (compareOp op) r) (hr:RR X.K r3 r) (ho':OpR X (compareOp op') r') (hr':RR X.K r3' r') (ha:E3 X a ta) (hb:E3 X b tb) (hc:E3 X c tc)
  (hm:lastMarks [op,op'] [b,c]=false:=by with_unfolding_all rfl):E3 X (.Compare a [op,op'] [b,c] pos) (ch3 r3 r3' ta tb tc):=
 RK (qfK ho ho' ha hb hc hm) λ_ _ _ h=>qrS hr hr' h
def qth (K:Frg) (r3:T->Gp->Q3->Prop) (r:V->Hp->VK->Prop):Prop:=∀ x v G H q Q,HR K G H->Rp K H x v->r3 x G q->Aft K G H q Q->r v H Q
def u3 (r:T->Gp->Q3->Prop) (ta:TE3):TE3:=λτ G q=>ta τ G λx G1=>r x G1 q
def qtF {op:UnaryOp} {r3:T->Gp->Q3->Prop} {r:V->Hp->VK->Prop} (ho:UnR X (unaryOp op) r) (hr:qth X.K r3 r) (ha:E3 X a ta):E3 X (.UnaryOp op a pos) (u3 r3 ta):=
 RK (qrW ho ha) λ_ _ _ ⟨τ,G,q,rl,h,af⟩=>zy rl h λx G1 h1 v H1 rx hr1 k1 rl1=>hr x v G1 H1 q _ hr1 rx h1 (af.back k1)
def ZB:T->Gp->Q3->Prop:=λx G q=>match x with|.int i=>q (.int (-i)) G|_=>False
def qko {K:Frg}:qth K ZB (rU λi=>.int (-i)):=λx v G H q Q hr rx h af=>by
 cases x with
 |int i=>cases rx;exact ⟨i,rfl,af _ G h _ H (.int _) hr Kp.refl⟩
 |_=>exact h.elim
def iI (f:Int->Int->Int):R3:=λx y G q=>match x,y with|.int i,.int j=>q (.int (f i j)) G|_,_=>False
def iC (C:Int->Int->Prop) (f:Int->Int->Int):R3:=λx y G q=>match x,y with|.int i,.int j=>C i j/\q (.int (f i j)) G|_,_=>False
def iB (f:Int->Int->Bool):R3:=λx y G q=>match x,y with|.int i,.int j=>q (.bl (f i j)) G|_,_=>False
def qha {K:Frg} {f:Int->Int->Int}:RR K (iI f) (rI0 λi j=>.int (f i j)):=λx y v u G H q Q hr rx ry h af=>by
 cases x<;>try exact h.elim
 cases y<;>try exact h.elim
 cases rx;cases ry;exact ⟨_,_,rfl,rfl,af _ G h _ H (.int _) hr Kp.refl⟩
def K5 {K:Frg} {C:Int->Int->Prop} {f:Int->Int->Int}:RR K (iC C f) (rI C λi j=>.int (f i j)):=λx y v u G H q Q hr rx ry h af=>by
 cases x<;>try exact h.elim
 cases y<;>try exact h.elim
 cases rx;cases ry;exact ⟨_,_,rfl,rfl,h.1,af _ G h.2 _ H (.int _) hr Kp.refl⟩
def jO {K:Frg} {f:Int->Int->Bool}:RR K (iB f) (rI0 λi j=>.bl (f i j)):=λx y v u G H q Q hr rx ry h af=>by
 cases x<;>try exact h.elim
 cases y<;>try exact h.elim
 cases rx;cases ry;exact ⟨_,_,rfl,rfl,af _ G h _ H (.bl _) hr Kp.refl⟩
def qrA (ha:E3 X a ta) (hb:E3 X b tb):E3 X (.BinOp a .Sub b pos) (o3 (iI (·-·)) ta tb):=qfC qlC qha ha hb
def qqV (ha:E3 X a ta) (hb:E3 X b tb):E3 X (.BinOp a .Mult b pos) (o3 (iC JJ (·*·)) ta tb):=qfC qpG K5 ha hb
def qsn (ha:E3 X a ta) (hb:E3 X b tb):E3 X (.BinOp a .Mod b pos) (o3 (iC (λ_ j=>0<j) (·%·)) ta tb):=qfC qmj K5 ha hb
def qsq (ha:E3 X a ta) (hb:E3 X b tb):E3 X (.BinOp a .FloorDiv b pos) (o3 (iC qcf (·/·)) ta tb):=qfC qj8 K5 ha hb
def qqY (ha:E3 X a ta) (hb:E3 X b tb):E3 X (.BinOp a .Pow b pos) (o3 (iC qcD (λi j=>i ^ j.toNat)) ta tb):=qfC qou K5 ha hb
def qnK (ha:E3 X a ta) (hb:E3 X b tb):E3 X (.BinOp a .BitAnd b pos) (o3 (iI Builtin.bitAnd) ta tb):=qfC qnA qha ha hb
def qqU (ha:E3 X a ta) (hb:E3 X b tb):E3 X (.BinOp a .LShift b pos) (o3 (iC qcD (λi j=>i*2 ^ j.toNat)) ta tb):=qfC qpk K5 ha hb
def qrt (ha:E3 X a ta) (hb:E3 X b tb):E3 X (.BinOp a .RShift b pos) (o3 (iC (λ_ j=>0<=j) (λi j=>i/2 ^ j.toNat)) ta tb):=qfC qpC K5 ha hb
def qrm (ha:E3 X a ta):E3 X (.UnaryOp .USub a pos) (u3 ZB ta):=qtF qmX qko ha
def qS:T->T->Option Bool
 |.non,.non=>some true|.non,.int _=>some false|.int _,.non=>some false|.non,.bl _=>some false|.bl _,.non=>some false|.non,.str _=>some false|.str _,.non=>some false
 |.int i,.int j=>some (decide (i=j))|.bl i,.bl j=>some (decide (i=j))|.str i,.str j=>some (decide (i=j))
 |.int _,.str _=>some false|.str _,.int _=>some false|.bl _,.str _=>some false|.str _,.bl _=>some false
 |_,_=>none
def qbD {K:Frg} {H:Hp} {x y:T} {v u:V} {k:Bool} (rx:Rp K H x v) (ry:Rp K H y u) (h:qS x y=some k):qrN v u=true/\decide (v=u)=k:=by
 cases rx<;>cases ry<;>simp [qS] at h<;>subst h<;>refine ⟨rfl,?_⟩<;>simp
def JF (neg:Bool):R3:=λx y G q=>match y with|.non=>q (.bl (match x with|.non=>!neg|_=>neg)) G|_=>False
def qgY {K:Frg} {H:Hp} {x:T} {v:V} (rx:Rp K H x v):decide (v=.non)=(match x with|.non=>true|_=>false):=by
 cases rx<;>simp
def UP {K:Frg}:RR K (JF false) (λx y H Q=>y=.non/\Q (.bl (decide (x=.non))) H):=λx y v u G H q Q hr rx ry h af=>by
 cases y<;>try exact h.elim
 cases ry;refine ⟨rfl,?_⟩;rw [qgY rx];refine af _ G h _ H ?_ hr Kp.refl;cases x<;>exact .bl _
def qgf {K:Frg}:RR K (JF true) (λx y H Q=>y=.non/\Q (.bl (!decide (x=.non))) H):=λx y v u G H q Q hr rx ry h af=>by
 cases y<;>try exact h.elim
 cases ry;refine ⟨rfl,?_⟩;rw [qgY rx];refine af _ G h _ H ?_ hr Kp.refl;cases x<;>exact .bl _
variable {tA tB:TT3} {VV:List Expr}
def ED (t u:TT3):TT3:=λτ G q=>t τ G λk G1=>if k=true then u τ G1 q else q false G1
def or3 (t u:TT3):TT3:=λτ G q=>t τ G λk G1=>if k=true then q true G1 else u τ G1 q
def JD (t:TT3):TT3:=λτ G q=>t τ G λk G1=>q (!k) G1
def qrp (ha:C3 X a tA):W3 X (.BoolOp .Or [a] pos) tA:=qor ha
def qtN (ha:C3 X a tA) (hb:W3 X (.BoolOp .Or (b::VV) pos) tB):W3 X (.BoolOp .Or (a::b::VV) pos) (or3 tA tB):=
 qtA (qqM ha hb) λ_ _ _ ⟨τ,G,q,rl,h,af⟩=>NR rl h λk G1 h1 H1 hr1 k1 rl1=>by
  cases k with
  |true=>rw [if_pos rfl] at h1 ⊢;exact af _ G1 h1 H1 hr1 k1
  |false=>rw [if_neg v7] at h1 ⊢;exact ⟨τ,G1,q,rl1,h1,af.back k1⟩
def qsj (ha:C3 X a tA):C3 X (.UnaryOp .Not a pos) (JD tA):=
 qr0 (qlJ ha) λ_ _ _ ⟨τ,G,q,rl,h,af⟩=>NR rl h λk G1 h1 H1 hr1 k1 rl1=>af _ G1 h1 H1 hr1 k1
def qso {e:Expr} {t:TE3} (h:E3 X e t) (he:∀ whole,isTrue e X.env whole=(do let v←whole;standAt e.pos;holding [v] (truthy v)):=by intro _;rfl):C3 X e (tb3 t):=
 qr0 (qnL h he) λ_ _ _ h=>qnH (λ_ _ _ h=>h) h
def qZ (ta tb:TE3):TE3:=λτ G q=>ta τ G λx G1=>match x with|.bl k=>if k=true then tb τ G1 q else q (.bl false) G1|_=>False
def EF (ta tb:TE3):TE3:=λτ G q=>ta τ G λx G1=>match x with|.bl k=>if k=true then q (.bl true) G1 else tb τ G1 q|_=>False
def zY (ta:TE3):TE3:=λτ G q=>ta τ G λx G1=>match x with|.bl k=>q (.bl (!k)) G1|_=>False
def qrX {op} (h:E3 X a ta):E3 X (.BoolOp op [a] pos) ta:=qlB h
def qrE (ha:E3 X a ta) (hb:E3 X (.BoolOp .And (b::VV) pos) tb):E3 X (.BoolOp .And (a::b::VV) pos) (qZ ta tb):=
 RK (qoo ha hb) λ_ _ _ ⟨τ,G,q,rl,h,af⟩=>zy rl h λx G1 h1 v H1 rx hr1 k1 rl1=>by
  cases x with
  |bl k=>
   cases rx;refine ⟨k,rfl,?_⟩;cases k with
   |true=>rw [if_pos rfl];exact ⟨τ,G1,q,rl1,(show tb τ G1 q from by simpa using h1),af.back k1⟩
   |false=>rw [if_neg v7];exact af _ G1 (by simpa using h1) _ H1 (.bl false) hr1 k1
  |_=>exact h1.elim
def qr8 (ha:E3 X a ta):E3 X (.UnaryOp .Not a pos) (zY ta):=
 RK (qmo ha) λ_ _ _ ⟨τ,G,q,rl,h,af⟩=>zy rl h λx G1 h1 v H1 rx hr1 k1 rl1=>by
  cases x with
  |bl k=>cases rx;exact ⟨k,rfl,af _ G1 h1 _ H1 (.bl _) hr1 k1⟩
  |_=>exact h1.elim
def if3 (t:TT3) (ta tb:TE3):TE3:=λτ G q=>t τ G λk G1=>if k=true then ta τ G1 q else tb τ G1 q
def qtH {c:Expr} (hc:C3 X c tA) (ha:E3 X a ta) (hb:E3 X b tb):E3 X (.IfExp c a b pos) (if3 tA ta tb):=
 RK (qe3 hc ha hb) λ_ _ _ ⟨τ,G,q,rl,h,af⟩=>NR rl h λk G1 h1 H1 hr1 k1 rl1=>by
  cases k with
  |true=>rw [if_pos rfl] at h1 ⊢;exact ⟨τ,G1,q,rl1,h1,af.back k1⟩
  |false=>rw [if_neg v7] at h1 ⊢;exact ⟨τ,G1,q,rl1,h1,af.back k1⟩
variable {e:Expr} {es:List Expr} {te:TE3} {t:TA3}
def qh:TA3:=λ_ G q=>q [] G
def qc (ta:TE3) (tr:TA3):TA3:=λτ G q=>ta τ G λx G1=>tr τ G1 λxs G2=>q (x::xs) G2
def qqX:A3 X [] qh:=qtg KI λ_ H _ ⟨τ,G,q,rl,h,af⟩=>af _ G h _ H .nil rl.hp Kp.refl
def qne (ha:E3 X e te) (hr:A3 X es t) (hs:starEach (e::es) X.env=(false,eval e X.env)::starEach es X.env:=by rfl):A3 X (e::es) (qc te t):=
 qtg (VE ha hr hs) λ_ _ _ ⟨τ,G,q,rl,h,af⟩=>zy rl h λx G1 h1 v H1 rx hr1 k1 rl1=>UK rl1 h1 λxs G2 h2 vs H2 rs hr2 k2 rl2=>
  af _ G2 h2 _ H2 (.cons (rx.keep hr1 k2) rs) hr2 (k1.trans k2)
def q0 (t:TA3):TE3:=λτ G q=>t τ G λxs G1=>xs.length<=sizeLine/\q (.tup xs) G1
def zX (t:TA3):TE3:=λτ G q=>t τ G λxs G1=>xs.length<=sizeLine/\∀ p,G1 p=none->q (.ref p) (gu G1 p (.lst xs))
def qra {x1} (h:A3 X es t):E3 X (.Tuple es x1 pos) (q0 t):=
 RK (qi4 h) λ_ _ _ ⟨τ,G,q,rl,h,af⟩=>UK rl h λxs G1 h1 vs H1 rs hr1 k1 rl1=>⟨by rw [← rs.length];exact h1.1,λp hp=>
  af _ G1 h1.2 _ _ (.tup (SqT.of zu) (rs.keep hr1 (Kp.laid hp))) (hr1.laid hp) (k1.trans (Kp.laid hp))⟩
def qrg (h:A3 X es t):E3 X (.List es pos) (zX t):=
 RK (ql7 h) λ_ _ _ ⟨τ,G,q,rl,h,af⟩=>UK rl h λxs G1 h1 vs H1 rs hr1 k1 rl1=>⟨by rw [← rs.length];exact h1.1,λp hp=>
  af _ _ (h1.2 p (hr1.free hp)) _ _ (.ref p) (hr1.newL hp rs) (k1.trans (Kp.newL hp))⟩
def qaq (K:Frg) (r3:List T->Gp->Q3->Prop) (r:List V->Hp->VK->Prop):Prop:=∀ xs vs G H q Q,HR K G H->Rps K H xs vs->r3 xs G q->Aft K G H q Q->r vs H Q
def cb3 (r:List T->Gp->Q3->Prop) (t:TA3):TE3:=λτ G q=>t τ G λxs G1=>r xs G1 q
def ql8 {K:Frg} {r3:List T->Gp->Q3->Prop} {r:List V->Hp->VK->Prop} (hr:qaq K r3 r) {σ:L2.St} {H:Hp} {Q:VK} (h:lE K (cb3 r3 t) σ H Q):tCB r (lA K t) σ H Q:=by
 obtain ⟨τ,G,q,rl,h,af⟩:=h;exact UK rl h λxs G1 h1 vs H1 rs hr1 k1 rl1=>hr xs vs G1 H1 q Q hr1 rs h1 (af.back k1)
def qjT {x:Str} {p:Pos} {id:String} {r3:List T->Gp->Q3->Prop} {r:List V->Hp->VK->Prop} (hc:JZ X (.builtin id) r) (hr:qaq X.K r3 r) (hg:Gl X x) (hm:X.mg x=none) (hv:bootBuiltins x=some (.builtin id)) (ha:A3 X (e::es) t) (hn:x≠"__name__" := by decide) (hdb:(x==("__debug__" : Str))=false:=by decide)
  (he:starEach (e::es) X.env=(false,eval e X.env)::starEach es X.env:=by rfl) (hpl:(backTo pos (starEach es X.env)).any (·.1)=false:=by rfl):E3 X (.Call (.Name x p) (e::es) [] pos) (cb3 r3 t):=
 RK (R0 hc hg hm hv ha hn hdb he hpl) λ_ _ _ h=>ql8 hr h
def qf5 {x:Str} {p:Pos} {ty:String} {r3:List T->Gp->Q3->Prop} {r:List V->Hp->VK->Prop} (hc:JZ X (.type ty) r) (hr:qaq X.K r3 r) (hg:Gl X x) (hm:X.mg x=none) (hv:bootBuiltins x=some (.type ty)) (ha:A3 X (e::es) t) (hn:x≠"__name__" := by decide) (hdb:(x==("__debug__" : Str))=false:=by decide)
  (he:starEach (e::es) X.env=(false,eval e X.env)::starEach es X.env:=by rfl) (hpl:(backTo pos (starEach es X.env)).any (·.1)=false:=by rfl):E3 X (.Call (.Name x p) (e::es) [] pos) (cb3 r3 t):=
 RK (NU hc hg hm hv ha hn hdb he hpl) λ_ _ _ h=>ql8 hr h
end
def getL (G:Gp) (p:Addr):Option (List T):=match G p with|some (.lst xs)=>some xs|some (.frz xs)=>some xs|_=>none
section
variable {K:Frg} {G G':Gp} {H H':Hp}
def zT (hr:HR K G H) {p:Addr} {xs:List T} (h:getL G p=some xs):∃ vs,SqL K H p vs/\Rps K H xs vs:=by
 unfold getL at h;split at h
 ·rename_i ys e;cases h;obtain ⟨vs,h1,h2⟩:=hr p _ e;exact ⟨vs,SqL.of h1,h2⟩
 ·rename_i ys e;cases h;obtain ⟨vs,⟨o,h1⟩,h2⟩:=hr p _ e;exact ⟨vs,.inl (.inr ⟨o,h1⟩),h2⟩
 ·cases h
theorem HR.lst (hr:HR K G H) {p:Addr} {xs:List T} (h:G p=some (.lst xs)):∃ vs,H p=some (.lst vs)/\Rps K H xs vs:=hr p _ h
theorem Rps.atI {xs:List T} {vs:List V} {i:Int} {x:T} (r:Rps K H xs vs) (h:atI xs i=some x):∃ v,L2.atI vs i=some v/\Rp K H x v:=by
 unfold L2.atI at h ⊢;rw [← r.length];cases e:ixN xs.length i with
 |none=>rw [e] at h;cases h
 |some j=>
  rw [e] at h;exact r.get (by simpa using h)
end
def ix3:R3:=λx y G q=>match x,y with
 |.tup xs,.int i=>(match atI xs i with|some z=>q z G|none=>False)
 |.ref p,.int i=>(match getL G p with|some xs=>(match atI xs i with|some z=>q z G|none=>False)|none=>False)
 |_,_=>False
section
variable {X:Cx} {a b c e:Expr} {es:List Expr} {ta tb tc te:TE3} {t:TA3} {pos:Pos}
def ql6 {K:Frg}:RR K ix3 (rIx K):=λx y v u G H q Q hr rx ry h af=>by
 cases x<;>try exact h.elim
 case tup xs=>
  cases y<;>try exact h.elim
  case int i=>
   unfold ix3 at h;simp only at h;split at h
   ·rename_i z e;cases ry;cases rx with
    |tup hs rs=>
     obtain ⟨w,e2,rw'⟩:=rs.atI e;exact .inr (.inl ⟨_,_,i,w,rfl,rfl,hs,e2,af z G h w H rw' hr Kp.refl⟩)
   ·exact h.elim
 case ref p=>
  cases y<;>try exact h.elim
  case int i=>
   unfold ix3 at h;simp only at h;split at h
   ·rename_i xs e0;split at h
    ·rename_i z e;cases ry;cases rx;obtain ⟨vs,hs,rs⟩:=zT hr e0;obtain ⟨w,e2,rw'⟩:=rs.atI e;exact .inl ⟨p,vs,i,w,rfl,rfl,hs,e2,af z G h w H rw' hr Kp.refl⟩
    ·exact h.elim
   ·exact h.elim
def qtE (ha:E3 X a ta) (hb:E3 X b tb) (hs:W8 b:=by intro _ _;rfl):E3 X (.Subscript a b pos) (o3 ix3 ta tb):=RK (qlI qlN ha hb hs) λ_ _ _ h=>qft ql6 h
def ZE {α:Type} (xs:List α) (lo hi:Option Int):List α:=(xs.drop (HT.sIx xs.length 0 lo)).take (HT.sIx xs.length xs.length hi-HT.sIx xs.length 0 lo)
def Rps.cut {K:Frg} {H:Hp} {xs:List T} {vs:List V} (r:Rps K H xs vs) (lo hi:Option Int):Rps K H (ZE xs lo hi) (qg4 vs lo hi):=by
 unfold ZE qg4;rw [r.length];exact (r.drop _).take _
abbrev TO3:=St3->Gp->(Option Int->Gp->Prop)->Prop
def lO (K:Frg) (t:TO3):TO:=λσ H Q=>∃ τ G q,Rel K τ G σ H/\t τ G q/\∀ x G',q x G'->∀ H',HR K G' H'->Kp G H G' H'->Q x H'
abbrev P3 (X:Cx) (e:Option Expr) (t:TO3):Prop:=PO X e (lO X.K t)
def np3:TO3:=λ_ G q=>q none G
def sp3 (t:TE3):TO3:=λτ G q=>t τ G λx G1=>match x with|.int i=>q (some i) G1|_=>False
def qs7 {X:Cx} {e:Option Expr} {t t':TO} (h:PO X e t) (w:∀ σ H Q,t' σ H Q->t σ H Q):PO X e t':=λpins s σ H Q I q=>h pins s σ H Q I (w σ H Q q)
def qqd:P3 X none np3:=qs7 qk4 λ_ H _ ⟨τ,G,q,rl,h,af⟩=>af none G h H rl.hp Kp.refl
def qn3 (h:E3 X e te):P3 X (some e) (sp3 te):=qs7 (qld h) λ_ _ _ ⟨τ,G,q,rl,h,af⟩=>zy rl h λx G1 h1 v H1 rx hr1 k1 rl1=>by
 cases x<;>try exact h1.elim
 cases rx;exact ⟨_,rfl,af _ G1 h1 H1 hr1 k1⟩
def sl3:T->Option Int->Option Int->Gp->Q3->Prop:=λx lo hi G q=>match x with
 |.tup xs=>¬ (HT.sIx xs.length 0 lo=0/\HT.sIx xs.length xs.length hi=xs.length)/\q (.tup (ZE xs lo hi)) G
 |.ref p=>(match getL G p with|some xs=>∀ a,G a=none->q (.ref a) (gu G a (.lst (ZE xs lo hi)))|none=>False)
 |_=>False
def J3 (te:TE3) (tl th:TO3):TE3:=λτ G q=>te τ G λx G1=>tl τ G1 λl G2=>th τ G2 λu G3=>sl3 x l u G3 q
def qjN {lo hi:Option Expr} {tl th:TO3} {p2:Pos} (he:E3 X e te) (hl:P3 X lo tl) (hu:P3 X hi th):E3 X (.Subscript e (.Slice lo hi none p2) pos) (J3 te tl th):=
 RK (qfs (qlo.or qkw) he hl hu) λ_ _ _ ⟨τ,G,q,rl,h,af⟩=>zy rl h λx G1 h1 v H1 rx hr1 k1 rl1=>
  ⟨τ,G1,_,rl1,h1,λl G2 h2 H2 hr2 k2=>⟨τ,G2,_,rl1.next hr2 k2,h2,λu G3 h3 H3 hr3 k3=>by
   have kk:=(k1.trans k2).trans k3;have rx3:=(rx.keep hr1 k2).keep hr2 k3;cases x<;>try exact h3.elim
   case tup xs=>
    cases rx3 with
    |tup hs rs=>
     refine .inl ⟨_,_,rfl,hs,by rw [← rs.length];exact h3.1,λp hp=>?_⟩;exact af _ G3 h3.2 _ _ (.tup (SqT.of zu) ((rs.cut _ _).keep hr3 (Kp.laid hp))) (hr3.laid hp) (kk.trans (Kp.laid hp))
   case ref p=>
    unfold sl3 at h3;simp only at h3;split at h3
    ·rename_i xs e0;cases rx3;obtain ⟨vs,hs,rs⟩:=zT hr3 e0;refine .inr ⟨p,vs,rfl,hs,λa ha=>?_⟩;exact af _ _ (h3 a (hr3.free ha)) _ _ (.ref a) (hr3.newL ha (rs.cut _ _)) (kk.trans (Kp.newL ha))
    ·exact h3.elim⟩⟩
def qd2 {K:Frg} {H:Hp} {xs:List T} {vs:List V} (r:Rps K H xs vs):vs=[]↔xs=[]:=by
 cases r<;>simp
def zf:R3:=λx y G q=>match x,y with
 |.tup xs,.tup ys=>xs≠[]/\xs.length+ys.length<=sizeLine/\q (.tup (xs++ys)) G
 |.ref a,.ref b=>(match G a,G b with|some (.lst xs),some (.lst ys)=>xs.length+ys.length<=sizeLine/\∀ p,G p=none->q (.ref p) (gu G p (.lst (xs++ys)))|_,_=>False)
 |.int i,.int j=>q (.int (i+j)) G
 |_,_=>False
def qjb {K:Frg}:RR K zf (λx y H Q=>(rI0 (λi j=>.int (i+j)) x y H Q\/qo2 K x y H Q)\/qsU x y H Q):=λx y v u G H q Q hr rx ry h af=>by
 cases x<;>try exact h.elim
 case int i=>
  cases y<;>try exact h.elim
  cases rx;cases ry;exact .inl (.inl ⟨_,_,rfl,rfl,af _ G h _ H (.int _) hr Kp.refl⟩)
 case tup xs=>
  cases y<;>try exact h.elim
  case tup ys=>
   obtain ⟨h1,h2,h3⟩:=h;cases rx with
   |tup hs rs=>
    cases ry with
    |tup hs' rs'=>
     refine .inl (.inr ⟨_,_,_,_,rfl,rfl,hs,hs',λz=>h1 ((qd2 rs).mp z),by rw [← rs.length,← rs'.length];exact h2,λz=>?_,λz p hp=>?_⟩)
     ·have e:=(qd2 rs').mp z;subst e;rw [List.append_nil] at h3;exact af _ G h3 _ H (.tup hs rs) hr Kp.refl
     ·exact af _ G h3 _ _ (.tup (SqT.of zu) ((rs.append rs').keep hr (Kp.laid hp))) (hr.laid hp) (Kp.laid hp)
 case ref a=>
  cases y<;>try exact h.elim
  case ref b=>
   unfold zf at h;simp only at h;split at h
   ·rename_i xs ys e1 e2;cases rx;cases ry;obtain ⟨vs,g1,r1⟩:=hr.lst e1;obtain ⟨us,g2,r2⟩:=hr.lst e2;refine .inr ⟨a,b,vs,us,rfl,rfl,g1,g2,by rw [← r1.length,← r2.length];exact h.1,λp hp=>?_⟩;exact af _ _ (h.2 p (hr.free hp)) _ _ (.ref p) (hr.newL hp (r1.append r2)) (Kp.newL hp)
   ·exact h.elim
def qmF (ha:E3 X a ta) (hb:E3 X b tb):E3 X (.BinOp a .Add b pos) (o3 zf ta tb):=qfC ((qnZ.or qjf).or qma) qjb ha hb
def zx:T->Bool
 |.non=>true|.bl _=>true|.int _=>true|.str _=>true|_=>false
def eqF:T->T->Bool
 |.non,.non=>true
 |.bl a,.bl b=>a==b
 |.bl a,.int b=>(if a then 1 else 0)==b
 |.int a,.bl b=>a==(if b then 1 else 0)
 |.int a,.int b=>a==b
 |.str a,.str b=>a==b
 |_,_=>false
def W7 {K:Frg} {H:Hp} {x:T} {v:V} (r:Rp K H x v) (h:zx x=true):T7 v=true:=by
 cases r<;>first|rfl|(cases h)
theorem ML {K:Frg} {H:Hp}:∀ {x:List T} {v:List V},Rps K H x v->x.all zx=true->v.all T7=true
 |_,_,.nil,_=>rfl
 |_,_,.cons a b,h=>by
  rw [List.all_cons,Bool.and_eq_true] at h ⊢;exact ⟨W7 a h.1,ML b h.2⟩
def qpO {K:Frg} {H:Hp} {x y:T} {v u:V} (r:Rp K H x v) (s:Rp K H y u) (h:zx x=true) (h':zx y=true):eqV v u=eqF x y:=by
 cases r<;>first|(cases h;done)|(cases s<;>first|rfl|(cases h';done))
theorem qc9 {K:Frg} {H:Hp} {x:T} {v:V} (r:Rp K H x v) (h:zx x=true):∀ {ys:List T} {us:List V},Rps K H ys us->ys.all zx=true->inV v us=ys.any λy=>eqF y x
 |_,_,.nil,_=>rfl
 |_,_,.cons a b,h'=>by
  rw [List.all_cons,Bool.and_eq_true] at h';unfold inV;rw [List.any_cons,List.any_cons,qpO a r h'.1 h];congr 1;exact qc9 r h b h'.2
def in3 (neg:Bool):R3:=λx y G q=>zx x=true/\match y with
 |.tup ys=>ys.all zx=true/\q (.bl (if neg then !(ys.any λy=>eqF y x) else (ys.any λy=>eqF y x))) G
 |.ref p=>(match getL G p with|some ys=>ys.all zx=true/\q (.bl (if neg then !(ys.any λy=>eqF y x) else (ys.any λy=>eqF y x))) G|none=>False)
 |_=>False
def qm4 {K:Frg} {neg:Bool}:RR K (in3 neg) (rIn K neg):=λx y v u G H q Q hr rx ry h af=>by
 obtain ⟨hf,h⟩:=h;cases y<;>try exact h.elim
 case tup ys=>
  cases ry with
  |tup hs rs=>
   refine ⟨_,_,rfl,.inr hs,W7 rx hf,ML rs h.1,?_⟩;rw [qc9 rx hf rs h.1];exact af _ G h.2 _ H (.bl _) hr Kp.refl
 case ref p=>
  simp only at h;split at h
  ·rename_i ys e;cases ry;obtain ⟨us,hs,rs⟩:=zT hr e;refine ⟨_,_,rfl,.inl hs,W7 rx hf,ML rs h.1,?_⟩;rw [qc9 rx hf rs h.1];exact af _ G h.2 _ H (.bl _) hr Kp.refl
  ·exact h.elim
def jP:List T->Gp->Q3->Prop:=λxs G q=>match xs with
 |[.tup ys]=>q (.int ys.length) G
 |[.str y]=>y.length<=sizeLine/\q (.int y.length) G
 |[.ref p]=>(match getL G p with|some ys=>q (.int ys.length) G|none=>False)
 |_=>False
def LQ {K:Frg} {H:Hp} {x:T} {vs:List V} (r:Rps K H [x] vs):∃ v,vs=[v]/\Rp K H x v:=by
 cases r with
 |cons a b=>cases b;exact ⟨_,rfl,a⟩
def qoq {K:Frg} {H:Hp} {x y:T} {vs:List V} (r:Rps K H [x,y] vs):∃ v u,vs=[v,u]/\Rp K H x v/\Rp K H y u:=by
 cases r with
 |cons a b=>cases b with|cons c d=>cases d;exact ⟨_,_,rfl,a,c⟩
def zR {K:Frg}:qaq K jP (λxs H Q=>∃ x n,xs=[x]/\qsJ K x H n/\Q (.int n) H):=λxs vs G H q Q hr rs h af=>by
 unfold jP at h;split at h
 ·obtain ⟨v,rfl,r⟩:=LQ rs;cases r with
  |tup hs r2=>exact ⟨_,_,rfl,.inr ⟨_,hs,rfl⟩,by rw [← r2.length];exact af _ G h _ H (.int _) hr Kp.refl⟩
 ·obtain ⟨v,rfl,r⟩:=LQ rs;cases r;exact ⟨_,_,rfl,⟨h.1,rfl⟩,af _ G h.2 _ H (.int _) hr Kp.refl⟩
 ·obtain ⟨v,rfl,r⟩:=LQ rs;split at h
  ·rename_i ys e;cases r;obtain ⟨us,hs,r2⟩:=zT hr e;exact ⟨_,_,rfl,.inl ⟨_,hs,rfl⟩,by rw [← r2.length];exact af _ G h _ H (.int _) hr Kp.refl⟩
  ·exact h.elim
 ·exact h.elim
def JS:List T->Gp->Q3->Prop:=λxs G q=>match xs with|[.int i]=>q (.int (if i<0 then -i else i)) G|_=>False
def MZ {K:Frg}:qaq K JS (λxs H Q=>∃ i,xs=[.int i]/\Q (.int (if i<0 then -i else i)) H):=λxs vs G H q Q hr rs h af=>by
 unfold JS at h;split at h
 ·obtain ⟨v,rfl,r⟩:=LQ rs;cases r;exact ⟨_,rfl,af _ G h _ H (.int _) hr Kp.refl⟩
 ·exact h.elim
def VQ:List T->Gp->Q3->Prop:=λxs G q=>match xs with|[.int i,.int j]=>q (.int (if j<i then j else i)) G|_=>False
def qjq {K:Frg}:qaq K VQ (λxs H Q=>∃ i j,xs=[.int i,.int j]/\Q (.int (if j<i then j else i)) H):=λxs vs G H q Q hr rs h af=>by
 unfold VQ at h;split at h
 ·obtain ⟨v,u,rfl,r,r'⟩:=qoq rs;cases r;cases r';exact ⟨_,_,rfl,af _ G h _ H (.int _) hr Kp.refl⟩
 ·exact h.elim
def VR:List T->Gp->Q3->Prop:=λxs G q=>match xs with|[.int i,.int j]=>q (.int (if j > i then j else i)) G|_=>False
def qkW {K:Frg}:qaq K VR (λxs H Q=>∃ i j,xs=[.int i,.int j]/\Q (.int (if j > i then j else i)) H):=λxs vs G H q Q hr rs h af=>by
 unfold VR at h;split at h
 ·obtain ⟨v,u,rfl,r,r'⟩:=qoq rs;cases r;cases r';exact ⟨_,_,rfl,af _ G h _ H (.int _) hr Kp.refl⟩
 ·exact h.elim
def JT:List T->Gp->Q3->Prop:=λxs G q=>match xs with|[.int i]=>q (.int i) G|[.bl k]=>q (.int (if k then 1 else 0)) G|_=>False
def qba {K:Frg}:qaq K JT (λxs H Q=>(∃ i,xs=[.int i]/\Q (.int i) H)\/∃ k,xs=[.bl k]/\Q (.int (if k then 1 else 0)) H):=λxs vs G H q Q hr rs h af=>by
 unfold JT at h;split at h
 ·obtain ⟨v,rfl,r⟩:=LQ rs;cases r;exact .inl ⟨_,rfl,af _ G h _ H (.int _) hr Kp.refl⟩
 ·obtain ⟨v,rfl,r⟩:=LQ rs;cases r;exact .inr ⟨_,rfl,af _ G h _ H (.int _) hr Kp.refl⟩
 ·exact h.elim
def qF:List T->Gp->Q3->Prop:=λxs G q=>match xs with
 |[.tup ys]=>q (.tup ys) G
 |[.ref p]=>(match getL G p with|some ys=>q (.tup ys) G|none=>False)
 |_=>False
def jp {K:Frg}:qaq K qF (λxs H Q=>∃ p ys,xs=[.ref p]/\((SqL K H p ys/\∀ l,H l=none->Q (.ref l) (upd H l (.tup ys)))\/(SqT K H p ys/\Q (.ref p) H))):=λxs vs G H q Q hr rs h af=>by
 unfold qF at h;split at h
 ·obtain ⟨v,rfl,r⟩:=LQ rs;cases r with
  |tup hs r2=>exact ⟨_,_,rfl,.inr ⟨hs,af _ G h _ H (.tup hs r2) hr Kp.refl⟩⟩
 ·obtain ⟨v,rfl,r⟩:=LQ rs;split at h
  ·rename_i ys e;cases r;obtain ⟨us,hs,r2⟩:=zT hr e;exact ⟨_,_,rfl,.inl ⟨hs,λl hl=>af _ G h _ _ (.tup (SqT.of zu) (r2.keep hr (Kp.laid hl))) (hr.laid hl) (Kp.laid hl)⟩⟩
  ·exact h.elim
 ·exact h.elim
def zS:List T->Gp->Q3->Prop:=λxs G q=>match xs with
 |[.tup ys]=>∀ p,G p=none->q (.ref p) (gu G p (.lst ys))
 |[.ref p]=>(match getL G p with|some ys=>∀ p,G p=none->q (.ref p) (gu G p (.lst ys))|none=>False)
 |_=>False
def qbI {K:Frg}:qaq K zS (λxs H Q=>∃ p ys,xs=[.ref p]/\(SqL K H p ys\/SqT K H p ys)/\∀ l,H l=none->Q (.ref l) (upd H l (.lst ys))):=λxs vs G H q Q hr rs h af=>by
 unfold zS at h;split at h
 ·obtain ⟨v,rfl,r⟩:=LQ rs;cases r with
  |tup hs r2=>exact ⟨_,_,rfl,.inr hs,λl hl=>af _ _ (h l (hr.free hl)) _ _ (.ref l) (hr.newL hl r2) (Kp.newL hl)⟩
 ·obtain ⟨v,rfl,r⟩:=LQ rs;split at h
  ·rename_i ys e;cases r;obtain ⟨us,hs,r2⟩:=zT hr e;exact ⟨_,_,rfl,.inl hs,λl hl=>af _ _ (h l (hr.free hl)) _ _ (.ref l) (hr.newL hl r2) (Kp.newL hl)⟩
  ·exact h.elim
 ·exact h.elim
def YI:T->List T->Gp->Q3->Prop:=λx xs G q=>match x,xs with
 |.ref l,[.ref b]=>(match G l,G b with|some (.lst ys),some (.lst zs)=>ys.length+zs.length<=sizeLine/\q .non (gu G l (.lst (ys++zs)))|_,_=>False)
 |_,_=>False
def JI:T->List T->Gp->Q3->Prop:=λx xs G q=>match x,xs with
 |.ref l,[y]=>(match G l with|some (.lst ys)=>ys.length<sizeLine/\q .non (gu G l (.lst (ys++[y])))|_=>False)
 |_,_=>False
def qqy (K:Frg) (r3:T->List T->Gp->Q3->Prop) (r:V->List V->Hp->VK->Prop):Prop:=∀ x xs v vs G H q Q,HR K G H->Rp K H x v->Rps K H xs vs->r3 x xs G q->Aft K G H q Q->r v vs H Q
def qjE {K:Frg}:qqy K YI qdZ:=λx xs v vs G H q Q hr rx rs h af=>by
 unfold YI at h;split at h
 ·rename_i l b;split at h
  ·rename_i ys zs e1 e2;cases rx;obtain ⟨u,rfl,r⟩:=LQ rs;cases r;obtain ⟨vs,g1,r1⟩:=hr.lst e1;obtain ⟨us,g2,r2⟩:=hr.lst e2;exact ⟨l,b,vs,us,rfl,rfl,g1,g2,by rw [← r1.length,← r2.length];exact h.1,af _ _ h.2 _ _ .non (hr.wr e1 (r1.append r2)) (Kp.wr e1)⟩
  ·exact h.elim
 ·exact h.elim
def qjW {K:Frg}:qqy K JI qde:=λx xs v vs G H q Q hr rx rs h af=>by
 unfold JI at h;split at h
 ·rename_i l y;split at h
  ·rename_i ys e1;cases rx;obtain ⟨u,rfl,r⟩:=LQ rs;obtain ⟨vs,g1,r1⟩:=hr.lst e1;exact ⟨l,vs,u,rfl,rfl,g1,by rw [← r1.length];exact h.1,af _ _ h.2 _ _ .non (hr.wr e1 (r1.append (.cons r .nil))) (Kp.wr e1)⟩
  ·exact h.elim
 ·exact h.elim
def bm3 (r:T->List T->Gp->Q3->Prop) (to:TE3) (t:TA3):TE3:=λτ G q=>to τ G λx G1=>(match x with|.ref p=>(getL G1 p).isSome=true|_=>False)/\t τ G1 λxs G2=>r x xs G2 q
def qqW {o:Expr} {to:TE3} {name:Str} {apos cpos:Pos} {id:String} {r3:T->List T->Gp->Q3->Prop} {r:V->List V->Hp->VK->Prop} (slot:Slot "list" name id) (hty:typeOf (.builtin id)=pure (.type "method_descriptor")) (hm:MtR X id r) (hr:qqy X.K r3 r) (ho:E3 X o to) (ha:A3 X (e::es) t)
  (hbase:attributeBase o name X.env (eval o X.env)=eval o X.env:=by rfl)
  (hfew:((backTo cpos (starEach (e::es) X.env)).all (λx=>!x.1)&&(backToKw cpos (keywordEach [] X.env)).all (λx=>x.1.isSome)
   && decide ((e::es).length+([]:List Keyword).length+(if ([]:List Keyword).isEmpty then 0 else 1)<30))=true:=by rfl)
  (hline:(apos.endLine==cpos.line)=true:=by rfl) (hs:starEach (e::es) X.env=(false,eval e X.env)::starEach es X.env:=by rfl) (hplain:(backTo cpos (starEach es X.env)).any (·.1)=false:=by rfl) :
  E3 X (.Call (.Attribute o name apos) (e::es) [] cpos) (bm3 r3 to t):=
 RK (qrb PySem.F.plainAttrs_list slot hty hm ho ha hbase hfew hline hs hplain) λ_ _ _ ⟨τ,G,q,rl,h,af⟩=>zy rl h λx G1 h1 v H1 rx hr1 k1 rl1=>by
  obtain ⟨hp,h1⟩:=h1;cases x<;>try exact hp.elim
  case ref p=>
   cases rx;have hp':(getL G1 p).isSome=true:=hp;obtain ⟨ys,e⟩:=Option.isSome_iff_exists.mp hp';obtain ⟨us,hs,r2⟩:=zT hr1 e;exact ⟨.inl ⟨rfl,us,hs⟩,UK rl1 h1 λxs G2 h2 vs H2 rs hr2 k2 rl2=>hr _ xs _ vs G2 H2 q _ hr2 (.ref p) rs h2 (af.back (k1.trans k2))⟩
def qe8 {o:Expr} {to:TE3} {apos cpos:Pos} (ho:E3 X o to) (ha:A3 X [e] t)
  (hbase:attributeBase o "append" X.env (eval o X.env)=eval o X.env:=by rfl)
  (hfew:((backTo cpos (starEach [e] X.env)).all (λx=>!x.1)&&(backToKw cpos (keywordEach [] X.env)).all (λx=>x.1.isSome)
   && decide (([e]:List Expr).length+([]:List Keyword).length+(if ([]:List Keyword).isEmpty then 0 else 1)<30))=true:=by rfl)
  (hline:(apos.endLine==cpos.line)=true:=by rfl) (hs:starEach [e] X.env=(false,eval e X.env)::starEach [] X.env:=by rfl) (hplain:(backTo cpos (starEach [] X.env)).any (·.1)=false:=by rfl) :
  E3 X (.Call (.Attribute o "append" apos) [e] [] cpos) (bm3 JI to t):=qqW PySem.F.slot_list_append PySem.F.type_list_append WU qjW ho ha hbase hfew hline hs hplain
def qfk {o:Expr} {to:TE3} {apos cpos:Pos} (ho:E3 X o to) (ha:A3 X [e] t)
  (hbase:attributeBase o "extend" X.env (eval o X.env)=eval o X.env:=by rfl)
  (hfew:((backTo cpos (starEach [e] X.env)).all (λx=>!x.1)&&(backToKw cpos (keywordEach [] X.env)).all (λx=>x.1.isSome)
   && decide (([e]:List Expr).length+([]:List Keyword).length+(if ([]:List Keyword).isEmpty then 0 else 1)<30))=true:=by rfl)
  (hline:(apos.endLine==cpos.line)=true:=by rfl) (hs:starEach [e] X.env=(false,eval e X.env)::starEach [] X.env:=by rfl) (hplain:(backTo cpos (starEach [] X.env)).any (·.1)=false:=by rfl) :
  E3 X (.Call (.Attribute o "extend" apos) [e] [] cpos) (bm3 YI to t):=qqW PySem.F.slot_list_extend PySem.F.type_list_extend qeo qjE ho ha hbase hfew hline hs hplain
end
def tyT (G:Gp):T->Option String
 |.non=>some "NoneType" |.bl _=>some "bool" |.int _=>some "int" |.str _=>some "str" |.tup _=>some "tuple"
 |.ref p=>if (getL G p).isSome then some "list" else none
def je (t c:String):Bool:=t==c||(t == "bool" && c == "int")
def LA (K:Frg):∀ t∈["NoneType","bool","int","str","tuple","list"],∀ c∈["bool","int","str","tuple","list"],PySem.W.kitOne K (.type t) (.type c)=some (je t c):=by
 intro t ht c hc;simp only [mem_cons,not_mem_nil,or_false] at ht hc;rcases ht with rfl|rfl|rfl|rfl|rfl|rfl<;>rcases hc with rfl|rfl|rfl|rfl|rfl<;>kernel_rfl
section
variable {X:Cx} {a b c e:Expr} {es:List Expr} {ta tb tc te:TE3} {t:TA3} {pos:Pos}
def TyS (K:Frg) (H:Hp) (x:V) (t:String):Prop:=match x with
 |.non=>t="NoneType" |.bl _=>t="bool" |.int _=>t="int" |.str _=>t="str"
 |.ref a=>(t="tuple"/\∃ vs,SqT K H a vs)\/(t="list"/\∃ vs,SqL K H a vs)
 |_=>False
def TyS.mem {K:Frg} {H:Hp} {x:V} {t:String} (h:TyS K H x t):t∈["NoneType","bool","int","str","tuple","list"]:=by
 cases x<;>simp [TyS] at h<;>first|(subst h;decide)|(rcases h with ⟨rfl,_⟩|⟨rfl,_⟩<;>decide)
def TyS.kitx {pins:List (Addr×Obj)} {σ:L2.St} {H:Hp} {s:Shared} {x:V} {u:Value} {t:String} (I:Inv X pins σ H s) (rx:jQ x u) (h:TyS X.K H x t) :
  ∃ HH:Heap->Prop,PySem.W.KitX X.K u (.type t) HH/\HH s.heap/\u≠.builtin "__main__.__loader__#opaque" := by
 cases x with
 |non=>cases (show u=Value.none from rx);cases (show t=_ from h);exact ⟨_,PySem.W.kitx_none,True.intro,λz=>nomatch z⟩
 |bl y=>cases (show u=Value.bool y from rx);cases (show t=_ from h);exact ⟨_,PySem.W.kitx_bool,True.intro,λz=>nomatch z⟩
 |int i=>obtain ⟨tk,q⟩:=(show ∃ t,u=Value.int i t from rx);cases q;cases (show t=_ from h);exact ⟨_,PySem.W.kitx_int,True.intro,λz=>nomatch z⟩
 |str y=>obtain ⟨tk,q⟩:=(show ∃ t,u=Value.str y t from rx);cases q;cases (show t=_ from h);exact ⟨_,PySem.W.kitx_str,True.intro,λz=>nomatch z⟩
 |ref a=>
  cases (show u=Value.ref a from rx);rcases (show (t="tuple"/\∃ vs,SqT X.K H a vs)\/(t="list"/\∃ vs,SqL X.K H a vs) from h) with ⟨rfl,vs,hs⟩|⟨rfl,vs,hs⟩
  ·obtain ⟨its,_,p,_⟩:=I.tuple hs;obtain ⟨o,h1,h2,_⟩:=p;exact ⟨_,PySem.W.kitx_tuple,⟨o,h1,h2⟩,λz=>nomatch z⟩
  ·obtain ⟨its,_,p,_⟩:=I.list hs;obtain ⟨o,n,h1,h2,_⟩:=p;exact ⟨_,PySem.W.kitx_list,⟨o,h1,h2⟩,λz=>nomatch z⟩
 |_=>exact False.elim h
abbrev Z2:List String:=["bool","int","str","tuple","list"]
def qe6:JZ X (.builtin "isinstance") (λxs H Q=>∃ x t c,xs=[x,.ty c]/\TyS X.K H x t/\c∈Z2/\Q (.bl (je t c)) H):=by
 intro pins s σ H xs us Q I r h;obtain ⟨x,t,c,rfl,ht,hc,q⟩:=h;obtain ⟨u,w,rfl,rx,rc⟩:=qcL r;cases (show w=Value.type c from rc);obtain ⟨HH,kx,hh,ne⟩:=ht.kitx I rx;exact PySem.W.kia_one kx I.kIn hh (LA X.K t ht.mem c hc) ne λtk=>⟨.bl _,H,I.tok tk,rfl,q⟩
def qfz (K:Frg) {t c d:String} (ht:t∈["NoneType","bool","int","str","tuple","list"]) (hc:c∈Z2) (hd:d∈Z2):PySem.W.kitAny K (.type t) [.type c,.type d]=some (je t c||je t d):=by
 unfold PySem.W.kitAny;rw [LA K t ht c hc];cases je t c with
 |true=>rfl
 |false=>
  show PySem.W.kitAny K (.type t) [.type d]=_;unfold PySem.W.kitAny;rw [LA K t ht d hd];cases je t d<;>rfl
def qdQ:JZ X (.builtin "isinstance") (λxs H Q=>∃ x t c d p,xs=[x,.ref p]/\H p=some (.tup [.ty c,.ty d])/\TyS X.K H x t/\c∈Z2/\d∈Z2/\Q (.bl (je t c||je t d)) H):=by
 intro pins s σ H xs us Q I r h;obtain ⟨x,t,c,d,p,rfl,hp,ht,hc,hd,q⟩:=h;obtain ⟨u,w,rfl,rx,rc⟩:=qcL r;cases (show w=Value.ref p from rc);obtain ⟨HH,kx,hh,ne⟩:=ht.kitx I rx;obtain ⟨_,its,rv,⟨o,ho,hcl,n,hda,_⟩⟩:=(show UC X.prog X.w H s.heap p (.tup [.ty c,.ty d]) from I.hok p _ hp)
 obtain ⟨u1,u2,rfl,r1,r2⟩:=qcL rv;cases (show u1=Value.type c from r1);cases (show u2=Value.type d from r2);obtain ⟨cl,dd,da,sl⟩:=o;cases (show cl=_ from hcl);cases (show da=_ from hda);exact PySem.W.kia_tup kx I.kIn hh ho (qfz X.K ht.mem hc hd) ne λtk=>⟨.bl _,H,I.tok tk,rfl,q⟩
def qit {K:Frg} {G:Gp} {H:Hp} (hr:HR K G H) {x:T} {v:V} {t:String} (r:Rp K H x v) (h:tyT G x=some t):TyS K H v t:=by
 cases r with
 |non=>cases h;rfl
 |bl _=>cases h;rfl
 |int _=>cases h;rfl
 |str _=>cases h;rfl
 |tup hs rs=>cases h;exact .inl ⟨rfl,_,hs⟩
 |ref a=>
  have h:(if (getL G a).isSome then some "list" else none)=some t:=h;split at h
  ·rename_i e;cases h;obtain ⟨ys,e⟩:=Option.isSome_iff_exists.mp e;obtain ⟨us,hs,_⟩:=zT hr e;exact .inr ⟨rfl,us,hs⟩
  ·cases h
def QP (f:String->Bool) (te:TE3):TE3:=λτ G q=>te τ G λx G1=>match tyT G1 x with|some t=>q (.bl (f t)) G1|none=>False
def qrC {tn:Str} {ty:String} {p p2:Pos} (he:E3 X e te) (hg:Gl X "isinstance") (hm:X.mg "isinstance" = none) (hg2:Gl X tn) (hm2:X.mg tn=none) (hv:bootBuiltins tn=some (.type ty)) (hmem:ty∈Z2:=by decide) (hn:tn≠"__name__" := by decide) (hdb:(tn==("__debug__" : Str))=false:=by decide)
  (hs:starEach [e,.Name tn p2] X.env=(false,eval e X.env)::starEach [.Name tn p2] X.env:=by rfl) (hs2:starEach [.Name tn p2] X.env=(false,eval (.Name tn p2) X.env)::starEach [] X.env:=by rfl) (hpl:(backTo pos (starEach [.Name tn p2] X.env)).any (·.1)=false:=by rfl) :
  E3 X (.Call (.Name "isinstance" p) [e,.Name tn p2] [] pos) (QP (λt=>je t ty) te):=
 RK (R0 qe6 hg hm PyProof.Rows.boot_isinstance (VE he (VE (qaX (v:=.ty ty) hg2 hm2 hv rfl hn hdb) KI hs2) hs) (by decide) (by decide) hs hpl)
  λ_ _ _ ⟨τ,G,q,rl,h,af⟩=>zy rl h λx G1 h1 v H1 rx hr1 k1 rl1=>by
   split at h1
   ·rename_i t e1;exact ⟨_,t,ty,rfl,qit hr1 rx e1,hmem,af _ G1 h1 _ H1 (.bl _) hr1 k1⟩
   ·exact h1.elim
def qmW {tn tn':Str} {ty ty':String} {p p2 p3 p4:Pos} {x1} (he:E3 X e te) (hg:Gl X "isinstance") (hm:X.mg "isinstance" = none) (hg2:Gl X tn) (hm2:X.mg tn=none) (hv:bootBuiltins tn=some (.type ty)) (hg3:Gl X tn') (hm3:X.mg tn'=none) (hv3:bootBuiltins tn'=some (.type ty'))
  (hmem:ty∈Z2:=by decide) (hn:tn≠"__name__" := by decide) (hdb:(tn==("__debug__" : Str))=false:=by decide) (hmem3:ty'∈Z2:=by decide) (hn3:tn'≠"__name__" := by decide) (hdb3:(tn'==("__debug__" : Str))=false:=by decide)
  (hs:starEach [e,.Tuple [.Name tn p2,.Name tn' p3] x1 p4] X.env=(false,eval e X.env)::starEach [.Tuple [.Name tn p2,.Name tn' p3] x1 p4] X.env:=by rfl) (hs2:starEach [.Tuple [.Name tn p2,.Name tn' p3] x1 p4] X.env=(false,eval (.Tuple [.Name tn p2,.Name tn' p3] x1 p4) X.env)::starEach [] X.env:=by rfl)
  (hs3:starEach [.Name tn p2,.Name tn' p3] X.env=(false,eval (.Name tn p2) X.env)::starEach [.Name tn' p3] X.env:=by rfl) (hs4:starEach [.Name tn' p3] X.env=(false,eval (.Name tn' p3) X.env)::starEach [] X.env:=by rfl)
  (hpl:(backTo pos (starEach [.Tuple [.Name tn p2,.Name tn' p3] x1 p4] X.env)).any (·.1)=false:=by rfl) :
  E3 X (.Call (.Name "isinstance" p) [e,.Tuple [.Name tn p2,.Name tn' p3] x1 p4] [] pos) (QP (λt=>je t ty||je t ty') te):=
 RK (R0 qdQ hg hm PyProof.Rows.boot_isinstance (VE he (VE (qi4 (VE (qaX (v:=.ty ty) hg2 hm2 hv rfl hn hdb) (VE (qaX (v:=.ty ty') hg3 hm3 hv3 rfl hn3 hdb3) KI hs4) hs3)) KI hs2) hs) (by decide) (by decide) hs hpl)
  λ_ _ _ ⟨τ,G,q,rl,h,af⟩=>zy rl h λx G1 h1 v H1 rx hr1 k1 rl1=>by
   refine ⟨by show 2<=sizeLine;decide,λpp hp=>?_⟩;split at h1
   ·rename_i t e1;have hr2:=hr1.laid (ho:=.tup [.ty ty,.ty ty']) hp;have kk:Kp G1 H1 G1 (upd H1 pp (.tup [.ty ty,.ty ty'])):=Kp.laid hp;exact ⟨_,t,ty,ty',pp,rfl,zu,qit hr2 (rx.keep hr1 kk) e1,hmem,hmem3,af _ G1 h1 _ _ (.bl _) hr2 (k1.trans kk)⟩
   ·exact h1.elim
structure Ends3 where
 nx:St3->Gp->Prop
 rt:Q3
 bk:St3->Gp->Prop:=λ_ _=>False
 ct:St3->Gp->Prop:=λ_ _=>False
abbrev TS3:=Ends3->St3->Gp->Prop
def qgW (K:Frg) (G:Gp) (H:Hp) (q:St3->Gp->Prop) (Q:L2.St->Hp->Prop):Prop:=∀ τ G',q τ G'->∀ σ H',Rel K τ G' σ H'->Kp G H G' H'->Q σ H'
structure AftD (K:Frg) (G:Gp) (H:Hp) (d:Ends3) (D:Ends):Prop where
 nx:qgW K G H d.nx D.nx
 rt:Aft K G H d.rt D.rt
 bk:qgW K G H d.bk D.bk
 ct:qgW K G H d.ct D.ct
def qgW.back {K:Frg} {G G1:Gp} {H H1:Hp} {q:St3->Gp->Prop} {Q:L2.St->Hp->Prop} (a:qgW K G H q Q) (k:Kp G H G1 H1):qgW K G1 H1 q Q:=λx G' h v H' r k'=>a x G' h v H' r (k.trans k')
theorem AftD.back {K:Frg} {G G1:Gp} {H H1:Hp} {d:Ends3} {D:Ends} (a:AftD K G H d D) (k:Kp G H G1 H1):AftD K G1 H1 d D:=⟨a.nx.back k,a.rt.back k,a.bk.back k,a.ct.back k⟩
def lS (K:Frg) (t:TS3):TS:=λD σ H=>∃ τ G d,Rel K τ G σ H/\t d τ G/\AftD K G H d D
abbrev S3 (X:Cx) (st:Stmt) (t:TS3):Prop:=PS X st (lS X.K t)
abbrev B3 (X:Cx) (st:List Stmt) (t:TS3):Prop:=PSs X st (lS X.K t)
def qeU {X:Cx} {st:Stmt} {t t':TS} (h:PS X st t) (w:∀ D σ H,t' D σ H->t D σ H):PS X st t':=λpins s σ H D I q=>h pins s σ H D I (w D σ H q)
def qph {X:Cx} {st:List Stmt} {t t':TS} (h:PSs X st t) (w:∀ D σ H,t' D σ H->t D σ H):PSs X st t':=λpins s σ H D I q=>h pins s σ H D I (w D σ H q)
variable {st:Stmt} {VV:List Stmt} {t1 t2:TS3} {tA:TT3}
def qt:TS3:=λd τ G=>d.nx τ G
def qw (t u:TS3):TS3:=λd τ G=>t { d with nx:=u d } τ G
def qsk:B3 X [] qt:=qph qkq λ_ σ H ⟨τ,G,d,rl,h,af⟩=>af.nx τ G h σ H rl Kp.refl
def ql4 (h1:S3 X st t1) (h2:B3 X VV t2):B3 X (st::VV) (qw t1 t2):=qph (qfI h1 h2) λD σ H ⟨τ,G,d,rl,h,af⟩=>
 ⟨τ,G,{ d with nx:=t2 d },rl,h,⟨λτ' G' h' σ' H' rl' k'=>⟨τ',G',d,rl',h',af.back k'⟩,af.rt,af.bk,af.ct⟩⟩
def qr5 (h1:S3 X st t1):B3 X [st] t1:=qkH h1
def zt (te:TE3):TS3:=λd τ G=>te τ G λ_ G1=>d.nx τ G1
def qnT (he:E3 X e te) (hs:swapsWith e none pos.line X.env=pure false:=by rfl):S3 X (.Expr e pos) (zt te):=qeU (qkx he hs) λ_ σ H ⟨τ,G,d,rl,h,af⟩=>
 zy rl h λx G1 h1 v H1 rx hr1 k1 rl1=>af.nx τ G1 h1 σ H1 rl1 k1
def qB (te:TE3):TS3:=λd τ G=>te τ G d.rt
def qrL (he:E3 X e te):S3 X (.Return (some e) pos) (qB te):=qeU (qnY he) λ_ σ H ⟨τ,G,d,rl,h,af⟩=>⟨τ,G,d.rt,rl,h,af.rt⟩
def jy:TS3:=λd _ G=>d.rt .non G
def qV (c:TT3) (t u:TS3):TS3:=λd τ G=>c τ G λk G1=>if k=true then t d τ G1 else u d τ G1
def qtq {c:Expr} {ba bb:List Stmt} (hc:C3 X c tA) (ha:B3 X ba t1) (hb:B3 X bb t2):S3 X (.If c ba bb pos) (qV tA t1 t2):=qeU (qrz hc ha hb) λ_ σ H ⟨τ,G,d,rl,h,af⟩=>
 NR rl h λk G1 h1 H1 hr1 k1 rl1=>by
  cases k with
  |true=>rw [if_pos rfl] at h1 ⊢;exact ⟨τ,G1,d,rl1,h1,af.back k1⟩
  |false=>rw [if_neg v7] at h1 ⊢;exact ⟨τ,G1,d,rl1,h1,af.back k1⟩
def V1:TS3:=λ_ _ _=>False
def qjs {sts:List Stmt}:B3 X sts V1:=λ_ _ _ _ _ _ ⟨_,_,_,_,h,_⟩=>h.elim
abbrev TG3:=T->St3->Gp->(St3->Gp->Prop)->Prop
abbrev qat:=List T->St3->Gp->(St3->Gp->Prop)->Prop
def lG (K:Frg) (t:TG3):TG:=λv σ H Q=>∃ x τ G q,Rp K H x v/\Rel K τ G σ H/\t x τ G q/\qgW K G H q Q
def lGs (K:Frg) (t:qat):TGs:=λv σ H Q=>∃ x τ G q,Rps K H x v/\Rel K τ G σ H/\t x τ G q/\qgW K G H q Q
abbrev G3 (X:Cx) (e:Expr) (t:TG3):Prop:=PG X e (lG X.K t)
abbrev Gs3 (X:Cx) (es:List Expr) (t:qat):Prop:=PGs X es (lGs X.K t)
def qqQ {X:Cx} {e:Expr} {t t':TG} (h:PG X e t) (w:∀ v σ H Q,t' v σ H Q->t v σ H Q):PG X e t':=λpins s σ H v u Q I r q=>h pins s σ H v u Q I r (w v σ H Q q)
def qlH {X:Cx} {e:List Expr} {t t':TGs} (h:PGs X e t) (w:∀ v σ H Q,t' v σ H Q->t v σ H Q):PGs X e t':=λpins s σ H v u Q I r q=>h pins s σ H v u Q I r (w v σ H Q q)
def gn3 (i:Nat):TG3:=λx τ G q=>q (τ.set i (some x)) G
def qpS {i:Nat} {x:Str} (hN:X.N.Nodup) (hi:X.N[i]?=some x:=by rfl) (hx:Loc X.env.scope x:=by first|exact Or.inl rfl|exact Or.inr rfl) (hf:X.fn x=true\/X.env.scope.names.lookup x=some .local:=by first|exact .inl rfl|exact .inr rfl):G3 X (.Name x pos) (gn3 i):=
 qqQ (qk0 hN hi hx hf) λv σ H Q ⟨x,τ,G,q,rx,rl,h,af⟩=>af _ G h _ H (rl.set i rx) Kp.refl
def qN:qat:=λxs τ G q=>match xs with|[]=>q τ G|_=>False
def qk (t:TG3) (u:qat):qat:=λxs τ G q=>match xs with|x::r=>t x τ G λτ' G'=>u r τ' G' q|[]=>False
def qqT:Gs3 X [] qN:=qlH qjy λv σ H Q ⟨x,τ,G,q,rx,rl,h,af⟩=>by
 cases rx with
 |nil=>exact ⟨rfl,af _ G h _ H rl Kp.refl⟩
 |cons _ _=>exact h.elim
def qmB {tg:TG3} {tgs:qat} (h1:G3 X e tg) (h2:Gs3 X es tgs) (hs:(assignEach (e::es) X.env).map (·.2)=assign e X.env::(assignEach es X.env).map (·.2):=by rfl):Gs3 X (e::es) (qk tg tgs):=qlH (qfH h1 h2 hs) λv σ H Q ⟨x,τ,G,q,rx,rl,h,af⟩=>by
 cases rx with
 |nil=>exact h.elim
 |cons r rs=>exact ⟨_,_,rfl,_,τ,G,_,r,rl,h,λτ' G' h' σ' H' rl' k'=>⟨_,τ',G',q,rs.keep rl.hp k',rl',h',af.back k'⟩⟩
def qM (n:Nat) (t:qat):TG3:=λx τ G q=>match x with|.tup xs=>xs.length=n/\t xs τ G q|_=>False
def qrK {k:Nat} {tgs:qat} {n:Nat} (hc:X.calm=true) (h:Gs3 X es tgs) (hn:(assignEach es X.env).length=n:=by rfl) (hst:(assignEach es X.env).findIdx? (·.1)=none:=by rfl):G3 X (.Tuple es k pos) (qM n tgs):=
 qqQ (qmY hc h hn hst) λv σ H Q ⟨x,τ,G,q,rx,rl,h,af⟩=>by
  cases x<;>try exact h.elim
  case tup xs=>
   cases rx with
   |tup hs rs=>exact ⟨_,_,rfl,hs,by rw [← rs.length];exact h.1,_,τ,G,q,rs,rl,h.2,af⟩
def JG:T->T->T->Gp->(Gp->Prop)->Prop:=λo i v G q=>match o,i with
 |.ref p,.int k=>(match G p with|some (.lst xs)=>(match ixN xs.length k with|some j=>q (gu G p (.lst (xs.set j v)))|none=>False)|_=>False)
 |_,_=>False
def zG (to ti:TE3):TG3:=λx τ G q=>to τ G λo G1=>ti τ G1 λi G2=>JG o i x G2 λG3=>q τ G3
def qr4 {o i : Expr} {to ti : TE3} (ho : E3 X o to) (hi : E3 X i ti) (ha : ∀ v,assign (.Subscript o i pos) X.env v = (do
      let ov←holding [v] (eval o X.env)
      let iv←holding [v,ov] (eval i X.env)
      standAt pos
      holding [v,ov,iv] (setItem ov iv v)
      release [v,ov,iv] []):=by intro _;rfl):G3 X (.Subscript o i pos) (zG to ti):=
  qqQ (qlM ho hi qbO ha) λv σ H Q ⟨x,τ,G,q,rx,rl,h,af⟩=>zy rl h λy G1 h1 u H1 ry hr1 k1 rl1=>zy rl1 h1 λz G2 h2 w H2 rz hr2 k2 rl2=>by
    have rx2:=(rx.keep rl.hp k1).keep hr1 k2;have ry2:=ry.keep hr1 k2;unfold JG at h2;split at h2
    · rename_i p k;split at h2
      · rename_i xs e;split at h2
        · rename_i j ej;cases ry2;cases rz;obtain ⟨vs,g1,r1⟩:=hr2.lst e;have kk:Kp G2 H2 (gu G2 p (.lst (xs.set j x))) (upd H2 p (.lst (vs.set j v))):=Kp.wr e;exact ⟨p,vs,k,j,rfl,rfl,g1,by rw [← r1.length];exact ej,af τ _ h2 σ _ (rl2.next (hr2.wr e (r1.set rx2 j)) kk) ((k1.trans k2).trans kk)⟩
        · exact h2.elim
      · exact h2.elim
    · exact h2.elim
def qH (te:TE3) (g:TG3):TS3:=λd τ G=>te τ G λx G1=>g x τ G1 d.nx
def qrw {tg e:Expr} {g:TG3} (he:E3 X e te) (hg:G3 X tg g) (hs:swapsWithSole [tg] e pos.line X.env=pure false:=by rfl) (hw:swappedStores [tg] e X.env=pure none:=by rfl)
  (h1:(assignEach [tg] X.env).map (·.2)=[assign tg X.env]:=by rfl):S3 X (.Assign [tg] e pos) (qH te g):=qeU (qns he hg hs hw h1) λ_ σ H ⟨τ,G,d,rl,h,af⟩=>
 zy rl h λx G1 h1 v H1 rx hr1 k1 rl1=>⟨x,τ,G1,d.nx,rx,rl1,h1,af.nx.back k1⟩
def qsa (i:Nat) {x:Str} {e:Expr} {pos':Pos} (hN:X.N.Nodup) (he:E3 X e te) (hi:X.N[i]?=some x:=by rfl) (hx:Loc X.env.scope x:=by first|exact Or.inl rfl|exact Or.inr rfl) (hs:swapsWith e (some (.Name x pos')) pos.line X.env=pure false:=by rfl) (hf:X.fn x=true\/X.env.scope.names.lookup x=some .local:=by first|exact .inl rfl|exact .inr rfl) :
  S3 X (.Assign [.Name x pos'] e pos) (qH te (gn3 i)):=qeU (qln hN hi hx he hs hf) λ_ σ H ⟨τ,G,d,rl,h,af⟩=>
 zy rl h λx G1 h1 v H1 rx hr1 k1 rl1=>af.nx _ G1 h1 _ H1 (rl1.set i rx) k1
def j6 (i j:Nat) (ta:TA3):TS3:=λd τ G=>ta τ G λxs G1=>match xs with|[x,y]=>d.nx ((τ.set i (some x)).set j (some y)) G1|_=>False
def qq2 {i j:Nat} {x y:Str} {a b:Expr} {tt:TA3} {px py pt:Pos} {kt k2 pt2} (hc:X.calm=true) (hN:X.N.Nodup) (hi:X.N[i]?=some x) (hj:X.N[j]?=some y) (hij:i≠j)
  (hx:X.env.scope.names.lookup x=some .local) (hy:X.env.scope.names.lookup y=some .local) (ha:A3 X [a,b] tt)
  (hw:swappedStores [.Tuple [.Name x px,.Name y py] kt pt] (.Tuple [a,b] k2 pt2) X.env=pure (some [x,y]):=by rfl)
  (hs:swapsWithSole [.Tuple [.Name x px,.Name y py] kt pt] (.Tuple [a,b] k2 pt2) pos.line X.env=pure false:=by rfl) :
  S3 X (.Assign [.Tuple [.Name x px,.Name y py] kt pt] (.Tuple [a,b] k2 pt2) pos) (j6 i j tt):=qeU (qmT hc hN hi hj hij hx hy ha hw hs) λ_ σ H ⟨τ,G,d,rl,h,af⟩=>
 UK rl h λxs G1 h1 vs H1 rs hr1 k1 rl1=>by
  split at h1
  ·obtain ⟨v,u,rfl,r,r'⟩:=qoq rs;exact ⟨v,u,rfl,af.nx _ G1 h1 _ H1 ((rl1.set i r).set j r') k1⟩
  ·exact h1.elim
end
abbrev TI3:=St3->Gp->(List T->(Gp->Prop)->Gp->Prop)->Prop
def qlg (K:Frg) (J:It) (items:List T) (stay:Gp->Prop) (G0:Gp) (H0:Hp):Prop:=∀ G H,HR K G H->Kp G0 H0 G H->stay G ->
 (∀ i x,items[i]?=some x->J.go i H)/\(∀ i x v H',items[i]?=some x->J.yld i H v H'->Rp K H' x v/\HR K G H'/\Kp G H G H')/\J.stop items.length H
def lI (K:Frg) (wi:TI3):TI:=λσ H R=>∃ τ G r,Rel K τ G σ H/\wi τ G r/\∀ items stay G',r items stay G'->∀ J H',HR K G' H'->Kp G H G' H'->qlg K J items stay G' H'->R J H'
abbrev I3 (X:Cx) (tg iter:Expr) (wi:TI3):Prop:=PI X tg iter (lI X.K wi)
def qos {X:Cx} {tg e:Expr} {t t':TI} (h:PI X tg e t) (w:∀ σ H R,t' σ H R->t σ H R):PI X tg e t':=λpins s σ H R I q=>h pins s σ H R I (w σ H R q)
section
variable {X:Cx} {a b c e l tg:Expr} {es:List Expr} {ta tb tc te:TE3} {t:TA3} {pos:Pos}
def qmQ {tl:TE} (hl:PE X l tl):PI X tg l (λσ H R=>tl σ H λx H1=>∃ a,x=.ref a/\(((∃ xs,SqL X.K H1 a xs)/\R (Itl X.K a) H1)\/((∃ xs,SqT X.K H1 a xs)/\R (Itt X.K a) H1))):=by
 intro pins s σ H R I h;refine thn (hl pins s σ H _ I h) λv s1 ⟨x,H1,I1,r1,q1⟩=>?_;obtain ⟨a,e,⟨⟨xs,hq⟩,q⟩|⟨⟨xs,hq⟩,q⟩⟩:=q1
 ·subst e;cases r1;obtain ⟨its,rv,p,hz⟩:=I1.list hq;refine wpAny_pyIter_list p.isList ?_;refine ⟨s1.heap.objs.size,[s1.heap.objs.size],_,_,H1,rfl,I1.kept (t':=s1.toks) λb o e=>v4 _ e,qeT a _,⟨_,v5 _ rfl,rfl,rfl⟩,λb hb=>?_,q⟩;have e:b=s1.heap.objs.size:=by simpa using hb
  subst e;exact I1.fpOk (u8 _) (I1.hok.fresh (u8 _))
 ·subst e;cases r1;obtain ⟨its,rv,p,hz⟩:=I1.tuple hq;refine wpAny_pyIter_tuple (show s1.heap.IsTuple a its.toArray from p) ?_;refine ⟨s1.heap.objs.size,[s1.heap.objs.size],_,_,H1,rfl,I1.kept (t':=s1.toks) λb o e=>v4 _ e,qcz a _,⟨_,v5 _ rfl,rfl,rfl⟩,λb hb=>?_,q⟩;have e:b=s1.heap.objs.size:=by simpa using hb
  subst e;exact I1.fpOk (u8 _) (I1.hok.fresh (u8 _))
def JH (tl:TE3):TI3:=λτ G r=>tl τ G λx G1=>match x with
 |.tup xs=>r xs (λ_=>True) G1
 |.ref p=>(match getL G1 p with|some xs=>r xs (λG=>getL G p=some xs) G1|none=>False)
 |_=>False
def ql9 {K:Frg} {p:Addr} {xs:List T} {G0:Gp} {H0:Hp}:qlg K (Itl K p) xs (λG=>getL G p=some xs) G0 H0:=by
 intro G H hr _ hs;obtain ⟨vs,sq,rs⟩:=zT hr hs;refine ⟨λi x hi=>?_,λi x v H' hi y=>?_,⟨vs,sq,by rw [rs.length];exact u8 _⟩⟩
 ·obtain ⟨v,hv,_⟩:=rs.get hi;exact ⟨vs,v,sq,hv⟩
 ·obtain ⟨e,y⟩:=y;subst e;obtain ⟨w,hw,rw'⟩:=rs.get hi;have e2:=(y vs sq).symm.trans hw;cases e2;exact ⟨rw',hr,Kp.refl⟩
def qpu {K:Frg} {p:Addr} {xs:List T} {vs:List V} {G0:Gp} {H0:Hp} (hr0:HR K G0 H0) (sq0:SqT K H0 p vs) (rs0:Rps K H0 xs vs):qlg K (Itt K p) xs (λ_=>True) G0 H0:=by
 intro G H hr k _;have sq:=MA hr0 k sq0;have rs:=rs0.keep hr0 k;refine ⟨λi x hi=>?_,λi x v H' hi y=>?_,⟨vs,sq,by rw [rs.length];exact u8 _⟩⟩
 ·obtain ⟨v,hv,_⟩:=rs.get hi;exact ⟨vs,v,sq,hv⟩
 ·obtain ⟨e,y⟩:=y;subst e;obtain ⟨w,hw,rw'⟩:=rs.get hi;have e2:=(y vs sq).symm.trans hw;cases e2;exact ⟨rw',hr,Kp.refl⟩
def qqP (hl:E3 X l te):I3 X tg l (JH te):=qos (qmQ hl) λσ H R ⟨τ,G,r,rl,h,af⟩=>zy rl h λx G1 h1 v H1 rx hr1 k1 rl1=>by
 cases x<;>try exact h1.elim
 case tup xs=>
  cases rx with
  |tup hs rs=>exact ⟨_,rfl,.inr ⟨⟨_,hs⟩,af _ _ G1 h1 _ H1 hr1 k1 (qpu hr1 hs rs)⟩⟩
 case ref p=>
  simp only at h1;split at h1
  ·rename_i xs e0;cases rx;obtain ⟨vs,hs,rs⟩:=zT hr1 e0;exact ⟨_,rfl,.inl ⟨⟨_,hs⟩,af _ _ G1 h1 _ H1 hr1 k1 ql9⟩⟩
  ·exact h1.elim
def qbK (lo:Int) (n:Nat):List T:=(List.range n).map λ(i:Nat)=>T.int (lo+(i:Int))
def qio {K:Frg} {lo:Int} {n:Nat} {G0:Gp} {H0:Hp}:qlg K (Itr lo n) (qbK lo n) (λ_=>True) G0 H0:=by
 intro G H hr k _;have hl:(qbK lo n).length=n:=by simp [qbK]
 refine ⟨λi x hi=>?_,λi x v H' hi y=>?_,(show n<=(qbK lo n).length by rw [hl];exact u8 n)⟩
 ·have:=(zb0 hi).1;rw [hl] at this;exact this
 ·obtain ⟨e,y⟩:=y;subst e;subst y;have h1:=(zb0 hi).1;rw [hl] at h1;unfold qbK at hi;rw [getElem?_map,List.getElem?_range h1] at hi;have e:T.int (lo+(i:Int))=x:=by simpa using hi
  subst e;exact ⟨.int _,hr,Kp.refl⟩
def zw (ta:TA3):TI3:=λτ G r=>ta τ G λxs G1=>match xs with
 |[.int j]=>(-(2 ^ 62)<=j/\j<2 ^ 62)/\r (qbK 0 j.toNat) (λ_=>True) G1
 |[.int i,.int j]=>(-(2 ^ 62)<=i/\i<2 ^ 62/\-(2 ^ 62)<=j/\j<2 ^ 62)/\r (qbK i (j-i).toNat) (λ_=>True) G1
 |_=>False
def qgc {p:Pos} (hg:Gl X "range") (hm:X.mg "range" = none) (ha:A3 X [a] t) (hs:starEach [a] X.env=[(false,eval a X.env)]:=by rfl) (h1:∀ τ G q,t τ G q->t τ G λxs G=>q xs G/\xs.length=1):I3 X tg (.Call (.Name "range" p) [a] [] pos) (zw t):=
 qos (qdS hg hm ha hs) λσ H R ⟨τ,G,r,rl,h,af⟩=>UK rl (h1 _ _ _ h) λxs G1 h1 vs H1 rs hr1 k1 rl1=>by
  obtain ⟨h1,hl⟩:=h1;simp only at h1;split at h1
  ·obtain ⟨v,rfl,r1⟩:=LQ rs;cases r1;exact ⟨_,rfl,h1.1.1,h1.1.2,af _ _ G1 h1.2 _ H1 hr1 k1 qio⟩
  ·simp at hl
  ·exact h1.elim
def qe7 {p:Pos} (hg:Gl X "range") (hm:X.mg "range" = none) (ha:A3 X [a,b] t) (hs:starEach [a,b] X.env=[(false,eval a X.env),(false,eval b X.env)]:=by rfl) (hs2:starEach [b] X.env=[(false,eval b X.env)]:=by rfl) (h1:∀ τ G q,t τ G q->t τ G λxs G=>q xs G/\xs.length=2):I3 X tg (.Call (.Name "range" p) [a,b] [] pos) (zw t):=
 qos (qdn hg hm ha hs hs2) λσ H R ⟨τ,G,r,rl,h,af⟩=>UK rl (h1 _ _ _ h) λxs G1 h1 vs H1 rs hr1 k1 rl1=>by
  obtain ⟨h1,hl⟩:=h1;simp only at h1;split at h1
  ·simp at hl
  ·obtain ⟨v,u,rfl,r1,r2⟩:=qoq rs;cases r1;cases r2;exact ⟨_,_,rfl,h1.1,af _ _ G1 h1.2 _ H1 hr1 k1 qio⟩
  ·exact h1.elim
def MX (stay:Gp->Prop) (g:TG3) (tb:TS3) (d:Ends3):List T->St3->Gp->Prop
 |[],τ,G=>stay G/\d.nx τ G
 |x::r,τ,G=>stay G/\g x τ G λτ2 G2=>tb { d with nx:=MX stay g tb d r,ct:=MX stay g tb d r,bk:=d.nx } τ2 G2
def RM (wi:TI3) (g:TG3) (tb:TS3):TS3:=λd τ G=>wi τ G λitems stay G1=>MX stay g tb d items τ G1
def qsr {iter:Expr} {body:List Stmt} {wi:TI3} {g:TG3} {tb:TS3} (hp:PassesOwn (model X.prog X.w) X.A X.env X.xe) (hc:X.calm=true) (hi:I3 X tg iter wi) (hg:G3 X tg g) (hb:B3 X body tb)
  (hs:∀ x,foldedSetIterable iter X.env x=pure x:=by intro _;rfl):S3 X (.For tg iter body [] pos) (RM wi g tb):=
 qeU (ql0 hp hc hi hg hb hs) λD σ H ⟨τ,G,d,rl,h,af⟩=>by
  refine ⟨τ,G,_,rl,h,λitems stay G1 h1 J H1 hr1 k1 ok=>?_⟩;refine ⟨λi m σ' H'=>m=items.length-i/\i<=items.length/\∃ τ' G',Rel X.K τ' G' σ' H'/\Kp G1 H1 G' H'/\MX stay g tb d (items.drop i) τ' G',⟨_,rfl,Nat.zero_le _,τ,G1,rl.next hr1 k1,Kp.refl,by simpa using h1⟩,?_⟩;rintro i m σ' H' ⟨rfl,hi,τ',G',rl',k',h'⟩;by_cases hlt:i<items.length
  ·rw [List.drop_eq_getElem_cons hlt] at h';obtain ⟨hst,h'⟩:=h';obtain ⟨go,yld,_⟩:=ok G' H' rl'.hp k' hst;have hx:items[i]?=some items[i]:=v9 hlt;refine .inr ⟨go i _ hx,λσ2 H2=>∃ τ2 G2,Rel X.K τ2 G2 σ2 H2/\Kp G1 H1 G2 H2/\MX stay g tb d (items.drop (i+1)) τ2 G2,λσ2 H2 h2=>⟨_,by omega,rfl,hlt,h2⟩,λv H2 y=>?_⟩;obtain ⟨rv,hr2,k2⟩:=yld i _ v H2 hx y;have k3:Kp G1 H1 G' H2:=k'.trans k2;refine ⟨_,τ',G',_,rv,rl'.next hr2 k2,h',λτ3 G3 h3 σ3 H3 rl3 k4=>?_⟩;have k5:Kp G H G3 H3:=(k1.trans k3).trans k4;refine ⟨τ3,G3,_,rl3,h3,⟨λτ4 G4 h4 σ4 H4 rl4 k6=>⟨τ4,G4,rl4,(k3.trans k4).trans k6,h4⟩,af.rt.back k5,af.nx.back k5,λτ4 G4 h4 σ4 H4 rl4 k6=>⟨τ4,G4,rl4,(k3.trans k4).trans k6,h4⟩⟩⟩
  ·have e:i=items.length:=by omega
   subst e;rw [List.drop_length] at h';obtain ⟨_,_,stop⟩:=ok G' H' rl'.hp k' h'.1;exact .inl ⟨stop,af.nx τ' G' h'.2 σ' H' rl' (k1.trans k')⟩
def V6 {stay:Gp->Prop} {g:TG3} {tb:TS3} {d:Ends3} (items:List T) (Pv:Nat->St3->Gp->Prop) {τ:St3} {G:Gp} (h0:Pv 0 τ G) (hst:∀ i τ G,i<=items.length->Pv i τ G->stay G)
  (hs:∀ i x τ G (nx:St3->Gp->Prop),items[i]?=some x->Pv i τ G->(∀ τ G,Pv (i+1) τ G->nx τ G)->g x τ G λτ2 G2=>tb { d with nx:=nx,ct:=nx,bk:=d.nx } τ2 G2)
  (hd:∀ τ G,Pv items.length τ G->d.nx τ G):MX stay g tb d items τ G:=by
 have key:∀ (r:List T) (i:Nat) τ G,items.drop i=r->i<=items.length->Pv i τ G->MX stay g tb d r τ G:=by
  intro r;induction r with
  |nil=>
   intro i τ G e hi p;have:i=items.length:=by have:=congrArg List.length e;simp at this;omega
   subst this;exact ⟨hst _ τ G hi p,hd τ G p⟩
  |cons x r ih=>
   intro i τ G e hi p;have hl:i<items.length:=by
    apply Classical.byContradiction;intro z;rw [List.drop_eq_nil_of_le (by omega)] at e;cases e
   have e':=List.drop_eq_getElem_cons hl;rw [e] at e';injection e' with e1 e2;refine ⟨hst i τ G hi p,hs i x τ G _ (by rw [v9 hl,e1]) p λτ2 G2 p2=>ih (i+1) τ2 G2 e2.symm hl p2⟩
 exact key items 0 τ G (by simp) (Nat.zero_le _) h0
def K2 (c:TT3) (tb:TS3):TS3:=λd τ G=>∃ W:Nat->St3->Gp->Prop,(∃ m,W m τ G)/\∀ m τ G,W m τ G ->
 c τ G λb G1=>if b=true then ∃ N:St3->Gp->Prop,(∀ τ' G',N τ' G'->∃ m',m'<m/\W m' τ' G')/\tb { d with nx:=N,ct:=N,bk:=d.nx } τ G1 else d.nx τ G1
def qkf {c:Expr} {body:List Stmt} {tc:TT3} {tb:TS3} (hp:PassesOwn (model X.prog X.w) X.A X.env X.xe) (hc:C3 X c tc) (hb:B3 X body tb):S3 X (.While c body [] pos) (K2 tc tb):=
 qeU (qfw hp hc hb) λD σ H ⟨τ,G,d,rl,⟨W,⟨m0,w0⟩,turn⟩,af⟩=>by
  refine ⟨λm σ' H'=>∃ τ' G',Rel X.K τ' G' σ' H'/\Kp G H G' H'/\W m τ' G',⟨m0,τ,G,rl,Kp.refl,w0⟩,?_⟩;rintro m σ' H' ⟨τ',G',rl',k',w'⟩;refine NR rl' (turn m τ' G' w') λb G1 h1 H1 hr1 k1 rl1=>?_;cases b with
  |true=>
   rw [if_pos rfl] at h1 ⊢;obtain ⟨N,hN,h1⟩:=h1;refine ⟨λσ2 H2=>∃ τ2 G2,Rel X.K τ2 G2 σ2 H2/\Kp G H G2 H2/\N τ2 G2,λσ2 H2 ⟨τ2,G2,r2,k2,n2⟩=>?_,τ',G1,_,rl1,h1,⟨λτ2 G2 h2 σ2 H2 r2 k2=>⟨τ2,G2,r2,(k'.trans k1).trans k2,h2⟩,af.rt.back (k'.trans k1),af.nx.back (k'.trans k1),λτ2 G2 h2 σ2 H2 r2 k2=>⟨τ2,G2,r2,(k'.trans k1).trans k2,h2⟩⟩⟩;obtain ⟨m',hm,w2⟩:=hN τ2 G2 n2;exact ⟨m',hm,τ2,G2,r2,k2,w2⟩
  |false=>
   rw [if_neg v7] at h1 ⊢;exact af.nx τ' G1 h1 σ' H1 rl1 (k'.trans k1)
abbrev Sp3:=List T->Gp->Q3->Prop
def lSp (K:Frg) (sp:Sp3):Sp:=λvs H Q _=>∃ ts G q,HR K G H/\Rps K H ts vs/\sp ts G q/\Aft K G H q Q
def Fn3 (P:Program) (w:World) (K:Frg) (mg:Str->Option Value) (base:Heap) (k:Nat) (x:Str) (sp:Sp3):Prop:=
 ∃ f fd ps,FnOk P w K mg base CX0 k f fd ps (lSp K sp)/\KB K fd ps []/\PySem.W.keepIn K (.ref f)=true/\mg x=some (.ref f)
theorem Fn3.mono {P:Program} {w:World} {K:Frg} {mg:Str->Option Value} {base:Heap} {j k:Nat} {x:Str} {sp:Sp3} (F:Fn3 P w K mg base j x sp) (h:j<=k):Fn3 P w K mg base k x sp:=
 let ⟨f,fd,ps,a,b,c,d⟩:=F;⟨f,fd,ps,a.mono h,b,c,d⟩
def qp4 {k:Nat} {x:Str} {p:Pos} {sp:Sp3} (F:Fn3 X.prog X.w X.K X.mg X.base k x sp) (hr:Room k X.A) (hg:Gl X x) (ha:A3 X (e::es) t) (hdb:(x==("__debug__" : Str))=false:=by decide)
  (he:starEach (e::es) X.env=(false,eval e X.env)::starEach es X.env:=by rfl) (hpl:(backTo pos (starEach es X.env)).any (·.1)=false:=by rfl):E3 X (.Call (.Name x p) (e::es) [] pos) (cb3 sp t):=by
 obtain ⟨f,fd,ps,F,b,kp,m⟩:=F;refine RK (qkb F hr hg m kp b .nil qsc ha hdb he hpl) λσ H Q ⟨τ,G,q,rl,h,af⟩=>UK rl h λxs G1 h1 vs H1 rs hr1 k1 rl1=>?_;rw [List.append_nil];exact ⟨xs,G1,q,hr1,rs,h1,af.back k1⟩
def qm (N:List Str) (ts:List T):St3:=ts.map some++List.replicate (N.length-ts.length) none
def qaf {K:Frg} {N:List Str} {G:Gp} {H:Hp} {ts:List T} {vs:List V} (hr:HR K G H) (rs:Rps K H ts vs):Rel K (qm N ts) G (L2.TC N vs) H:=by
 refine ⟨hr,by simp [qm,L2.TC,rs.length],λi t e=>?_⟩;unfold qm at e;by_cases hi:i<ts.length
 ·rw [List.getElem?_append_left (by simpa using hi),getElem?_map] at e;cases q:ts[i]? with
  |none=>rw [q] at e;cases e
  |some z=>
   rw [q] at e;have e':z=t:=by simpa using e
   subst e';obtain ⟨v,hv,r⟩:=rs.get q;refine ⟨v,?_,r⟩;unfold L2.TC;rw [List.getElem?_append_left (by rw [length_map,← rs.length];exact hi),getElem?_map,hv];rfl
 ·rw [List.getElem?_append_right (by simpa using hi),List.getElem?_replicate] at e;split at e<;>cases e
def qmV {P:Program} {w:World} {K:Frg} {mg:Str->Option Value} {base:Heap} {x qual:Str} {st:Stmt} {f:Addr} {fd:FuncData} {N ps:List Str} {k:Nat} {sp:Sp3} {t3:TS3} (F:Fun K x qual st f fd) (S:FnScope N ps (qj st)) (bd:KB K fd ps []) (hm:mg x=some (.ref f))
  (body:∀ (cdv:Value) (A:Around) (outer:List Env) (s:Shared) (H:Hp) (E:XK),Room k (A.deeper (envOfC qual (qj st) s.heap.objs.size f cdv)) ->
   B3 (qeE CX0 P w K mg base N qual (qj st) f cdv A outer s H E).nox (jk st) t3)
  (read:∀ ts G q,sp ts G q->ts.length=ps.length/\t3 { nx:=λ_ G'=>q .non G',rt:=q } (qm N ts) G):Fn3 P w K mg base (k+1) x sp:=by
 refine ⟨f,fd,ps,F.ok S (λvs H Q E ⟨ts,G,q,h1,h2,h3,h4⟩=>by rw [← h2.length];exact (read ts G q h3).1) λcdv A outer s H vs Q E hr ⟨ts,G,q,h1,h2,h3,h4⟩=>?_,bd,F.kp,hm⟩;refine ⟨_,body cdv A outer s H E hr,qm N ts,G,_,qaf h1 h2,(read ts G q h3).2,⟨λτ' G' h' σ' H' rl' k'=>h4 _ G' h' _ H' .non rl'.hp k',h4,λ_ _ z=>z.elim,λ_ _ z=>z.elim⟩⟩
def qgM (xs:List T):Option Bool:=match xs with
 |[]=>some true
 |.bl k::r=>(match qgM r with|some j=>some (k&&j)|none=>none)
 |_=>none
def qqB (xs:List T):Option Bool:=match xs with
 |[]=>some false
 |.bl k::r=>(match qqB r with|some j=>some (k||j)|none=>none)
 |_=>none
def qfX {P:Program} {w:World} {A:Around} {its:List Value} {ks:List Bool} (h:its=ks.map Value.bool):TruthOf P w A (λi v=>its.toArray[i]?=some v) (λi=>ks.getD i true):=by
 intro i v s Q E hp hq;subst h;have hp':ks[i]?.map Value.bool=some v:=by simpa using hp
 cases e:ks[i]? with
 |none=>rw [e] at hp';cases hp'
 |some k=>
  rw [e] at hp';cases hp';have:ks.getD i true=k:=by rw [getD_eq_getElem?_getD,e];rfl
  have hq:Q (ks.getD i true) s:=hq;rw [this] at hq;exact wpAny_truthy_bool hq
theorem KZ:∀ {ks:List Bool} {us:List Value},jh (ks.map V.bl) us->us=ks.map Value.bool
 |[],_,r=>by cases r;rfl
 |k::ks,_,r=>by
  cases r with
  |cons a b=>rw [show _=Value.bool k from a,KZ b];rfl
def qdJ (ks:List Bool):((List.range ks.length).all λi=>ks.getD i true)=ks.all id:=by
 induction ks with
 |nil=>rfl
 |cons k ks ih=>
  rw [length_cons,List.range_succ_eq_map,List.all_cons,List.all_map,List.all_cons];congr 1
def EI (hc:X.calm=true):JZ X (.builtin "all") (λxs H Q=>∃ (p:Addr) (ks:List Bool),xs=[.ref p]/\SqL X.K H p (ks.map V.bl)/\Q (.bl (ks.all id)) H):=by
 intro pins s σ H xs us Q I r h;obtain ⟨p,ks,rfl,hq,q⟩:=h;obtain ⟨u,rfl,rp⟩:=XY r;cases (show u=Value.ref p from rp);obtain ⟨its,rv,pl,hz⟩:=I.list hq;have hb:=KZ rv;have hlen:its.length=ks.length:=by rw [hb];simp
 have hp:p<s.heap.objs.size:=by obtain ⟨o,n,e,_⟩:=pl;exact v6 e
 refine call_all_walk (wpAny_pyIter_list pl.isList ⟨s.heap.objs.size,_,_,_,_,_,λi=>ks.getD i true,rfl,Walks.list (A:=X.A.in1) (show X.A.in1.handled=none from I.ok.hd hc) s.heap.objs.size p (za4 hp) its.toArray,⟨⟨_,v5 _ rfl,rfl,rfl⟩,?_⟩,qfX hb,λh' tk hk=>?_⟩)
 ·obtain ⟨o,n,e,c,_,d⟩:=pl;exact ⟨o,v4 _ e,c,n,d⟩
 ·refine ⟨.bl _,H,?_,rfl,by rw [size_toArray,hlen,qdJ];exact q⟩;exact I.kept (h':=h') (t':=tk) λb o e=>hk b o (by simp;exact za4 (v6 e)) (v4 _ e)
end
def T3 (env:Env):List (Str×NameKind)->List (Str×Addr)->List (Str×Addr)
 |[],cs=>cs
 | (n,k)::r,cs=>if k=.free then T3 env r ((n,(env.cells.lookup n).getD 0)::cs) else T3 env r cs
def YV {scope:Scope} {env:Env} (h:∀ y∈scope.names,y.2=.free->∃ c,env.cells.lookup y.1=some c):closureFor scope env=pure (T3 env scope.names []):=by
 have key:∀ (l:List (Str×NameKind)) (cs:List (Str×Addr)),(∀ y∈l,y.2=.free->∃ c,env.cells.lookup y.1=some c) ->
   (forIn l cs λ(x:Str×NameKind) (r:List (Str×Addr))=>if (x.2==NameKind.free)=true then (do let a←cellOf env x.1;pure (ForInStep.yield ((x.1,a)::r))) else pure (ForInStep.yield r))=(pure (T3 env l cs):Sem _):=by
  intro l;induction l with
  |nil=>intro cs _;rfl
  |cons y r ih=>
   intro cs hl;obtain ⟨n,k⟩:=y;rw [List.forIn_cons];by_cases hk:k=.free
   ·subst hk;obtain ⟨c,hc⟩:=hl (n,.free) za6 rfl;have e:cellOf env n=pure c:=by unfold cellOf;rw [show List.lookup n env.cells=some c from hc]
    simp only [beq_self_eq_true,if_true];rw [e,pure_bind,pure_bind];show forIn r ((n,c)::cs) _=_;rw [ih _ λz hz=>hl z (u9 _ hz)];show _=(pure (if NameKind.free=NameKind.free then T3 env r ((n,(env.cells.lookup n).getD 0)::cs) else T3 env r cs):Sem _);rw [if_pos rfl,show List.lookup n env.cells=some c from hc];rfl
   ·have hb:(k==NameKind.free)=false:=by cases k<;>first|rfl|exact absurd rfl hk
    simp only [hb,Bool.false_eq_true,if_false];rw [pure_bind];show forIn r cs _=_;rw [ih _ λz hz=>hl z (u9 _ hz)];show _=(pure (if k=NameKind.free then T3 env r ((n,(env.cells.lookup n).getD 0)::cs) else T3 env r cs):Sem _);rw [if_neg hk]
 have:=key scope.names [] h;unfold closureFor;refine Eq.trans ?_ this;exact bind_pure (m:=Sem) _
theorem EW {env:Env}:∀ (l:List (Str×NameKind)) (cs:List (Str×Addr)) (x:Str) (c:Addr),(∀ y∈l,y.2=.free->∃ c,env.cells.lookup y.1=some c) ->
  (∀ x c,cs.lookup x=some c->env.cells.lookup x=some c)->(T3 env l cs).lookup x=some c->env.cells.lookup x=some c
 |[],_,_,_,_,h,e=>h _ _ e
 | (n,k)::r,cs,x,c,hl,h,e=>by
  unfold T3 at e;split at e
  ·rename_i hk;refine EW r _ x c (λy hy=>hl y (u9 _ hy)) (λx c e=>?_) e;rw [List.lookup_cons] at e;split at e
   ·rename_i hx;have hx':x=n:=by simpa using hx
    subst hx';obtain ⟨d,hd⟩:=hl (x,k) za6 hk;have hd:List.lookup x env.cells=some d:=hd;rw [hd] at e ⊢;exact e
   ·exact h _ _ e
  ·exact EW r cs x c (λy hy=>hl y (u9 _ hy)) h e
theorem RY {env:Env}:∀ (l:List (Str×NameKind)) (cs:List (Str×Addr)) (x:Str),((x,NameKind.free)∈l\/∃ c,cs.lookup x=some c)->∃ c,(T3 env l cs).lookup x=some c
 |[],_,_,h=>by
  rcases h with h|h
  ·simp at h
  ·exact h
 | (n,k)::r,cs,x,h=>by
  unfold T3;have put:∀ d:Addr,(x=n\/∃ c,cs.lookup x=some c)->∃ c,((n,d)::cs).lookup x=some c:=λd z=>by
   rw [List.lookup_cons];cases hx:x==n with
   |true=>exact ⟨d,rfl⟩
   |false=>
    rcases z with z|z
    ·rw [z] at hx;simp at hx
    ·exact z
  split
  ·rename_i hk;refine RY r _ x ?_;rcases h with h|h
   ·rcases mem_cons.mp h with e|e
    ·cases e;exact .inr (put _ (.inl rfl))
    ·exact .inl e
   ·exact .inr (put _ (.inr h))
  ·rename_i hk;refine RY r _ x ?_;rcases h with h|h
   ·rcases mem_cons.mp h with e|e
    ·cases e;exact absurd rfl hk
    ·exact .inl e
   ·exact .inr h
theorem MG {env:Env}:∀ (l:List (Str×NameKind)) (cs:List (Str×Addr)) (x:Str) (c:Addr),(T3 env l cs).lookup x=some c->(x,NameKind.free)∈l\/cs.lookup x=some c
 |[],_,_,_,e=>.inr e
 | (n,k)::r,cs,x,c,e=>by
  unfold T3 at e;split at e
  ·rename_i hk;rcases MG r _ x c e with z|z
   ·exact .inl (u9 _ z)
   ·rw [List.lookup_cons] at z;split at z
    ·rename_i hx;have hx':x=n:=by simpa using hx
     subst hx';subst hk;exact .inl za6
    ·exact .inr z
  ·rcases MG r cs x c e with z|z
   ·exact .inl (u9 _ z)
   ·exact .inr z
theorem CP {α:Type}:∀ (xs ys:List (Str×α)) (x:Str),(xs++ys).lookup x=(match xs.lookup x with|some c=>some c|none=>ys.lookup x)
 |[],ys,x=>rfl
 | (n,c)::xs,ys,x=>by
  rw [cons_append,List.lookup_cons,List.lookup_cons];cases x==n with
  |true=>rfl
  |false=>exact CP xs ys x
theorem jY:∀ (l:List (Str×NameKind)) {n:Nat} {acc:List (Str×Addr)},cellsFrom n l acc=cellsFrom n l []++acc
 |[],_,_=>rfl
 | (x,k)::r,n,acc=>by
  unfold cellsFrom;split
  ·rw [jY r (acc:=(x,n)::acc),jY r (acc:=[(x,n)]),List.append_assoc];rfl
  ·exact jY r
theorem VC:∀ (l:List (Str×NameKind)) (n:Nat) (acc:List (Str×Addr)) (x:Str) (c:Addr),(x,c)∈cellsFrom n l acc->(x,NameKind.cell)∈l\/(x,c)∈acc
 |[],_,_,_,_,h=>.inr h
 | (y,k)::r,n,acc,x,c,h=>by
  unfold cellsFrom at h;split at h
  ·rename_i hk;have hk:k=.cell:=by simpa using hk
   rcases VC r _ _ x c h with z|z
   ·exact .inl (u9 _ z)
   ·rcases mem_cons.mp z with e|e
    ·cases e;subst hk;exact .inl za6
    ·exact .inr e
  ·rcases VC r _ _ x c h with z|z
   ·exact .inl (u9 _ z)
   ·exact .inr z
theorem ZF:∀ (l:List (Str×NameKind)) (n:Nat) (acc:List (Str×Addr)) (x:Str),((x,NameKind.cell)∈l\/∃ c,acc.lookup x=some c)->∃ c,(cellsFrom n l acc).lookup x=some c
 |[],_,_,_,h=>by
  rcases h with h|h
  ·simp at h
  ·exact h
 | (y,k)::r,n,acc,x,h=>by
  unfold cellsFrom;have put:(x=y\/∃ c,acc.lookup x=some c)->∃ c,((y,n)::acc).lookup x=some c:=λz=>by
   rw [List.lookup_cons];cases hx:x==y with
   |true=>exact ⟨n,rfl⟩
   |false=>
    rcases z with z|z
    ·rw [z] at hx;simp at hx
    ·exact z
  split
  ·refine ZF r _ _ x ?_;rcases h with h|h
   ·rcases mem_cons.mp h with e|e
    ·cases e;exact .inr (put (.inl rfl))
    ·exact .inl e
   ·exact .inr (put (.inr h))
  ·rename_i hk;refine ZF r _ _ x ?_;rcases h with h|h
   ·rcases mem_cons.mp h with e|e
    ·cases e;exact absurd rfl hk
    ·exact .inl e
   ·exact .inr h
def Q9 {M:Model} {A:Around} {E:Value->Shared->Prop} {s:Shared} {scope:Scope} {globals:Addr} {cl:List (Str×Addr)} {qual:Str} {env:Env} {Q:Env->Shared->Prop}
  (hQ:∀ h₁:Heap,h₁.Ns s.heap.objs.size (λ_=>none)->(∀ b o,s.heap.get? b=some o->h₁.get? b=some o)->CellsOk h₁ (s.heap.objs.size+1) (cellsFrom (s.heap.objs.size+1) scope.names [])->Q (newEnv scope s.heap.objs.size globals (cellsFrom (s.heap.objs.size+1) scope.names cl) qual none .none (some env) builtinsNs) { s with heap:=h₁ }) :
  wpAny M A (newFunctionEnv scope globals cl [] qual none .none (some env)) Q E s:=by
 simp only [newFunctionEnv,Option.isSome_some,if_true];refine y6 (wpAny_alloc ?_);refine y6 (wpAny_layCells _ (λname kind cells=>by cases hkc:kind==NameKind.cell<;>simp [hkc]) _ _ _ _ ?_);have ok:=cellsFrom_ok scope.names (s.heap.push { cls:=.type "dict",data:=.dict #[] }) (s.heap.objs.size+1) [] ⟨λ_ _ hm=>(nomatch hm),List.Pairwise.nil⟩ (by rw [Heap.size_push];exact u8 _);rw [Heap.size_push] at ok;rw [show ({ s with heap:=s.heap.push { cls:=.type "dict",data:=.dict #[] } }:Shared).heap.objs.size=s.heap.objs.size+1 from Heap.size_push ..];rw [List.forIn_nil];refine y6 (y8 (y8 ?_));exact hQ _ ((Heap.Ns.new s.heap (.type "dict")).keeps (pushCells_keeps _ _)) (λb o e=>pushCells_keeps _ _ b o (v4 _ e)) ok
def qr (X:Cx) (N':List Str) (scope:Scope) (s:Shared) (H:Hp) (fp:List Addr):Cx where
 prog:=X.prog
 w:=X.w
 K:=X.K
 mg:=X.mg
 base:=X.base
 A:=X.A
 N:=N'
 s₀:=s
 H₀:=H
 env:=compEnvC scope (cellsFrom (s.heap.objs.size+1) scope.names (T3 X.env scope.names [])) s.heap.objs.size X.env
 outer:=X.stack
 stack:=X.stack
 ex:=fp
 fn:=λx=>scope.names.lookup x==some .cell
 calm:=true
 pn:=[]
 xe:=λ_ _=>False
def qcP (outer inner:Scope):Bool:=(inner.kind==.function)&&inner.names.all λy=>
 (y.2 != .cell||inner.names.lookup y.1==some .cell)&&(y.2 != .local||inner.names.lookup y.1==some .local)&&(y.2 != .free||(inner.names.lookup y.1==some .free&&(outer.names.lookup y.1==some .cell||outer.names.lookup y.1==some .free)))
def cap {α:Type} (m:List (Option Nat)) (σ:List (Option α)):List (Option α):=m.map λo=>match o with|some j=>(σ[j]?).join|none=>none
def DW (N N':List Str) (scope:Scope) (m:List (Option Nat)):Bool:=(m.length==N'.length)&&(m.zip N').all λp=>match p.1 with
 |none=>true
 |some j=>N[j]?==some p.2&&scope.names.lookup p.2==some .free
def qez {α:Type} {m:List (Option Nat)} {σ:List (Option α)} {i:Nat} {v:α} (h:(cap m σ)[i]?=some (some v)):∃ j,m[i]?=some (some j)/\σ[j]?=some (some v):=by
 unfold cap at h;rw [getElem?_map] at h;cases e:m[i]? with
 |none=>rw [e] at h;cases h
 |some o=>
  rw [e] at h;cases o with
  |none=>cases h
  |some j=>
   refine ⟨j,rfl,?_⟩;have h':(σ[j]?).join=some v:=by simpa using h
   cases q:σ[j]? with
   |none=>rw [q] at h';cases h'
   |some z=>rw [q] at h';exact congrArg some h'
def qem {N N':List Str} {scope:Scope} {m:List (Option Nat)} (h:DW N N' scope m=true) {i j:Nat} {x:Str} (e:m[i]?=some (some j)) (hx:N'[i]?=some x):N[j]?=some x/\scope.names.lookup x=some .free:=by
 unfold DW at h;rw [Bool.and_eq_true] at h;have hm:(some j,x)∈m.zip N':=za2 (i:=i) (List.getElem?_zip_eq_some.mpr ⟨e,hx⟩);have:=List.all_eq_true.mp h.2 _ hm;simp only [Bool.and_eq_true,beq_iff_eq] at this;exact this
def qkk {N N':List Str} {scope:Scope} {m:List (Option Nat)} {α:Type} (σ:List (Option α)) (h:DW N N' scope m=true):(cap m σ).length=N'.length:=by
 unfold DW at h;rw [Bool.and_eq_true] at h;unfold cap;rw [length_map];simpa using h.1
structure ScFacts (outer inner:Scope):Prop where
 kind:inner.kind=.function
 own:∀ y∈inner.names,y.2=.cell->inner.names.lookup y.1=some .cell
 loc:∀ y∈inner.names,y.2=.local->inner.names.lookup y.1=some .local
 free:∀ y∈inner.names,y.2=.free->inner.names.lookup y.1=some .free/\(outer.names.lookup y.1=some .cell\/outer.names.lookup y.1=some .free)
def XI {outer inner:Scope} (h:qcP outer inner=true):ScFacts outer inner:=by
 unfold qcP at h;rw [Bool.and_eq_true] at h;have ha:=List.all_eq_true.mp h.2;refine ⟨by simpa using h.1,λy hy e=>?_,λy hy e=>?_,λy hy e=>?_⟩
 ·have:=ha y hy;rw [e] at this;simpa using this
 ·have:=ha y hy;rw [e] at this;simpa using this
 ·have:=ha y hy;rw [e] at this;simpa using this
def JW {scope:Scope} {env:Env} {x:Str} {k:NameKind} (h:(relabel scope env).names.lookup x=some k):scope.names.lookup x=some k\/(k=.cell/\scope.names.lookup x=some .free):=by
 have key:∀ (l:List (Str×NameKind)),(l.map λ(n,k)=>if (k==NameKind.free&&env.scope.kind==.function&&env.kindOf n==some .cell) then (n,NameKind.cell) else (n,k)).lookup x=some k->l.lookup x=some k\/(k=.cell/\l.lookup x=some .free):=by
  intro l;induction l with
  |nil=>intro h;simp at h
  |cons y r ih=>
   intro h;obtain ⟨n,j⟩:=y;rw [map_cons] at h;dsimp only at h;by_cases hc:(j==NameKind.free&&env.scope.kind==.function&&env.kindOf n==some .cell)=true
   ·rw [if_pos hc,List.lookup_cons] at h;rw [List.lookup_cons];cases hx:x==n with
    |true=>
     rw [hx] at h;have hk:NameKind.cell=k:=by simpa using h
     have hj:j=.free:=by simp only [Bool.and_eq_true,beq_iff_eq] at hc;exact hc.1.1
     exact .inr ⟨hk.symm,by rw [hj]⟩
    |false=>rw [hx] at h;exact ih h
   ·rw [if_neg hc,List.lookup_cons] at h;rw [List.lookup_cons];cases hx:x==n with
    |true=>rw [hx] at h;exact .inl h
    |false=>rw [hx] at h;exact ih h
 exact key scope.names h
def PF (X:Cx) (ifs:List Expr) (t:TT):Prop:=
 ∀ (pins:List (Addr×Obj)) (s:Shared) (σ:L2.St) (H:Hp) (Q:Bool->Hp->Prop),Inv X pins σ H s->t σ H Q ->
  wpAny (model X.prog X.w) X.A (forIn ifs true λc r=>if r=true then do let ok←isTrue c X.env (eval c X.env);pure (ForInStep.yield ok) else pure (ForInStep.yield r)) (TP X pins σ Q) X.xe s
def qom {X:Cx}:PF X [] (λ_ H Q=>Q true H):=λ_ _ _ H _ I h=>wpAny_tests_nil ⟨H,I,h⟩
def qnw {X:Cx} {c:Expr} {t:TT} (h:PT X c t):PF X [c] t:=λpins s σ H Q I q=>wpAny_tests_one (h pins s σ H Q I q)
section
variable {X:Cx} {pins:List (Addr×Obj)} {σ:L2.St} {H:Hp} {s:Shared}
def LO {N':List Str} {scope:Scope} {fp:List Addr} {m:List (Option Nat)} {h1:Heap} {mm:Str->Option Value} (hc:X.calm=true) (I:Inv X pins σ H s) (sc:ScFacts X.env.scope scope) (hcap:DW X.N N' scope m=true)
  (hfp:∀ b∈fp,qao X pins H b) (hob:∀ b∈fp,∃ o,s.heap.get? b=some o) (hns:h1.Ns s.heap.objs.size mm) (hk:∀ b o,s.heap.get? b=some o->h1.get? b=some o) (hown:CellsOk h1 (s.heap.objs.size+1) (cellsFrom (s.heap.objs.size+1) scope.names [])) :
  Inv (qr X N' scope s H fp) [] (cap m σ) H { s with heap:=h1 }:=by
 have hcl:∀ y∈scope.names,y.2=.free->∃ c,X.env.cells.lookup y.1=some c:=λy hy e=>by
  rcases (sc.free y hy e).2 with z|z
  ·exact I.ok.has y.1 (.inl z)
  ·exact I.ok.has y.1 (.inr z)
 have cl:∀ x c,(T3 X.env scope.names []).lookup x=some c->X.env.cells.lookup x=some c:=λx c e=>EW scope.names [] x c hcl (λ_ _ z=>by simp at z) e;have clt:∀ x c,(T3 X.env scope.names []).lookup x=some c->c<s.heap.objs.size:=λx c e=>by
  obtain ⟨v,q⟩:=I.cell x c (cl x c e);exact q.lt
 -- a cell of the block: its own,or one from around
 have cs:∀ x c,(cellsFrom (s.heap.objs.size+1) scope.names (T3 X.env scope.names [])).lookup x=some c->((x,c)∈cellsFrom (s.heap.objs.size+1) scope.names []/\s.heap.objs.size+1<=c/\h1.IsCell c none)\/(T3 X.env scope.names []).lookup x=some c:=λx c e=>by
  rw [jY,CP] at e;cases q:(cellsFrom (s.heap.objs.size+1) scope.names []).lookup x with
  |none=>rw [q] at e;exact .inr e
  |some d=>
   rw [q] at e;cases e;have mem:=PySem.mem_of_lookup q;exact .inl ⟨mem,(hown.empty x _ mem).2,(hown.empty x _ mem).1⟩
 have fpne:∀ b∈fp,b≠s.heap.objs.size:=λb hb=>let ⟨o,e⟩:=hob b hb;za4 (v6 e)
 refine ⟨⟨I.ok.mod,sc.kind,I.ok.glob,I.ok.blt,u8 _,λx y c e1 e2=>?_,λx hx=>?_,λx c hf e=>?_,λ_=>I.ok.hd hc,I.ok.frames,.inl rfl,λb hb=>⟨fpne b hb,λx c e=>?_⟩,I.bs,za3 I.ok.bsz I.sz,λb o e hb=>?_,λb hb z=>?_,I.stack,I.stkFree⟩,
  rfl,I.bare,Un.kept hk,⟨mm,hns,λi x v e1 e2 e3=>?_⟩,λx c e=>?_,I.fresh,λx c e=>?_,λp hp=>absurd (show p∈([]:List (Addr×Obj)) from hp) (by simp),I.hok.kept hk,qkk σ hcap⟩
 ·rcases cs x c e1 with ⟨m1,l1,_⟩|z1<;>rcases cs y c e2 with ⟨m2,l2,_⟩|z2
  ·exact PySem.name_of_addr hown.apart m1 m2
  ·exact absurd (clt y c z2) (Nat.not_lt.mpr (za3 (Nat.le_succ _) l1))
  ·exact absurd (clt x c z1) (Nat.not_lt.mpr (za3 (Nat.le_succ _) l2))
  ·exact I.ok.inj x y c (cl x c z1) (cl y c z2)
 ·have hx:(relabel scope X.env).names.lookup x=some .cell\/(relabel scope X.env).names.lookup x=some .free:=hx;have hf:scope.names.lookup x=some .cell\/scope.names.lookup x=some .free:=by
   rcases hx with z|z
   ·rcases JW z with q|⟨_,q⟩
    ·exact .inl q
    ·exact .inr q
   ·rcases JW z with q|⟨q,_⟩
    ·exact .inr q
    ·cases q
  show ∃ c,(cellsFrom (s.heap.objs.size+1) scope.names (T3 X.env scope.names [])).lookup x=some c;rcases hf with hf|hf
  ·exact ZF scope.names _ _ x (.inl (PySem.mem_of_lookup hf))
  ·exact ZF scope.names _ _ x (.inr (RY scope.names [] x (.inl (PySem.mem_of_lookup hf))))
 ·have hf:scope.names.lookup x=some .cell:=by simpa [qr] using hf
  rcases cs x c e with ⟨_,l1,_⟩|z1
  ·exact za3 (Nat.le_succ _) l1
  ·rcases MG scope.names [] x c z1 with q|q
   ·rw [(sc.free _ q rfl).1] at hf;cases hf
   ·simp at q
 ·rcases cs x c e with ⟨_,l1,_⟩|z1
  ·obtain ⟨o,eo⟩:=hob b hb;exact Nat.ne_of_gt (za1 (v6 eo) (za3 (Nat.le_succ _) l1))
  ·exact (hfp b hb).2.2.2.2.1 x c (cl x c z1)
 ·rcases (hfp b hb).2.2.2.1 with z|z
  ·exact I.ok.noex b o e z
  ·exact absurd (za1 (v6 e) (za3 I.ok.bsz z)) (Nat.lt_irrefl _)
 ·rcases mem_cons.mp (I.stkSub b z) with q|q
  ·exact (hfp b hb).2.1 q
  ·exact (hfp b hb).2.2.1 q
 ·obtain ⟨j,ej,es⟩:=qez e2;obtain ⟨hN,hfr⟩:=qem hcap ej e1;have mem:=PySem.mem_of_lookup hfr;have ho:=(sc.free _ mem rfl).2;obtain ⟨m0,hn0,hl0⟩:=I.loc;obtain ⟨u,ru,lk⟩:=hl0 j x v hN es (ho.elim (λz=>.inr (.inl z)) λz=>.inr (.inr z));refine ⟨u,ru,.inr ⟨?_,?_⟩⟩
  ·rcases e3 with z|z|z
   ·rcases JW z with q|⟨q,_⟩
    ·rw [hfr] at q;cases q
    ·cases q
   ·exact .inl z
   ·exact .inr z
  ·rcases lk with ⟨z,_⟩|⟨_,c,hc',hcell⟩
   ·have z:X.env.scope.names.lookup x=some .local:=z;rcases ho with q|q<;>(rw [z] at q;cases q)
   ·obtain ⟨c',hc2⟩:=RY (env:=X.env) scope.names [] x (.inl mem);have e:=cl x c' hc2;rw [hc'] at e;cases e;obtain ⟨o,eo,d⟩:=hcell;refine ⟨c,?_,o,hk c o eo,d⟩;show (cellsFrom (s.heap.objs.size+1) scope.names (T3 X.env scope.names [])).lookup x=some c;rw [jY,CP];cases q:(cellsFrom (s.heap.objs.size+1) scope.names []).lookup x with
    |none=>exact hc2
    |some d=>
     rcases VC scope.names _ [] x d (PySem.mem_of_lookup q) with z|z
     ·rw [sc.own _ z rfl] at hfr;cases hfr
     ·simp at z
 ·rcases cs x c e with ⟨_,_,z⟩|z1
  ·exact ⟨none,z⟩
  ·obtain ⟨v,o,eo,d⟩:=I.cell x c (cl x c z1);exact ⟨v,o,hk c o eo,d⟩
 ·rcases cs x c e with ⟨_,l1,_⟩|z1
  ·exact I.hok.fresh (za3 (Nat.le_succ _) l1)
  ·exact I.freeC x c (cl x c z1)
def X8 {N':List Str} {scope:Scope} {fp:List Addr} {pins':List (Addr×Obj)} {σ':L2.St} {H':Hp} {s':Shared} {h2:Heap} (I:Inv X pins σ H s) (hfp:∀ b∈fp,qao X pins H b) (J:Inv (qr X N' scope s H fp) pins' σ' H' s')
  (sb:Heap.SameBut s.heap.objs.size s'.heap h2):Inv X pins σ H' { s' with heap:=h2 }:=by
 have ne:∀ b o,s.heap.get? b=some o->b≠s.heap.objs.size:=λb o e=>za4 (v6 e);have g:∀ b,b≠s.heap.objs.size->h2.get? b=s'.heap.get? b:=λb hb=>sb.2 b hb;have hn:H' s.heap.objs.size=none:=J.free;have u:Un (frs X.stack) fp H H' s.heap s'.heap:=J.base;refine I.call' (s':={ s' with heap:=h2 }) J.os ⟨λb o e n hb hx=>?_,λb o e n hb hx=>?_,u.free,λb o e hx=>?_,u.tups,u.frzs,u.tbls⟩ (λa o e=>?_) J.bare λb hb=>⟨(hfp b hb).2.2.2.1,(hfp b hb).2.1,(hfp b hb).2.2.2.2.1,(hfp b hb).2.2.2.2.2⟩
 ·show h2.get? b=_;rw [g b (ne b o e)];exact u.keep b o e n hb hx
 ·show ∃ sl,h2.get? b=_;rw [g b (ne b o e)];exact u.slot b o e n hb hx
 ·show ∃ o',h2.get? b=_;rw [g b (ne b o e)];exact u.there b o e hx
 ·refine (J.hok a o e).stay (λb v hb q=>?_) (λ_ q=>q) λ_ _ q=>q;have hb':b≠s.heap.objs.size:=by
   intro z;subst z;rcases hb with z|z
   ·rw [← z] at e;rw [hn] at e;cases e
   ·rw [hn] at z;cases z
  rw [g b hb'];exact q
end
def tLC (wi:TI) (g:TG) (tif:TT) (te:TE) (m:List (Option Nat)):TE:=λσ H Q=>wi σ H λJ H1=>∀ D,H1 D=none ->
 ∃ W:Nat->Nat->L2.St->Hp->Prop,(∃ n,W 0 n (cap m σ) (upd H1 D (.lst [])))/\∀ i n σ H,W i n σ H ->
  (J.stop i H/\Q (.ref D) H)\/(J.go i H/\∀ x H',J.yld i H x H'->g x σ H' λσ2 H2=>tif σ2 H2 λk H3=>
   if k=true then te σ2 H3 λy H4=>∃ zs,H4 D=some (.lst zs)/\zs.length<sizeLine/\∃ n',n'<n/\W (i+1) n' σ2 (upd H4 D (.lst (zs++[y])))
   else ∃ n',n'<n/\W (i+1) n' σ2 H3)
section
variable {X:Cx}
def qss {elt tg iter:Expr} {ifs:List Expr} {scope:Scope} {pos:Pos} {N':List Str} {m:List (Option Nat)} {wi:TI} {g:TG} {tif:TT} {te:TE} (hc:X.calm=true) (hi:PI X tg iter wi)
  (hg:∀ s H fp,PG (qr X N' scope s H fp) tg g) (hf:∀ s H fp,PF (qr X N' scope s H fp) ifs tif) (he:∀ s H fp,PE (qr X N' scope s H fp) elt te)
  (hsc:qcP X.env.scope scope=true) (hcap:DW X.N N' scope m=true) (hs:∀ x,foldedSetIterable iter X.env x=pure x:=by intro _;rfl) :
  PE X (.ListComp elt [⟨tg,iter,ifs,0⟩] scope pos) (tLC wi g tif te m):=by
 intro pins s σ H Q I h;have sc:=XI hsc;have hcl:∀ y∈scope.names,y.2=.free->∃ c,X.env.cells.lookup y.1=some c:=λy hy e=>by
  rcases (sc.free y hy e).2 with z|z
  ·exact I.ok.has y.1 (.inl z)
  ·exact I.ok.has y.1 (.inr z)
 rw [eval_ListComp];refine wpAny_comprehension_free (use:=none) (g:=⟨tg,iter,ifs,0⟩) (gs:=[]) rfl hs (YV hcl) sc.kind sc.loc ?_;show wpAny _ _ (eval iter X.env) _ _ s;refine thn (hi pins s σ H _ I h) λv s1 h1=>thn h1 λitv s2 h2=>?_;obtain ⟨it,fp,tn,J,H2,rfl,I2,T,st2,f2,hW⟩:=h2;refine wpAny_newObj_type ?_;have hD:H2 s2.heap.objs.size=none:=I2.fresh;obtain ⟨W,⟨n0,w0⟩,turn⟩:=hW _ hD;generalize hDe:s2.heap.objs.size=D at *;have I3:Inv X pins σ (upd H2 D (.lst [])) { s2 with heap:=s2.heap.push { cls:=.type "list",dict:=none,data:=.seq ([]:List Value).toArray } }:=by
  subst hDe;exact I2.laid (t':=s2.toks) (λb u e=>v4 _ e) (u8 _) ⟨Nat.zero_le _,[],0,.nil,v5 _ rfl⟩
 have ob2:=T.obj 0 _ st2;have ob3:∀ b∈fp,∃ o,(s2.heap.push { cls:=.type "list",dict:=none,data:=.seq ([]:List Value).toArray }).get? b=some o:=λb hb=>let ⟨o,e,_⟩:=ob2 b hb;⟨o,v4 _ e⟩
 have f3:∀ b∈fp,qao X pins (upd H2 D (.lst [])) b:=λb hb=>by
  obtain ⟨o,e,_⟩:=ob2 b hb;have:b≠D:=by rw [← hDe];exact za4 (v6 e)
  exact ⟨by rw [qO this];exact (f2 b hb).1,(f2 b hb).2⟩
 have k23:∀ b o,s2.heap.get? b=some o->(s2.heap.push { cls:=.type "list",dict:=none,data:=.seq ([]:List Value).toArray }).get? b=some o:=λb o e=>v4 _ e;generalize hH3:upd H2 D (.lst [])=H3 at *;generalize hs3:({ s2 with heap:=s2.heap.push { cls:=.type "list",dict:=none,data:=.seq ([]:List Value).toArray } }:Shared)=s3 at *;have ob3:∀ b∈fp,∃ o,s3.heap.get? b=some o:=by rw [← hs3];exact ob3
 have k23:∀ b o,s2.heap.get? b=some o->s3.heap.get? b=some o:=by rw [← hs3];exact k23
 refine Q9 λh₁ hns hk hown=>?_;have I4:Inv (qr X N' scope s3 H3 fp) [] (cap m σ) H3 { s3 with heap:=h₁ }:=LO hc I3 sc hcap f3 ob3 hns hk hown;have tn4:tn 0 h₁:=T.keep _ _ _ st2 λb hb o e=>hk b o (k23 b o e);have fr4:∀ b∈fp,H3 b=none:=λb hb=>(f3 b hb).1;have stat:∀ {H':Hp},(∀ b∈fp,H' b=none)->∀ b∈fp,qao (qr X N' scope s3 H3 fp) [] H' b:=λhn b hb=>by
  refine ⟨hn b hb,I4.ok.exf b hb |>.1,I4.ok.exfs b hb,.inl hb,λx c e=>(I4.ok.exf b hb).2 x c e,λp hp=>absurd (show p∈([]:List (Addr×Obj)) from hp) (by simp)⟩
 show codeAny (model X.prog X.w) X.A (.compStart (.ListComp elt [⟨tg,iter,ifs,0⟩] scope pos) 0 (.ref it) (.ref D) (qr X N' scope s3 H3 fp).env) (compPost (model X.prog X.w) X.A X.xe none (EP X pins σ Q) (.ref D) s3.heap.objs.size) { s3 with heap:=h₁ };have loop:codeAny (model X.prog X.w) X.A (.compLoop (.ListComp elt [⟨tg,iter,ifs,0⟩] scope pos) 0 (.ref it) (.ref D) (qr X N' scope s3 H3 fp).env) (compPost (model X.prog X.w) X.A X.xe none (EP X pins σ Q) (.ref D) s3.heap.objs.size) { s3 with heap:=h₁ }:=by
  refine codeAny_loop rfl (λn s'=>∃ i σ' H',Inv (qr X N' scope s3 H3 fp) [] σ' H' s'/\tn i s'.heap/\(∀ b∈fp,H' b=none)/\W i n σ' H') (λn s' hI=>?_) n0 ⟨0,cap m σ,H3,I4,tn4,fr4,w0⟩;show wpAny _ X.A ((compTurn (.ListComp elt [⟨tg,iter,ifs,0⟩] scope pos) 0 (.ref it) (.ref D) (qr X N' scope s3 H3 fp).env).onRaise (λx=>do noteFrame x (qr X N' scope s3 H3 fp).env;theTreesLotGoes x)) _ _ s';refine wpAny_noted ?_;rw [compTurn_list];refine y6 (wpAny_standAt (y6 ?_));obtain ⟨i,σ5,H5,I5,st5,fr5,w5⟩:=hI;rcases turn i n σ5 H5 w5 with ⟨stop,q⟩|⟨go,step⟩
  ·refine thn (T.done (qr X N' scope s3 H3 fp) rfl rfl rfl rfl i [] s' σ5 H5 _ I5 (stat fr5) st5 stop) λr s6 ⟨hr,I6⟩=>?_;subst hr;refine y8 ?_;obtain ⟨mm,hn6,_⟩:=I6.loc;exact ⟨mm,hn6,λh' sb=>⟨.ref D,H5,X8 I3 f3 I6 sb,rfl,q⟩⟩
  ·refine thn (T.item (qr X N' scope s3 H3 fp) rfl rfl rfl rfl i [] s' σ5 H5 _ I5 (stat fr5) st5 go) λr s6 ⟨u,hr,h6⟩=>?_;subst hr;refine y6 (thn h6 λ_ s7 ⟨x,H7,I7,r7,y7,st7,fr7⟩=>?_);have I7':=I7.pinned (stat fr7) (T.obj _ _ st7);have again:∀ {σ8:L2.St} {H8:Hp} {s8:Shared},Inv (qr X N' scope s3 H3 fp) ([]++RB fp s7.heap) σ8 H8 s8->(∃ n',n'<n/\W (i+1) n' σ8 H8) ->
     ∃ m',m'<n/\∃ i σ' H',Inv (qr X N' scope s3 H3 fp) [] σ' H' s8/\tn i s8.heap/\(∀ b∈fp,H' b=none)/\W i m' σ' H':=λ{σ8 H8 s8} I8 ⟨n',hn,w8⟩=>by
    refine ⟨n',hn,i+1,σ8,H8,I8.unpinned,T.keep _ _ _ st7 λb hb o e=>(I8.pin (b,o) (za0 _ (za0 _ (jb hb e)))).1,λb hb=>?_,w8⟩;obtain ⟨o,e,d⟩:=T.obj _ _ st7 b hb;exact (I8.pin (b,o) (za0 _ (za0 _ (jb hb e)))).2.1
   refine y6 (y9 (hg s3 H3 fp _ s7 σ5 H7 x u _ I7' r7 (step x H7 y7)) (λ_ s8 ⟨σ8,H8,I8,q8⟩=>?_) λ_ _ z=>z.elim);refine y6 (y9 (hf s3 H3 fp _ s8 σ8 H8 _ I8 q8) (λk s9 ⟨H9,I9,q9⟩=>?_) λ_ _ z=>z.elim);cases k with
   |false=>
    rw [if_neg v7] at q9;exact y8 ⟨rfl,again I9 q9⟩
   |true=>
    rw [if_pos rfl] at q9;refine y6 (y6 (y9 (he s3 H3 fp _ s9 σ8 H9 _ I9 q9) (λw s10 ⟨y,H10,I10,r10,q10⟩=>?_) λ_ _ z=>z.elim));obtain ⟨zs,hz,hl,q10⟩:=q10;refine y6 (y9 (WU (X:=qr X N' scope s3 H3 fp) _ s10 σ8 H10 (.ref D) [y] (.ref D) [w] (λ_ H11=>H11=upd H10 D (.lst (zs++[y]))) I10 rfl (.cons r10 .nil) ⟨D,zs,y,rfl,rfl,hz,hl,rfl⟩) (λ_ s11 ⟨_,H11,I11,_,e11⟩=>?_) λ_ _ z=>z.elim);subst e11;exact y8 (y8 ⟨rfl,again I11 q10⟩)
 exact codeAny_compStart_list loop (T.self X.A 0 _ _ _ tn4 loop)
end
section
variable {K:Frg} {G G':Gp} {H H':Hp}
def qjR {D:Addr} {o:HO} {ws:List V} (hD:H D=some (.lst ws)) {a:Addr} {vs:List V} (h:SqT K H a vs):SqT K (upd H D o) a vs:=by
 rcases h with h|h
 ·refine .inl ?_;rcases h with h|⟨ob,h⟩
  ·have:a≠D:=by intro e;subst e;rw [hD] at h;cases h
   exact .inl (by rw [qO this];exact h)
  ·have:a≠D:=by intro e;subst e;rw [hD] at h;cases h
   exact .inr ⟨ob,by rw [qO this];exact h⟩
 ·exact .inr h
mutual
theorem Rp.wrD {D:Addr} {o:HO} {ws:List V} (hD:H D=some (.lst ws)):∀ {x:T} {v:V},Rp K H x v->Rp K (upd H D o) x v
 |_,_,.non=>.non
 |_,_,.bl b=>.bl b
 |_,_,.int i=>.int i
 |_,_,.str x=>.str x
 |_,_,.ref a=>.ref a
 |_,_,.tup h hs=>.tup (qjR hD h) (Rps.wrD hD hs)
theorem Rps.wrD {D:Addr} {o:HO} {ws:List V} (hD:H D=some (.lst ws)):∀ {x:List T} {v:List V},Rps K H x v->Rps K (upd H D o) x v
 |_,_,.nil=>.nil
 |_,_,.cons a b=>.cons (Rp.wrD hD a) (Rps.wrD hD b)
end
theorem HR.wrD {D:Addr} {o:HO} {ws:List V} (hr:HR K G H) (hD:H D=some (.lst ws)) (g:G D=none):HR K G (upd H D o):=λa ob e=>by
 have ha:a≠D:=by intro z;subst z;rw [g] at e;cases e
 have q:=hr a ob e;cases ob with
 |lst xs=>obtain ⟨vs,h1,h2⟩:=q;exact ⟨vs,by rw [qO ha];exact h1,h2.wrD hD⟩
 |frz xs=>obtain ⟨vs,⟨o1,h1⟩,h2⟩:=q;exact ⟨vs,⟨o1,by rw [qO ha];exact h1⟩,h2.wrD hD⟩
 |dct kvs=>obtain ⟨vs,h1,h2⟩:=q;exact ⟨vs,by rw [qO ha];exact h1,h2.wrD hD⟩
 |exn C=>have h1:H a=some (.ext (IsX a C)):=q;exact (show _=_ by rw [qO ha];exact h1)
 |tab ks xs=>obtain ⟨vs,h1,h2⟩:=q;exact ⟨vs,by rw [qO ha];exact h1,h2.wrD hD⟩
theorem Rel.wrD {D:Addr} {o:HO} {ws:List V} {τ:St3} {σ:L2.St} (r:Rel K τ G σ H) (hD:H D=some (.lst ws)) (g:G D=none):Rel K τ G σ (upd H D o):=
 ⟨r.hp.wrD hD g,r.len,λi t e=>let ⟨v,h1,h2⟩:=r.st i t e;⟨v,h1,h2.wrD hD⟩⟩
def Kp.wrD {D:Addr} {o:HO} (k:Kp G H G' H') (hD:H D=none):Kp G H G' (upd H' D o):=λa ob h g=>by
 obtain ⟨h1,h2⟩:=k a ob h g;exact ⟨by rw [qO (qI h hD)];exact h1,h2⟩
def qfq {α:Type} {m:List (Option Nat)} {σ:List (Option α)} {i j:Nat} (h:m[i]?=some (some j)):(cap m σ)[i]?=some ((σ[j]?).join):=by
 unfold cap;rw [getElem?_map,h];rfl
theorem Rel.cap {τ:St3} {σ:L2.St} (r:Rel K τ G σ H) (m:List (Option Nat)):Rel K (cap m τ) G (L3.cap m σ) H:=by
 refine ⟨r.hp,by simp [L3.cap],λi t e=>?_⟩;obtain ⟨j,e1,e2⟩:=qez e;obtain ⟨v,h1,h2⟩:=r.st j t e2;exact ⟨v,by rw [qfq e1,h1];rfl,h2⟩
end
def TY (stay:Gp->Prop) (g:TG3) (tif:TT3) (te:TE3) (q:Q3):List T->List T->St3->Gp->Prop
 |[],ys,_,G=>stay G/\∀ p,G p=none->q (.ref p) (gu G p (.lst ys))
 |x::r,ys,τ,G=>stay G/\g x τ G λτ2 G2=>tif τ2 G2 λk G3=>if k=true then te τ2 G3 λy G4=>ys.length<sizeLine/\TY stay g tif te q r (ys++[y]) τ2 G4 else TY stay g tif te q r ys τ2 G3
def lc3 (wi:TI3) (g:TG3) (tif:TT3) (te:TE3) (m:List (Option Nat)):TE3:=λτ G q=>wi τ G λitems stay G1=>TY stay g tif te q items [] (cap m τ) G1
abbrev F3 (X:Cx) (ifs:List Expr) (t:TT3):Prop:=PF X ifs (lT X.K t)
def tt3:TT3:=λ_ G q=>q true G
def qr9 {X:Cx}:F3 X [] tt3:=λpins s σ H Q I ⟨τ,G,q,rl,h,af⟩=>qom pins s σ H Q I (af true G h H rl.hp Kp.refl)
def qsb {X:Cx} {c:Expr} {t:TT3} (h:C3 X c t):F3 X [c] t:=qnw h
section
variable {X:Cx}
def qtO {elt tg iter:Expr} {ifs:List Expr} {scope:Scope} {pos:Pos} (N':List Str) (m:List (Option Nat)) {wi:TI3} {g:TG3} {tif:TT3} {te:TE3} (hc:X.calm=true) (hi:I3 X tg iter wi)
  (hg:∀ s H fp,G3 (qr X N' scope s H fp) tg g) (hf:∀ s H fp,F3 (qr X N' scope s H fp) ifs tif) (he:∀ s H fp,E3 (qr X N' scope s H fp) elt te)
  (hsc:qcP X.env.scope scope=true) (hcap:DW X.N N' scope m=true) (hs:∀ x,foldedSetIterable iter X.env x=pure x:=by intro _;rfl) :
  E3 X (.ListComp elt [⟨tg,iter,ifs,0⟩] scope pos) (lc3 wi g tif te m):=
 RK (qss (g:=lG X.K g) (tif:=lT X.K tif) (te:=lE X.K te) hc hi hg hf he hsc hcap hs) λσ H Q ⟨τ,G,q,rl,h,af⟩=>by
  refine ⟨τ,G,_,rl,h,λitems stay G1 h1 J H1 hr1 k1 ok D hD=>?_⟩;have gD:G1 D=none:=hr1.free hD;refine ⟨λi n σ' H'=>n=items.length-i/\i<=items.length/\∃ τ' G' ys vs,Rel X.K τ' G' σ' H'/\Kp G1 H1 G' H'/\H' D=some (.lst vs)/\Rps X.K H' ys vs/\G' D=none/\TY stay g tif te q (items.drop i) ys τ' G',
   ⟨_,rfl,Nat.zero_le _,cap m τ,G1,[],[],((rl.next hr1 k1).cap m).next (hr1.laid hD) (Kp.laid hD),Kp.laid hD,zu,.nil,gD,by simpa using h1⟩,?_⟩
  rintro i n σ' H' ⟨rfl,hi,τ',G',ys,vs,rl',k',hDl,rys,gD',h'⟩;by_cases hlt:i<items.length
  ·rw [List.drop_eq_getElem_cons hlt] at h';obtain ⟨hst,h'⟩:=h';obtain ⟨go,yld,_⟩:=ok G' H' rl'.hp k' hst;have hx:items[i]?=some items[i]:=v9 hlt;refine .inr ⟨go i _ hx,λv H2 y=>?_⟩;obtain ⟨rv,hr2,k2⟩:=yld i _ v H2 hx y;have nxt:∀ {τ4:St3} {G4:Gp} {σ4:L2.St} {H4:Hp} {ys4:List T} {vs4:List V},Rel X.K τ4 G4 σ4 H4->Kp G1 H1 G4 H4->H4 D=some (.lst vs4)->Rps X.K H4 ys4 vs4->G4 D=none->TY stay g tif te q (items.drop (i+1)) ys4 τ4 G4 ->
     ∃ n',n'<items.length-i/\(n'=items.length-(i+1)/\i+1<=items.length/\∃ τ' G' ys vs,Rel X.K τ' G' σ4 H4/\Kp G1 H1 G' H4/\H4 D=some (.lst vs)/\Rps X.K H4 ys vs/\G' D=none/\TY stay g tif te q (items.drop (i+1)) ys τ' G'):=
    λ{τ4 G4 σ4 H4 ys4 vs4} a b c d e f=>⟨_,by omega,rfl,hlt,τ4,G4,ys4,vs4,a,b,c,d,e,f⟩
   refine ⟨_,τ',G',_,rv,rl'.next hr2 k2,h',λτ3 G3 h3 σ3 H3 rl3 k3=>⟨τ3,G3,_,rl3,h3,λk G4 h4 H4 hr4 k4=>?_⟩⟩;have kk:=(k2.trans k3).trans k4;obtain ⟨hD4,gD4⟩:=kk D _ hDl gD';have rys4:=rys.keep rl'.hp kk;cases k with
   |false=>
    rw [if_neg v7] at h4;refine qqL ?_;exact nxt (rl3.next hr4 k4) (k'.trans kk) hD4 rys4 gD4 h4
   |true=>
    rw [if_pos rfl] at h4;refine qqs ?_;refine ⟨τ3,G4,_,rl3.next hr4 k4,h4,λz G5 h5 w H5 rw5 hr5 k5=>?_⟩;obtain ⟨hD5,gD5⟩:=k5 D _ hD4 gD4;have rys5:=rys4.keep hr4 k5;exact ⟨vs,hD5,by rw [← rys.length];exact h5.1,nxt (((rl3.next hr4 k4).next hr5 k5).wrD hD5 gD5) (((k'.trans kk).trans k5).wrD hD) zu ((rys5.append (.cons rw5 .nil)).wrD hD5) gD5 h5.2⟩
  ·have e:i=items.length:=by omega
   subst e;rw [List.drop_length] at h';obtain ⟨_,_,stop⟩:=ok G' H' rl'.hp k' h'.1;refine .inl ⟨stop,af _ _ (h'.2 D gD') _ H' (.ref D) (λa o e=>?_) λa o e ga=>?_⟩
   ·by_cases ha:a=D
    ·subst ha;rw [qx] at e;cases e;exact ⟨vs,hDl,rys⟩
    ·rw [j8 ha] at e;exact rl'.hp a o e
   ·obtain ⟨e1,g1⟩:=k1 a o e ga;obtain ⟨e2,g2⟩:=k' a o e1 g1;exact ⟨e2,by rw [j8 (qI e1 hD)];exact g2⟩
end
structure Src (P:Program) (w:World) (it c:Addr) (St:Nat->Heap->Prop) (Has:Array Value->Heap->Prop):Prop where
 obj:∀ {k h},St k h->∃ o,h.get? it=some o/\∀ v,o.data≠.cell v
 keep:∀ {k h h'},St k h->(∀ o,h.get? it=some o->h'.get? it=some o)->St k h'
 hkeep:∀ {xs h h'},Has xs h->(∀ o,h.get? c=some o->h'.get? c=some o)->Has xs h'
 item:∀ {A:Around} {s:Shared} {k:Nat} {xs:Array Value} {x:Value} {Q:Value->Shared->Prop} {E:Value->Shared->Prop},St k s.heap->Has xs s.heap->xs[k]?=some x ->
  (∀ h',St (k+1) h'->Heap.SameBut it s.heap h'->Q x { s with heap:=h' })->wpAny (model P w) A (Builtin.SmallTypes.nextOf (.ref it)) Q E s
 done:∀ {A:Around} {s:Shared} {k:Nat} {xs:Array Value} {Q:Value->Shared->Prop} {E:Value->Shared->Prop},A.handled=none->St k s.heap->Has xs s.heap->xs[k]?=none ->
  (∀ h' e,Heap.ExtBut it s.heap h'->(∃ o,h'.get? e=some o/\o.cls=.type "StopIteration")->E (.ref e) { s with heap:=h' })->wpAny (model P w) A (Builtin.SmallTypes.nextOf (.ref it)) Q E s
def qfl {P:Program} {w:World} (it l:Addr):Src P w it l (λk h=>h.IsListIter it l k) (λxs h=>h.IsList l xs) where
 obj:=λst=>let ⟨o,e,_,d⟩:=st;⟨o,e,λv z=>by rw [d] at z;cases z⟩
 keep:=λst k=>st.at λo e=>k o e
 hkeep:=λst k=>st.at λo e=>k o e
 item:=λst hl hx hQ=>wpAny_nextOf_list_item st hl hx hQ
 done:=λhh st hl hx hE=>wpAny_nextOf_list_end hh st hl hx hE
def qcl {P:Program} {w:World} {A:Around} {s:Shared} {it t:Addr} {i:Nat} {its:Array Value} {x:Value} {Q:Value->Shared->Prop} {E:Value->Shared->Prop} (hit:s.heap.IsTupleIter it t i) (ht:s.heap.IsTuple t its) (hx:its[i]?=some x)
  (hQ:∀ h',h'.IsTupleIter it t (i+1)->Heap.SameBut it s.heap h'->Q x { s with heap:=h' }):wpAny (model P w) A (Builtin.SmallTypes.nextOf (.ref it)) Q E s:=by
 obtain ⟨o1,e1,c1,d1⟩:=id hit;obtain ⟨o2,e2,_,n2,d2⟩:=ht;unfold Builtin.SmallTypes.nextOf;refine y6 (wpAny_callSpecial?_slot (name:=Str.ofString "__next__") hit.typeIs F.slot_tuple_iterator_next (wpAny_call_entry F.slot_tuple_iterator_next hit.typeIs F.entry_tuple_iterator_next ?_ (F.args_tuple_iterator_next_1 _)));refine y6 (m:=field (.ref it) 0) (wpAny_field e1 d1 (x:=.ref t) rfl ?_);rw [if_neg (show ¬ ((Value.ref t==Value.none)=true) by exact v7)];refine y6 (m:=field (.ref it) 1) (wpAny_field e1 d1 (x:=.int i 0) rfl ?_);refine y6 (m:=seqItems? (.ref t)) (wpAny_seqItems e2 d2 ?_);simp only [Int.toNat_natCast,hx];refine y6 (wpAny_setField e1 d1 (by simp) (y8 ⟨x,rfl,y8 (hQ _ ⟨_,Heap.get?_update_self _ e1 (Obj.isFreed_of_fields (Obj.data_mapFields d1 _)),(Obj.cls_mapFields ..).trans c1,?_⟩ (Heap.SameBut.update ..))⟩));rw [Obj.data_mapFields d1];simp [rawInt]
def T6 {P:Program} {w:World} {A:Around} {s:Shared} {it t:Addr} {i:Nat} {its:Array Value} {Q:Value->Shared->Prop} {E:Value->Shared->Prop} (hh:A.handled=none) (hit:s.heap.IsTupleIter it t i) (ht:s.heap.IsTuple t its) (hx:its[i]?=none)
  (hE:∀ h' e,Heap.ExtBut it s.heap h'->(∃ o,h'.get? e=some o/\o.cls=.type "StopIteration")->E (.ref e) { s with heap:=h' }):wpAny (model P w) A (Builtin.SmallTypes.nextOf (.ref it)) Q E s:=by
 obtain ⟨o1,e1,c1,d1⟩:=id hit;obtain ⟨o2,e2,_,n2,d2⟩:=ht;unfold Builtin.SmallTypes.nextOf;refine y6 (wpAny_callSpecial?_slot (name:=Str.ofString "__next__") hit.typeIs F.slot_tuple_iterator_next (wpAny_call_entry F.slot_tuple_iterator_next hit.typeIs F.entry_tuple_iterator_next ?_ (F.args_tuple_iterator_next_1 _)));refine y6 (m:=field (.ref it) 0) (wpAny_field e1 d1 (x:=.ref t) rfl ?_);rw [if_neg (show ¬ ((Value.ref t==Value.none)=true) by exact v7)];refine y6 (m:=field (.ref it) 1) (wpAny_field e1 d1 (x:=.int i 0) rfl ?_);refine y6 (m:=seqItems? (.ref t)) (wpAny_seqItems e2 d2 ?_);simp only [Int.toNat_natCast,hx];refine y6 (wpAny_rule (y6 (wpAny_setField e1 d1 (by simp) ?_)));refine y6 (m:=newExc (.type "StopIteration") []) ?_;simp only [newExc,newTuple];refine y6 (wpAny_newObj_type ?_ (by size_fits));refine y6 (m:=firstArgMember _ _) (wpAny_of_eq (a:=Value.none) (by first|rfl|(simp only [firstArgMember]<;>rfl)) (wpAny_newObj_type ?_ (by size_fits)));simp only [raiseNew];refine y6 (wpAny_handled ?_)
 first|rw [show A.in1.handled=Option.none from hh]|rw [show A.handled=Option.none from hh]
 exact y6 (y8 (wpAny_throw (hE _ _ (((Heap.SameBut.update ..).extBut.push _).push _) ⟨_,v5 _ rfl,rfl⟩)))
def qjd {P:Program} {w:World} (it t:Addr):Src P w it t (λk h=>h.IsTupleIter it t k) (λxs h=>h.IsTuple t xs) where
 obj:=λst=>let ⟨o,e,_,d⟩:=st;⟨o,e,λv z=>by rw [d] at z;cases z⟩
 keep:=λst k=>st.at λo e=>k o e
 hkeep:=λst k=>st.at λo e=>k o e
 item:=λst hl hx hQ=>qcl st hl hx hQ
 done:=λhh st hl hx hE=>T6 hh st hl hx hE
structure ZA (z ti to i1 i2 c1 c2:Addr):Prop where
 ne:([z,ti,to,i1,i2]:List Addr).Nodup
 a1:c1∉[z,to,i1,i2]
 a2:c2∉[z,to,i1,i2]
section
variable {P:Program} {w:World} {A:Around} {s:Shared} {z ti to i1 i2 c1 c2:Addr} {S1 S2:Nat->Heap->Prop} {H1 H2:Array Value->Heap->Prop} {k1 k2:Nat} {xs ys:Array Value} {x y a b:Value} {E:Value->Shared->Prop}
def qf6 {Q:Value->Shared->Prop} (R1:Src P w i1 c1 S1 H1) (R2:Src P w i2 c2 S2 H2) (D:ZA z ti to i1 i2 c1 c2) (hz:IsZip s.heap z ti to .none) (hi:IsPair s.heap ti (.ref i1) (.ref i2)) (ho:IsPair s.heap to a b)
  (p1:S1 k1 s.heap) (p2:S2 k2 s.heap) (l1:H1 xs s.heap) (l2:H2 ys s.heap) (hx:xs[k1]?=some x) (hy:ys[k2]?=some y)
  (hQ:∀ h',IsZip h' z ti to (rawInt s.heap.objs.size)->IsPair h' to x y->S1 (k1+1) h'->S2 (k2+1) h'->IsPair h' s.heap.objs.size x y->(∀ c o,c∉[z,to,i1,i2]->s.heap.get? c=some o->h'.get? c=some o)->Q (.ref s.heap.objs.size) { s with heap:=h' }) :
  wpAny (model P w) A (Builtin.«zip.__next__» ⟨[.ref z],[]⟩) (λfin s'=>∃ v,fin=.done (.ret v)/\Q v s') E s:=by
 have ne:=D.ne;simp only [List.nodup_cons,mem_cons,not_mem_nil,not_or,or_false] at ne;obtain ⟨⟨n1,n2,n3,n4⟩,⟨n5,n6,n7⟩,⟨n8,n9⟩,n10,_⟩:=ne;have a1:=D.a1;have a2:=D.a2;simp only [mem_cons,not_mem_nil,not_or,or_false] at a1 a2;obtain ⟨q1,q2,q3,q4⟩:=a1;obtain ⟨r1,r2,r3,r4⟩:=a2;refine y6 (m:=field (.ref z) 2) (wpAny_field hz rfl (x:=.bool false) rfl ?_);refine y6 (m:=field (.ref z) 3) (wpAny_field hz rfl (x:=.ref ti) rfl ?_);refine y6 (wpAny_seqItems hi rfl ?_);refine y6 (m:=Builtin.SmallTypes.ownedTupleIsFree (.ref z)) ?_;unfold Builtin.SmallTypes.ownedTupleIsFree;refine y6 (wpAny_field hz rfl (x:=Value.none) rfl (y8 ?_));simp only [if_true];refine y6 (wpAny_rule (y6 (wpAny_field hz rfl (x:=.ref to) rfl (y6 (wpAny_setField_rec hz (by simp) λg1 z1 s1=>?_)))))
 replace z1:IsZip g1 z ti to Value.ellipsis:=z1
 refine y6 ?_;simp only [List.zipIdx_cons,List.zipIdx_nil,List.forIn_cons,List.forIn_nil];refine y6 (y6 (wpAny_onRaise (y6 (m:=Builtin.SmallTypes.nextOf (.ref i1)) ?_)));refine R1.item (R1.keep p1 λo e=>s1.extBut _ _ (Ne.symm n3) e) (R1.hkeep l1 λo e=>s1.extBut _ _ q1 e) hx λg2 p12 s2=>y8 ?_;have t2:IsPair g2 to a b:=s2.extBut _ _ n8 (s1.extBut _ _ (Ne.symm n2) ho);refine y6 (wpAny_seqItems t2 rfl (y6 (wpAny_updateSeq_pair t2 λg3 t3 s3=>?_)))
 replace t3:IsPair g3 to x b:=t3
 refine y6 (wpAny_letGo (y8 (y6 (y6 (wpAny_onRaise (y6 (m:=Builtin.SmallTypes.nextOf (.ref i2)) ?_))))));refine R2.item (R2.keep p2 λo e=>s3.extBut _ _ (Ne.symm n9) (s2.extBut _ _ (Ne.symm n10) (s1.extBut _ _ (Ne.symm n4) e))) (R2.hkeep l2 λo e=>s3.extBut _ _ r2 (s2.extBut _ _ r3 (s1.extBut _ _ r1 e))) hy λg4 p24 s4=>y8 ?_;have t4:IsPair g4 to x b:=s4.extBut _ _ n9 t3;refine y6 (wpAny_seqItems t4 rfl (y6 (wpAny_updateSeq_pair t4 λg5 t5 s5=>?_)))
 replace t5:IsPair g5 to x y:=t5
 refine y6 (wpAny_letGo (y8 (y8 (y6 (wpAny_seqItems t5 rfl (y6 (wpAny_newTuple ?_)))))));have sz:g5.objs.size=s.heap.objs.size:=by rw [s5.1,s4.1,s3.1,s2.1,s1.1]
 have z5:IsZip g5 z ti to Value.ellipsis:=s5.extBut _ _ n2 (s4.extBut _ _ n4 (s3.extBut _ _ n2 (s2.extBut _ _ n3 z1)));have kk:∀ c o,c∉[z,to,i1,i2]->s.heap.get? c=some o->g5.get? c=some o:=λc o hc e=>by
  simp only [mem_cons,not_mem_nil,not_or,or_false] at hc;exact s5.extBut _ _ hc.2.1 (s4.extBut _ _ hc.2.2.2 (s3.extBut _ _ hc.2.1 (s2.extBut _ _ hc.2.2.1 (s1.extBut _ _ hc.1 e))))
 have p15:S1 (k1+1) g5:=R1.keep p12 λo e=>s5.extBut _ _ (Ne.symm n8) (s4.extBut _ _ n10 (s3.extBut _ _ (Ne.symm n8) e));have p25:S2 (k2+1) g5:=R2.keep p24 λo e=>s5.extBut _ _ (Ne.symm n9) e;have zlt:z<g5.objs.size:=v6 z5;refine y6 (m:=Builtin.SmallTypes.ownedTupleHandOut (.ref z) (.ref g5.objs.size)) ?_;unfold Builtin.SmallTypes.ownedTupleHandOut;have z6:IsZip (g5.push { cls:=.type "tuple",data:=.seq #[x,y] }) z ti to Value.ellipsis:=v4 _ z5;refine y6 (wpAny_setField_rec z6 (by simp) λg7 z7 s7=>?_)
 replace z7:IsZip g7 z ti to (rawInt g5.objs.size):=z7
 refine wpAny_setField_rec z7 (by simp) λg8 z8 s8=>?_
 replace z8:IsZip g8 z ti to (rawInt g5.objs.size):=z8
 have up:∀ c o,c≠z->g5.get? c=some o->g8.get? c=some o:=λc o hc e=>s8.extBut _ _ hc (s7.extBut _ _ hc (v4 _ e));have t8:IsPair g8 g5.objs.size x y:=s8.extBut _ _ (Nat.ne_of_gt zlt) (s7.extBut _ _ (Nat.ne_of_gt zlt) (v5 _ rfl));rw [sz] at z8 t8;refine y8 ⟨_,rfl,?_⟩;show Q (Value.ref g5.objs.size) _;rw [sz];exact hQ g8 z8 (up _ _ (Ne.symm n2) t5) (R1.keep p15 λo e=>up _ o (Ne.symm n3) e) (R2.keep p25 λo e=>up _ o (Ne.symm n4) e) t8 λc o hc e=>up c o (λq=>hc (by simp [q])) (kk c o hc e)
def qkh {Q:Fin->Shared->Prop} (hh:A.handled=none) (R1:Src P w i1 c1 S1 H1) (R2:Src P w i2 c2 S2 H2) (D:ZA z ti to i1 i2 c1 c2) (hz:IsZip s.heap z ti to .none) (hi:IsPair s.heap ti (.ref i1) (.ref i2)) (ho:IsPair s.heap to a b)
  (p1:S1 k1 s.heap) (p2:S2 k2 s.heap) (l1:H1 xs s.heap) (l2:H2 ys s.heap) (hend:xs[k1]?=none\/ys[k2]?=none)
  (hE:∀ h' e,(∀ c o,c∉[z,to,i1,i2]->s.heap.get? c=some o->h'.get? c=some o)->(∃ o,h'.get? e=some o/\o.cls=.type "StopIteration")->E (.ref e) { s with heap:=h' }) :
  wpAny (model P w) A (Builtin.«zip.__next__» ⟨[.ref z],[]⟩) Q E s:=by
 have ne:=D.ne;simp only [List.nodup_cons,mem_cons,not_mem_nil,not_or,or_false] at ne;obtain ⟨⟨n1,n2,n3,n4⟩,⟨n5,n6,n7⟩,⟨n8,n9⟩,n10,_⟩:=ne;have a1:=D.a1;have a2:=D.a2;simp only [mem_cons,not_mem_nil,not_or,or_false] at a1 a2;obtain ⟨q1,q2,q3,q4⟩:=a1;obtain ⟨r1,r2,r3,r4⟩:=a2;refine y6 (m:=field (.ref z) 2) (wpAny_field hz rfl (x:=.bool false) rfl ?_);refine y6 (m:=field (.ref z) 3) (wpAny_field hz rfl (x:=.ref ti) rfl ?_);refine y6 (wpAny_seqItems hi rfl ?_);refine y6 (m:=Builtin.SmallTypes.ownedTupleIsFree (.ref z)) ?_;unfold Builtin.SmallTypes.ownedTupleIsFree;refine y6 (wpAny_field hz rfl (x:=Value.none) rfl (y8 ?_));simp only [if_true];refine y6 (wpAny_rule (y6 (wpAny_field hz rfl (x:=.ref to) rfl (y6 (wpAny_setField_rec hz (by simp) λg1 z1 s1=>?_)))))
 replace z1:IsZip g1 z ti to Value.ellipsis:=z1
 refine y6 ?_;simp only [List.zipIdx_cons,List.zipIdx_nil,List.forIn_cons,List.forIn_nil];refine y6 (y6 (wpAny_onRaise (y6 (m:=Builtin.SmallTypes.nextOf (.ref i1)) ?_)));cases hx:xs[k1]? with
 |none=>
  refine R1.done hh (R1.keep p1 λo e=>s1.extBut _ _ (Ne.symm n3) e) (R1.hkeep l1 λo e=>s1.extBut _ _ q1 e) hx λg2 e s2 ⟨oe,he,ce⟩=>?_;have z2:IsZip g2 z ti to Value.ellipsis:=s2 _ _ n3 z1;have ez:e≠z:=λq=>by subst q;rw [z2] at he;cases he;simp at ce
  refine wpAny_setField_rec z2 (by simp) λg3 _ s3=>hE g3 e (λc o hc q=>?_) ⟨oe,s3.extBut _ _ ez he,ce⟩;simp only [mem_cons,not_mem_nil,not_or,or_false] at hc;exact s3.extBut _ _ hc.1 (s2 _ _ hc.2.2.1 (s1.extBut _ _ hc.1 q))
 |some x=>
  have hy:ys[k2]?=none:=by rcases hend with q|q;rw [hx] at q;cases q;exact q
  refine R1.item (R1.keep p1 λo e=>s1.extBut _ _ (Ne.symm n3) e) (R1.hkeep l1 λo e=>s1.extBut _ _ q1 e) hx λg2 p12 s2=>y8 ?_;have t2:IsPair g2 to a b:=s2.extBut _ _ n8 (s1.extBut _ _ (Ne.symm n2) ho);refine y6 (wpAny_seqItems t2 rfl (y6 (wpAny_updateSeq_pair t2 λg3 t3 s3=>?_)));refine y6 (wpAny_letGo (y8 (y6 (y6 (wpAny_onRaise (y6 (m:=Builtin.SmallTypes.nextOf (.ref i2)) ?_))))));refine R2.done hh (R2.keep p2 λo e=>s3.extBut _ _ (Ne.symm n9) (s2.extBut _ _ (Ne.symm n10) (s1.extBut _ _ (Ne.symm n4) e))) (R2.hkeep l2 λo e=>s3.extBut _ _ r2 (s2.extBut _ _ r3 (s1.extBut _ _ r1 e))) hy λg4 e s4 ⟨oe,he,ce⟩=>?_;have z4:IsZip g4 z ti to Value.ellipsis:=s4 _ _ n4 (s3.extBut _ _ n2 (s2.extBut _ _ n3 z1));have ez:e≠z:=λq=>by subst q;rw [z4] at he;cases he;simp at ce
  refine wpAny_setField_rec z4 (by simp) λg5 _ s5=>hE g5 e (λc o hc q=>?_) ⟨oe,s5.extBut _ _ ez he,ce⟩;simp only [mem_cons,not_mem_nil,not_or,or_false] at hc;exact s5.extBut _ _ hc.1 (s4 _ _ hc.2.2.2 (s3.extBut _ _ hc.2.1 (s2.extBut _ _ hc.2.2.1 (s1.extBut _ _ hc.1 q))))
end
abbrev qrB (b:Bool):String:=if b then "list_iterator" else "tuple_iterator"
abbrev jd (b:Bool) (c:Addr):Obj:={ cls:=.type (qrB b),data:=.fields #[.ref c,.int 0 0] }
def qfh (b:Bool) (it c:Addr) (k:Nat) (h:Heap):Prop:=match b with|true=>h.IsListIter it c k|false=>h.IsTupleIter it c k
def qav (b:Bool) (c:Addr) (xs:Array Value) (h:Heap):Prop:=match b with|true=>h.IsList c xs|false=>h.IsTuple c xs
def jq {P:Program} {w:World} (b:Bool) (it c:Addr):Src P w it c (qfh b it c) (qav b c):=by
 cases b
 ·exact qjd it c
 ·exact qfl it c
def qaK {P:Program} {w:World} {A:Around} {s:Shared} {b:Bool} {c:Addr} {xs:Array Value} {Q:Value->Shared->Prop} {E:Value->Shared->Prop} (h:qav b c xs s.heap) (q:Q (.ref s.heap.objs.size) { s with heap:=s.heap.push (jd b c) }) :
  wpAny (model P w) A (pyIter (.ref c)) Q E s:=by
 cases b
 ·exact wpAny_pyIter_tuple (show s.heap.IsTuple c xs from h) q
 ·exact wpAny_pyIter_list (show s.heap.IsList c xs from h) q
def qeA {b:Bool} {c:Addr} {xs:Array Value} {h:Heap} {o:Obj} (q:qav b c xs h):qav b c xs (h.push o):=by
 cases b
 ·exact (show h.IsTuple c xs from q).at λ_ e=>v4 _ e
 ·exact (show h.IsList c xs from q).at λ_ e=>v4 _ e
abbrev zh1 (h:Heap) (o1:Obj):Heap:=h.push o1
abbrev zh2 (h:Heap) (o1 o2:Obj):Heap:=(zh1 h o1).push o2
abbrev zh3 (h:Heap) (o1 o2:Obj):Heap:=(zh2 h o1 o2).push { cls:=.type "tuple",data:=.seq #[.ref h.objs.size,.ref (zh1 h o1).objs.size] }
abbrev zh4 (h:Heap) (o1 o2:Obj):Heap:=(zh3 h o1 o2).push { cls:=.type "tuple",data:=.seq #[.none,.none] }
abbrev zh5 (h:Heap) (o1 o2:Obj):Heap:=(zh4 h o1 o2).push { cls:=.type "zip",data:=.fields #[.none,.bool false,.bool false,.ref (zh2 h o1 o2).objs.size,.ref (zh3 h o1 o2).objs.size] }
def qdV (c1 c2:Addr) (o1 o2:Obj) :
  Meets (Builtin.«zip.__new__» ⟨[.type "zip",.ref c1,.ref c2],[]⟩) (λ_ R s=>
   (∀ (P:Program) (w:World) (A:Around) (Q:Value->Shared->Prop) (E:Value->Shared->Prop),Q (.ref s.heap.objs.size) { s with heap:=zh1 s.heap o1 }->wpAny (model P w) A (pyIter (.ref c1)) Q E s) /\
   (∀ (P:Program) (w:World) (A:Around) (Q:Value->Shared->Prop) (E:Value->Shared->Prop),Q (.ref (zh1 s.heap o1).objs.size) { s with heap:=zh2 s.heap o1 o2 }->wpAny (model P w) A (pyIter (.ref c2)) Q E { s with heap:=zh1 s.heap o1 }) /\
   R (.ok (.ret (.ref (zh4 s.heap o1 o2).objs.size))) { s with heap:=zh5 s.heap o1 o2 }):=
 .of_wp λprog w A R s h=>by
  obtain ⟨hp,g,d,tk,os⟩:=s;obtain ⟨h1,h2,h⟩:=h;have hsub:=sub_zip;have k1:=λA Q E=>h1 prog w A Q E;have k2:=λA Q E=>h2 prog w A Q E
  wp_walk using k1 _ _ _,k2 _ _ _
  exact ⟨_,rfl,h⟩
def qfW (b1 b2:Bool) (z ti to i1 i2 c1 c2:Addr) (k:Nat) (h:Heap):Prop:=
 IsZip h z ti to .none/\IsPair h ti (.ref i1) (.ref i2)/\(∃ a b,IsPair h to a b)/\qfh b1 i1 c1 k h/\qfh b2 i2 c2 k h
section
variable {P:Program} {w:World} {A:Around} {s:Shared} {E:Value->Shared->Prop}
def qff {b1 b2:Bool} {c1 c2:Addr} {xs ys:Array Value} {Q:Value->Shared->Prop} (h1:qav b1 c1 xs s.heap) (h2:qav b2 c2 ys s.heap)
  (q:∀ h',qfW b1 b2 (s.heap.objs.size+4) (s.heap.objs.size+2) (s.heap.objs.size+3) s.heap.objs.size (s.heap.objs.size+1) c1 c2 0 h'->(∀ c o,s.heap.get? c=some o->h'.get? c=some o)->Q (.ref (s.heap.objs.size+4)) { s with heap:=h' }) :
  wpAny (model P w) A (call (.type "zip") [.ref c1,.ref c2]) Q E s:=by
 refine callType_new F.called_zip (by decide) (F.typeCall_zip_2 _ _) (F.newCall_zip_2 _ _) (λobj=>F.args_object_init_3 obj _ _) F.entry_zip_new
  (qdV c1 c2 (jd b1 c1) (jd b2 c2)) ⟨λP w A Q E q=>qaK h1 q,λP w A Q E q=>qaK (s:={ s with heap:=zh1 s.heap (jd b1 c1) }) (qeA h2) q,?_⟩
 have e1:(zh1 s.heap (jd b1 c1)).objs.size=s.heap.objs.size+1:=Heap.size_push ..;have e2:(zh2 s.heap (jd b1 c1) (jd b2 c2)).objs.size=s.heap.objs.size+2:=by rw [Heap.size_push,e1]
 have e3:(zh3 s.heap (jd b1 c1) (jd b2 c2)).objs.size=s.heap.objs.size+3:=by rw [Heap.size_push,e2]
 have e4:(zh4 s.heap (jd b1 c1) (jd b2 c2)).objs.size=s.heap.objs.size+4:=by rw [Heap.size_push,e3]
 have g5:(zh5 s.heap (jd b1 c1) (jd b2 c2)).get? (zh4 s.heap (jd b1 c1) (jd b2 c2)).objs.size=some _:=v5 _ rfl;have g4:(zh5 s.heap (jd b1 c1) (jd b2 c2)).get? (zh3 s.heap (jd b1 c1) (jd b2 c2)).objs.size=some _:=v4 _ (v5 _ rfl);have g3:(zh5 s.heap (jd b1 c1) (jd b2 c2)).get? (zh2 s.heap (jd b1 c1) (jd b2 c2)).objs.size=some _:=v4 _ (v4 _ (v5 _ rfl));have g2:(zh5 s.heap (jd b1 c1) (jd b2 c2)).get? (zh1 s.heap (jd b1 c1)).objs.size=some (jd b2 c2):=v4 _ (v4 _ (v4 _ (v5 _ rfl)));have g1:(zh5 s.heap (jd b1 c1) (jd b2 c2)).get? s.heap.objs.size=some (jd b1 c1):=v4 _ (v4 _ (v4 _ (v4 _ (v5 _ rfl))));show _/\_;rw [e2,e3,e4] at g5;rw [e1,e2] at g3;rw [e3] at g4;rw [e1] at g2;rw [e4];refine ⟨⟨_,g5,rfl⟩,q _ ⟨g5,g3,⟨_,_,g4⟩,?_,?_⟩ λc o e=>v4 _ (v4 _ (v4 _ (v4 _ (v4 _ e))))⟩
 ·cases b1<;>exact ⟨_,g1,rfl,rfl⟩
 ·cases b2<;>exact ⟨_,g2,rfl,rfl⟩
def qfE {b1 b2:Bool} {z ti to i1 i2 c1 c2:Addr} {k:Nat} {xs ys:Array Value} {x y:Value} {Q:Option Value->Shared->Prop} (D:ZA z ti to i1 i2 c1 c2) (st:qfW b1 b2 z ti to i1 i2 c1 c2 k s.heap) (l1:qav b1 c1 xs s.heap) (l2:qav b2 c2 ys s.heap) (hx:xs[k]?=some x) (hy:ys[k]?=some y)
  (hQ:∀ h',IsZip h' z ti to (rawInt s.heap.objs.size)->IsPair h' ti (.ref i1) (.ref i2)->(∃ a b,IsPair h' to a b)->qfh b1 i1 c1 (k+1) h'->qfh b2 i2 c2 (k+1) h'->IsPair h' s.heap.objs.size x y->(∀ c o,c∉[z,to,i1,i2]->s.heap.get? c=some o->h'.get? c=some o)->Q (some (.ref s.heap.objs.size)) { s with heap:=h' }) :
  wpAny (model P w) A (pyNext (.ref z)) Q E s:=by
 obtain ⟨hz,hi,⟨a,b,ho⟩,p1,p2⟩:=st;have ty:s.TypeIs (.ref z) "zip" := ⟨_,hz,rfl⟩
 have nti:ti∉[z,to,i1,i2]:=by
  have ne:=D.ne;simp only [List.nodup_cons,mem_cons,not_mem_nil,not_or,or_false] at ne ⊢;exact ⟨Ne.symm ne.1.1,ne.2.1.1,ne.2.1.2.1,ne.2.1.2.2⟩
 unfold pyNext;exact y6 (wpAny_attempt (wpAny_callSpecial?_slot (name:=Str.ofString "__next__") ty F.slot_zip_next (wpAny_call_entry F.slot_zip_next ty F.entry_zip_next
  (qf6 (jq b1 i1 c1) (jq b2 i2 c2) D hz hi ho p1 p2 l1 l2 hx hy λh' u1 u2 u3 u4 u5 u6=>y8 (hQ h' u1 (u6 _ _ nti hi) ⟨_,_,u2⟩ u3 u4 u5 u6)) (F.args_zip_next_1 _))))
def NY {b1 b2:Bool} {z ti to i1 i2 c1 c2:Addr} {k:Nat} {xs ys:Array Value} {Q:Option Value->Shared->Prop} (hh:A.handled=none) (D:ZA z ti to i1 i2 c1 c2) (st:qfW b1 b2 z ti to i1 i2 c1 c2 k s.heap) (l1:qav b1 c1 xs s.heap) (l2:qav b2 c2 ys s.heap) (hend:xs[k]?=none\/ys[k]?=none)
  (hQ:∀ h',(∀ c o,c∉[z,to,i1,i2]->s.heap.get? c=some o->h'.get? c=some o)->Q none { s with heap:=h' }):wpAny (model P w) A (pyNext (.ref z)) Q E s:=by
 obtain ⟨hz,hi,⟨a,b,ho⟩,p1,p2⟩:=st;have ty:s.TypeIs (.ref z) "zip" := ⟨_,hz,rfl⟩
 unfold pyNext;refine y6 (wpAny_attempt (wpAny_callSpecial?_slot (name:=Str.ofString "__next__") ty F.slot_zip_next (wpAny_call_entry F.slot_zip_next ty F.entry_zip_next
  (qkh hh (jq b1 i1 c1) (jq b2 i2 c2) D hz hi ho p1 p2 l1 l2 hend λh' e hk ⟨o,q1,q2⟩=>?_) (F.args_zip_next_1 _))))
 exact y6 (wpAny_isInstance (T:="StopIteration") (b:=true) ⟨o,q1,q2⟩ isSubtype_stop (y8 (hQ _ hk)))
end
def SqB (K:Frg) (b:Bool) (H:Hp) (a:Addr) (xs:List V):Prop:=match b with|true=>SqL K H a xs|false=>SqT K H a xs
def SqB.get {X:Cx} {pins:List (Addr×Obj)} {σ:L2.St} {H:Hp} {s:Shared} {b:Bool} {a:Addr} {xs:List V} (I:Inv X pins σ H s) (h:SqB X.K b H a xs):∃ its:List Value,jh xs its/\qav b a its.toArray s.heap/\xs.length<=sizeLine:=by
 cases b
 ·obtain ⟨its,r,p,hz⟩:=I.tuple (show SqT X.K H a xs from h);exact ⟨its,r,(show s.heap.IsTuple a its.toArray from p),hz⟩
 ·obtain ⟨its,r,p,hz⟩:=I.list (show SqL X.K H a xs from h);exact ⟨its,r,p.isList,hz⟩
def SqB.inj {X:Cx} {pins:List (Addr×Obj)} {σ:L2.St} {H:Hp} {s:Shared} {b:Bool} {a:Addr} {xs ys:List V} (I:Inv X pins σ H s) (h:SqB X.K b H a xs) (h':SqB X.K b H a ys):xs=ys:=by
 cases b
 ·exact I.tuple_inj h h'
 ·exact I.list_inj h h'
def Itz (K:Frg) (b1 b2:Bool) (c1 c2:Addr):It:=
  ⟨λi H=>∃ xs ys x y,SqB K b1 H c1 xs/\SqB K b2 H c2 ys/\xs[i]?=some x/\ys[i]?=some y,
   λi H v H'=>∃ p x y,H p=none/\v=.ref p/\H'=upd H p (.tup [x,y])/\(∀ xs,SqB K b1 H c1 xs->xs[i]?=some x)/\(∀ ys,SqB K b2 H c2 ys->ys[i]?=some y),
   λi H=>∃ xs ys,SqB K b1 H c1 xs/\SqB K b2 H c2 ys/\(xs.length<=i\/ys.length<=i)⟩
def qjv {b:Bool} {c:Addr} {xs:Array Value} {h:Heap} (q:qav b c xs h):c<h.objs.size:=by
 cases b
 ·obtain ⟨o,e,_⟩:=(show h.IsTuple c xs from q);exact v6 e
 ·obtain ⟨o,e,_⟩:=(show h.IsList c xs from q);exact v6 e
def qfP {P:Program} {w:World} {K:Frg} {es:List Expr} {k1:Nat} {pt:Pos} {b1 b2:Bool} {z ti to i1 i2 c1 c2:Addr} (D:ZA z ti to i1 i2 c1 c2):Turn P w K (.Tuple es k1 pt) (Itz K b1 b2 c1 c2) [z,ti,to,i1,i2] z (qfW b1 b2 z ti to i1 i2 c1 c2) where
 mem:=by simp
 obj:=λi h ⟨hz,hi,⟨a,b,ho⟩,p1,p2⟩ c hc=>by
  simp only [mem_cons,not_mem_nil,or_false] at hc;rcases hc with rfl|rfl|rfl|rfl|rfl
  ·exact ⟨_,hz,λv q=>by cases q⟩
  ·exact ⟨_,hi,λv q=>by cases q⟩
  ·exact ⟨_,ho,λv q=>by cases q⟩
  ·exact (jq (P:=P) (w:=w) b1 c c1).obj p1
  ·exact (jq (P:=P) (w:=w) b2 c c2).obj p2
 keep:=λi h h' ⟨hz,hi,⟨a,b,ho⟩,p1,p2⟩ k=>
  ⟨k z (by simp) _ hz,k ti (by simp) _ hi,⟨a,b,k to (by simp) _ ho⟩,(jq (P:=P) (w:=w) b1 i1 c1).keep p1 λo e=>k i1 (by simp) o e,(jq (P:=P) (w:=w) b2 i2 c2).keep p2 λo e=>k i2 (by simp) o e⟩
 item:=by
  intro X hP hw hK hc i pins s σ H E I hf st hg;subst hP hw hK;obtain ⟨xs,ys,x,y,sq1,sq2,hx,hy⟩:=hg;obtain ⟨its1,rv1,l1,z1⟩:=sq1.get I;obtain ⟨its2,rv2,l2,z2⟩:=sq2.get I;obtain ⟨u1,hu1,ru1⟩:=rv1.get hx;obtain ⟨u2,hu2,ru2⟩:=rv2.get hy;refine qfE D st l1 l2 (x:=u1) (y:=u2) (by simpa using hu1) (by simpa using hu2) λh' hz hi ho p1 p2 hp hk=>?_;have hfr:H s.heap.objs.size=none:=I.fresh;have free:∀ b∈[z,ti,to,i1,i2],H b=none:=λb hb=>(hf b hb).1;refine ⟨_,rfl,wpAny_letOwnedTupleGo_zip hz λh2 hz2 s2=>?_⟩;have zlt:z<s.heap.objs.size:=v6 st.1;have hp2:IsPair h2 s.heap.objs.size u1 u2:=(s2.2 _ (Nat.ne_of_gt zlt)).trans hp;have ne:=D.ne;simp only [List.nodup_cons,mem_cons,not_mem_nil,not_or,or_false] at ne;have up:∀ c o,c≠z->h'.get? c=some o->h2.get? c=some o:=λc o hc e=>(s2.2 c hc).trans e;have kk:∀ c o,c∉[z,to,i1,i2]->s.heap.get? c=some o->h2.get? c=some o:=λc o hc e=>up c o (λq=>hc (by simp [q])) (hk c o hc e);have I3:Inv X pins σ (upd H s.heap.objs.size (.tup [x,y])) { s with heap:=h2 }:=by
   refine I.step (g':=s.gens) (d':=s.drawn) (t':=s.toks) (ch:=[z,to,i1,i2]) (λb hb=>?_) (λb o _ _ hcb e _=>kk b o hcb e) (λb o _ _ hcb e _=>⟨o.slots,kk b o hcb e⟩) (λb o _ e n=>by rw [qO (za4 (v6 e))];exact n) (λb o hcb e=>⟨o,kk b o hcb e⟩)
    (λb _ e=>by rw [qO (qI e hfr)];exact e) (λb _ _ e=>by rw [qO (qI e hfr)];exact e) (λb ps e=>⟨#[],by rw [qO (qI e hfr),e];simp⟩) (λm hm=>?_) (λb u e=>?_) I.bare
   ·obtain ⟨f0,f1,f2,f3,f4,f5⟩:=hf b (by simp only [mem_cons,not_mem_nil,or_false] at hb ⊢;rcases hb with q|q|q|q<;>simp [q]);exact ⟨f3,f1,f4,f5⟩
   ·obtain ⟨o,es',ep,ho',r⟩:=hm;refine ⟨o,es',ep,kk _ o (λq=>?_) ho',r⟩;obtain ⟨f0,f1,_⟩:=hf X.env.locals (by simp only [mem_cons,not_mem_nil,or_false] at q ⊢;rcases q with q|q|q|q<;>simp [q]);exact f1 rfl
   ·by_cases hb:b=s.heap.objs.size
    ·subst hb;rw [zu] at e;cases e;exact ⟨by show 2<=sizeLine;decide,[u1,u2],.cons ru1 (.cons ru2 .nil),⟨_,hp2,rfl,_,rfl,rfl⟩⟩
    ·rw [qO hb] at e;refine (I.hok b u e).stay (λc v hcb q=>kk c v (λm=>?_) q) (λ_ q=>by rw [qO (qI q hfr)];exact q) λ_ _ q=>by rw [qO (qI q hfr)];exact q
     have hn:=free c (by simp only [mem_cons,not_mem_nil,or_false] at m ⊢;rcases m with q|q|q|q<;>simp [q]);rcases hcb with q|q
     ·rw [q] at hn;rw [hn] at e;cases e
     ·rw [hn] at q;cases q
  refine ⟨.ref s.heap.objs.size,_,I3,rfl,⟨_,x,y,hfr,rfl,rfl,λzs q=>by rw [q.inj I sq1];exact hx,λzs q=>by rw [q.inj I sq2];exact hy⟩,⟨hz2,up _ _ (Ne.symm ne.1.1) hi,let ⟨a,b,q⟩:=ho;⟨a,b,up _ _ (Ne.symm ne.1.2.1) q⟩,(jq (P:=X.prog) (w:=X.w) b1 i1 c1).keep p1 λo e=>up _ o (Ne.symm ne.1.2.2.1) e,(jq (P:=X.prog) (w:=X.w) b2 i2 c2).keep p2 λo e=>up _ o (Ne.symm ne.1.2.2.2) e⟩,λb hb=>?_⟩;rw [qO (λq=>?_)]
  ·exact free b hb
  ·subst q;obtain ⟨hz0,hi0,⟨a0,b0,ho0⟩,q1,q2⟩:=st;simp only [mem_cons,not_mem_nil,or_false] at hb;rcases hb with q|q|q|q|q
   ·exact absurd q (Nat.ne_of_gt zlt)
   ·exact absurd q (Nat.ne_of_gt (v6 hi0))
   ·exact absurd q (Nat.ne_of_gt (v6 ho0))
   ·obtain ⟨o,e,_⟩:=(jq (P:=X.prog) (w:=X.w) b1 i1 c1).obj q1;exact absurd q (Nat.ne_of_gt (v6 e))
   ·obtain ⟨o,e,_⟩:=(jq (P:=X.prog) (w:=X.w) b2 i2 c2).obj q2;exact absurd q (Nat.ne_of_gt (v6 e))
 done:=by
  intro X hP hw hK hc i pins s σ H E I hf st hg;subst hP hw hK;obtain ⟨xs,ys,sq1,sq2,hend⟩:=hg;obtain ⟨its1,rv1,l1,z1⟩:=sq1.get I;obtain ⟨its2,rv2,l2,z2⟩:=sq2.get I;have e1:=rv1.length;have e2:=rv2.length;refine NY (I.ok.hd hc) D st l1 l2 (by rcases hend with q|q;exact .inl (by simp;omega);exact .inr (by simp;omega)) λh' hk=>⟨rfl,?_⟩
  have free:∀ b∈[z,ti,to,i1,i2],H b=none:=λb hb=>(hf b hb).1;refine I.step (g':=s.gens) (d':=s.drawn) (t':=s.toks) (ch:=[z,to,i1,i2]) (λb hb=>?_) (λb o _ _ hcb e _=>hk b o hcb e) (λb o _ _ hcb e _=>⟨o.slots,hk b o hcb e⟩) (λ_ _ _ _ n=>n) (λb o hcb e=>⟨o,hk b o hcb e⟩) (λ_ _ e=>e) (λ_ _ _ e=>e) (λb ps e=>⟨#[],by rw [e];simp⟩) (λm hm=>?_) (λb u e=>?_) I.bare
  ·obtain ⟨f0,f1,f2,f3,f4,f5⟩:=hf b (by simp only [mem_cons,not_mem_nil,or_false] at hb ⊢;rcases hb with q|q|q|q<;>simp [q]);exact ⟨f3,f1,f4,f5⟩
  ·obtain ⟨o,es',ep,ho',r⟩:=hm;refine ⟨o,es',ep,hk _ o (λq=>?_) ho',r⟩;obtain ⟨f0,f1,_⟩:=hf X.env.locals (by simp only [mem_cons,not_mem_nil,or_false] at q ⊢;rcases q with q|q|q|q<;>simp [q]);exact f1 rfl
  ·refine (I.hok b u e).stay (λc v hcb q=>hk c v (λm=>?_) q) (λ_ q=>q) λ_ _ q=>q;have hn:=free c (by simp only [mem_cons,not_mem_nil,or_false] at m ⊢;rcases m with q|q|q|q<;>simp [q]);rcases hcb with q|q
   ·rw [q] at hn;rw [hn] at e;cases e
   ·rw [hn] at q;cases q
 self:=λA i s Q E st h=>wpAny_pyIter_zip st.1 h
def qpg {n c1 c2:Addr} (h1:c1<n) (h2:c2<n):ZA (n+4) (n+2) (n+3) n (n+1) c1 c2:=by
 have k:∀ n c:Nat,c<n->c≠n+4/\c≠n+3/\c≠n/\c≠n+1:=λn c h=>by omega
 have d:∀ n:Nat,(([n+4,n+2,n+3,n,n+1]:List Nat)).Nodup:=λn=>by
  simp only [List.nodup_cons,mem_cons,not_mem_nil,not_or,or_false,List.nodup_nil,and_true,not_false_eq_true];omega
 refine ⟨d n,?_,?_⟩
 ·simp only [mem_cons,not_mem_nil,not_or,or_false];exact k n c1 h1
 ·simp only [mem_cons,not_mem_nil,not_or,or_false];exact k n c2 h2
section
variable {X:Cx} {a b e l:Expr} {es:List Expr} {pos:Pos}
def qpN {p pt:Pos} {k1:Nat} {ta:TA} (hg:Gl X "zip") (hm:X.mg "zip" = none) (ha:PA X [a,b] ta) (hs:starEach [a,b] X.env=[(false,eval a X.env),(false,eval b X.env)]:=by rfl) (hs2:starEach [b] X.env=[(false,eval b X.env)]:=by rfl) :
  PI X (.Tuple es k1 pt) (.Call (.Name "zip" p) [a,b] [] pos) (λσ H R=>ta σ H λvs H1=>∃ b1 b2 c1 c2 xs ys,vs=[.ref c1,.ref c2]/\SqB X.K b1 H1 c1 xs/\SqB X.K b2 H1 c2 ys/\R (Itz X.K b1 b2 c1 c2) H1):=by
 intro pins s σ H R I h;refine Call_ (SL I hg hm PyProof.Rows.boot_zip (PyProof.Rows.callWith_type1 (thn (ha pos pins s σ H _ I h) λus s1 ⟨vs,H1,I1,r1,q1⟩=>?_) (by rw [hs,hs2]) (by rw [hs2];rfl)));obtain ⟨b1,b2,c1,c2,xs,ys,rfl,sq1,sq2,q⟩:=q1;obtain ⟨u1,u2,rfl,e1,e2⟩:=qcL r1;cases (show u1=Value.ref c1 from e1);cases (show u2=Value.ref c2 from e2);obtain ⟨its1,rv1,l1,z1⟩:=sq1.get I1;obtain ⟨its2,rv2,l2,z2⟩:=sq2.get I1;refine qff l1 l2 λh' st hk=>wpAny_pyIter_zip st.1 ?_;refine ⟨s1.heap.objs.size+4,[s1.heap.objs.size+4,s1.heap.objs.size+2,s1.heap.objs.size+3,s1.heap.objs.size,s1.heap.objs.size+1],_,_,H1,rfl,I1.kept (t':=s1.toks) hk,qfP (qpg (qjv l1) (qjv l2)),st,λc hc=>?_,q⟩;have hle:s1.heap.objs.size<=c:=by
  simp only [mem_cons,not_mem_nil,or_false] at hc;rcases hc with rfl|rfl|rfl|rfl|rfl<;>first|exact u8 _|exact Nat.le_add_right _ _
 exact I1.fpOk hle (I1.hok.fresh hle)
end
def jR (G:Gp):T->Option (List T)
 |.tup xs=>some xs
 |.ref p=>getL G p
 |_=>none
def qey {K:Frg} {G0:Gp} {H0:Hp} {x:T} {v:V} {us:List T} (hr0:HR K G0 H0) (rx:Rp K H0 x v) (h:jR G0 x=some us) :
  ∃ b c,v=.ref c/\∀ G H,HR K G H->Kp G0 H0 G H->jR G x=some us->∃ vs,SqB K b H c vs/\Rps K H us vs:=by
 cases rx with
 |tup hs rs=>
  cases h;exact ⟨false,_,rfl,λG H hr k _=>⟨_,(MA hr0 k hs:SqT K H _ _),rs.keep hr0 k⟩⟩
 |ref a=>exact ⟨true,a,rfl,λG H hr k hq=>let ⟨vs,h1,h2⟩:=zT hr (show getL G a=some us from hq);⟨vs,h1,h2⟩⟩
 |_=>cases h
def qeq (us vs:List T):List T:=(us.zip vs).map λp=>.tup [p.1,p.2]
def MI {us vs:List T} {i:Nat} {x:T} (h:(qeq us vs)[i]?=some x):∃ a b,us[i]?=some a/\vs[i]?=some b/\x=.tup [a,b]:=by
 unfold qeq at h;rw [getElem?_map] at h;cases e:(us.zip vs)[i]? with
 |none=>rw [e] at h;cases h
 |some p=>
  rw [e] at h;have:=List.getElem?_zip_eq_some.mp e;exact ⟨p.1,p.2,this.1,this.2,by simpa using h.symm⟩
def qnc {K:Frg} {b1 b2:Bool} {c1 c2:Addr} {x y:T} {us vs:List T} {G0:Gp} {H0:Hp}
  (f1:∀ G H,HR K G H->Kp G0 H0 G H->jR G x=some us->∃ vs,SqB K b1 H c1 vs/\Rps K H us vs) (f2:∀ G H,HR K G H->Kp G0 H0 G H->jR G y=some vs->∃ ws,SqB K b2 H c2 ws/\Rps K H vs ws) :
  qlg K (Itz K b1 b2 c1 c2) (qeq us vs) (λG=>jR G x=some us/\jR G y=some vs) G0 H0:=by
 intro G H hr k ⟨h1,h2⟩;obtain ⟨p,sp,rp⟩:=f1 G H hr k h1;obtain ⟨q,sq,rq⟩:=f2 G H hr k h2;refine ⟨λi z hz=>?_,λi z v H' hz hy=>?_,⟨p,q,sp,sq,?_⟩⟩
 ·obtain ⟨a,b,ha,hb,_⟩:=MI hz;obtain ⟨v,hv,_⟩:=rp.get ha;obtain ⟨w,hw,_⟩:=rq.get hb;exact ⟨p,q,v,w,sp,sq,hv,hw⟩
 ·obtain ⟨a,b,ha,hb,rfl⟩:=MI hz;obtain ⟨t,v1,v2,ht,rfl,rfl,g1,g2⟩:=hy;obtain ⟨v,hv,rv⟩:=rp.get ha;obtain ⟨w,hw,rw'⟩:=rq.get hb;have e1:=(g1 p sp).symm.trans hv;have e2:=(g2 q sq).symm.trans hw;obtain rfl:v1=v:=Option.some.inj e1;obtain rfl:v2=w:=Option.some.inj e2;have kk:Kp G H G (upd H t (.tup [v1,v2])):=Kp.laid ht;exact ⟨.tup (SqT.of zu) (.cons (rv.keep hr kk) (.cons (rw'.keep hr kk) .nil)),hr.laid ht,kk⟩
 ·rw [← rp.length,← rq.length,show (qeq us vs).length=min us.length vs.length by simp [qeq]];omega
def qca (ta:TA3):TI3:=λτ G r=>ta τ G λxs G1=>match xs with
 |[x,y]=>(match jR G1 x,jR G1 y with|some us,some vs=>r (qeq us vs) (λG=>jR G x=some us/\jR G y=some vs) G1|_,_=>False)
 |_=>False
section
variable {X:Cx} {a b e l:Expr} {es:List Expr} {pos:Pos} {t:TA3}
def qrI {p pt:Pos} {k1:Nat} (hg:Gl X "zip") (hm:X.mg "zip" = none) (ha:A3 X [a,b] t) (hs:starEach [a,b] X.env=[(false,eval a X.env),(false,eval b X.env)]:=by rfl) (hs2:starEach [b] X.env=[(false,eval b X.env)]:=by rfl) :
  I3 X (.Tuple es k1 pt) (.Call (.Name "zip" p) [a,b] [] pos) (qca t):=
 qos (qpN hg hm ha hs hs2) λσ H R ⟨τ,G,r,rl,h,af⟩=>UK rl h λxs G1 h1 vs H1 rs hr1 k1 rl1=>by
  split at h1
  ·rename_i x y;split at h1
   ·rename_i us ws e1 e2;obtain ⟨v,u,rfl,r1,r2⟩:=qoq rs;obtain ⟨b1,c1,rfl,f1⟩:=qey hr1 r1 e1;obtain ⟨b2,c2,rfl,f2⟩:=qey hr1 r2 e2;obtain ⟨p,sp,_⟩:=f1 G1 H1 hr1 Kp.refl e1;obtain ⟨q,sq,_⟩:=f2 G1 H1 hr1 Kp.refl e2;exact ⟨b1,b2,c1,c2,p,q,rfl,sp,sq,af _ _ G1 h1 _ H1 hr1 k1 (qnc f1 f2)⟩
   ·exact h1.elim
  ·exact h1.elim
def J6:List T->Gp->Q3->Prop:=λxs G q=>match xs with
 |[.ref p]=>(match getL G p with|some ys=>(match qgM ys with|some k=>q (.bl k) G|none=>False)|none=>False)
 |_=>False
theorem qdX {K:Frg} {H:Hp}:∀ {ys:List T} {vs:List V} {k:Bool},Rps K H ys vs->qgM ys=some k->∃ ks:List Bool,vs=ks.map V.bl/\ks.all id=k
 |_,_,_,.nil,h=>by cases h;exact ⟨[],rfl,rfl⟩
 |y::ys,_,k,.cons a b,h=>by
  unfold qgM at h;split at h
  ·rename_i e;cases e
  ·rename_i j r e;cases e;split at h
   ·rename_i i ei;obtain ⟨ks,rfl,hk⟩:=qdX b ei;cases a;cases h;exact ⟨j::ks,rfl,by rw [List.all_cons,hk];rfl⟩
   ·cases h
  ·cases h
def qex {K:Frg}:qaq K J6 (λxs H Q=>∃ (p:Addr) (ks:List Bool),xs=[.ref p]/\SqL K H p (ks.map V.bl)/\Q (.bl (ks.all id)) H):=λxs vs G H q Q hr rs h af=>by
 unfold J6 at h;split at h
 ·rename_i p;obtain ⟨v,rfl,r⟩:=LQ rs;cases r;split at h
  ·rename_i ys e0;split at h
   ·rename_i k e1;obtain ⟨us,hs,r2⟩:=zT hr e0;obtain ⟨ks,rfl,hk⟩:=qdX r2 e1;exact ⟨p,ks,rfl,hs,by rw [hk];exact af _ G h _ H (.bl _) hr Kp.refl⟩
   ·exact h.elim
  ·exact h.elim
 ·exact h.elim
end
def qsi:Value->Bool
 |.type t=>t == "list"
 |_=>false
def CL:List (Addr×Obj)->Bool
 |[]=>true
 |p::r=>if qsi p.2.cls then false else CL r
theorem KH:∀ {K:List (Addr×Obj)} {a:Addr} {o:Obj},CL K=true->K.lookup a=some o->o.cls≠.type "list"
 |[],_,_,_,e=>by simp at e
 | (b,x)::r,a,o,h,e=>by
  unfold CL at h;split at h
  ·cases h
  ·rename_i hx;rw [List.lookup_cons] at e;split at e
   ·cases e;intro z;rw [z] at hx;exact hx rfl
   ·exact KH h e
def qcs {K:Frg} {H:Hp} {a:Addr} {ns:List Int} (hK:CL K=true) (hO:qqr H) (hS:SqL K H a (ns.map V.int)):∃ o,H a=some (.frz o (.lst (ns.map V.int))):=by
 rcases hS with (h|h)|⟨o,its,n,h1,h2,_⟩
 ·rcases hO a with z|⟨o,xs,z⟩<;>(rw [h] at z;cases z)
 ·exact h
 ·exact absurd h2 (KH hK h1)
def only (a:Addr) (ns:List Int):Gp:=λb=>if b=a then some (.frz (ns.map T.int)) else none
def qlc {K:Frg} {H:Hp} {a:Addr} {ns:List Int} (h:∃ o,H a=some (.frz o (.lst (ns.map V.int)))):HR K (only a ns) H:=λb o e=>by
 unfold only at e;split at e
 ·rename_i hb;subst hb;cases e;exact ⟨_,h,Rps.ints ns⟩
 ·cases e
def K0:Sp3:=λts G q=>∃ (a:Addr) (ns:List Int),ts=[.ref a]/\G a=some (.frz (ns.map T.int))/\ns.length<=63/\∀ G',q (.bl true) G'
def qsx {l:PySem.W.OpenLaw} {k:Nat} {q:Program} {loose:List Str} {XP:(Str->Option Value)->Heap->Prop} {YP:World->Heap->Prop} {d:DefRec} {K:Params->PySem.W.Frag} {x:Str} (hn:l.most=some 63) (hdf:d.params.defaults=[]) (hr:Room k callerA)
  (hY:∀ (w:World) (h:Heap),YP w h->(K w.params).In h) (hK:∀ w:World,CL (K w.params)=true)
  (F:∀ (w:World) (mg:Str->Option Value) (fa:Addr) (h:Heap),(K w.params).In h->h.Ns mainGlobals mg->mg d.name=some (.ref fa) ->
   ∃ fd:FuncData,(∀ (s:Shared) (u:Value),BindsTo s fd ⟨[u],[]⟩ [(x,u)])/\∀ base:Heap,(K w.params).In base->base.Ns mainGlobals mg->FnOk l.prog w (K w.params) mg base CX0 k fa fd [x] (lSp (K w.params) K0)) :
  PySem.W.WalkO q loose XP YP l.row.toRowW d [] (λf vs=>PySem.call f vs):=
 L2.qjD (n:=63) (k:=k) (x:=x) (CX:=λ_=>CX0) (sp:=λw=>lSp (K w.params) K0) hn (by decide) hdf hr hY F
  (λw H a ns hl hO hS=>⟨[.ref a],only a ns,λt _=>t=.bl true,qlc (qcs (hK w) hO hS),.cons (.ref a) .nil,⟨a,ns,rfl,by simp [only],hl,λ_=>rfl⟩,λt G' e v H' r _ _=>by subst e;cases r;rfl⟩) λ_ _ _ _ _ z=>z
def qkL {P:Program} {w:World} {K:Frg} {mg:Str->Option Value} {base:Heap} {x qual:Str} {st:Stmt} {f:Addr} {fd:FuncData} {N ps:List Str} {k:Nat} {sp:Sp3} {t3:TS3} (F:Fun K x qual st f fd) (S:FnScope N ps (qj st))
  (body:∀ (cdv:Value) (A:Around) (outer:List Env) (s:Shared) (H:Hp) (E:XK),Room k (A.deeper (envOfC qual (qj st) s.heap.objs.size f cdv)) ->
   B3 (qeE CX0 P w K mg base N qual (qj st) f cdv A outer s H E).nox (jk st) t3)
  (read:∀ ts G q,sp ts G q->ts.length=ps.length/\t3 { nx:=λ_ G'=>q .non G',rt:=q } (qm N ts) G):FnOk P w K mg base CX0 (k+1) f fd ps (lSp K sp):=by
 refine F.ok S (λvs H Q E ⟨ts,G,q,h1,h2,h3,h4⟩=>by rw [← h2.length];exact (read ts G q h3).1) λcdv A outer s H vs Q E hr ⟨ts,G,q,h1,h2,h3,h4⟩=>?_;refine ⟨_,body cdv A outer s H E hr,qm N ts,G,_,qaf h1 h2,(read ts G q h3).2,⟨λτ' G' h' σ' H' rl' k'=>h4 _ G' h' _ H' .non rl'.hp k',h4,λ_ _ z=>z.elim,λ_ _ z=>z.elim⟩⟩
abbrev eh1 (h:Heap) (o1:Obj):Heap:=h.push o1
abbrev eh2 (h:Heap) (o1:Obj):Heap:=(eh1 h o1).push { cls:=.type "enumerate",data:=.fields #[.none,.bool false,.ref h.objs.size,rawInt 0,.none,.none] }
def qcN (c:Addr) (o1:Obj) (ob:Obj) :
  Meets (Builtin.«enumerate.__new__» ⟨[.type "enumerate",.ref c],[]⟩) (λ_ R s=>s.heap.get? c=some ob /\
   (∀ (P:Program) (w:World) (A:Around) (Q:Value->Shared->Prop) (E:Value->Shared->Prop),Q (.ref s.heap.objs.size) { s with heap:=eh1 s.heap o1 }->wpAny (model P w) A (pyIter (.ref c)) Q E s) /\
   R (.ok (.ret (.ref (eh1 s.heap o1).objs.size))) { s with heap:=eh2 s.heap o1 }):=
 .of_wp λprog w A R s h=>by
  obtain ⟨hp,g,d,tk,os⟩:=s;obtain ⟨hl,h1,h⟩:=h;have hsub:=sub_enumerate;have k1:=λA Q E=>h1 prog w A Q E
  wp_walk using wpAny_loadPart' hl
  refine wpAny_stack_any λst=>y8 ?_;split
  ·rename_i c _ _ _ _ _;cases (c==Value.type "enumerate")
   ·wp_walk using wpAny_loadPart' hl,k1 _ _ _
    exact ⟨_,rfl,h⟩
   ·wp_walk using wpAny_loadPart' hl,k1 _ _ _
    exact ⟨_,rfl,h⟩
  ·wp_walk using wpAny_loadPart' hl,k1 _ _ _
   exact ⟨_,rfl,h⟩
def qge {b:Bool} {c:Addr} {xs:Array Value} {h:Heap} (q:qav b c xs h):∃ o,h.get? c=some o:=by
 cases b
 ·obtain ⟨o,e,_⟩:=(show h.IsTuple c xs from q);exact ⟨o,e⟩
 ·obtain ⟨o,e,_⟩:=(show h.IsList c xs from q);exact ⟨o,e⟩
section
variable {P:Program} {w:World} {A:Around} {s:Shared} {E:Value->Shared->Prop}
def qdf {b:Bool} {c:Addr} {xs:Array Value} {Q:Value->Shared->Prop} (h1:qav b c xs s.heap)
  (q:∀ h',IsEnum h' (s.heap.objs.size+1) s.heap.objs.size 0 .none->qfh b s.heap.objs.size c 0 h'->(∀ c o,s.heap.get? c=some o->h'.get? c=some o)->Q (.ref (s.heap.objs.size+1)) { s with heap:=h' }) :
  wpAny (model P w) A (call (.type "enumerate") [.ref c]) Q E s:=by
 obtain ⟨ob,hob⟩:=qge h1;refine callType_new F.called_enumerate (by decide) (F.typeCall_enumerate_1 _) (F.newCall_enumerate_1 _) (λobj=>F.args_object_init_2 obj _) F.entry_enumerate_new
  (qcN c (jd b c) ob) ⟨hob,λP w A Q E q=>qaK h1 q,?_⟩
 have e1:(eh1 s.heap (jd b c)).objs.size=s.heap.objs.size+1:=Heap.size_push ..;have g2:(eh2 s.heap (jd b c)).get? (eh1 s.heap (jd b c)).objs.size=some _:=v5 _ rfl;have g1:(eh2 s.heap (jd b c)).get? s.heap.objs.size=some (jd b c):=v4 _ (v5 _ rfl);show _/\_;rw [e1] at g2 ⊢;refine ⟨⟨_,g2,rfl⟩,q _ g2 ?_ λc o e=>v4 _ (v4 _ e)⟩;cases b<;>exact ⟨_,g1,rfl,rfl⟩
end
def qfS {P:Program} {w:World} {A:Around} (hh:A.handled=none) (b:Bool) (it c:Addr) (hne:c≠it) (xs:Array Value) :
  Draws P w A it [it,c] xs.size (λi v=>xs[i]?=some v) (λi h=>qfh b it c i h/\qav b c xs h) where
 live:=λi h st=>let ⟨o,e,_⟩:=(jq (P:=P) (w:=w) b it c).obj st.1;⟨o,e⟩
 frame:=λi h h' st hk=>⟨(jq (P:=P) (w:=w) b it c).keep st.1 λo e=>hk it (by simp) o e,(jq (P:=P) (w:=w) b it c).hkeep st.2 λo e=>hk c (by simp) o e⟩
 item:=λi s Q E hi st hQ=>by
  refine (jq (P:=P) (w:=w) b it c).item st.1 st.2 (x:=xs[i]) (by simp [hi]) λh' st' sb=>?_;exact hQ _ h' s.toks (by simp [hi]) ⟨st',(jq (P:=P) (w:=w) b it c).hkeep st.2 λo e=>(sb.2 c hne).trans e⟩ sb
 done:=λs Q E st hE=>(jq (P:=P) (w:=w) b it c).done hh st.1 st.2 (by simp) hE
def LP {P:Program} {w:World} {A:Around} {s:Shared} {E:Value->Shared->Prop} {b:Bool} {e it c:Addr} {i:Nat} {xs:Array Value} {old:Value} {Q:Option Value->Shared->Prop} (hh:A.handled=none) (he:IsEnum s.heap e it i old) (p1:qfh b it c i s.heap) (l1:qav b c xs s.heap) (hx:xs[i]?=none)
  (hQ:∀ h',Heap.ExtBut it s.heap h'->Q none { s with heap:=h' }):wpAny (model P w) A (pyNext (.ref e)) Q E s:=by
 have hT:s.TypeIs (.ref e) "enumerate" := ⟨_,he,rfl⟩
 unfold pyNext;refine y6 (wpAny_attempt (wpAny_callSpecial?_slot (name:=Str.ofString "__next__") hT F.slot_enumerate_next
  (wpAny_call_entry F.slot_enumerate_next hT F.entry_enumerate_next ?_ (F.args_enumerate_next_1 _))))
 show wpAny _ _ (field (.ref e) 2 >>= _) _ _ _;refine y6 (wpAny_field he rfl (x:=.ref it) rfl ?_);refine y6 ((jq (P:=P) (w:=w) b it c).done (show A.in1.handled=none from hh) p1 l1 hx λh' x he' hx'=>?_);obtain ⟨o,ho,hc⟩:=hx';refine y6 (wpAny_isInstance (T:="StopIteration") (b:=true) ⟨o,ho,hc⟩ isSubtype_stop ?_);exact y8 (hQ _ he')
def Ite (K:Frg) (b:Bool) (c:Addr):It:=
  ⟨λi H=>∃ xs x,SqB K b H c xs/\xs[i]?=some x,
   λi H v H'=>∃ p x,H p=none/\v=.ref p/\H'=upd H p (.tup [.int i,x])/\(∀ xs,SqB K b H c xs->xs[i]?=some x),
   λi H=>∃ xs,SqB K b H c xs/\xs.length<=i⟩
def qpP (b:Bool) (e it c:Addr) (k:Nat) (h:Heap):Prop:=(∃ old,IsEnum h e it k old)/\qfh b it c k h
def qen {P:Program} {w:World} {K:Frg} {es:List Expr} {k1:Nat} {pt:Pos} {b:Bool} {e it c:Addr} (n1:e≠it) (n2:c≠e) (n3:c≠it):Turn P w K (.Tuple es k1 pt) (Ite K b c) [e,it] e (qpP b e it c) where
 mem:=by simp
 obj:=λi h ⟨⟨old,he⟩,p1⟩ d hd=>by
  simp only [mem_cons,not_mem_nil,or_false] at hd;rcases hd with rfl|rfl
  ·exact ⟨_,he,λv q=>by cases q⟩
  ·exact (jq (P:=P) (w:=w) b d c).obj p1
 keep:=λi h h' ⟨⟨old,he⟩,p1⟩ k=>⟨⟨old,k e (by simp) _ he⟩,(jq (P:=P) (w:=w) b it c).keep p1 λo e=>k it (by simp) o e⟩
 item:=by
  intro X hP hw hK hc i pins s σ H E I hf st hg;subst hP hw hK;obtain ⟨xs,x,sq,hx⟩:=hg;obtain ⟨its,rv,l1,z1⟩:=sq.get I;obtain ⟨u,hu,ru⟩:=rv.get hx;obtain ⟨⟨old,he⟩,p1⟩:=st;have hil:i<its.toArray.size:=by have:=(zb0 hu).1;simpa using this
  refine wpAny_pyNext_enum_itemD (qfS (show X.A.in1.handled=none from I.ok.hd hc) b it c n3 its.toArray) he ⟨p1,l1⟩ hil n1 (by simp only [mem_cons,not_mem_nil,or_false,not_or];exact ⟨n1,Ne.symm n2⟩) λy h' tk hy ho st' ht hsz hk=>?_;have hy':y=u:=by
   have:its.toArray[i]?=some u:=by simpa using hu
   rw [this] at hy;exact (Option.some.inj hy).symm
  subst hy';have hfr:H s.heap.objs.size=none:=I.fresh;have free:∀ b∈[e,it],H b=none:=λb hb=>(hf b hb).1;refine ⟨_,rfl,wpAny_letOwnedTupleGo_enum ho λh2 hz2 s2=>?_⟩;have elt:e<s.heap.objs.size:=v6 he;have hp2:h2.get? s.heap.objs.size=some { cls:=.type "tuple",data:=.seq #[.int i tk,y] }:=(s2.2 _ (Nat.ne_of_gt elt)).trans ht;have up:∀ c o,c≠e->h'.get? c=some o->h2.get? c=some o:=λc o hc e=>(s2.2 c hc).trans e;have kk:∀ c o,c∉[e,it]->s.heap.get? c=some o->h2.get? c=some o:=λc o hc q=>by
   simp only [mem_cons,not_mem_nil,or_false,not_or] at hc;exact up c o hc.1 (hk c o hc.1 hc.2 q)
  have I3:Inv X pins σ (upd H s.heap.objs.size (.tup [.int i,x])) { s with heap:=h2,toks:=tk+1 }:=by
   refine I.step (g':=s.gens) (d':=s.drawn) (t':=tk+1) (ch:=[e,it]) (λb hb=>?_) (λb o _ _ hcb e _=>kk b o hcb e) (λb o _ _ hcb e _=>⟨o.slots,kk b o hcb e⟩) (λb o _ e n=>by rw [qO (za4 (v6 e))];exact n) (λb o hcb e=>⟨o,kk b o hcb e⟩)
    (λb _ e=>by rw [qO (qI e hfr)];exact e) (λb _ _ e=>by rw [qO (qI e hfr)];exact e) (λb ps e=>⟨#[],by rw [qO (qI e hfr),e];simp⟩) (λm hm=>?_) (λb u e=>?_) I.bare
   ·obtain ⟨f0,f1,f2,f3,f4,f5⟩:=hf b hb;exact ⟨f3,f1,f4,f5⟩
   ·obtain ⟨o,es',ep,ho',r⟩:=hm;refine ⟨o,es',ep,kk _ o (λq=>?_) ho',r⟩;obtain ⟨f0,f1,_⟩:=hf X.env.locals q;exact f1 rfl
   ·by_cases hb:b=s.heap.objs.size
    ·subst hb;rw [zu] at e;cases e;exact ⟨by show 2<=sizeLine;decide,[.int i tk,y],.cons ⟨tk,rfl⟩ (.cons ru .nil),⟨_,hp2,rfl,_,rfl,rfl⟩⟩
    ·rw [qO hb] at e;refine (I.hok b u e).stay (λc v hcb q=>kk c v (λm=>?_) q) (λ_ q=>by rw [qO (qI q hfr)];exact q) λ_ _ q=>by rw [qO (qI q hfr)];exact q
     have hn:=free c m;rcases hcb with q|q
     ·rw [q] at hn;rw [hn] at e;cases e
     ·rw [hn] at q;cases q
  refine ⟨.ref s.heap.objs.size,_,I3,rfl,⟨_,x,hfr,rfl,rfl,λzs q=>by rw [q.inj I sq];exact hx⟩,⟨⟨_,by push_cast;exact hz2⟩,(jq (P:=X.prog) (w:=X.w) b it c).keep st'.1 λo e=>up _ o (Ne.symm n1) e⟩,λb hb=>?_⟩;rw [qO (λq=>?_)]
  ·exact free b hb
  ·subst q;simp only [mem_cons,not_mem_nil,or_false] at hb;rcases hb with q|q
   ·exact absurd q (Nat.ne_of_gt elt)
   ·obtain ⟨o,e,_⟩:=(jq (P:=X.prog) (w:=X.w) b it c).obj p1;exact absurd q (Nat.ne_of_gt (v6 e))
 done:=by
  intro X hP hw hK hc i pins s σ H E I hf st hg;subst hP hw hK;obtain ⟨xs,sq,hend⟩:=hg;obtain ⟨its,rv,l1,z1⟩:=sq.get I;obtain ⟨⟨old,he⟩,p1⟩:=st;have e1:=rv.length;have free:∀ b∈[e,it],H b=none:=λb hb=>(hf b hb).1;refine LP (I.ok.hd hc) he p1 l1 (by simp;omega) λh' hk0=>⟨rfl,?_⟩
  have hk:∀ c o,c∉[e,it]->s.heap.get? c=some o->h'.get? c=some o:=λc o hcb q=>hk0 c o (by simp only [mem_cons,not_mem_nil,or_false,not_or] at hcb;exact hcb.2) q;refine I.step (g':=s.gens) (d':=s.drawn) (t':=s.toks) (ch:=[e,it]) (λb hb=>?_) (λb o _ _ hcb e _=>hk b o hcb e) (λb o _ _ hcb e _=>⟨o.slots,hk b o hcb e⟩) (λ_ _ _ _ n=>n) (λb o hcb e=>⟨o,hk b o hcb e⟩) (λ_ _ e=>e) (λ_ _ _ e=>e) (λb ps e=>⟨#[],by rw [e];simp⟩) (λm hm=>?_) (λb u e=>?_) I.bare
  ·obtain ⟨f0,f1,f2,f3,f4,f5⟩:=hf b hb;exact ⟨f3,f1,f4,f5⟩
  ·obtain ⟨o,es',ep,ho',r⟩:=hm;refine ⟨o,es',ep,hk _ o (λq=>?_) ho',r⟩;obtain ⟨f0,f1,_⟩:=hf X.env.locals q;exact f1 rfl
  ·refine (I.hok b u e).stay (λc v hcb q=>hk c v (λm=>?_) q) (λ_ q=>q) λ_ _ q=>q;have hn:=free c m;rcases hcb with q|q
   ·rw [q] at hn;rw [hn] at e;cases e
   ·rw [hn] at q;cases q
 self:=λA i s Q E st h=>let ⟨⟨old,he⟩,_⟩:=st;wpAny_pyIter_enum he h
section
variable {X:Cx} {a b e l:Expr} {es:List Expr} {pos:Pos}
def qke {p pt:Pos} {k1:Nat} {ta:TA} (hg:Gl X "enumerate") (hm:X.mg "enumerate" = none) (ha:PA X [a] ta) (hs:starEach [a] X.env=[(false,eval a X.env)]:=by rfl) :
  PI X (.Tuple es k1 pt) (.Call (.Name "enumerate" p) [a] [] pos) (λσ H R=>ta σ H λvs H1=>∃ b1 c1 xs,vs=[.ref c1]/\SqB X.K b1 H1 c1 xs/\R (Ite X.K b1 c1) H1):=by
 intro pins s σ H R I h;refine Call_ (SL I hg hm PyProof.Rows.boot_enumerate (PyProof.Rows.callWith_type1 (thn (ha pos pins s σ H _ I h) λus s1 ⟨vs,H1,I1,r1,q1⟩=>?_) (by rw [hs];rfl) (by rfl)));obtain ⟨b1,c1,xs,rfl,sq1,q⟩:=q1;obtain ⟨u1,rfl,e1⟩:=XY r1;cases (show u1=Value.ref c1 from e1);obtain ⟨its1,rv1,l1,z1⟩:=sq1.get I1;refine qdf l1 λh' he hit hk=>wpAny_pyIter_enum he ?_;have lt:=qjv l1;have ne3:∀ n c:Nat,c<n->n+1≠n/\c≠n+1/\c≠n:=λn c h=>by omega
 obtain ⟨m1,m2,m3⟩:=ne3 _ _ lt;refine ⟨s1.heap.objs.size+1,[s1.heap.objs.size+1,s1.heap.objs.size],_,_,H1,rfl,I1.kept (t':=s1.toks) hk,qen m1 m2 m3,⟨⟨_,he⟩,hit⟩,λc hc=>?_,q⟩;have hle:s1.heap.objs.size<=c:=by
  simp only [mem_cons,not_mem_nil,or_false] at hc;rcases hc with rfl|rfl<;>first|exact u8 _|exact Nat.le_add_right _ _
 exact I1.fpOk hle (I1.hok.fresh hle)
end
def JP (k:Nat):List T->List T
 |[]=>[]
 |x::r=>.tup [.int (k:Int),x]::JP (k+1) r
def qeu (us:List T):List T:=JP 0 us
theorem C5:∀ {us:List T} {k i:Nat} {x:T},(JP k us)[i]?=some x->∃ a,us[i]?=some a/\x=.tup [.int ((k+i:Nat):Int),a]
 |[],_,_,_,h=>by simp [JP] at h
 |u::us,k,0,x,h=>by simp [JP] at h;exact ⟨u,rfl,by simp [← h]⟩
 |u::us,k,i+1,x,h=>by
  simp [JP] at h;obtain ⟨a,ha,hx⟩:=C5 h;exact ⟨a,by simpa using ha,by rw [hx];congr 4;omega⟩
theorem RC:∀ (us:List T) (k:Nat),(JP k us).length=us.length
 |[],_=>rfl
 |u::us,k=>by simp [JP,RC us]
def R8 (us:List T):(qeu us).length=us.length:=RC us 0
def WG {us:List T} {i:Nat} {x:T} (h:(qeu us)[i]?=some x):∃ a,us[i]?=some a/\x=.tup [.int (i:Int),a]:=by
 obtain ⟨a,ha,hx⟩:=C5 h;exact ⟨a,ha,by rw [hx];congr 4;omega⟩
def qmI {K:Frg} {b1:Bool} {c1:Addr} {x:T} {us:List T} {G0:Gp} {H0:Hp}
  (f1:∀ G H,HR K G H->Kp G0 H0 G H->jR G x=some us->∃ vs,SqB K b1 H c1 vs/\Rps K H us vs) :
  qlg K (Ite K b1 c1) (qeu us) (λG=>jR G x=some us) G0 H0:=by
 intro G H hr k h1;obtain ⟨p,sp,rp⟩:=f1 G H hr k h1;refine ⟨λi z hz=>?_,λi z v H' hz hy=>?_,⟨p,sp,?_⟩⟩
 ·obtain ⟨a,ha,_⟩:=WG hz;obtain ⟨v,hv,_⟩:=rp.get ha;exact ⟨p,v,sp,hv⟩
 ·obtain ⟨a,ha,rfl⟩:=WG hz;obtain ⟨t,v1,ht,rfl,rfl,g1⟩:=hy;obtain ⟨v,hv,rv⟩:=rp.get ha;have e1:=(g1 p sp).symm.trans hv;obtain rfl:v1=v:=Option.some.inj e1;have kk:Kp G H G (upd H t (.tup [.int i,v1])):=Kp.laid ht;exact ⟨.tup (SqT.of zu) (.cons (.int _) (.cons (rv.keep hr kk) .nil)),hr.laid ht,kk⟩
 ·rw [← rp.length,R8];exact u8 _
def KN (ta:TA3):TI3:=λτ G r=>ta τ G λxs G1=>match xs with
 |[x]=>(match jR G1 x with|some us=>r (qeu us) (λG=>jR G x=some us) G1|_=>False)
 |_=>False
section
variable {X:Cx} {a b e l:Expr} {es:List Expr} {pos:Pos} {t:TA3}
def qlP {p pt:Pos} {k1:Nat} (hg:Gl X "enumerate") (hm:X.mg "enumerate" = none) (ha:A3 X [a] t) (hs:starEach [a] X.env=[(false,eval a X.env)]:=by rfl) :
  I3 X (.Tuple es k1 pt) (.Call (.Name "enumerate" p) [a] [] pos) (KN t):=
 qos (qke hg hm ha hs) λσ H R ⟨τ,G,r,rl,h,af⟩=>UK rl h λxs G1 h1 vs H1 rs hr1 k1 rl1=>by
  split at h1
  ·rename_i x;split at h1
   ·rename_i us e1;obtain ⟨v,rfl,r1⟩:=LQ rs;obtain ⟨b1,c1,rfl,f1⟩:=qey hr1 r1 e1;obtain ⟨p,sp,_⟩:=f1 G1 H1 hr1 Kp.refl e1;exact ⟨b1,c1,p,rfl,sp,af _ _ G1 h1 _ H1 hr1 k1 (qmI f1)⟩
   ·exact h1.elim
  ·exact h1.elim
end
section
variable {X:Cx} {a b c e:Expr} {es:List Expr} {ta tb tc te:TE3} {t:TA3} {pos:Pos}
def VX (i:Nat) (r:R3) (te:TE3):TS3:=λd τ G=>match τ[i]? with
 |some (some x)=>te τ G λy G1=>r x y G1 λz G2=>d.nx (τ.set i (some z)) G2
 |_=>False
def qfU (i:Nat) {x:Str} {pos':Pos} (hN:X.N.Nodup) (he:E3 X e te) (hi:X.N[i]?=some x:=by rfl) (hx:Loc X.env.scope x:=by first|exact Or.inl rfl|exact Or.inr rfl) (hf:X.fn x=true\/X.env.scope.names.lookup x=some .local:=by first|exact .inl rfl|exact .inr rfl) :
  S3 X (.AugAssign (.Name x pos') .Add e pos) (VX i (iI (·+·)) te):=
 qeU (qnB (i:=i) hN hi hx he qhS hf) λD σ H ⟨τ,G,d,rl,h,af⟩=>by
  unfold VX at h;split at h
  ·rename_i x e1;obtain ⟨v,e2,rv⟩:=rl.st i x e1;refine ⟨v,e2,zy rl h λy G1 h1 u H1 ry hr1 k1 rl1=>?_⟩;have rv1:=rv.keep rl.hp k1;cases x<;>try exact h1.elim
   cases y<;>try exact h1.elim
   cases rv1;cases ry;exact ⟨_,_,rfl,rfl,af.nx _ G1 h1 _ H1 (rl1.set i (.int _)) k1⟩
  ·exact h.elim
def qi7 (ns:List Int):Prop:=ns.length<=1000000/\∀ x∈ns,-1000000000000<=x/\x<=1000000000000
theorem qax (ns:List Int):∀ j,j<=ns.length->preSum (λi=>ns.getD i 0) j=(ns.take j).sum
 |0,_=>by simp [preSum]
 |j+1,h=>by
  have hj:j<ns.length:=h;unfold preSum;rw [qax ns j (by omega),List.take_succ_eq_append_getElem hj,List.sum_append,getD_eq_getElem?_getD,v9 hj];simp
theorem qgx:∀ (ns:List Int),(∀ x∈ns,-1000000000000<=x/\x<=1000000000000)->-1000000000000*(ns.length:Int)<=ns.sum/\ns.sum<=1000000000000*(ns.length:Int)
 |[],_=>by simp
 |n::r,h=>by
  have h1:=h n za6;have h2:=qgx r λx hx=>h x (u9 _ hx);rw [List.sum_cons,length_cons];omega
def DZ (hc:X.calm=true):JZ X (.builtin "sum") (λxs H Q=>∃ (p:Addr) (ns:List Int),xs=[.ref p]/\SqL X.K H p (ns.map V.int)/\qi7 ns/\Q (.int ns.sum) H):=by
 intro pins s σ H xs us Q I r h;obtain ⟨p,ns,rfl,hq,ok,q⟩:=h;obtain ⟨u,rfl,rp⟩:=XY r;cases (show u=Value.ref p from rp);obtain ⟨its,rv,pl,hz⟩:=I.list hq;have hlen:its.length=ns.length:=by have:=rv.length;simp at this;omega
 have hp:p<s.heap.objs.size:=by obtain ⟨o,n,e,_⟩:=pl;exact v6 e
 have bd:∀ j,j<=ns.length->InLong (preSum (λi=>ns.getD i 0) j):=λj hj=>by
  rw [qax ns j hj];have:=qgx (ns.take j) λx hx=>ok.2 x (List.mem_of_mem_take hx);have hl:(ns.take j).length<=1000000:=za3 (by rw [List.length_take];omega) ok.1;unfold InLong;omega
 refine call_sum_walk (wpAny_pyIter_list pl.isList ⟨s.heap.objs.size,_,_,_,_,_,λi=>ns.getD i 0,rfl,Walks.list (A:=X.A.in1) (show X.A.in1.handled=none from I.ok.hd hc) s.heap.objs.size p (za4 hp) its.toArray,⟨⟨_,v5 _ rfl,rfl,rfl⟩,?_⟩,λb hb=>?_,λi v hv=>?_,λj hj=>?_,λh' tk t' hk=>?_⟩)
 ·obtain ⟨o,n,e,c,_,d⟩:=pl;exact ⟨o,v4 _ e,c,n,d⟩
 ·have lt1:∀ n c:Nat,c<n->c<n+1:=λn c h=>by omega
  rw [show (({ s with heap:=s.heap.push _ }:Shared).heap.objs.size)=s.heap.objs.size+1 from Heap.size_push ..];simp only [mem_cons,not_mem_nil,or_false] at hb;rcases hb with rfl|rfl
  ·exact Nat.lt_succ_self _
  ·exact lt1 _ _ hp
 ·have hv':its[i]?=some v:=by simpa using hv
  obtain ⟨hi,_⟩:=zb0 hv';have hi':i<ns.length:=by omega
  obtain ⟨u,hu,ru⟩:=rv.get (i:=i) (show (ns.map V.int)[i]?=some (V.int (ns[i])) by simp [hi']);rw [hv'] at hu;cases hu;obtain ⟨t,rfl⟩:=ru;exact ⟨t,by show Value.int ns[i] t=Value.int (ns.getD i 0) t;rw [getD_eq_getElem?_getD,v9 hi'];rfl⟩
 ·have hj':j<ns.length:=by rw [size_toArray] at hj;omega
  refine ⟨?_,bd _ hj'⟩;have:=ok.2 (ns.getD j 0) (by rw [getD_eq_getElem?_getD,v9 hj'];exact za7 hj');show InLong (ns.getD j 0);unfold InLong;omega
 ·refine ⟨.int _,H,?_,⟨_,rfl⟩,by rw [size_toArray,hlen,qax ns _ (u8 _),List.take_length];exact q⟩;exact I.kept (h':=h') (t':=tk) λb o e=>hk b o (by simp;exact za4 (v6 e)) (v4 _ e)
def TQ:List T->Option (List Int)
 |[]=>some []
 |.int i::r=>(match TQ r with|some ns=>some (i::ns)|none=>none)
 |_=>none
def YG (ns:List Int):TQ (ns.map T.int)=some ns:=by
 induction ns with
 |nil=>rfl
 |cons n r ih=>simp [TQ,ih]
theorem U4:∀ {xs:List T} {ns:List Int},TQ xs=some ns->xs=ns.map T.int
 |[],_,h=>by simp [TQ] at h;subst h;rfl
 |x::r,ns,h=>by
  unfold TQ at h;split at h
  ·rename_i e;cases e
  ·rename_i i r' e;cases e;split at h
   ·rename_i ms e2;cases h;rw [U4 e2];rfl
   ·cases h
  ·cases h
def qlh:List T->Gp->Q3->Prop:=λxs G q=>match xs with
 |[.ref p]=>(match getL G p with|some ys=>(match TQ ys with|some ns=>qi7 ns/\q (.int ns.sum) G|none=>False)|none=>False)
 |_=>False
theorem U2 {K:Frg} {H:Hp}:∀ {ns:List Int} {vs:List V},Rps K H (ns.map T.int) vs->vs=ns.map V.int
 |[],_,r=>by cases r;rfl
 |n::ns,_,r=>by
  cases r with
  |cons a b=>cases a;rw [U2 b];rfl
def qdE {K:Frg}:qaq K qlh (λxs H Q=>∃ (p:Addr) (ns:List Int),xs=[.ref p]/\SqL K H p (ns.map V.int)/\qi7 ns/\Q (.int ns.sum) H):=λxs vs G H q Q hr rs h af=>by
 unfold qlh at h;split at h
 ·rename_i p;obtain ⟨v,rfl,r⟩:=LQ rs;cases r;split at h
  ·rename_i ys e0;split at h
   ·rename_i ns e1;obtain ⟨us,hs,r2⟩:=zT hr e0;have:=U4 e1;subst this;have:=U2 r2;subst this;exact ⟨p,ns,rfl,hs,h.1,af _ G h.2 _ H (.int _) hr Kp.refl⟩
   ·exact h.elim
  ·exact h.elim
 ·exact h.elim
def EB:List T->Gp->Q3->Prop:=λxs G q=>match xs with
 |[.ref p]=>(match getL G p with|some ys=>(match qqB ys with|some k=>q (.bl k) G|none=>False)|none=>False)
 |_=>False
end
section
variable {X:Cx}
def qjO {elt tg iter:Expr} {ifs:List Expr} {scope:Scope} {pos cpos:Pos} {N':List Str} {m:List (Option Nat)} {wi:TI} {g:TG} {tif:TT} {te:TE} {use:Option (Value->Sem Unit)} {Qc:Value->Shared->Prop} {QD:Addr->Hp->Prop} (hc:X.calm=true) (hi:PI X tg iter wi)
  (hg:∀ s H fp,PG (qr X N' scope s H fp) tg g) (hf:∀ s H fp,PF (qr X N' scope s H fp) ifs tif) (he:∀ s H fp,PE (qr X N' scope s H fp) elt te)
  (hsc:qcP X.env.scope scope=true) (hcap:DW X.N N' scope m=true) (hs:∀ x,foldedSetIterable iter X.env x=pure x) {pins:List (Addr×Obj)} {s:Shared} {σ:L2.St} {H:Hp} (I:Inv X pins σ H s)
  (h:wi σ H λJ H1=>∀ D,H1 D=none ->
   ∃ W:Nat->Nat->L2.St->Hp->Prop,(∃ n,W 0 n (cap m σ) (upd H1 D (.lst [])))/\∀ i n σ H,W i n σ H ->
    (J.stop i H/\QD D H)\/(J.go i H/\∀ x H',J.yld i H x H'->g x σ H' λσ2 H2=>tif σ2 H2 λk H3=>
     if k=true then te σ2 H3 λy H4=>∃ zs,H4 D=some (.lst zs)/\zs.length<sizeLine/\∃ n',n'<n/\W (i+1) n' σ2 (upd H4 D (.lst (zs++[y])))
     else ∃ n',n'<n/\W (i+1) n' σ2 H3))
  (fin:∀ (D:Addr) (s3:Shared) (H3:Hp) (fp:List Addr) (s6:Shared) (H6:Hp) (σ6:L2.St) (r:Flow),Inv X pins σ H3 s3->(∀ b∈fp,qao X pins H3 b)->Inv (qr X N' scope s3 H3 fp) [] σ6 H6 s6->QD D H6->compPost (model X.prog X.w) X.A X.xe use Qc (.ref D) s3.heap.objs.size (.ok r) s6) :
  wpAny (model X.prog X.w) X.A (comprehension (.ListComp elt [⟨tg,iter,ifs,0⟩] scope pos) scope X.env cpos (newList []) false (eval iter X.env) use) Qc X.xe s:=by
 have sc:=XI hsc;have hcl:∀ y∈scope.names,y.2=.free->∃ c,X.env.cells.lookup y.1=some c:=λy hy e=>by
  rcases (sc.free y hy e).2 with z|z
  ·exact I.ok.has y.1 (.inl z)
  ·exact I.ok.has y.1 (.inr z)
 refine wpAny_comprehension_free (g:=⟨tg,iter,ifs,0⟩) (gs:=[]) rfl hs (YV hcl) sc.kind sc.loc ?_;show wpAny _ _ (eval iter X.env) _ _ s;refine thn (hi pins s σ H _ I h) λv s1 h1=>thn h1 λitv s2 h2=>?_;obtain ⟨it,fp,tn,J,H2,rfl,I2,T,st2,f2,hW⟩:=h2;refine wpAny_newObj_type ?_;have hD:H2 s2.heap.objs.size=none:=I2.fresh;obtain ⟨W,⟨n0,w0⟩,turn⟩:=hW _ hD;generalize hDe:s2.heap.objs.size=D at *;have I3:Inv X pins σ (upd H2 D (.lst [])) { s2 with heap:=s2.heap.push { cls:=.type "list",dict:=none,data:=.seq ([]:List Value).toArray } }:=by
  subst hDe;exact I2.laid (t':=s2.toks) (λb u e=>v4 _ e) (u8 _) ⟨Nat.zero_le _,[],0,.nil,v5 _ rfl⟩
 have ob2:=T.obj 0 _ st2;have ob3:∀ b∈fp,∃ o,(s2.heap.push { cls:=.type "list",dict:=none,data:=.seq ([]:List Value).toArray }).get? b=some o:=λb hb=>let ⟨o,e,_⟩:=ob2 b hb;⟨o,v4 _ e⟩
 have f3:∀ b∈fp,qao X pins (upd H2 D (.lst [])) b:=λb hb=>by
  obtain ⟨o,e,_⟩:=ob2 b hb;have:b≠D:=by rw [← hDe];exact za4 (v6 e)
  exact ⟨by rw [qO this];exact (f2 b hb).1,(f2 b hb).2⟩
 have k23:∀ b o,s2.heap.get? b=some o->(s2.heap.push { cls:=.type "list",dict:=none,data:=.seq ([]:List Value).toArray }).get? b=some o:=λb o e=>v4 _ e;generalize hH3:upd H2 D (.lst [])=H3 at *;generalize hs3:({ s2 with heap:=s2.heap.push { cls:=.type "list",dict:=none,data:=.seq ([]:List Value).toArray } }:Shared)=s3 at *;have ob3:∀ b∈fp,∃ o,s3.heap.get? b=some o:=by rw [← hs3];exact ob3
 have k23:∀ b o,s2.heap.get? b=some o->s3.heap.get? b=some o:=by rw [← hs3];exact k23
 refine Q9 λh₁ hns hk hown=>?_;have I4:Inv (qr X N' scope s3 H3 fp) [] (cap m σ) H3 { s3 with heap:=h₁ }:=LO hc I3 sc hcap f3 ob3 hns hk hown;have tn4:tn 0 h₁:=T.keep _ _ _ st2 λb hb o e=>hk b o (k23 b o e);have fr4:∀ b∈fp,H3 b=none:=λb hb=>(f3 b hb).1;have stat:∀ {H':Hp},(∀ b∈fp,H' b=none)->∀ b∈fp,qao (qr X N' scope s3 H3 fp) [] H' b:=λhn b hb=>by
  refine ⟨hn b hb,I4.ok.exf b hb |>.1,I4.ok.exfs b hb,.inl hb,λx c e=>(I4.ok.exf b hb).2 x c e,λp hp=>absurd (show p∈([]:List (Addr×Obj)) from hp) (by simp)⟩
 show codeAny (model X.prog X.w) X.A (.compStart (.ListComp elt [⟨tg,iter,ifs,0⟩] scope pos) 0 (.ref it) (.ref D) (qr X N' scope s3 H3 fp).env) (compPost (model X.prog X.w) X.A X.xe use Qc (.ref D) s3.heap.objs.size) { s3 with heap:=h₁ };have loop:codeAny (model X.prog X.w) X.A (.compLoop (.ListComp elt [⟨tg,iter,ifs,0⟩] scope pos) 0 (.ref it) (.ref D) (qr X N' scope s3 H3 fp).env) (compPost (model X.prog X.w) X.A X.xe use Qc (.ref D) s3.heap.objs.size) { s3 with heap:=h₁ }:=by
  refine codeAny_loop rfl (λn s'=>∃ i σ' H',Inv (qr X N' scope s3 H3 fp) [] σ' H' s'/\tn i s'.heap/\(∀ b∈fp,H' b=none)/\W i n σ' H') (λn s' hI=>?_) n0 ⟨0,cap m σ,H3,I4,tn4,fr4,w0⟩;show wpAny _ X.A ((compTurn (.ListComp elt [⟨tg,iter,ifs,0⟩] scope pos) 0 (.ref it) (.ref D) (qr X N' scope s3 H3 fp).env).onRaise (λx=>do noteFrame x (qr X N' scope s3 H3 fp).env;theTreesLotGoes x)) _ _ s';refine wpAny_noted ?_;rw [compTurn_list];refine y6 (wpAny_standAt (y6 ?_));obtain ⟨i,σ5,H5,I5,st5,fr5,w5⟩:=hI;rcases turn i n σ5 H5 w5 with ⟨stop,q⟩|⟨go,step⟩
  ·refine thn (T.done (qr X N' scope s3 H3 fp) rfl rfl rfl rfl i [] s' σ5 H5 _ I5 (stat fr5) st5 stop) λr s6 ⟨hr,I6⟩=>?_;subst hr;refine y8 ?_;exact fin D s3 H3 fp s6 H5 σ5 _ I3 f3 I6 q
  ·refine thn (T.item (qr X N' scope s3 H3 fp) rfl rfl rfl rfl i [] s' σ5 H5 _ I5 (stat fr5) st5 go) λr s6 ⟨u,hr,h6⟩=>?_;subst hr;refine y6 (thn h6 λ_ s7 ⟨x,H7,I7,r7,y7,st7,fr7⟩=>?_);have I7':=I7.pinned (stat fr7) (T.obj _ _ st7);have again:∀ {σ8:L2.St} {H8:Hp} {s8:Shared},Inv (qr X N' scope s3 H3 fp) ([]++RB fp s7.heap) σ8 H8 s8->(∃ n',n'<n/\W (i+1) n' σ8 H8) ->
     ∃ m',m'<n/\∃ i σ' H',Inv (qr X N' scope s3 H3 fp) [] σ' H' s8/\tn i s8.heap/\(∀ b∈fp,H' b=none)/\W i m' σ' H':=λ{σ8 H8 s8} I8 ⟨n',hn,w8⟩=>by
    refine ⟨n',hn,i+1,σ8,H8,I8.unpinned,T.keep _ _ _ st7 λb hb o e=>(I8.pin (b,o) (za0 _ (za0 _ (jb hb e)))).1,λb hb=>?_,w8⟩;obtain ⟨o,e,d⟩:=T.obj _ _ st7 b hb;exact (I8.pin (b,o) (za0 _ (za0 _ (jb hb e)))).2.1
   refine y6 (y9 (hg s3 H3 fp _ s7 σ5 H7 x u _ I7' r7 (step x H7 y7)) (λ_ s8 ⟨σ8,H8,I8,q8⟩=>?_) λ_ _ z=>z.elim);refine y6 (y9 (hf s3 H3 fp _ s8 σ8 H8 _ I8 q8) (λk s9 ⟨H9,I9,q9⟩=>?_) λ_ _ z=>z.elim);cases k with
   |false=>
    rw [if_neg v7] at q9;exact y8 ⟨rfl,again I9 q9⟩
   |true=>
    rw [if_pos rfl] at q9;refine y6 (y6 (y9 (he s3 H3 fp _ s9 σ8 H9 _ I9 q9) (λw s10 ⟨y,H10,I10,r10,q10⟩=>?_) λ_ _ z=>z.elim));obtain ⟨zs,hz,hl,q10⟩:=q10;refine y6 (y9 (WU (X:=qr X N' scope s3 H3 fp) _ s10 σ8 H10 (.ref D) [y] (.ref D) [w] (λ_ H11=>H11=upd H10 D (.lst (zs++[y]))) I10 rfl (.cons r10 .nil) ⟨D,zs,y,rfl,rfl,hz,hl,rfl⟩) (λ_ s11 ⟨_,H11,I11,_,e11⟩=>?_) λ_ _ z=>z.elim);subst e11;exact y8 (y8 ⟨rfl,again I11 q10⟩)
 exact codeAny_compStart_list loop (T.self X.A 0 _ _ _ tn4 loop)
def qfD {i:Nat} {y:Str} {py spos:Pos} {elt tg iter:Expr} {ifs:List Expr} {scope:Scope} {pos:Pos} {N':List Str} {m:List (Option Nat)} {wi:TI} {g:TG} {tif:TT} {te:TE} (hc:X.calm=true) (hN:X.N.Nodup) (hi:PI X tg iter wi)
  (hg:∀ s H fp,PG (qr X N' scope s H fp) tg g) (hf:∀ s H fp,PF (qr X N' scope s H fp) ifs tif) (he:∀ s H fp,PE (qr X N' scope s H fp) elt te)
  (hsc:qcP X.env.scope scope=true) (hcap:DW X.N N' scope m=true) (hs:∀ x,foldedSetIterable iter X.env x=pure x) (hiy:X.N[i]?=some y) (hl:X.env.scope.names.lookup y=some .local)
  (hsw:swapsWith (.ListComp elt [⟨tg,iter,ifs,0⟩] scope pos) (some (.Name y py)) spos.line X.env=pure true) :
  PS X (.Assign [.Name y py] (.ListComp elt [⟨tg,iter,ifs,0⟩] scope pos) spos) (qq1 (tLC wi g tif te m) (qk3 i)):=by
 intro pins s σ H D I h;rw [exec_Assign_Name_used _ _ _ _ hsw];refine y6 (wpAny_standAt (y6 ?_));show wpAny _ X.A (do let _←comprehension (.ListComp elt [⟨tg,iter,ifs,0⟩] scope pos) scope X.env _ (newList []) false (eval iter X.env) (some (assign (.Name y py) X.env))) _ _ s;refine y6 (y9 (qjO (use:=some (assign (.Name y py) X.env)) (QD:=λD' H'=>D.nx (σ.set i (some (.ref D'))) H') (Qc:=λ_ s'=>∃ σ' H',Inv X pins σ' H' s'/\D.nx σ' H') hc hi hg hf he hsc hcap hs I h λD' s3 H3 fp s6 H6 σ6 r I3 f3 I6 q=>?_) (λ_ s' hq=>y8 (y8 hq)) λ_ _ e=>e);have I7:Inv X pins σ H6 s6:=X8 (h2:=s6.heap) I3 f3 I6 ⟨rfl,λ_ _=>rfl⟩;obtain ⟨mm,hn6,_⟩:=I6.loc;have hfC:qao X pins H6 s3.heap.objs.size:=I3.fpOk (u8 _) I6.free;obtain ⟨f0,f1,f2,f3',f4,f5⟩:=hfC;show wpAny _ X.A (assign (.Name y py) X.env (.ref D')) _ _ _;refine wpAny_assign_Name (NL I7 hN hiy (.inl hl) (v:=.ref D') rfl (λs8 I8 hch=>?_) (.inr hl));obtain ⟨a,sb,ha⟩:=hch;have hne:s3.heap.objs.size≠a:=by
  rcases ha with rfl|ha
  ·exact f1
  ·exact Ne.symm (f4 _ _ ha)
 refine ⟨mm,hn6.sameBut sb hne,λh' sb'=>⟨_,_,I8.turned (t':=s8.toks) (λb o hb e=>(sb'.2 b hb).trans e) f0 f1 f3' f4 f5,q⟩⟩
end
def qrT {K:Frg} {m:List (Option Nat)} {wi:TI3} {g:TG3} {tif:TT3} {te:TE3} {σ:L2.St} {H:Hp} {Q:VK} (hh:lE K (lc3 wi g tif te m) σ H Q):tLC (lI K wi) (lG K g) (lT K tif) (lE K te) m σ H Q:=by
  obtain ⟨τ,G,q,rl,h,af⟩:=hh;refine ⟨τ,G,_,rl,h,λitems stay G1 h1 J H1 hr1 k1 ok D hD=>?_⟩;have gD:G1 D=none:=hr1.free hD;refine ⟨λi n σ' H'=>n=items.length-i/\i<=items.length/\∃ τ' G' ys vs,Rel K τ' G' σ' H'/\Kp G1 H1 G' H'/\H' D=some (.lst vs)/\Rps K H' ys vs/\G' D=none/\TY stay g tif te q (items.drop i) ys τ' G',
   ⟨_,rfl,Nat.zero_le _,cap m τ,G1,[],[],((rl.next hr1 k1).cap m).next (hr1.laid hD) (Kp.laid hD),Kp.laid hD,zu,.nil,gD,by simpa using h1⟩,?_⟩
  rintro i n σ' H' ⟨rfl,hi,τ',G',ys,vs,rl',k',hDl,rys,gD',h'⟩;by_cases hlt:i<items.length
  ·rw [List.drop_eq_getElem_cons hlt] at h';obtain ⟨hst,h'⟩:=h';obtain ⟨go,yld,_⟩:=ok G' H' rl'.hp k' hst;have hx:items[i]?=some items[i]:=v9 hlt;refine .inr ⟨go i _ hx,λv H2 y=>?_⟩;obtain ⟨rv,hr2,k2⟩:=yld i _ v H2 hx y;have nxt:∀ {τ4:St3} {G4:Gp} {σ4:L2.St} {H4:Hp} {ys4:List T} {vs4:List V},Rel K τ4 G4 σ4 H4->Kp G1 H1 G4 H4->H4 D=some (.lst vs4)->Rps K H4 ys4 vs4->G4 D=none->TY stay g tif te q (items.drop (i+1)) ys4 τ4 G4 ->
     ∃ n',n'<items.length-i/\(n'=items.length-(i+1)/\i+1<=items.length/\∃ τ' G' ys vs,Rel K τ' G' σ4 H4/\Kp G1 H1 G' H4/\H4 D=some (.lst vs)/\Rps K H4 ys vs/\G' D=none/\TY stay g tif te q (items.drop (i+1)) ys τ' G'):=
    λ{τ4 G4 σ4 H4 ys4 vs4} a b c d e f=>⟨_,by omega,rfl,hlt,τ4,G4,ys4,vs4,a,b,c,d,e,f⟩
   refine ⟨_,τ',G',_,rv,rl'.next hr2 k2,h',λτ3 G3 h3 σ3 H3 rl3 k3=>⟨τ3,G3,_,rl3,h3,λk G4 h4 H4 hr4 k4=>?_⟩⟩;have kk:=(k2.trans k3).trans k4;obtain ⟨hD4,gD4⟩:=kk D _ hDl gD';have rys4:=rys.keep rl'.hp kk;cases k with
   |false=>
    rw [if_neg v7] at h4;refine qqL ?_;exact nxt (rl3.next hr4 k4) (k'.trans kk) hD4 rys4 gD4 h4
   |true=>
    rw [if_pos rfl] at h4;refine qqs ?_;refine ⟨τ3,G4,_,rl3.next hr4 k4,h4,λz G5 h5 w H5 rw5 hr5 k5=>?_⟩;obtain ⟨hD5,gD5⟩:=k5 D _ hD4 gD4;have rys5:=rys4.keep hr4 k5;exact ⟨vs,hD5,by rw [← rys.length];exact h5.1,nxt (((rl3.next hr4 k4).next hr5 k5).wrD hD5 gD5) (((k'.trans kk).trans k5).wrD hD) zu ((rys5.append (.cons rw5 .nil)).wrD hD5) gD5 h5.2⟩
  ·have e:i=items.length:=by omega
   subst e;rw [List.drop_length] at h';obtain ⟨_,_,stop⟩:=ok G' H' rl'.hp k' h'.1;refine .inl ⟨stop,af _ _ (h'.2 D gD') _ H' (.ref D) (λa o e=>?_) λa o e ga=>?_⟩
   ·by_cases ha:a=D
    ·subst ha;rw [qx] at e;cases e;exact ⟨vs,hDl,rys⟩
    ·rw [j8 ha] at e;exact rl'.hp a o e
   ·obtain ⟨e1,g1⟩:=k1 a o e ga;obtain ⟨e2,g2⟩:=k' a o e1 g1;exact ⟨e2,by rw [j8 (qI e1 hD)];exact g2⟩
def qjH {X:Cx} {py spos:Pos} {elt tg iter:Expr} {ifs:List Expr} {scope:Scope} {pos:Pos} {y:Str} (i:Nat) (N':List Str) (m:List (Option Nat)) {wi:TI3} {g:TG3} {tif:TT3} {te:TE3} (hc:X.calm=true) (hN:X.N.Nodup) (hi:I3 X tg iter wi)
  (hg:∀ s H fp,G3 (qr X N' scope s H fp) tg g) (hf:∀ s H fp,F3 (qr X N' scope s H fp) ifs tif) (he:∀ s H fp,E3 (qr X N' scope s H fp) elt te)
  (hsc:qcP X.env.scope scope=true) (hcap:DW X.N N' scope m=true) (hl:X.env.scope.names.lookup y=some .local) (hsw:swapsWith (.ListComp elt [⟨tg,iter,ifs,0⟩] scope pos) (some (.Name y py)) spos.line X.env=pure true) (hiy:X.N[i]?=some y:=by rfl) (hs:∀ x,foldedSetIterable iter X.env x=pure x:=by intro _;rfl) :
  S3 X (.Assign [.Name y py] (.ListComp elt [⟨tg,iter,ifs,0⟩] scope pos) spos) (qH (lc3 wi g tif te m) (gn3 i)):=
 qeU (qfD (g:=lG X.K g) (tif:=lT X.K tif) (te:=lE X.K te) hc hN hi hg hf he hsc hcap hs hiy hl hsw) λ_ σ H ⟨τ,G,d,rl,h,af⟩=>
  qrT ⟨τ,G,_,rl,h,λx G1 h1 v H1 rx hr1 k1=>af.nx _ G1 h1 _ H1 ((rl.next hr1 k1).set i rx) k1⟩
end L3
set_option autoImplicit true
namespace L3
open PySem PySem.Spec PyProof.Rows L2
structure jE3 (X:Cx) (e:Expr) (t:TE3):Prop where h:E3 X e t
structure jC3 (X:Cx) (e:Expr) (t:TT3):Prop where h:C3 X e t
structure jW3 (X:Cx) (e:Expr) (t:TT3):Prop where h:W3 X e t
structure jA3 (X:Cx) (e:List Expr) (t:TA3):Prop where h:A3 X e t
structure jP3 (X:Cx) (e:Option Expr) (t:TO3):Prop where h:P3 X e t
structure jS3 (X:Cx) (e:Stmt) (t:TS3):Prop where h:S3 X e t
structure jB3 (X:Cx) (e:List Stmt) (t:TS3):Prop where h:B3 X e t
structure jG3 (X:Cx) (e:Expr) (t:TG3):Prop where h:G3 X e t
structure jGs3 (X:Cx) (e:List Expr) (t:qat):Prop where h:Gs3 X e t
structure jI3 (X:Cx) (tg e:Expr) (t:TI3):Prop where h:I3 X tg e t
structure jF3 (X:Cx) (e:List Expr) (t:TT3):Prop where h:F3 X e t
def qb {X:Cx} (i:Nat) {x:Str} {pos:Pos} (hN:X.N[i]?=some x:=by rfl) (hv:Vis X.env.scope x:=by first|exact Or.inl rfl|exact Or.inr (Or.inl rfl)|exact Or.inr (Or.inr rfl)) (hd:(x==("__debug__" : Str))=false:=by decide)
  (hcd:(x==("__classdict__" : Str))=false:=by decide):jE3 X (.Name x pos) (v3 i):=
 ⟨qq8 (i:=i) (hN:=hN) (hv:=hv) (hd:=hd) (hcd:=hcd)⟩
def qe {X:Cx} {i:Int} {j pos}:jE3 X (.Constant (.int i) j pos) (c3 (.int i)):=
 ⟨qq5 ⟩
def EZ {X:Cx} {b:Bool} {j pos}:jE3 X (.Constant (.bool b) j pos) (c3 (.bl b)):=
 ⟨qt1 ⟩
def VT {X:Cx} {j pos}:jE3 X (.Constant .none j pos) (c3 .non):=
 ⟨qsz ⟩
def qK {X:Cx} {x:Str} {j pos}:jE3 X (.Constant (.str x) j pos) (c3 (.str x)):=
 ⟨qrd ⟩
def jo {ta:TE3} {tb:TE3} {pos:Pos} {a:Expr} {b:Expr} {X:Cx} {op:CmpOp} {r3:R3} {r:R2} (ho:OpR X (compareOp op) r) (hr:RR X.K r3 r) (ha:jE3 X a ta) (hb:jE3 X b tb) (hm:behindInMarks op b=false):jE3 X (.Compare a [op] [b] pos) (o3 r3 ta tb):=
 ⟨qrZ (ho:=ho) (hr:=hr) (ha:=ha.h) (hb:=hb.h) (hm:=hm)⟩
def qD {ta:TE3} {tb:TE3} {pos:Pos} {a:Expr} {b:Expr} {X:Cx} {op:CmpOp} {r3:R3} {r:R2} (ho:OpR X (compareOp op) r) (hr:RR X.K r3 r) (ha:jE3 X a ta) (hb:jE3 X b tb) (hm:behindInMarks op b=false):jC3 X (.Compare a [op] [b] pos) (tb3 (o3 r3 ta tb)):=
 ⟨qqZ (ho:=ho) (hr:=hr) (ha:=ha.h) (hb:=hb.h) (hm:=hm)⟩
def LX {ta:TE3} {tb:TE3} {tc:TE3} {pos:Pos} {a:Expr} {b:Expr} {c:Expr} {X:Cx} {op op':CmpOp} {r3 r3':R3} {r r':R2} (ho:OpR X (compareOp op) r) (hr:RR X.K r3 r) (ho':OpR X (compareOp op') r') (hr':RR X.K r3' r') (ha:jE3 X a ta) (hb:jE3 X b tb) (hc:jE3 X c tc)
  (hm:lastMarks [op,op'] [b,c]=false:=by with_unfolding_all rfl):jE3 X (.Compare a [op,op'] [b,c] pos) (ch3 r3 r3' ta tb tc):=
 ⟨qkP (ho:=ho) (hr:=hr) (ho':=ho') (hr':=hr') (ha:=ha.h) (hb:=hb.h) (hc:=hc.h) (hm:=hm)⟩
def CY {ta:TE3} {tb:TE3} {pos:Pos} {a:Expr} {b:Expr} {X:Cx} (ha:jE3 X a ta) (hb:jE3 X b tb):jE3 X (.BinOp a .Sub b pos) (o3 (iI (·-·)) ta tb):=
 ⟨qrA (ha:=ha.h) (hb:=hb.h)⟩
def zB {ta:TE3} {tb:TE3} {pos:Pos} {a:Expr} {b:Expr} {X:Cx} (ha:jE3 X a ta) (hb:jE3 X b tb):jE3 X (.BinOp a .Mult b pos) (o3 (iC JJ (·*·)) ta tb):=
 ⟨qqV (ha:=ha.h) (hb:=hb.h)⟩
def Q2 {ta:TE3} {tb:TE3} {pos:Pos} {a:Expr} {b:Expr} {X:Cx} (ha:jE3 X a ta) (hb:jE3 X b tb):jE3 X (.BinOp a .Mod b pos) (o3 (iC (λ_ j=>0<j) (·%·)) ta tb):=
 ⟨qsn (ha:=ha.h) (hb:=hb.h)⟩
def EK {ta:TE3} {tb:TE3} {pos:Pos} {a:Expr} {b:Expr} {X:Cx} (ha:jE3 X a ta) (hb:jE3 X b tb):jE3 X (.BinOp a .FloorDiv b pos) (o3 (iC qcf (·/·)) ta tb):=
 ⟨qsq (ha:=ha.h) (hb:=hb.h)⟩
def qlt {ta:TE3} {tb:TE3} {pos:Pos} {a:Expr} {b:Expr} {X:Cx} (ha:jE3 X a ta) (hb:jE3 X b tb):jE3 X (.BinOp a .Pow b pos) (o3 (iC qcD (λi j=>i ^ j.toNat)) ta tb):=
 ⟨qqY (ha:=ha.h) (hb:=hb.h)⟩
def LI {ta:TE3} {tb:TE3} {pos:Pos} {a:Expr} {b:Expr} {X:Cx} (ha:jE3 X a ta) (hb:jE3 X b tb):jE3 X (.BinOp a .BitAnd b pos) (o3 (iI Builtin.bitAnd) ta tb):=
 ⟨qnK (ha:=ha.h) (hb:=hb.h)⟩
def qbp {ta:TE3} {tb:TE3} {pos:Pos} {a:Expr} {b:Expr} {X:Cx} (ha:jE3 X a ta) (hb:jE3 X b tb):jE3 X (.BinOp a .LShift b pos) (o3 (iC qcD (λi j=>i*2 ^ j.toNat)) ta tb):=
 ⟨qqU (ha:=ha.h) (hb:=hb.h)⟩
def qpX {ta:TE3} {tb:TE3} {pos:Pos} {a:Expr} {b:Expr} {X:Cx} (ha:jE3 X a ta) (hb:jE3 X b tb):jE3 X (.BinOp a .RShift b pos) (o3 (iC (λ_ j=>0<=j) (λi j=>i/2 ^ j.toNat)) ta tb):=
 ⟨qrt (ha:=ha.h) (hb:=hb.h)⟩
def UG {ta:TE3} {pos:Pos} {a:Expr} {X:Cx} (ha:jE3 X a ta):jE3 X (.UnaryOp .USub a pos) (u3 ZB ta):=
 ⟨qrm (ha:=ha.h)⟩
def KM {tA:TT3} {pos:Pos} {a:Expr} {X:Cx} (ha:jC3 X a tA):jW3 X (.BoolOp .Or [a] pos) tA:=
 ⟨qrp (ha:=ha.h)⟩
def qch {VV:List Expr} {tA:TT3} {tB:TT3} {pos:Pos} {a:Expr} {X:Cx} (ha:jC3 X a tA) (hb:jW3 X (.BoolOp .Or (b::VV) pos) tB):jW3 X (.BoolOp .Or (a::b::VV) pos) (or3 tA tB):=
 ⟨qtN (ha:=ha.h) (hb:=hb.h)⟩
def C9 {tA:TT3} {pos:Pos} {a:Expr} {X:Cx} (ha:jC3 X a tA):jC3 X (.UnaryOp .Not a pos) (JD tA):=
 ⟨qsj (ha:=ha.h)⟩
def VP {X:Cx} {e:Expr} {t:TE3} (h:jE3 X e t) (he:∀ whole,isTrue e X.env whole=(do let v←whole;standAt e.pos;holding [v] (truthy v)):=by intro _;rfl):jC3 X e (tb3 t):=
 ⟨qso (h:=h.h) (he:=he)⟩
def YF {ta:TE3} {pos:Pos} {a:Expr} {X:Cx} {op} (h:jE3 X a ta):jE3 X (.BoolOp op [a] pos) ta:=
 ⟨qrX (h:=h.h)⟩
def j9 {VV:List Expr} {ta:TE3} {tb:TE3} {pos:Pos} {a:Expr} {X:Cx} (ha:jE3 X a ta) (hb:jE3 X (.BoolOp .And (b::VV) pos) tb):jE3 X (.BoolOp .And (a::b::VV) pos) (qZ ta tb):=
 ⟨qrE (ha:=ha.h) (hb:=hb.h)⟩
def qhh {ta:TE3} {pos:Pos} {a:Expr} {X:Cx} (ha:jE3 X a ta):jE3 X (.UnaryOp .Not a pos) (zY ta):=
 ⟨qr8 (ha:=ha.h)⟩
def qkN {tA:TT3} {ta:TE3} {tb:TE3} {pos:Pos} {a:Expr} {b:Expr} {X:Cx} {c:Expr} (hc:jC3 X c tA) (ha:jE3 X a ta) (hb:jE3 X b tb):jE3 X (.IfExp c a b pos) (if3 tA ta tb):=
 ⟨qtH (hc:=hc.h) (ha:=ha.h) (hb:=hb.h)⟩
def qd {X:Cx} :jA3 X [] qh:=
 ⟨qqX ⟩
def qa {te:TE3} {t:TA3} {es:List Expr} {X:Cx} (ha:jE3 X e te) (hr:jA3 X es t) (hs:starEach (e::es) X.env=(false,eval e X.env)::starEach es X.env:=by rfl):jA3 X (e::es) (qc te t):=
 ⟨qne (ha:=ha.h) (hr:=hr.h) (hs:=hs)⟩
def qA {t:TA3} {pos:Pos} {es:List Expr} {X:Cx} {x1} (h:jA3 X es t):jE3 X (.Tuple es x1 pos) (q0 t):=
 ⟨qra (h:=h.h)⟩
def jA {t:TA3} {pos:Pos} {es:List Expr} {X:Cx} (h:jA3 X es t):jE3 X (.List es pos) (zX t):=
 ⟨qrg (h:=h.h)⟩
def qy {t:TA3} {pos:Pos} {es:List Expr} {X:Cx} {x:Str} {p:Pos} {id:String} {r3:List T->Gp->Q3->Prop} {r:List V->Hp->VK->Prop} (hc:JZ X (.builtin id) r) (hr:qaq X.K r3 r) (hg:Gl X x) (hm:X.mg x=none) (hv:bootBuiltins x=some (.builtin id)) (ha:jA3 X (e::es) t) (hn:x≠"__name__" := by decide) (hdb:(x==("__debug__" : Str))=false:=by decide)
  (he:starEach (e::es) X.env=(false,eval e X.env)::starEach es X.env:=by rfl) (hpl:(backTo pos (starEach es X.env)).any (·.1)=false:=by rfl):jE3 X (.Call (.Name x p) (e::es) [] pos) (cb3 r3 t):=
 ⟨qjT (hc:=hc) (hr:=hr) (hg:=hg) (hm:=hm) (hv:=hv) (ha:=ha.h) (hn:=hn) (hdb:=hdb) (he:=he) (hpl:=hpl)⟩
def zk {t:TA3} {pos:Pos} {es:List Expr} {X:Cx} {x:Str} {p:Pos} {ty:String} {r3:List T->Gp->Q3->Prop} {r:List V->Hp->VK->Prop} (hc:JZ X (.type ty) r) (hr:qaq X.K r3 r) (hg:Gl X x) (hm:X.mg x=none) (hv:bootBuiltins x=some (.type ty)) (ha:jA3 X (e::es) t) (hn:x≠"__name__" := by decide) (hdb:(x==("__debug__" : Str))=false:=by decide)
  (he:starEach (e::es) X.env=(false,eval e X.env)::starEach es X.env:=by rfl) (hpl:(backTo pos (starEach es X.env)).any (·.1)=false:=by rfl):jE3 X (.Call (.Name x p) (e::es) [] pos) (cb3 r3 t):=
 ⟨qf5 (hc:=hc) (hr:=hr) (hg:=hg) (hm:=hm) (hv:=hv) (ha:=ha.h) (hn:=hn) (hdb:=hdb) (he:=he) (hpl:=hpl)⟩
def qu {ta:TE3} {tb:TE3} {pos:Pos} {a:Expr} {b:Expr} {X:Cx} (ha:jE3 X a ta) (hb:jE3 X b tb) (hs:W8 b:=by intro _ _;rfl):jE3 X (.Subscript a b pos) (o3 ix3 ta tb):=
 ⟨qtE (ha:=ha.h) (hb:=hb.h) (hs:=hs)⟩
def qc3 {X:Cx} :jP3 X none np3:=
 ⟨qqd ⟩
def W1 {te:TE3} {e:Expr} {X:Cx} (h:jE3 X e te):jP3 X (some e) (sp3 te):=
 ⟨qn3 (h:=h.h)⟩
def RW {te:TE3} {pos:Pos} {e:Expr} {X:Cx} {lo hi:Option Expr} {tl th:TO3} {p2:Pos} (he:jE3 X e te) (hl:jP3 X lo tl) (hu:jP3 X hi th):jE3 X (.Subscript e (.Slice lo hi none p2) pos) (J3 te tl th):=
 ⟨qjN (he:=he.h) (hl:=hl.h) (hu:=hu.h)⟩
def qz {ta:TE3} {tb:TE3} {pos:Pos} {a:Expr} {b:Expr} {X:Cx} (ha:jE3 X a ta) (hb:jE3 X b tb):jE3 X (.BinOp a .Add b pos) (o3 zf ta tb):=
 ⟨qmF (ha:=ha.h) (hb:=hb.h)⟩
def WC {t:TA3} {e:Expr} {X:Cx} {o:Expr} {to:TE3} {apos cpos:Pos} (ho:jE3 X o to) (ha:jA3 X [e] t)
  (hbase:attributeBase o "append" X.env (eval o X.env)=eval o X.env:=by rfl)
  (hfew:((backTo cpos (starEach [e] X.env)).all (λx=>!x.1)&&(backToKw cpos (keywordEach [] X.env)).all (λx=>x.1.isSome)
   && decide (([e]:List Expr).length+([]:List Keyword).length+(if ([]:List Keyword).isEmpty then 0 else 1)<30))=true:=by rfl)
  (hline:(apos.endLine==cpos.line)=true:=by rfl) (hs:starEach [e] X.env=(false,eval e X.env)::starEach [] X.env:=by rfl) (hplain:(backTo cpos (starEach [] X.env)).any (·.1)=false:=by rfl):jE3 X (.Call (.Attribute o "append" apos) [e] [] cpos) (bm3 JI to t):=
 ⟨qe8 (ho:=ho.h) (ha:=ha.h) (hbase:=hbase) (hfew:=hfew) (hline:=hline) (hs:=hs) (hplain:=hplain)⟩
def NX {t:TA3} {e:Expr} {X:Cx} {o:Expr} {to:TE3} {apos cpos:Pos} (ho:jE3 X o to) (ha:jA3 X [e] t)
  (hbase:attributeBase o "extend" X.env (eval o X.env)=eval o X.env:=by rfl)
  (hfew:((backTo cpos (starEach [e] X.env)).all (λx=>!x.1)&&(backToKw cpos (keywordEach [] X.env)).all (λx=>x.1.isSome)
   && decide (([e]:List Expr).length+([]:List Keyword).length+(if ([]:List Keyword).isEmpty then 0 else 1)<30))=true:=by rfl)
  (hline:(apos.endLine==cpos.line)=true:=by rfl) (hs:starEach [e] X.env=(false,eval e X.env)::starEach [] X.env:=by rfl) (hplain:(backTo cpos (starEach [] X.env)).any (·.1)=false:=by rfl):jE3 X (.Call (.Attribute o "extend" apos) [e] [] cpos) (bm3 YI to t):=
 ⟨qfk (ho:=ho.h) (ha:=ha.h) (hbase:=hbase) (hfew:=hfew) (hline:=hline) (hs:=hs) (hplain:=hplain)⟩
def VU {te:TE3} {pos:Pos} {e:Expr} {X:Cx} {tn:Str} {ty:String} {p p2:Pos} (he:jE3 X e te) (hg:Gl X "isinstance") (hm:X.mg "isinstance" = none) (hg2:Gl X tn) (hm2:X.mg tn=none) (hv:bootBuiltins tn=some (.type ty)) (hmem:ty∈Z2:=by decide) (hn:tn≠"__name__" := by decide) (hdb:(tn==("__debug__" : Str))=false:=by decide)
  (hs:starEach [e,.Name tn p2] X.env=(false,eval e X.env)::starEach [.Name tn p2] X.env:=by rfl) (hs2:starEach [.Name tn p2] X.env=(false,eval (.Name tn p2) X.env)::starEach [] X.env:=by rfl) (hpl:(backTo pos (starEach [.Name tn p2] X.env)).any (·.1)=false:=by rfl):jE3 X (.Call (.Name "isinstance" p) [e,.Name tn p2] [] pos) (QP (λt=>je t ty) te):=
 ⟨qrC (he:=he.h) (hg:=hg) (hm:=hm) (hg2:=hg2) (hm2:=hm2) (hv:=hv) (hmem:=hmem) (hn:=hn) (hdb:=hdb) (hs:=hs) (hs2:=hs2) (hpl:=hpl)⟩
def qd8 {te:TE3} {pos:Pos} {e:Expr} {X:Cx} {tn tn':Str} {ty ty':String} {p p2 p3 p4:Pos} {x1} (he:jE3 X e te) (hg:Gl X "isinstance") (hm:X.mg "isinstance" = none) (hg2:Gl X tn) (hm2:X.mg tn=none) (hv:bootBuiltins tn=some (.type ty)) (hg3:Gl X tn') (hm3:X.mg tn'=none) (hv3:bootBuiltins tn'=some (.type ty'))
  (hmem:ty∈Z2:=by decide) (hn:tn≠"__name__" := by decide) (hdb:(tn==("__debug__" : Str))=false:=by decide) (hmem3:ty'∈Z2:=by decide) (hn3:tn'≠"__name__" := by decide) (hdb3:(tn'==("__debug__" : Str))=false:=by decide)
  (hs:starEach [e,.Tuple [.Name tn p2,.Name tn' p3] x1 p4] X.env=(false,eval e X.env)::starEach [.Tuple [.Name tn p2,.Name tn' p3] x1 p4] X.env:=by rfl) (hs2:starEach [.Tuple [.Name tn p2,.Name tn' p3] x1 p4] X.env=(false,eval (.Tuple [.Name tn p2,.Name tn' p3] x1 p4) X.env)::starEach [] X.env:=by rfl)
  (hs3:starEach [.Name tn p2,.Name tn' p3] X.env=(false,eval (.Name tn p2) X.env)::starEach [.Name tn' p3] X.env:=by rfl) (hs4:starEach [.Name tn' p3] X.env=(false,eval (.Name tn' p3) X.env)::starEach [] X.env:=by rfl)
  (hpl:(backTo pos (starEach [.Tuple [.Name tn p2,.Name tn' p3] x1 p4] X.env)).any (·.1)=false:=by rfl):jE3 X (.Call (.Name "isinstance" p) [e,.Tuple [.Name tn p2,.Name tn' p3] x1 p4] [] pos) (QP (λt=>je t ty||je t ty') te):=
 ⟨qmW (he:=he.h) (hg:=hg) (hm:=hm) (hg2:=hg2) (hm2:=hm2) (hv:=hv) (hg3:=hg3) (hm3:=hm3) (hv3:=hv3) (hmem:=hmem) (hn:=hn) (hdb:=hdb) (hmem3:=hmem3) (hn3:=hn3) (hdb3:=hdb3) (hs:=hs) (hs2:=hs2) (hs3:=hs3) (hs4:=hs4) (hpl:=hpl)⟩
def qG {X:Cx} :jB3 X [] qt:=
 ⟨qsk ⟩
def qg {VV:List Stmt} {st:Stmt} {t1:TS3} {t2:TS3} {X:Cx} (h1:jS3 X st t1) (h2:jB3 X VV t2):jB3 X (st::VV) (qw t1 t2):=
 ⟨ql4 (h1:=h1.h) (h2:=h2.h)⟩
def ql {st:Stmt} {t1:TS3} {X:Cx} (h1:jS3 X st t1):jB3 X [st] t1:=
 ⟨qr5 (h1:=h1.h)⟩
def CB {te:TE3} {pos:Pos} {e:Expr} {X:Cx} (he:jE3 X e te) (hs:swapsWith e none pos.line X.env=pure false:=by rfl):jS3 X (.Expr e pos) (zt te):=
 ⟨qnT (he:=he.h) (hs:=hs)⟩
def qp {te:TE3} {pos:Pos} {e:Expr} {X:Cx} (he:jE3 X e te):jS3 X (.Return (some e) pos) (qB te):=
 ⟨qrL (he:=he.h)⟩
def zh {tA:TT3} {t1:TS3} {t2:TS3} {pos:Pos} {X:Cx} {c:Expr} {ba bb:List Stmt} (hc:jC3 X c tA) (ha:jB3 X ba t1) (hb:jB3 X bb t2):jS3 X (.If c ba bb pos) (qV tA t1 t2):=
 ⟨qtq (hc:=hc.h) (ha:=ha.h) (hb:=hb.h)⟩
def qfN {X:Cx} {sts:List Stmt}:jB3 X sts V1:=
 ⟨qjs ⟩
def qq {pos:Pos} {X:Cx} {i:Nat} {x:Str} (hN:X.N.Nodup) (hi:X.N[i]?=some x:=by rfl) (hx:Loc X.env.scope x:=by first|exact Or.inl rfl|exact Or.inr rfl) (hf:X.fn x=true\/X.env.scope.names.lookup x=some .local:=by first|exact .inl rfl|exact .inr rfl):jG3 X (.Name x pos) (gn3 i):=
 ⟨qpS (hN:=hN) (hi:=hi) (hx:=hx) (hf:=hf)⟩
def zp {X:Cx} :jGs3 X [] qN:=
 ⟨qqT ⟩
def qo {es:List Expr} {X:Cx} {tg:TG3} {tgs:qat} (h1:jG3 X e tg) (h2:jGs3 X es tgs) (hs:(assignEach (e::es) X.env).map (·.2)=assign e X.env::(assignEach es X.env).map (·.2):=by rfl):jGs3 X (e::es) (qk tg tgs):=
 ⟨qmB (h1:=h1.h) (h2:=h2.h) (hs:=hs)⟩
def zr {pos:Pos} {es:List Expr} {X:Cx} {k:Nat} {tgs:qat} {n:Nat} (hc:X.calm=true) (h:jGs3 X es tgs) (hn:(assignEach es X.env).length=n:=by rfl) (hst:(assignEach es X.env).findIdx? (·.1)=none:=by rfl):jG3 X (.Tuple es k pos) (qM n tgs):=
 ⟨qrK (hc:=hc) (h:=h.h) (hn:=hn) (hst:=hst)⟩
def qhe {pos : Pos} {X : Cx} {o i : Expr} {to ti : TE3} (ho : jE3 X o to) (hi : jE3 X i ti) (ha : ∀ v,assign (.Subscript o i pos) X.env v = (do
      let ov←holding [v] (eval o X.env)
      let iv←holding [v,ov] (eval i X.env)
      standAt pos
      holding [v,ov,iv] (setItem ov iv v)
      release [v,ov,iv] []):=by intro _;rfl):jG3 X (.Subscript o i pos) (zG to ti):=
  ⟨qr4 (ho:=ho.h) (hi:=hi.h) (ha:=ha)⟩
def jx {te:TE3} {pos:Pos} {X:Cx} {tg e:Expr} {g:TG3} (he:jE3 X e te) (hg:jG3 X tg g) (hs:swapsWithSole [tg] e pos.line X.env=pure false:=by rfl) (hw:swappedStores [tg] e X.env=pure none:=by rfl)
  (h1:(assignEach [tg] X.env).map (·.2)=[assign tg X.env]:=by rfl):jS3 X (.Assign [tg] e pos) (qH te g):=
 ⟨qrw (he:=he.h) (hg:=hg.h) (hs:=hs) (hw:=hw) (h1:=h1)⟩
def qJ {te:TE3} {pos:Pos} {X:Cx} (i:Nat) {x:Str} {e:Expr} {pos':Pos} (hN:X.N.Nodup) (he:jE3 X e te) (hi:X.N[i]?=some x:=by rfl) (hx:Loc X.env.scope x:=by first|exact Or.inl rfl|exact Or.inr rfl) (hs:swapsWith e (some (.Name x pos')) pos.line X.env=pure false:=by rfl) (hf:X.fn x=true\/X.env.scope.names.lookup x=some .local:=by first|exact .inl rfl|exact .inr rfl):jS3 X (.Assign [.Name x pos'] e pos) (qH te (gn3 i)):=
 ⟨qsa (i:=i) (hN:=hN) (he:=he.h) (hi:=hi) (hx:=hx) (hs:=hs) (hf:=hf)⟩
def EM {pos:Pos} {X:Cx} {i j:Nat} {x y:Str} {a b:Expr} {tt:TA3} {px py pt:Pos} {kt k2 pt2} (hc:X.calm=true) (hN:X.N.Nodup) (hi:X.N[i]?=some x) (hj:X.N[j]?=some y) (hij:i≠j)
  (hx:X.env.scope.names.lookup x=some .local) (hy:X.env.scope.names.lookup y=some .local) (ha:jA3 X [a,b] tt)
  (hw:swappedStores [.Tuple [.Name x px,.Name y py] kt pt] (.Tuple [a,b] k2 pt2) X.env=pure (some [x,y]):=by rfl)
  (hs:swapsWithSole [.Tuple [.Name x px,.Name y py] kt pt] (.Tuple [a,b] k2 pt2) pos.line X.env=pure false:=by rfl):jS3 X (.Assign [.Tuple [.Name x px,.Name y py] kt pt] (.Tuple [a,b] k2 pt2) pos) (j6 i j tt):=
 ⟨qq2 (hc:=hc) (hN:=hN) (hi:=hi) (hj:=hj) (hij:=hij) (hx:=hx) (hy:=hy) (ha:=ha.h) (hw:=hw) (hs:=hs)⟩
def ZC {te:TE3} {X:Cx} {tg:Expr} {l:Expr} (hl:jE3 X l te):jI3 X tg l (JH te):=
 ⟨qqP (hl:=hl.h)⟩
def qP {t:TA3} {pos:Pos} {a:Expr} {X:Cx} {tg:Expr} {p:Pos} (hg:Gl X "range") (hm:X.mg "range" = none) (ha:jA3 X [a] t) (hs:starEach [a] X.env=[(false,eval a X.env)]:=by rfl) (h1:∀ τ G q,t τ G q->t τ G λxs G=>q xs G/\xs.length=1):jI3 X tg (.Call (.Name "range" p) [a] [] pos) (zw t):=
 ⟨qgc (hg:=hg) (hm:=hm) (ha:=ha.h) (hs:=hs) (h1:=h1)⟩
def UL {t:TA3} {pos:Pos} {a:Expr} {b:Expr} {X:Cx} {tg:Expr} {p:Pos} (hg:Gl X "range") (hm:X.mg "range" = none) (ha:jA3 X [a,b] t) (hs:starEach [a,b] X.env=[(false,eval a X.env),(false,eval b X.env)]:=by rfl) (hs2:starEach [b] X.env=[(false,eval b X.env)]:=by rfl) (h1:∀ τ G q,t τ G q->t τ G λxs G=>q xs G/\xs.length=2):jI3 X tg (.Call (.Name "range" p) [a,b] [] pos) (zw t):=
 ⟨qe7 (hg:=hg) (hm:=hm) (ha:=ha.h) (hs:=hs) (hs2:=hs2) (h1:=h1)⟩
def J9 {pos:Pos} {X:Cx} {tg:Expr} {iter:Expr} {body:List Stmt} {wi:TI3} {g:TG3} {tb:TS3} (hp:PassesOwn (model X.prog X.w) X.A X.env X.xe) (hc:X.calm=true) (hi:jI3 X tg iter wi) (hg:jG3 X tg g) (hb:jB3 X body tb)
  (hs:∀ x,foldedSetIterable iter X.env x=pure x:=by intro _;rfl):jS3 X (.For tg iter body [] pos) (RM wi g tb):=
 ⟨qsr (hp:=hp) (hc:=hc) (hi:=hi.h) (hg:=hg.h) (hb:=hb.h) (hs:=hs)⟩
def qb1 {pos:Pos} {X:Cx} {c:Expr} {body:List Stmt} {tc:TT3} {tb:TS3} (hp:PassesOwn (model X.prog X.w) X.A X.env X.xe) (hc:jC3 X c tc) (hb:jB3 X body tb):jS3 X (.While c body [] pos) (K2 tc tb):=
 ⟨qkf (hp:=hp) (hc:=hc.h) (hb:=hb.h)⟩
def qf {t:TA3} {pos:Pos} {es:List Expr} {X:Cx} {k:Nat} {x:Str} {p:Pos} {sp:Sp3} (F:Fn3 X.prog X.w X.K X.mg X.base k x sp) (hr:Room k X.A) (hg:Gl X x) (ha:jA3 X (e::es) t) (hdb:(x==("__debug__" : Str))=false:=by decide)
  (he:starEach (e::es) X.env=(false,eval e X.env)::starEach es X.env:=by rfl) (hpl:(backTo pos (starEach es X.env)).any (·.1)=false:=by rfl):jE3 X (.Call (.Name x p) (e::es) [] pos) (cb3 sp t):=
 ⟨qp4 (F:=F) (hr:=hr) (hg:=hg) (ha:=ha.h) (hdb:=hdb) (he:=he) (hpl:=hpl)⟩
def ZZ {X:Cx} {elt tg iter:Expr} {ifs:List Expr} {scope:Scope} {pos:Pos} (N':List Str) (m:List (Option Nat)) {wi:TI3} {g:TG3} {tif:TT3} {te:TE3} (hc:X.calm=true) (hi:jI3 X tg iter wi)
  (hg:∀ s H fp,jG3 (qr X N' scope s H fp) tg g) (hf:∀ s H fp,jF3 (qr X N' scope s H fp) ifs tif) (he:∀ s H fp,jE3 (qr X N' scope s H fp) elt te)
  (hsc:qcP X.env.scope scope=true) (hcap:DW X.N N' scope m=true) (hs:∀ x,foldedSetIterable iter X.env x=pure x:=by intro _;rfl):jE3 X (.ListComp elt [⟨tg,iter,ifs,0⟩] scope pos) (lc3 wi g tif te m):=
 ⟨qtO (N':=N') (m:=m) (hc:=hc) (hi:=hi.h) (hg:=(λs H fp=>(hg s H fp).h)) (hf:=(λs H fp=>(hf s H fp).h)) (he:=(λs H fp=>(he s H fp).h)) (hsc:=hsc) (hcap:=hcap) (hs:=hs)⟩
def zq {X:Cx}:jF3 X [] tt3:=
 ⟨qr9 ⟩
def qb4 {X:Cx} {c:Expr} {t:TT3} (h:jC3 X c t):jF3 X [c] t:=
 ⟨qsb (h:=h.h)⟩
def qgU {t:TA3} {pos:Pos} {es:List Expr} {a:Expr} {b:Expr} {X:Cx} {p pt:Pos} {k1:Nat} (hg:Gl X "zip") (hm:X.mg "zip" = none) (ha:jA3 X [a,b] t) (hs:starEach [a,b] X.env=[(false,eval a X.env),(false,eval b X.env)]:=by rfl) (hs2:starEach [b] X.env=[(false,eval b X.env)]:=by rfl):jI3 X (.Tuple es k1 pt) (.Call (.Name "zip" p) [a,b] [] pos) (qca t):=
 ⟨qrI (hg:=hg) (hm:=hm) (ha:=ha.h) (hs:=hs) (hs2:=hs2)⟩
def qdY {t:TA3} {pos:Pos} {es:List Expr} {a:Expr} {X:Cx} {p pt:Pos} {k1:Nat} (hg:Gl X "enumerate") (hm:X.mg "enumerate" = none) (ha:jA3 X [a] t) (hs:starEach [a] X.env=[(false,eval a X.env)]:=by rfl):jI3 X (.Tuple es k1 pt) (.Call (.Name "enumerate" p) [a] [] pos) (KN t):=
 ⟨qlP (hg:=hg) (hm:=hm) (ha:=ha.h) (hs:=hs)⟩
def qc8 {te:TE3} {pos:Pos} {e:Expr} {X:Cx} (i:Nat) {x:Str} {pos':Pos} (hN:X.N.Nodup) (he:jE3 X e te) (hi:X.N[i]?=some x:=by rfl) (hx:Loc X.env.scope x:=by first|exact Or.inl rfl|exact Or.inr rfl) (hf:X.fn x=true\/X.env.scope.names.lookup x=some .local:=by first|exact .inl rfl|exact .inr rfl):jS3 X (.AugAssign (.Name x pos') .Add e pos) (VX i (iI (·+·)) te):=
 ⟨qfU (i:=i) (hN:=hN) (he:=he.h) (hi:=hi) (hx:=hx) (hf:=hf)⟩
def JN {X:Cx} {py spos:Pos} {elt tg iter:Expr} {ifs:List Expr} {scope:Scope} {pos:Pos} {y:Str} (i:Nat) (N':List Str) (m:List (Option Nat)) {wi:TI3} {g:TG3} {tif:TT3} {te:TE3} (hc:X.calm=true) (hN:X.N.Nodup) (hi:jI3 X tg iter wi)
  (hg:∀ s H fp,jG3 (qr X N' scope s H fp) tg g) (hf:∀ s H fp,jF3 (qr X N' scope s H fp) ifs tif) (he:∀ s H fp,jE3 (qr X N' scope s H fp) elt te)
  (hsc:qcP X.env.scope scope=true) (hcap:DW X.N N' scope m=true) (hl:X.env.scope.names.lookup y=some .local) (hsw:swapsWith (.ListComp elt [⟨tg,iter,ifs,0⟩] scope pos) (some (.Name y py)) spos.line X.env=pure true) (hiy:X.N[i]?=some y:=by rfl) (hs:∀ x,foldedSetIterable iter X.env x=pure x:=by intro _;rfl):jS3 X (.Assign [.Name y py] (.ListComp elt [⟨tg,iter,ifs,0⟩] scope pos) spos) (qH (lc3 wi g tif te m) (gn3 i)):=
 ⟨qjH (i:=i) (N':=N') (m:=m) (hc:=hc) (hN:=hN) (hi:=hi.h) (hg:=(λs H fp=>(hg s H fp).h)) (hf:=(λs H fp=>(hf s H fp).h)) (he:=(λs H fp=>(he s H fp).h)) (hsc:=hsc) (hcap:=hcap) (hl:=hl) (hsw:=hsw) (hiy:=hiy) (hs:=hs)⟩
def jpt {X:Cx} {e:Expr} {t:TT3} (h:jW3 X e t):jC3 X e t:=⟨PW.pt h.h⟩
def qjx {P:Program} {w:World} {K:Frg} {mg:Str->Option Value} {base:Heap} {x qual:Str} {st:Stmt} {f:Addr} {fd:FuncData} {N ps:List Str} {k:Nat} {sp:Sp3} {t3:TS3} (F:Fun K x qual st f fd) (S:FnScope N ps (qj st)) (bd:KB K fd ps []) (hm:mg x=some (.ref f))
  (body:∀ (cdv:Value) (A:Around) (outer:List Env) (s:Shared) (H:Hp) (E:XK),Room k (A.deeper (envOfC qual (qj st) s.heap.objs.size f cdv)) ->
   jB3 (qeE CX0 P w K mg base N qual (qj st) f cdv A outer s H E).nox (jk st) t3)
  (read:∀ ts G q,sp ts G q->ts.length=ps.length/\t3 { nx:=λ_ G'=>q .non G',rt:=q } (qm N ts) G):Fn3 P w K mg base (k+1) x sp:=
 qmV F S bd hm (λcdv A outer s H E hr=>(body cdv A outer s H E hr).h) read
def qfi {P:Program} {w:World} {K:Frg} {mg:Str->Option Value} {base:Heap} {x qual:Str} {st:Stmt} {f:Addr} {fd:FuncData} {N ps:List Str} {k:Nat} {sp:Sp3} {t3:TS3} (F:Fun K x qual st f fd) (S:FnScope N ps (qj st))
  (body:∀ (cdv:Value) (A:Around) (outer:List Env) (s:Shared) (H:Hp) (E:XK),Room k (A.deeper (envOfC qual (qj st) s.heap.objs.size f cdv)) ->
   jB3 (qeE CX0 P w K mg base N qual (qj st) f cdv A outer s H E).nox (jk st) t3)
  (read:∀ ts G q,sp ts G q->ts.length=ps.length/\t3 { nx:=λ_ G'=>q .non G',rt:=q } (qm N ts) G):FnOk P w K mg base CX0 (k+1) f fd ps (lSp K sp):=
 qkL F S (λcdv A outer s H E hr=>(body cdv A outer s H E hr).h) read
open PySem.SeqAt
def Ex (G G':Gp):Prop:=∀ b o,G b=some o->G' b=some o
def Ex.refl {G:Gp}:Ex G G:=λ_ _ e=>e
def Ex.trans {G G1 G2:Gp} (a:Ex G G1) (b:Ex G1 G2):Ex G G2:=λx o e=>b x o (a x o e)
def QB {G:Gp} {p:Addr} {o:O} (hp:G p=none):Ex G (gu G p o):=λb ob e=>by
 rw [j8 (by rintro rfl;rw [hp] at e;cases e)];exact e
mutual
inductive Dp (G:Gp):T->PyData->Prop
 |non:Dp G .non .none
 |bl (b:Bool):Dp G (.bl b) (.bool b)
 |int (i:Int):Dp G (.int i) (.int i)
 |str (x:Str):Dp G (.str x) (.str x)
 |tup {xs:List T} {ds:List PyData}:Dps G xs ds->Dp G (.tup xs) (.tuple ds)
 |lst {p:Addr} {xs:List T} {ds:List PyData}:getL G p=some xs->Dps G xs ds->Dp G (.ref p) (.list ds)
inductive Dps (G:Gp):List T->List PyData->Prop
 |nil:Dps G [] []
 |cons {x:T} {d:PyData} {xs:List T} {ds:List PyData}:Dp G x d->Dps G xs ds->Dps G (x::xs) (d::ds)
end
theorem Ex.getL {G G':Gp} (e:Ex G G') {p:Addr} {xs:List T} (h:getL G p=some xs):getL G' p=some xs:=by
 unfold L3.getL at h ⊢;split at h
 ·rename_i ys g;cases h;rw [e _ _ g]
 ·rename_i ys g;cases h;rw [e _ _ g]
 ·cases h
mutual
theorem Dp.up {G G':Gp} (e:Ex G G'):∀ {x:T} {d:PyData},Dp G x d->Dp G' x d
 |_,_,.non=>.non
 |_,_,.bl b=>.bl b
 |_,_,.int i=>.int i
 |_,_,.str x=>.str x
 |_,_,.tup h=>.tup (Dps.up e h)
 |_,_,.lst h1 h2=>.lst (e.getL h1) (Dps.up e h2)
theorem Dps.up {G G':Gp} (e:Ex G G'):∀ {x:List T} {d:List PyData},Dps G x d->Dps G' x d
 |_,_,.nil=>.nil
 |_,_,.cons a b=>.cons (Dp.up e a) (Dps.up e b)
end
theorem Dps.length {G:Gp}:∀ {xs:List T} {ds:List PyData},Dps G xs ds->xs.length=ds.length
 |_,_,.nil=>rfl
 |_,_,.cons _ b=>by simp [Dps.length b]
theorem Dps.get {G:Gp}:∀ {xs:List T} {ds:List PyData} {i:Nat} {x:T},Dps G xs ds->xs[i]?=some x->∃ d,ds[i]?=some d/\Dp G x d
 |_,_,_,_,.nil,e=>by simp at e
 |_,_,0,_,.cons r _,e=>by simp at e;subst e;exact ⟨_,rfl,r⟩
 |_,_,i+1,x,.cons _ t,e=>by
  obtain ⟨u,h1,h2⟩:=Dps.get (i:=i) (x:=x) t (by simpa using e);exact ⟨u,by simpa using h1,h2⟩
mutual
inductive DV (K:Frg) (H:Hp):V->PyData->Prop
 |non:DV K H .non .none
 |bl (b:Bool):DV K H (.bl b) (.bool b)
 |int (i:Int):DV K H (.int i) (.int i)
 |str (x:Str):DV K H (.str x) (.str x)
 |tup {a:Addr} {vs:List V} {ds:List PyData}:SqT K H a vs->DVs K H vs ds->DV K H (.ref a) (.tuple ds)
 |lst {a:Addr} {vs:List V} {ds:List PyData}:SqL K H a vs->DVs K H vs ds->DV K H (.ref a) (.list ds)
inductive DVs (K:Frg) (H:Hp):List V->List PyData->Prop
 |nil:DVs K H [] []
 |cons {x:V} {d:PyData} {xs:List V} {ds:List PyData}:DV K H x d->DVs K H xs ds->DVs K H (x::xs) (d::ds)
end
mutual
theorem Dp.dv {K:Frg} {G:Gp} {H:Hp} (hr:HR K G H):∀ {x:T} {d:PyData} {v:V},Dp G x d->Rp K H x v->DV K H v d
 |_,_,_,.non,.non=>.non
 |_,_,_,.bl b,.bl _=>.bl b
 |_,_,_,.int i,.int _=>.int i
 |_,_,_,.str x,.str _=>.str x
 |_,_,_,.tup h,.tup hs rs=>.tup hs (Dps.dv hr h rs)
 |_,_,_,.lst g h,r=>by
  cases r;obtain ⟨_,hs,rs⟩:=zT hr g;exact .lst hs (Dps.dv hr h rs)
theorem Dps.dv {K:Frg} {G:Gp} {H:Hp} (hr:HR K G H):∀ {x:List T} {d:List PyData} {v:List V},Dps G x d->Rps K H x v->DVs K H v d
 |_,_,_,.nil,.nil=>.nil
 |_,_,_,.cons a b,.cons c d=>.cons (Dp.dv hr a c) (Dps.dv hr b d)
end
mutual
def jz:PyData->PyData->Option Bool
 |.none,.none=>some true
 |.bool a,.bool b=>some (a==b)
 |.int a,.int b=>some (a==b)
 |.str a,.str b=>some (a==b)
 |.list xs,.list ys=>YQ xs ys
 |.tuple xs,.tuple ys=>YQ xs ys
 |.int _,.none=>some false
 |.none,.int _=>some false
 |_,_=>none
def YQ:List PyData->List PyData->Option Bool
 |[],[]=>some true
 |x::xs,y::ys=>match jz x y,YQ xs ys with|some a,some b=>some (a&&b)|_,_=>none
 |_,_=>some false
end
mutual
def dpt:PyData->Nat
 |.list xs=>qbx xs+1
 |.tuple xs=>qbx xs+1
 |_=>0
def qbx:List PyData->Nat
 |[]=>0
 |x::xs=>max (dpt x) (qbx xs)
end
section
variable {X:Cx} {pins:List (Addr×Obj)} {σ:L2.St} {H:Hp} {s:Shared}
mutual
theorem DV.inj (I:Inv X pins σ H s):∀ {v:V} {d e:PyData},DV X.K H v d->DV X.K H v e->d=e
 |_,_,_,.non,.non=>rfl
 |_,_,_,.bl _,.bl _=>rfl
 |_,_,_,.int _,.int _=>rfl
 |_,_,_,.str _,.str _=>rfl
 |_,_,_,.tup h hs,.tup k ks=>by
  have:=I.tuple_inj h k;subst this;rw [DVs.inj I hs ks]
 |_,_,_,.lst h hs,.lst k ks=>by
  have:=I.list_inj h k;subst this;rw [DVs.inj I hs ks]
 |_,_,_,.tup h hs,.lst k ks=>by
  obtain ⟨i1,_,p1,_⟩:=I.tuple h;obtain ⟨i2,_,p2,_⟩:=I.list k;exact absurd rfl (ne_of_list_tuple p2.isList (show s.heap.IsTuple _ i1.toArray from p1))
 |_,_,_,.lst k ks,.tup h hs=>by
  obtain ⟨i1,_,p1,_⟩:=I.tuple h;obtain ⟨i2,_,p2,_⟩:=I.list k;exact absurd rfl (ne_of_list_tuple p2.isList (show s.heap.IsTuple _ i1.toArray from p1))
theorem DVs.inj (I:Inv X pins σ H s):∀ {v:List V} {d e:List PyData},DVs X.K H v d->DVs X.K H v e->d=e
 |_,_,_,.nil,.nil=>rfl
 |_,_,_,.cons a b,.cons c d=>by rw [DV.inj I a c,DVs.inj I b d]
end
mutual
theorem M8:∀ {d:PyData} {b:Bool},jz d d=some b->b=true
 |.none,_,h=>by simp [jz] at h;exact h
 |.bool _,_,h=>by simp [jz] at h;exact h
 |.int _,_,h=>by simp [jz] at h;exact h
 |.str _,_,h=>by simp [jz] at h;exact h
 |.list xs,_,h=>by simp only [jz] at h;exact XH h
 |.tuple xs,_,h=>by simp only [jz] at h;exact XH h
 |.dict _,_,h=>by simp [jz] at h
theorem XH:∀ {d:List PyData} {b:Bool},YQ d d=some b->b=true
 |[],_,h=>by simp [YQ] at h;exact h
 |x::xs,b,h=>by
  simp only [YQ] at h;split at h
  ·rename_i a c e1 e2;rw [M8 e1,XH e2] at h;simpa using h.symm
  ·cases h
end
theorem UH:∀ {xs ys:List PyData} {b:Bool},YQ xs ys=some b->xs.length=ys.length->∃ e:Nat->Bool,(∀ (j:Nat) x y,xs[j]?=some x->ys[j]?=some y->jz x y=some (e j))/\b=(List.range xs.length).all e
 |[],[],b,h,_=>by simp [YQ] at h;exact ⟨λ_=>true,by simp,by simp [h]⟩
 |x::xs,y::ys,b,h,hl=>by
  simp only [YQ] at h;split at h
  ·rename_i a c e1 e2;obtain ⟨e,h1,h2⟩:=UH e2 (by simpa using hl);refine ⟨λj=>match j with|0=>a|j+1=>e j,λj u v hu hv=>?_,?_⟩
   ·cases j with
    |zero=>simp at hu hv;subst hu;subst hv;exact e1
    |succ j=>exact h1 j u v (by simpa using hu) (by simpa using hv)
   ·rw [length_cons,List.range_succ_eq_map,List.all_cons,List.all_map];cases h;rw [h2];rfl
  ·cases h
 |[],_::_,_,_,hl=>by simp at hl
 |_::_,[],_,_,hl=>by simp at hl
theorem UO:∀ {xs ys:List PyData} {b:Bool},YQ xs ys=some b->xs.length≠ys.length->b=false/\∃ e:Nat->Bool,∀ (j:Nat) x y,xs[j]?=some x->ys[j]?=some y->jz x y=some (e j)
 |[],[],_,_,hl=>by simp at hl
 |[],_::_,b,h,_=>by simp [YQ] at h;exact ⟨h,λ_=>true,by simp⟩
 |_::_,[],b,h,_=>by simp [YQ] at h;exact ⟨h,λ_=>true,by simp⟩
 |x::xs,y::ys,b,h,hl=>by
  simp only [YQ] at h;split at h
  ·rename_i a c e1 e2;obtain ⟨h0,e,h1⟩:=UO e2 (by simpa using hl);subst h0;refine ⟨by simpa using h.symm,λj=>match j with|0=>a|j+1=>e j,λj u v hu hv=>?_⟩;cases j with
   |zero=>simp at hu hv;subst hu;subst hv;exact e1
   |succ j=>exact h1 j u v (by simpa using hu) (by simpa using hv)
  ·cases h
theorem WR:∀ {xs:List PyData} {x:PyData},x∈xs->dpt x<=qbx xs
 |[],_,h=>by simp at h
 |y::ys,x,h=>by
  simp only [qbx];rcases mem_cons.mp h with e|e
  ·subst e;omega
  ·have:=WR e;omega
theorem DVs.get {K:Frg} {H:Hp}:∀ {xs:List V} {ds:List PyData} {i:Nat} {x:V},DVs K H xs ds->xs[i]?=some x->∃ d,ds[i]?=some d/\DV K H x d
 |_,_,_,_,.nil,e=>by simp at e
 |_,_,0,_,.cons r _,e=>by simp at e;subst e;exact ⟨_,rfl,r⟩
 |_,_,i+1,x,.cons _ t,e=>by
  obtain ⟨u,h1,h2⟩:=DVs.get (i:=i) (x:=x) t (by simpa using e);exact ⟨u,by simpa using h1,h2⟩
theorem DVs.length {K:Frg} {H:Hp}:∀ {xs:List V} {ds:List PyData},DVs K H xs ds->xs.length=ds.length
 |_,_,.nil=>rfl
 |_,_,.cons _ b=>by simp [DVs.length b]
def UA {vs:List V} {us:List Value} (r:jh vs us) {j:Nat} (h:j<us.toArray.size):∃ v,vs[j]?=some v/\jQ v us.toArray[j]:=by
 have hj:j<vs.length:=by rw [r.length];simpa using h
 obtain ⟨u,hu,ru⟩:=r.get (v9 hj);refine ⟨vs[j],v9 hj,?_⟩;have hj2:j<us.length:=by simpa using h
 rw [v9 hj2] at hu;have:us[j]=u:=Option.some.inj hu;simpa [this] using ru
def MT (I:Inv X pins σ H s):∀ (n:Nat) {v u:V} {d e:PyData} {b:Bool} {x y:Value} {A:Around},DV X.K H v d->DV X.K H u e->jz d e=some b->dpt d<=n->A.units+n<cLine->jQ v x->jQ u y ->
  RcAt A s x y b/\EqAt A s x y b:=by
 intro n;induction n with
 |zero=>
  intro v u d e b x y A hv hu h hd hn rx ry;cases hv with
  |non=>
   cases hu with
   |non=>simp [jz] at h;subst h;cases (show x=Value.none from rx);cases (show y=Value.none from ry);exact ⟨RcAt.none_none,EqAt.same _⟩
   |int c=>simp [jz] at h;subst h;cases (show x=Value.none from rx);obtain ⟨t',rfl⟩:=(show ∃ t,y=Value.int _ t from ry);exact ⟨RcAt.none_int _ _,EqAt.none_int _ _⟩
   |bl _=>simp [jz] at h
   |str _=>simp [jz] at h
   |tup _ _=>simp [jz] at h
   |lst _ _=>simp [jz] at h
  |bl a=>cases hu<;>simp [jz] at h;subst h;cases (show x=Value.bool _ from rx);cases (show y=Value.bool _ from ry);exact ⟨RcAt.bool_bool _ _,EqAt.bool_bool _ _⟩
  |int a=>
   cases hu with
   |int c=>simp [jz] at h;subst h;obtain ⟨t,rfl⟩:=(show ∃ t,x=Value.int _ t from rx);obtain ⟨t',rfl⟩:=(show ∃ t,y=Value.int _ t from ry);exact ⟨RcAt.int_int _ _ _ _,EqAt.int_int _ _ _ _⟩
   |non=>simp [jz] at h;subst h;obtain ⟨t,rfl⟩:=(show ∃ t,x=Value.int _ t from rx);cases (show y=Value.none from ry);exact ⟨RcAt.int_none _ _,EqAt.int_none _ _⟩
   |bl _=>simp [jz] at h
   |str _=>simp [jz] at h
   |tup _ _=>simp [jz] at h
   |lst _ _=>simp [jz] at h
  |str a=>cases hu<;>simp [jz] at h;subst h;obtain ⟨t,rfl⟩:=(show ∃ t,x=Value.str _ t from rx);obtain ⟨t',rfl⟩:=(show ∃ t,y=Value.str _ t from ry);exact ⟨RcAt.str_str _ _ _ _,EqAt.str_str _ _ _ _⟩
  |tup=>simp [dpt] at hd
  |lst=>simp [dpt] at hd
 |succ n ih=>
  intro v u d e b x y A hv hu h hd hn rx ry;have fin:∀ {l l':Addr} {k:Bool},x=.ref l->y=.ref l'->v=.ref l->u=.ref l'->b=k->RcAt A s x y k->RcAt A s x y b/\EqAt A s x y b:=by
   rintro l l' k rfl rfl rfl rfl rfl rc;refine ⟨rc,?_⟩;by_cases hll:l=l'
   ·subst hll;have:=DV.inj I hv hu;subst this;rw [M8 h];exact EqAt.same _
   ·exact EqAt.of_refs hll rc
  cases hv with
  |non=>
   cases hu with
   |non=>simp [jz] at h;subst h;cases (show x=Value.none from rx);cases (show y=Value.none from ry);exact ⟨RcAt.none_none,EqAt.same _⟩
   |int c=>simp [jz] at h;subst h;cases (show x=Value.none from rx);obtain ⟨t',rfl⟩:=(show ∃ t,y=Value.int _ t from ry);exact ⟨RcAt.none_int _ _,EqAt.none_int _ _⟩
   |bl _=>simp [jz] at h
   |str _=>simp [jz] at h
   |tup _ _=>simp [jz] at h
   |lst _ _=>simp [jz] at h
  |bl a=>cases hu<;>simp [jz] at h;subst h;cases (show x=Value.bool _ from rx);cases (show y=Value.bool _ from ry);exact ⟨RcAt.bool_bool _ _,EqAt.bool_bool _ _⟩
  |int a=>
   cases hu with
   |int c=>simp [jz] at h;subst h;obtain ⟨t,rfl⟩:=(show ∃ t,x=Value.int _ t from rx);obtain ⟨t',rfl⟩:=(show ∃ t,y=Value.int _ t from ry);exact ⟨RcAt.int_int _ _ _ _,EqAt.int_int _ _ _ _⟩
   |non=>simp [jz] at h;subst h;obtain ⟨t,rfl⟩:=(show ∃ t,x=Value.int _ t from rx);cases (show y=Value.none from ry);exact ⟨RcAt.int_none _ _,EqAt.int_none _ _⟩
   |bl _=>simp [jz] at h
   |str _=>simp [jz] at h
   |tup _ _=>simp [jz] at h
   |lst _ _=>simp [jz] at h
  |str a=>cases hu<;>simp [jz] at h;subst h;obtain ⟨t,rfl⟩:=(show ∃ t,x=Value.str _ t from rx);obtain ⟨t',rfl⟩:=(show ∃ t,y=Value.str _ t from ry);exact ⟨RcAt.str_str _ _ _ _,EqAt.str_str _ _ _ _⟩
  |tup hq hs=>
   cases hu with
   |tup kq ks=>
    rename_i a1 vs1 ds1 a2 vs2 ds2;simp only [jz] at h;obtain ⟨i1,r1,p1,z1⟩:=I.tuple hq;obtain ⟨i2,r2,p2,z2⟩:=I.tuple kq;have l1:=hs.length;have l2:=ks.length;have m1:=r1.length;have m2:=r2.length;have el:∀ (e:Nat->Bool),(∀ (j:Nat) x y,ds1[j]?=some x->ds2[j]?=some y->jz x y=some (e j))->∀ j (h1:j<i1.toArray.size) (h2:j<i2.toArray.size),EqAt A.in1 s i1.toArray[j] i2.toArray[j] (e j):=λe he j h1 h2=>by
     obtain ⟨w1,g1,q1⟩:=UA r1 h1;obtain ⟨w2,g2,q2⟩:=UA r2 h2;obtain ⟨d1,f1,dv1⟩:=hs.get g1;obtain ⟨d2,f2,dv2⟩:=ks.get g2;have:=WR (za2 f1);exact (ih dv1 dv2 (he j d1 d2 f1 f2) (by simp only [dpt] at hd;omega) (show A.units+1+n<cLine by omega) q1 q2).2
    cases (show x=Value.ref a1 from rx);cases (show y=Value.ref a2 from ry);by_cases hl:ds1.length=ds2.length
    ·obtain ⟨e,he,hb⟩:=UH h hl;refine fin rfl rfl rfl rfl (k:=(List.range (min i1.toArray.size i2.toArray.size)).all e&&i1.toArray.size==i2.toArray.size) ?_ (RcAt.tuples (show s.heap.IsTuple a1 i1.toArray from p1) (show s.heap.IsTuple a2 i2.toArray from p2) (by omega) (el e he));have e1:i1.toArray.size=ds1.length:=by rw [size_toArray];omega
     have e2:i2.toArray.size=ds1.length:=by rw [size_toArray];omega
     rw [e1,e2,hb];simp
    ·obtain ⟨hb,e,he⟩:=UO h hl;refine fin rfl rfl rfl rfl (k:=(List.range (min i1.toArray.size i2.toArray.size)).all e&&i1.toArray.size==i2.toArray.size) ?_ (RcAt.tuples (show s.heap.IsTuple a1 i1.toArray from p1) (show s.heap.IsTuple a2 i2.toArray from p2) (by omega) (el e he));have e1:i1.toArray.size≠i2.toArray.size:=by rw [size_toArray,size_toArray];omega
     rw [hb];simp [e1];intro;omega
   |_=>simp [jz] at h
  |lst hq hs=>
   cases hu with
   |lst kq ks=>
    rename_i a1 vs1 ds1 a2 vs2 ds2;simp only [jz] at h;obtain ⟨i1,r1,p1,z1⟩:=I.list hq;obtain ⟨i2,r2,p2,z2⟩:=I.list kq;have l1:=hs.length;have l2:=ks.length;have m1:=r1.length;have m2:=r2.length;have el:∀ (e:Nat->Bool),(∀ (j:Nat) x y,ds1[j]?=some x->ds2[j]?=some y->jz x y=some (e j))->∀ j (h1:j<i1.toArray.size) (h2:j<i2.toArray.size),EqAt A.in1 s i1.toArray[j] i2.toArray[j] (e j):=λe he j h1 h2=>by
     obtain ⟨w1,g1,q1⟩:=UA r1 h1;obtain ⟨w2,g2,q2⟩:=UA r2 h2;obtain ⟨d1,f1,dv1⟩:=hs.get g1;obtain ⟨d2,f2,dv2⟩:=ks.get g2;have:=WR (za2 f1);exact (ih dv1 dv2 (he j d1 d2 f1 f2) (by simp only [dpt] at hd;omega) (show A.units+1+n<cLine by omega) q1 q2).2
    cases (show x=Value.ref a1 from rx);cases (show y=Value.ref a2 from ry);by_cases hl:ds1.length=ds2.length
    ·obtain ⟨e,he,hb⟩:=UH h hl;refine fin rfl rfl rfl rfl (k:=(List.range i1.toArray.size).all e) ?_ (RcAt.lists p1.isList p2.isList (by rw [size_toArray,size_toArray];omega) (by omega) (el e he));have e1:i1.toArray.size=ds1.length:=by rw [size_toArray];omega
     rw [e1,hb]
    ·obtain ⟨hb,e,he⟩:=UO h hl;refine fin rfl rfl rfl rfl (k:=false) hb (RcAt.lists_lengths p1.isList p2.isList (by rw [size_toArray,size_toArray];simp;omega) (by omega))
   |_=>simp [jz] at h
def qj7 (I:Inv X pins σ H s) {n:Nat} {v u:V} {d e:PyData} {b:Bool} {x y:Value} {A:Around} (hv:DV X.K H v d) (hu:DV X.K H u e) (h:jz d e=some b) (hd:dpt d<=n+1) (hn:A.units+(n+1)<cLine) (rx:jQ v x) (ry:jQ u y) (hs:dpt d≠0):RcNeAt A s x y (!b):=by
 cases hv with
 |tup hq hs'=>
  cases hu with
  |tup kq ks=>
   rename_i a1 vs1 ds1 a2 vs2 ds2;simp only [jz] at h;obtain ⟨i1,r1,p1,z1⟩:=I.tuple hq;obtain ⟨i2,r2,p2,z2⟩:=I.tuple kq;have l1:=hs'.length;have l2:=ks.length;have m1:=r1.length;have m2:=r2.length;have el:∀ (e:Nat->Bool),(∀ (j:Nat) x y,ds1[j]?=some x->ds2[j]?=some y->jz x y=some (e j))->∀ j (h1:j<i1.toArray.size) (h2:j<i2.toArray.size),EqAt A.in1 s i1.toArray[j] i2.toArray[j] (e j):=λe he j h1 h2=>by
    obtain ⟨w1,g1,q1⟩:=UA r1 h1;obtain ⟨w2,g2,q2⟩:=UA r2 h2;obtain ⟨d1,f1,dv1⟩:=hs'.get g1;obtain ⟨d2,f2,dv2⟩:=ks.get g2;have:=WR (za2 f1);exact (MT I n dv1 dv2 (he j d1 d2 f1 f2) (by simp only [dpt] at hd;omega) (show A.units+1+n<cLine by omega) q1 q2).2
   cases (show x=Value.ref a1 from rx);cases (show y=Value.ref a2 from ry);by_cases hl:ds1.length=ds2.length
   ·obtain ⟨e,he,hb⟩:=UH h hl;have:=RcNeAt.tuples (show s.heap.IsTuple a1 i1.toArray from p1) (show s.heap.IsTuple a2 i2.toArray from p2) (A:=A) (by omega) (el e he);have e1:i1.toArray.size=ds1.length:=by rw [size_toArray];omega
    have e2:i2.toArray.size=ds1.length:=by rw [size_toArray];omega
    rw [e1,e2] at this;rw [hb];simpa using this
   ·obtain ⟨hb,e,he⟩:=UO h hl;have:=RcNeAt.tuples (show s.heap.IsTuple a1 i1.toArray from p1) (show s.heap.IsTuple a2 i2.toArray from p2) (A:=A) (by omega) (el e he);have e1:(i1.toArray.size==i2.toArray.size)=false:=by rw [size_toArray,size_toArray];simp;omega
    rw [e1] at this;rw [hb];simpa using this
  |_=>simp [jz] at h
 |lst hq hs'=>
  cases hu with
  |lst kq ks=>
   rename_i a1 vs1 ds1 a2 vs2 ds2;simp only [jz] at h;obtain ⟨i1,r1,p1,z1⟩:=I.list hq;obtain ⟨i2,r2,p2,z2⟩:=I.list kq;have l1:=hs'.length;have l2:=ks.length;have m1:=r1.length;have m2:=r2.length;have el:∀ (e:Nat->Bool),(∀ (j:Nat) x y,ds1[j]?=some x->ds2[j]?=some y->jz x y=some (e j))->∀ j (h1:j<i1.toArray.size) (h2:j<i2.toArray.size),EqAt A.in1 s i1.toArray[j] i2.toArray[j] (e j):=λe he j h1 h2=>by
    obtain ⟨w1,g1,q1⟩:=UA r1 h1;obtain ⟨w2,g2,q2⟩:=UA r2 h2;obtain ⟨d1,f1,dv1⟩:=hs'.get g1;obtain ⟨d2,f2,dv2⟩:=ks.get g2;have:=WR (za2 f1);exact (MT I n dv1 dv2 (he j d1 d2 f1 f2) (by simp only [dpt] at hd;omega) (show A.units+1+n<cLine by omega) q1 q2).2
   cases (show x=Value.ref a1 from rx);cases (show y=Value.ref a2 from ry);by_cases hl:ds1.length=ds2.length
   ·obtain ⟨e,he,hb⟩:=UH h hl;have:=RcNeAt.lists p1.isList p2.isList (A:=A) (by rw [size_toArray,size_toArray];omega) (by omega) (el e he);have e1:i1.toArray.size=ds1.length:=by rw [size_toArray];omega
    rw [e1] at this;rw [hb];exact this
   ·obtain ⟨hb,e,he⟩:=UO h hl;rw [hb];exact RcNeAt.lists_lengths p1.isList p2.isList (by rw [size_toArray,size_toArray];simp;omega) (by omega)
  |_=>simp [jz] at h
 |_=>simp [dpt] at hs
def qle (K:Frg) (neg:Bool):R2:=λx y H Q=>∃ d e b,DV K H x d/\DV K H y e/\jz d e=some b/\dpt d<=40/\dpt d≠0/\Q (.bl (if neg then !b else b)) H
def qpA (hu:X.A.units+64<cLine):OpR X (compareOp .Eq) (qle X.K false):=by
 intro pins s σ H x y v u Q I rx ry h;obtain ⟨d,e,b,hx,hy,hb,hd,_,q⟩:=h;exact (MT I 40 hx hy hb hd (by omega) rx ry).1 X.prog X.w X.xe _ ⟨.bl b,H,I,rfl,q⟩
def qpd (hu:X.A.units+64<cLine):OpR X (compareOp .NotEq) (qle X.K true):=by
 intro pins s σ H x y v u Q I rx ry h;obtain ⟨d,e,b,hx,hy,hb,hd,hs,q⟩:=h;exact qj7 I (n:=40) hx hy hb (by omega) (by omega) rx ry hs X.prog X.w X.xe _ ⟨.bl (!b),H,I,rfl,q⟩
end
def qY (neg:Bool):R3:=λx y G q=>match qS x y with
 |some k=>q (.bl (if neg then !k else k)) G
 |none=>∃ d e b,Dp G x d/\Dp G y e/\jz d e=some b/\dpt d<=40/\dpt d≠0/\q (.bl (if neg then !b else b)) G
def qC {K:Frg}:RR K (qY false) (λx y H Q=>rEq x y H Q\/qle K false x y H Q):=λx y v u G H q Q hr rx ry h af=>by
 unfold qY at h;split at h
 ·rename_i k e;obtain ⟨h1,h2⟩:=qbD rx ry e;refine .inl ⟨h1,?_⟩;rw [h2];exact af _ G h _ H (.bl _) hr Kp.refl
 ·obtain ⟨d,e,b,h1,h2,h3,h4,h5,h6⟩:=h;exact .inr ⟨d,e,b,h1.dv hr rx,h2.dv hr ry,h3,h4,h5,af _ G h6 _ H (.bl _) hr Kp.refl⟩
def J1 {K:Frg}:RR K (qY true) (λx y H Q=>rNe x y H Q\/qle K true x y H Q):=λx y v u G H q Q hr rx ry h af=>by
 unfold qY at h;split at h
 ·rename_i k e;obtain ⟨h1,h2⟩:=qbD rx ry e;refine .inl ⟨h1,?_⟩;rw [h2];exact af _ G h _ H (.bl _) hr Kp.refl
 ·obtain ⟨d,e,b,h1,h2,h3,h4,h5,h6⟩:=h;exact .inr ⟨d,e,b,h1.dv hr rx,h2.dv hr ry,h3,h4,h5,af _ G h6 _ H (.bl _) hr Kp.refl⟩
def qT {X:Cx} (hu:X.A.units+64<cLine):OpR X (compareOp .Eq) (λx y H Q=>rEq x y H Q\/qle X.K false x y H Q):=qrv.or (qpA hu)
def EH {X:Cx} (hu:X.A.units+64<cLine):OpR X (compareOp .NotEq) (λx y H Q=>rNe x y H Q\/qle X.K true x y H Q):=qrO.or (qpd hu)
end L3
namespace L3
open PySem PySem.Spec PyProof.Rows L2
section
variable {X:Cx} {pins:List (Addr×Obj)} {σ:L2.St} {H:Hp} {s:Shared}
end
section
variable {X:Cx}
end
section
variable {prog:Program} {w:World} {A:Around} {R:Result->Shared->Prop} {s:Shared}
def LC (elt t1 i1 t2 i2:Expr) (f1 f2:List Expr) (scope:Scope) (pos:Pos) (it acc:Value) (env:Env) :
  compTurn (.ListComp elt [⟨t1,i1,f1,0⟩,⟨t2,i2,f2,0⟩] scope pos) 0 it acc env=(do
   standAt i1.pos
   match←pyNext it with
   |none=>pure (.done .next)
   |some v=>
    letOwnedTupleGo t1 it v
    assign t1 env v
    let mut ok:=true
    for c in f1 do
     if ok then ok←isTrue c env (eval c env)
    if ok then
     let x←eval i2 env
     standAt i2.pos
     let x←foldedSetIterable i2 env x
     let _←runOwn (.compStart (.ListComp elt [⟨t1,i1,f1,0⟩,⟨t2,i2,f2,0⟩] scope pos) 1 (← holding [x] (pyIter x)) acc env) env
    again (.compLoop (.ListComp elt [⟨t1,i1,f1,0⟩,⟨t2,i2,f2,0⟩] scope pos) 0 it acc env)):=by rfl
def MQ (elt t1 i1 t2 i2:Expr) (f1 f2:List Expr) (scope:Scope) (pos:Pos) (it acc:Value) (env:Env) :
  compTurn (.ListComp elt [⟨t1,i1,f1,0⟩,⟨t2,i2,f2,0⟩] scope pos) 1 it acc env=(do
   standAt i2.pos
   match←pyNext it with
   |none=>pure (.done .next)
   |some v=>
    letOwnedTupleGo t2 it v
    assign t2 env v
    let mut ok:=true
    for c in f2 do
     if ok then ok←isTrue c env (eval c env)
    if ok then
     (do let _←call (.builtin "list.append") [acc,← eval elt env])
    again (.compLoop (.ListComp elt [⟨t1,i1,f1,0⟩,⟨t2,i2,f2,0⟩] scope pos) 1 it acc env)):=by rfl
def VZ {elt t1 i1 t2 i2:Expr} {f1 f2:List Expr} {scope:Scope} {pos:Pos} {it acc:Value} {env:Env}
  (h0:codeAny (model prog w) A (.compLoop (.ListComp elt [⟨t1,i1,f1,0⟩,⟨t2,i2,f2,0⟩] scope pos) 1 it acc env) R s)
  (h:wpAny (model prog w) A (pyIter it) (λit' s'=>codeAny (model prog w) A (.compLoop (.ListComp elt [⟨t1,i1,f1,0⟩,⟨t2,i2,f2,0⟩] scope pos) 1 it' acc env) R s')
   (notedBy (model prog w) A env λx s'=>R (.error x) s') s) :
  codeAny (model prog w) A (.compStart (.ListComp elt [⟨t1,i1,f1,0⟩,⟨t2,i2,f2,0⟩] scope pos) 1 it acc env) R s:=by
 refine codeAny_of_tree ?_;show wpAny _ _ ((compStart (.ListComp elt [⟨t1,i1,f1,0⟩,⟨t2,i2,f2,0⟩] scope pos) 1 it acc env).onRaise (λx=>do noteFrame x env;standAt theWindowsPlace)) _ _ s;refine wpAny_notedAt ?_;unfold compStart;show wpAny _ _ (ask >>= _) _ _ s;refine y6 (wpAny_askSetting (wpAny_ite ?_));split
 ·first
   |exact y6 (y8 (y8 (And.intro rfl h0)))
   |exact y8 (And.intro rfl h0)
 ·first
   |exact y6 (wpAny_rule (y6 (wpAny_standAt (y6 (y9 h (λit' s' h'=>y8 (And.intro rfl h')) λ_ _ x=>x)))))
   | (refine y6 (wpAny_rule ?_);show wpAny _ _ (standAt i2.pos >>= _) _ _ s;exact y6 (wpAny_standAt (y6 (y9 h (λit' s' h'=>y8 (And.intro rfl h')) λ_ _ x=>x))))
end
def tIn (wi:TI) (g:TG) (tif:TT) (te:TE) (D:Addr) (N:L2.St->Hp->Prop) (σ:L2.St) (H:Hp):Prop:=wi σ H λJ H1=>
 ∃ W:Nat->Nat->L2.St->Hp->Prop,(∃ n,W 0 n σ H1)/\∀ i n σ H,W i n σ H ->
  (J.stop i H/\N σ H)\/(J.go i H/\∀ x H',J.yld i H x H'->g x σ H' λσ2 H2=>tif σ2 H2 λk H3=>
   if k=true then te σ2 H3 λy H4=>∃ zs,H4 D=some (.lst zs)/\zs.length<sizeLine/\∃ n',n'<n/\W (i+1) n' σ2 (upd H4 D (.lst (zs++[y])))
   else ∃ n',n'<n/\W (i+1) n' σ2 H3)
section
variable {X:Cx}
def qon {elt t1 i1 t2 i2:Expr} {f1 f2:List Expr} {scope:Scope} {pos:Pos} {wi:TI} {g:TG} {tif:TT} {te:TE} {D:Addr} {N:L2.St->Hp->Prop} (hc:X.calm=true) (hx:∀ v s,¬ X.xe v s) (hi:PI X t2 i2 wi) (hg:PG X t2 g) (hf:PF X f2 tif) (he:PE X elt te)
    (hs:∀ x,foldedSetIterable i2 X.env x=pure x) {pins:List (Addr×Obj)} {s:Shared} {σ:L2.St} {H:Hp} {E:Value->Shared->Prop} {α:Type} {kk:Sem α} {Q:α->Shared->Prop} (I:Inv X pins σ H s) (h:tIn wi g tif te D N σ H) (hk:∀ s' σ' H',Inv X pins σ' H' s'->N σ' H'->wpAny (model X.prog X.w) X.A kk Q E s') :
    wpAny (model X.prog X.w) X.A (do
            let x←eval i2 X.env
            standAt i2.pos
            let x←foldedSetIterable i2 X.env x
            let _←runOwn (.compStart (.ListComp elt [⟨t1,i1,f1,0⟩,⟨t2,i2,f2,0⟩] scope pos) 1 (← holding [x] (pyIter x)) (.ref D) X.env) X.env
            kk) Q E s:=by
  refine y6 (y9 (hi pins s σ H _ I h) (λv s1 h1=>?_) λ_ _ z=>(hx _ _ z).elim);refine y6 (wpAny_standAt (y6 (wpAny_of_eq (hs v) ?_)));refine y6 (wpAny_holding (y9 h1 (λitv s2 h2=>?_) λ_ _ z=>(hx _ _ z).elim));obtain ⟨it,fp,tn,J,H2,rfl,I2,T,st2,f2',W,⟨n0,w0⟩,turn⟩:=h2;have stat:∀ {H':Hp},(∀ b∈fp,H' b=none)->∀ b∈fp,qao X pins H' b:=λhn b hb=>⟨hn b hb,(f2' b hb).2⟩
  refine y6 (wpAny_runOwn ?_);show codeAny (model X.prog X.w) X.A (.compStart (.ListComp elt [⟨t1,i1,f1,0⟩,⟨t2,i2,f2,0⟩] scope pos) 1 (.ref it) (.ref D) X.env) _ s2;have loop:codeAny (model X.prog X.w) X.A (.compLoop (.ListComp elt [⟨t1,i1,f1,0⟩,⟨t2,i2,f2,0⟩] scope pos) 1 (.ref it) (.ref D) X.env) (λr s'=>match r with
      |.ok f=>wpAny (model X.prog X.w) X.A kk Q E s'
      |.error e=>cameBackBy (model X.prog X.w) X.A X.env E e s') s2:=by
    refine codeAny_loop rfl (λn s'=>∃ i σ' H',Inv X pins σ' H' s'/\tn i s'.heap/\(∀ b∈fp,H' b=none)/\W i n σ' H') (λn s' hI=>?_) n0 ⟨0,σ,H2,I2,st2,λb hb=>(f2' b hb).1,w0⟩;show wpAny _ X.A ((compTurn (.ListComp elt [⟨t1,i1,f1,0⟩,⟨t2,i2,f2,0⟩] scope pos) 1 (.ref it) (.ref D) X.env).onRaise (λx=>do noteFrame x X.env;theTreesLotGoes x)) _ _ s';refine wpAny_noted ?_;rw [MQ];refine y6 (wpAny_standAt (y6 ?_));obtain ⟨i,σ5,H5,I5,st5,fr5,w5⟩:=hI;rcases turn i n σ5 H5 w5 with ⟨stop,q⟩|⟨go,step⟩
    · refine thn (T.done X rfl rfl rfl hc i pins s' σ5 H5 _ I5 (stat fr5) st5 stop) λr s6 ⟨hr,I6⟩=>?_;subst hr;exact y8 (hk _ σ5 H5 I6 q)
    · refine thn (T.item X rfl rfl rfl hc i pins s' σ5 H5 _ I5 (stat fr5) st5 go) λr s6 ⟨u,hr,h6⟩=>?_;subst hr;refine y6 (thn h6 λ_ s7 ⟨x,H7,I7,r7,y7,st7,fr7⟩=>?_);have I7':=I7.pinned (stat fr7) (T.obj _ _ st7);have again:∀ {σ8:L2.St} {H8:Hp} {s8:Shared},Inv X (pins++RB fp s7.heap) σ8 H8 s8->(∃ n',n'<n/\W (i+1) n' σ8 H8) ->
          ∃ m',m'<n/\∃ i σ' H',Inv X pins σ' H' s8/\tn i s8.heap/\(∀ b∈fp,H' b=none)/\W i m' σ' H':=λ{σ8 H8 s8} I8 ⟨n',hn,w8⟩=>by
        refine ⟨n',hn,i+1,σ8,H8,I8.unpinned,T.keep _ _ _ st7 λb hb o e=>(I8.pin (b,o) (za0 _ (za0 _ (jb hb e)))).1,λb hb=>?_,w8⟩;obtain ⟨o,e,d⟩:=T.obj _ _ st7 b hb;exact (I8.pin (b,o) (za0 _ (za0 _ (jb hb e)))).2.1
      refine y6 (y9 (hg _ s7 σ5 H7 x u _ I7' r7 (step x H7 y7)) (λ_ s8 ⟨σ8,H8,I8,q8⟩=>?_) λ_ _ z=>(hx _ _ z).elim);refine y6 (y9 (hf _ s8 σ8 H8 _ I8 q8) (λk s9 ⟨H9,I9,q9⟩=>?_) λ_ _ z=>(hx _ _ z).elim);cases k with
      |false=>
        rw [if_neg v7] at q9;exact y8 ⟨rfl,again I9 q9⟩
      |true=>
        rw [if_pos rfl] at q9;refine y6 (y6 (y9 (he _ s9 σ8 H9 _ I9 q9) (λw s10 ⟨y,H10,I10,r10,q10⟩=>?_) λ_ _ z=>(hx _ _ z).elim));obtain ⟨zs,hz,hl,q10⟩:=q10;refine y6 (y9 (WU (X:=X) _ s10 σ8 H10 (.ref D) [y] (.ref D) [w] (λ_ H11=>H11=upd H10 D (.lst (zs++[y]))) I10 rfl (.cons r10 .nil) ⟨D,zs,y,rfl,rfl,hz,hl,rfl⟩) (λ_ s11 ⟨_,H11,I11,_,e11⟩=>?_) λ_ _ z=>(hx _ _ z).elim);subst e11;exact y8 (y8 ⟨rfl,again I11 q10⟩)
  exact VZ loop (T.self X.A 0 _ _ _ st2 loop)
def qts (wi:TI) (g:TG) (tif:TT) (wi2:TI) (g2:TG) (tif2:TT) (te:TE) (m:List (Option Nat)):TE:=λσ H Q=>wi σ H λJ H1=>∀ D,H1 D=none ->
 ∃ W:Nat->Nat->L2.St->Hp->Prop,(∃ n,W 0 n (cap m σ) (upd H1 D (.lst [])))/\∀ i n σ H,W i n σ H ->
  (J.stop i H/\Q (.ref D) H)\/(J.go i H/\∀ x H',J.yld i H x H'->g x σ H' λσ2 H2=>tif σ2 H2 λk H3=>
   if k=true then tIn wi2 g2 tif2 te D (λσ4 H4=>∃ n',n'<n/\W (i+1) n' σ4 H4) σ2 H3
   else ∃ n',n'<n/\W (i+1) n' σ2 H3)
def qo8 {elt tg iter t2 i2:Expr} {ifs f2:List Expr} {scope:Scope} {pos:Pos} {N':List Str} {m:List (Option Nat)} {wi:TI} {g:TG} {tif:TT} {wi2:TI} {g2:TG} {tif2:TT} {te:TE} (hc:X.calm=true) (hi:PI X tg iter wi)
  (hg:∀ s H fp,PG (qr X N' scope s H fp) tg g) (hf:∀ s H fp,PF (qr X N' scope s H fp) ifs tif) (hi2:∀ s H fp,PI (qr X N' scope s H fp) t2 i2 wi2) (hg2:∀ s H fp,PG (qr X N' scope s H fp) t2 g2) (hf2:∀ s H fp,PF (qr X N' scope s H fp) f2 tif2) (he:∀ s H fp,PE (qr X N' scope s H fp) elt te)
  (hsc:qcP X.env.scope scope=true) (hcap:DW X.N N' scope m=true) (hs:∀ x,foldedSetIterable iter X.env x=pure x:=by intro _;rfl) (hs2:∀ s H fp x,foldedSetIterable i2 (qr X N' scope s H fp).env x=pure x:=by intro _ _ _ _;rfl) :
  PE X (.ListComp elt [⟨tg,iter,ifs,0⟩,⟨t2,i2,f2,0⟩] scope pos) (qts wi g tif wi2 g2 tif2 te m):=by
 intro pins s σ H Q I h;have sc:=XI hsc;have hcl:∀ y∈scope.names,y.2=.free->∃ c,X.env.cells.lookup y.1=some c:=λy hy e=>by
  rcases (sc.free y hy e).2 with z|z
  ·exact I.ok.has y.1 (.inl z)
  ·exact I.ok.has y.1 (.inr z)
 rw [eval_ListComp];refine wpAny_comprehension_free (use:=none) (g:=⟨tg,iter,ifs,0⟩) (gs:=[⟨t2,i2,f2,0⟩]) rfl hs (YV hcl) sc.kind sc.loc ?_;show wpAny _ _ (eval iter X.env) _ _ s;refine thn (hi pins s σ H _ I h) λv s1 h1=>thn h1 λitv s2 h2=>?_;obtain ⟨it,fp,tn,J,H2,rfl,I2,T,st2,fF2,hW⟩:=h2;refine wpAny_newObj_type ?_;have hD:H2 s2.heap.objs.size=none:=I2.fresh;obtain ⟨W,⟨n0,w0⟩,turn⟩:=hW _ hD;generalize hDe:s2.heap.objs.size=D at *;have I3:Inv X pins σ (upd H2 D (.lst [])) { s2 with heap:=s2.heap.push { cls:=.type "list",dict:=none,data:=.seq ([]:List Value).toArray } }:=by
  subst hDe;exact I2.laid (t':=s2.toks) (λb u e=>v4 _ e) (u8 _) ⟨Nat.zero_le _,[],0,.nil,v5 _ rfl⟩
 have ob2:=T.obj 0 _ st2;have ob3:∀ b∈fp,∃ o,(s2.heap.push { cls:=.type "list",dict:=none,data:=.seq ([]:List Value).toArray }).get? b=some o:=λb hb=>let ⟨o,e,_⟩:=ob2 b hb;⟨o,v4 _ e⟩
 have f3:∀ b∈fp,qao X pins (upd H2 D (.lst [])) b:=λb hb=>by
  obtain ⟨o,e,_⟩:=ob2 b hb;have:b≠D:=by rw [← hDe];exact za4 (v6 e)
  exact ⟨by rw [qO this];exact (fF2 b hb).1,(fF2 b hb).2⟩
 have k23:∀ b o,s2.heap.get? b=some o->(s2.heap.push { cls:=.type "list",dict:=none,data:=.seq ([]:List Value).toArray }).get? b=some o:=λb o e=>v4 _ e;generalize hH3:upd H2 D (.lst [])=H3 at *;generalize hs3:({ s2 with heap:=s2.heap.push { cls:=.type "list",dict:=none,data:=.seq ([]:List Value).toArray } }:Shared)=s3 at *;have ob3:∀ b∈fp,∃ o,s3.heap.get? b=some o:=by rw [← hs3];exact ob3
 have k23:∀ b o,s2.heap.get? b=some o->s3.heap.get? b=some o:=by rw [← hs3];exact k23
 refine Q9 λh₁ hns hk hown=>?_;have I4:Inv (qr X N' scope s3 H3 fp) [] (cap m σ) H3 { s3 with heap:=h₁ }:=LO hc I3 sc hcap f3 ob3 hns hk hown;have tn4:tn 0 h₁:=T.keep _ _ _ st2 λb hb o e=>hk b o (k23 b o e);have fr4:∀ b∈fp,H3 b=none:=λb hb=>(f3 b hb).1;have stat:∀ {H':Hp},(∀ b∈fp,H' b=none)->∀ b∈fp,qao (qr X N' scope s3 H3 fp) [] H' b:=λhn b hb=>by
  refine ⟨hn b hb,I4.ok.exf b hb |>.1,I4.ok.exfs b hb,.inl hb,λx c e=>(I4.ok.exf b hb).2 x c e,λp hp=>absurd (show p∈([]:List (Addr×Obj)) from hp) (by simp)⟩
 show codeAny (model X.prog X.w) X.A (.compStart (.ListComp elt [⟨tg,iter,ifs,0⟩,⟨t2,i2,f2,0⟩] scope pos) 0 (.ref it) (.ref D) (qr X N' scope s3 H3 fp).env) (compPost (model X.prog X.w) X.A X.xe none (EP X pins σ Q) (.ref D) s3.heap.objs.size) { s3 with heap:=h₁ };have loop:codeAny (model X.prog X.w) X.A (.compLoop (.ListComp elt [⟨tg,iter,ifs,0⟩,⟨t2,i2,f2,0⟩] scope pos) 0 (.ref it) (.ref D) (qr X N' scope s3 H3 fp).env) (compPost (model X.prog X.w) X.A X.xe none (EP X pins σ Q) (.ref D) s3.heap.objs.size) { s3 with heap:=h₁ }:=by
  refine codeAny_loop rfl (λn s'=>∃ i σ' H',Inv (qr X N' scope s3 H3 fp) [] σ' H' s'/\tn i s'.heap/\(∀ b∈fp,H' b=none)/\W i n σ' H') (λn s' hI=>?_) n0 ⟨0,cap m σ,H3,I4,tn4,fr4,w0⟩;show wpAny _ X.A ((compTurn (.ListComp elt [⟨tg,iter,ifs,0⟩,⟨t2,i2,f2,0⟩] scope pos) 0 (.ref it) (.ref D) (qr X N' scope s3 H3 fp).env).onRaise (λx=>do noteFrame x (qr X N' scope s3 H3 fp).env;theTreesLotGoes x)) _ _ s';refine wpAny_noted ?_;rw [LC];refine y6 (wpAny_standAt (y6 ?_));obtain ⟨i,σ5,H5,I5,st5,fr5,w5⟩:=hI;rcases turn i n σ5 H5 w5 with ⟨stop,q⟩|⟨go,step⟩
  ·refine thn (T.done (qr X N' scope s3 H3 fp) rfl rfl rfl rfl i [] s' σ5 H5 _ I5 (stat fr5) st5 stop) λr s6 ⟨hr,I6⟩=>?_;subst hr;refine y8 ?_;obtain ⟨mm,hn6,_⟩:=I6.loc;exact ⟨mm,hn6,λh' sb=>⟨.ref D,H5,X8 I3 f3 I6 sb,rfl,q⟩⟩
  ·refine thn (T.item (qr X N' scope s3 H3 fp) rfl rfl rfl rfl i [] s' σ5 H5 _ I5 (stat fr5) st5 go) λr s6 ⟨u,hr,h6⟩=>?_;subst hr;refine y6 (thn h6 λ_ s7 ⟨x,H7,I7,r7,y7,st7,fr7⟩=>?_);have I7':=I7.pinned (stat fr7) (T.obj _ _ st7);have again:∀ {σ8:L2.St} {H8:Hp} {s8:Shared},Inv (qr X N' scope s3 H3 fp) ([]++RB fp s7.heap) σ8 H8 s8->(∃ n',n'<n/\W (i+1) n' σ8 H8) ->
     ∃ m',m'<n/\∃ i σ' H',Inv (qr X N' scope s3 H3 fp) [] σ' H' s8/\tn i s8.heap/\(∀ b∈fp,H' b=none)/\W i m' σ' H':=λ{σ8 H8 s8} I8 ⟨n',hn,w8⟩=>by
    refine ⟨n',hn,i+1,σ8,H8,I8.unpinned,T.keep _ _ _ st7 λb hb o e=>(I8.pin (b,o) (za0 _ (za0 _ (jb hb e)))).1,λb hb=>?_,w8⟩;obtain ⟨o,e,d⟩:=T.obj _ _ st7 b hb;exact (I8.pin (b,o) (za0 _ (za0 _ (jb hb e)))).2.1
   refine y6 (y9 (hg s3 H3 fp _ s7 σ5 H7 x u _ I7' r7 (step x H7 y7)) (λ_ s8 ⟨σ8,H8,I8,q8⟩=>?_) λ_ _ z=>z.elim);refine y6 (y9 (hf s3 H3 fp _ s8 σ8 H8 _ I8 q8) (λk s9 ⟨H9,I9,q9⟩=>?_) λ_ _ z=>z.elim);cases k with
   |false=>
    rw [if_neg v7] at q9;exact y8 ⟨rfl,again I9 q9⟩
   |true=>
    rw [if_pos rfl] at q9;refine qon (X:=qr X N' scope s3 H3 fp) rfl (λ_ _ z=>z) (hi2 s3 H3 fp) (hg2 s3 H3 fp) (hf2 s3 H3 fp) (he s3 H3 fp) (hs2 s3 H3 fp) I9 q9 λs10 σ10 H10 I10 q10=>?_;exact y8 ⟨rfl,again I10 q10⟩
 exact codeAny_compStart_list loop (T.self X.A 0 _ _ _ tn4 loop)
end
def qlj (D:Addr) (stay:Gp->Prop) (g:TG3) (tif:TT3) (te:TE3) (N:St3->Gp->Prop):List T->St3->Gp->Prop
 |[],τ,G=>stay G/\N τ G
 |x::r,τ,G=>stay G/\g x τ G λτ2 G2=>tif τ2 G2 λk G3=>
  if k=true then te τ2 G3 λy G4=>(match G4 D with|some (.lst ys)=>ys.length<sizeLine/\qlj D stay g tif te N r τ2 (gu G4 D (.lst (ys++[y])))|_=>False) else qlj D stay g tif te N r τ2 G3
def qeJ (D:Addr) (stay:Gp->Prop) (g:TG3) (tif:TT3) (wi2:TI3) (g2:TG3) (tif2:TT3) (te:TE3) (q:Q3):List T->St3->Gp->Prop
 |[],_,G=>stay G/\q (.ref D) G
 |x::r,τ,G=>stay G/\g x τ G λτ2 G2=>tif τ2 G2 λk G3=>
  if k=true then wi2 τ2 G3 λitems2 stay2 G4=>qlj D stay2 g2 tif2 te (λτ' G'=>qeJ D stay g tif wi2 g2 tif2 te q r τ' G') items2 τ2 G4 else qeJ D stay g tif wi2 g2 tif2 te q r τ2 G3
def qp8 (wi:TI3) (g:TG3) (tif:TT3) (wi2:TI3) (g2:TG3) (tif2:TT3) (te:TE3) (m:List (Option Nat)):TE3:=λτ G q=>wi τ G λitems stay G1=>∀ D,G1 D=none->qeJ D stay g tif wi2 g2 tif2 te q items (cap m τ) (gu G1 D (.lst []))
section
variable {K:Frg}
def qjZ {wi2:TI3} {g2:TG3} {tif2:TT3} {te:TE3} {D:Addr} {N3:St3->Gp->Prop} {N:L2.St->Hp->Prop} {τ:St3} {G:Gp} {σ:L2.St} {H:Hp} {Gb:Gp} {Hb:Hp} (rl:Rel K τ G σ H) (kb:Kp Gb Hb G H) (h:wi2 τ G λitems stay G1=>qlj D stay g2 tif2 te N3 items τ G1)
  (hN:∀ τ' G' σ' H',Rel K τ' G' σ' H'->Kp Gb Hb G' H'->N3 τ' G'->N σ' H'):tIn (lI K wi2) (lG K g2) (lT K tif2) (lE K te) D N σ H:=by
 refine ⟨τ,G,_,rl,h,λitems stay G1 h1 J H1 hr1 k1 ok=>?_⟩;refine ⟨λi n σ' H'=>n=items.length-i/\i<=items.length/\∃ τ' G',Rel K τ' G' σ' H'/\Kp G1 H1 G' H'/\qlj D stay g2 tif2 te N3 (items.drop i) τ' G',⟨_,rfl,Nat.zero_le _,τ,G1,rl.next hr1 k1,Kp.refl,by simpa using h1⟩,?_⟩;rintro i n σ' H' ⟨rfl,hi,τ',G',rl',k',h'⟩;by_cases hlt:i<items.length
 ·rw [List.drop_eq_getElem_cons hlt] at h';obtain ⟨hst,h'⟩:=h';obtain ⟨go,yld,_⟩:=ok G' H' rl'.hp k' hst;have hx:items[i]?=some items[i]:=v9 hlt;refine .inr ⟨go i _ hx,λv H2 y=>?_⟩;obtain ⟨rv,hr2,k2⟩:=yld i _ v H2 hx y;refine ⟨_,τ',G',_,rv,rl'.next hr2 k2,h',λτ3 G3 h3 σ3 H3 rl3 k3=>⟨τ3,G3,_,rl3,h3,λk G4 h4 H4 hr4 k4=>?_⟩⟩;have kk:=(k2.trans k3).trans k4;cases k with
  |false=>
   rw [if_neg v7] at h4;refine qqL ?_;exact ⟨_,by omega,rfl,hlt,τ3,G4,rl3.next hr4 k4,k'.trans kk,h4⟩
  |true=>
   rw [if_pos rfl] at h4;refine qqs ?_;refine ⟨τ3,G4,_,rl3.next hr4 k4,h4,λz G5 h5 w H5 rw5 hr5 k5=>?_⟩;split at h5
   ·rename_i ys e1;obtain ⟨vs,g1,r1⟩:=hr5.lst e1;exact ⟨vs,g1,by rw [← r1.length];exact h5.1,_,by omega,rfl,hlt,τ3,_,((rl3.next hr4 k4).next hr5 k5).next (hr5.wr e1 (r1.append (.cons rw5 .nil))) (Kp.wr e1),((k'.trans kk).trans k5).trans (Kp.wr e1),h5.2⟩
   ·exact h5.elim
 ·have e:i=items.length:=by omega
  subst e;rw [List.drop_length] at h';obtain ⟨_,_,stop⟩:=ok G' H' rl'.hp k' h'.1;exact .inl ⟨stop,hN _ _ _ _ rl' ((kb.trans k1).trans k') h'.2⟩
end
section
variable {X:Cx}
def qsg {elt tg iter t2 i2:Expr} {ifs f2:List Expr} {scope:Scope} {pos:Pos} (N':List Str) (m:List (Option Nat)) {wi:TI3} {g:TG3} {tif:TT3} {wi2:TI3} {g2:TG3} {tif2:TT3} {te:TE3} (hc:X.calm=true) (hi:I3 X tg iter wi)
  (hg:∀ s H fp,G3 (qr X N' scope s H fp) tg g) (hf:∀ s H fp,F3 (qr X N' scope s H fp) ifs tif) (hi2:∀ s H fp,I3 (qr X N' scope s H fp) t2 i2 wi2) (hg2:∀ s H fp,G3 (qr X N' scope s H fp) t2 g2) (hf2:∀ s H fp,F3 (qr X N' scope s H fp) f2 tif2) (he:∀ s H fp,E3 (qr X N' scope s H fp) elt te)
  (hsc:qcP X.env.scope scope=true) (hcap:DW X.N N' scope m=true) (hs:∀ x,foldedSetIterable iter X.env x=pure x:=by intro _;rfl) (hs2:∀ s H fp x,foldedSetIterable i2 (qr X N' scope s H fp).env x=pure x:=by intro _ _ _ _;rfl) :
  E3 X (.ListComp elt [⟨tg,iter,ifs,0⟩,⟨t2,i2,f2,0⟩] scope pos) (qp8 wi g tif wi2 g2 tif2 te m):=
 RK (qo8 (g:=lG X.K g) (tif:=lT X.K tif) (wi2:=lI X.K wi2) (g2:=lG X.K g2) (tif2:=lT X.K tif2) (te:=lE X.K te) hc hi hg hf hi2 hg2 hf2 he hsc hcap hs hs2) λσ H Q ⟨τ,G,q,rl,h,af⟩=>by
  refine ⟨τ,G,_,rl,h,λitems stay G1 h1 J H1 hr1 k1 ok D hD=>?_⟩;have gD:G1 D=none:=hr1.free hD;have h1:=h1 D gD;have hr1':HR X.K (gu G1 D (.lst [])) (upd H1 D (.lst [])):=HR.newL hr1 hD .nil;have k1':Kp G1 H1 (gu G1 D (.lst [])) (upd H1 D (.lst [])):=Kp.newL hD;refine ⟨λi n σ' H'=>n=items.length-i/\i<=items.length/\∃ τ' G',Rel X.K τ' G' σ' H'/\Kp G1 H1 G' H'/\qeJ D stay g tif wi2 g2 tif2 te q (items.drop i) τ' G',
   ⟨_,rfl,Nat.zero_le _,cap m τ,_,((rl.next hr1 k1).cap m).next hr1' k1',k1',by simpa using h1⟩,?_⟩
  rintro i n σ' H' ⟨rfl,hi,τ',G',rl',k',h'⟩;by_cases hlt:i<items.length
  ·rw [List.drop_eq_getElem_cons hlt] at h';obtain ⟨hst,h'⟩:=h';obtain ⟨go,yld,_⟩:=ok G' H' rl'.hp k' hst;have hx:items[i]?=some items[i]:=v9 hlt;refine .inr ⟨go i _ hx,λv H2 y=>?_⟩;obtain ⟨rv,hr2,k2⟩:=yld i _ v H2 hx y;refine ⟨_,τ',G',_,rv,rl'.next hr2 k2,h',λτ3 G3 h3 σ3 H3 rl3 k3=>⟨τ3,G3,_,rl3,h3,λk G4 h4 H4 hr4 k4=>?_⟩⟩;have kk:=(k2.trans k3).trans k4;cases k with
   |false=>
    rw [if_neg v7] at h4;refine qqL ?_;exact ⟨_,by omega,rfl,hlt,τ3,G4,rl3.next hr4 k4,k'.trans kk,h4⟩
   |true=>
    rw [if_pos rfl] at h4;refine qqs ?_;exact qjZ (rl3.next hr4 k4) (k'.trans kk) h4 λτ5 G5 σ5 H5 rl5 k5 h5=>⟨_,by omega,rfl,hlt,τ5,G5,rl5,k5,h5⟩
  ·have e:i=items.length:=by omega
   subst e;rw [List.drop_length] at h';obtain ⟨_,_,stop⟩:=ok G' H' rl'.hp k' h'.1;exact .inl ⟨stop,af _ _ h'.2 _ H' (.ref D) rl'.hp (k1.trans k')⟩
def qip {elt tg iter t2 i2:Expr} {ifs f2:List Expr} {scope:Scope} {pos:Pos} (N':List Str) (m:List (Option Nat)) {wi:TI3} {g:TG3} {tif:TT3} {wi2:TI3} {g2:TG3} {tif2:TT3} {te:TE3} (hc:X.calm=true) (hi:jI3 X tg iter wi)
  (hg:∀ s H fp,jG3 (qr X N' scope s H fp) tg g) (hf:∀ s H fp,jF3 (qr X N' scope s H fp) ifs tif) (hi2:∀ s H fp,jI3 (qr X N' scope s H fp) t2 i2 wi2) (hg2:∀ s H fp,jG3 (qr X N' scope s H fp) t2 g2) (hf2:∀ s H fp,jF3 (qr X N' scope s H fp) f2 tif2) (he:∀ s H fp,jE3 (qr X N' scope s H fp) elt te)
  (hsc:qcP X.env.scope scope=true) (hcap:DW X.N N' scope m=true) (hs:∀ x,foldedSetIterable iter X.env x=pure x:=by intro _;rfl) (hs2:∀ s H fp x,foldedSetIterable i2 (qr X N' scope s H fp).env x=pure x:=by intro _ _ _ _;rfl) :
  jE3 X (.ListComp elt [⟨tg,iter,ifs,0⟩,⟨t2,i2,f2,0⟩] scope pos) (qp8 wi g tif wi2 g2 tif2 te m):=
 ⟨qsg N' m hc hi.h (λs H fp=>(hg s H fp).h) (λs H fp=>(hf s H fp).h) (λs H fp=>(hi2 s H fp).h) (λs H fp=>(hg2 s H fp).h) (λs H fp=>(hf2 s H fp).h) (λs H fp=>(he s H fp).h) hsc hcap hs hs2⟩
end
section
variable {X:Cx}
theorem CA:∀ {its:List Value} {ns:List Int},jh (ns.map V.int) its->IntsAre its ns
 |_,[],h=>by cases h;exact .nil
 |_,n::ns,h=>by
  cases h with
  |cons r t=>
   obtain ⟨k,rfl⟩:=r;exact .cons n k (CA t)
end
section
variable {X:Cx} {tg a b c:Expr} {pos:Pos}
end
def EJ (ns:List Int):Nat:=(firstMet (λi=>ns.getD i 0) ns.length).length
section
variable {X:Cx}
def MN (hc:X.calm=true):JZ X (.type "set") (λxs H Q=>∃ (p:Addr) (ns:List Int),xs=[.ref p]/\SqL X.K H p (ns.map V.int)/\ns.length<4000/\∀ l S,H l=none->Q (.ref l) (upd H l (.set S (EJ ns)))):=by
 intro pins s σ H xs us Q I r h;obtain ⟨p,ns,rfl,hq,hl,q⟩:=h;obtain ⟨u,rfl,rp⟩:=XY r;cases (show u=Value.ref p from rp);obtain ⟨its,rv,pl,hz⟩:=I.list hq;have hlen:its.length=ns.length:=by have:=rv.length;simp at this;omega
 refine call_set_list (items:=its.toArray) (ns:=ns) (I.ok.hd hc) pl.isList (by simpa using CA rv) (by rw [size_toArray];unfold scanBound;omega) λh' tk hs kp=>?_;have e:(its.toArray).size=ns.length:=by rw [size_toArray];exact hlen
 rw [e] at hs;exact ⟨.ref s.heap.objs.size,_,I.laid (t':=tk) (o:=.set (λk'=>(firstMet (λi=>ns.getD i 0) ns.length).any (·==k')) (EJ ns)) (λb o hb=>kp b o (v6 hb) hb) (u8 _) hs,rfl,q _ _ (I.hok.fresh (u8 _))⟩
def MH:JZ X (.builtin "len") (λxs H Q=>∃ a S n,xs=[.ref a]/\H a=some (.set S n)/\Q (.int n) H):=by
 intro pins s σ H xs us Q I r h;obtain ⟨a,S,n,rfl,ha,q⟩:=h;obtain ⟨u,rfl,rp⟩:=XY r;cases (show u=Value.ref a from rp);obtain ⟨o,es,ep,t,h1,h2,h3,_,_,h6,h7,h8⟩:=(show s.heap.SetOf (intKind X.prog X.w) a S n from I.hok a _ ha)
 refine call_len_set h1 h2 h3 h7 (by unfold scanBound at h6;omega) ⟨.int n,H,I.tok _,⟨_,by rw [h8]⟩,q⟩
def qj5 (te:TE3):TE3:=λτ G q=>te τ G λx G1=>match x with
 |.ref p=>(match getL G1 p with|some ys=>(match TQ ys with|some ns=>ns.length<4000/\q (.int (EJ ns)) G1|none=>False)|none=>False)
 |_=>False
def qee {e:Expr} {te:TE3} {p p2 pos pos2:Pos} (hc:X.calm=true) (hg:Gl X "len") (hm:X.mg "len" = none) (hg2:Gl X "set") (hm2:X.mg "set" = none) (he:jE3 X e te)
  (h1:starEach [e] X.env=(false,eval e X.env)::starEach [] X.env:=by rfl) (h2:starEach [.Call (.Name "set" p2) [e] [] pos2] X.env=(false,eval (.Call (.Name "set" p2) [e] [] pos2) X.env)::starEach [] X.env:=by rfl)
  (h3:(backTo pos (starEach [] X.env)).any (·.1)=false:=by rfl) (h4:(backTo pos2 (starEach [] X.env)).any (·.1)=false:=by rfl):jE3 X (.Call (.Name "len" p) [.Call (.Name "set" p2) [e] [] pos2] [] pos) (qj5 te):=
 ⟨RK (R0 MH hg hm PySem.boot_len (VE (NU (MN hc) hg2 hm2 (show bootBuiltins "set" = some (.type "set") by decide +kernel) (VE he.h KI h1) (he:=h1) (hpl:=h4)) KI h2) (he:=h2) (hpl:=h3)) λ_ _ _ ⟨τ,G,q,rl,h,af⟩=>zy rl h λx G1 h1 v H1 rx hr1 k1 rl1=>by
  split at h1
  ·rename_i l;cases rx;split at h1
   ·rename_i ys e0;split at h1
    ·rename_i ns e1;obtain ⟨us,hs,r2⟩:=zT hr1 e0;have:=U4 e1;subst this;have:=U2 r2;subst this;exact ⟨l,ns,rfl,hs,h1.1,λa S ha=>⟨a,S,_,rfl,zu,af _ _ h1.2 _ _ (.int _) (HR.laid hr1 ha) (k1.trans (Kp.laid ha))⟩⟩
    ·exact h1.elim
   ·exact h1.elim
  ·exact h1.elim⟩
end
section
variable {X:Cx} {a b:Expr} {ta tb:TE3} {pos:Pos}
def qmk:OpR X (compareOp .Is) (λx y H Q=>∃ i j,x=.bl i/\y=.bl j/\Q (.bl (i==j)) H):=by
 intro pins s σ H x y v u Q I rx ry h;obtain ⟨i,j,rfl,rfl,q⟩:=h;cases rx;cases ry;exact is_bool (zl I q rfl)
def qsf (neg:Bool):R3:=λx y G q=>match x,y with|.bl i,.bl j=>q (.bl (if neg then i != j else i==j)) G|_,_=>False
def qkm {K:Frg}:RR K (qsf false) (λx y H Q=>∃ i j,x=.bl i/\y=.bl j/\Q (.bl (i==j)) H):=λx y v u G H q Q hr rx ry h af=>by
 cases x<;>try exact h.elim
 cases y<;>try exact h.elim
 cases rx;cases ry;exact ⟨_,_,rfl,rfl,af _ G h _ H (.bl _) hr Kp.refl⟩
end
end L3
namespace HT
open PySem PySem.Spec PyProof.Rows
section
variable {prog:Program} {w:World} {A:Around} {E:Value->Shared->Prop} {s:Shared}
end
end HT
namespace L3
open PySem PySem.Spec PyProof.Rows L2
section
variable {X:Cx} {e ek:Expr} {p2 pos:Pos}
end
section
variable {X:Cx} {a b:Expr} {ta tb:TE3} {pos:Pos}
end
abbrev Rd (sp:Sp3) (n:Nat) (t:TS3) (N:List Str):Prop:=∀ ts G q,sp ts G q->ts.length=n/\t { nx:=λ_ G'=>q .non G',rt:=q } (qm N ts) G
def jgn {pos:Pos} {X:Cx} {x:Str} (i:Nat) (hN:decide X.N.Nodup=true:=by kernel_rfl) (hi:X.N[i]?=some x:=by rfl) (hx:Loc X.env.scope x:=by first|exact Or.inl rfl|exact Or.inr rfl) (hf:X.fn x=true\/X.env.scope.names.lookup x=some .local:=by first|exact .inl rfl|exact .inr rfl):jG3 X (.Name x pos) (gn3 i):=
 qq (of_decide_eq_true hN) hi hx hf
end L3
namespace L2
open PySem PySem.Spec PyProof.Rows
section
variable {X:Cx} {pos:Pos}
end
end L2
namespace L3
open PySem PySem.Spec PyProof.Rows L2
section
variable {X:Cx} {pos:Pos}
end
end L3
namespace HT
open PySem PyProof.Rows
section
variable {prog:Program} {w:World} {A:Around} {E:Value->Shared->Prop} {s:Shared}
end
end HT
namespace L3
open PySem PySem.Spec PyProof.Rows L2
section
variable {X:Cx}
end
section
variable {P:Program} {w:World} {A:Around} {s:Shared} {z ti to i1 i2 c1 c2:Addr} {S1 S2:Nat->Heap->Prop} {H1 H2:Array Value->Heap->Prop} {k1 k2:Nat} {xs ys:Array Value} {x y a b f0 f1:Value} {E:Value->Shared->Prop}
end
section
variable {P:Program} {w:World} {A:Around} {s:Shared} {E:Value->Shared->Prop}
end
section
variable {X:Cx} {a b e l:Expr} {es:List Expr} {pos:Pos} {t:TA3}
end
end L3
namespace Tb8
open PySem PySem.SetTable
end Tb8
namespace Tb8
open PySem PyProof.Rows
section
variable {prog:Program} {w:World} {A:Around} {E:Value->Shared->Prop} {s:Shared}
end
end Tb8
namespace Tb8
open PySem PyProof.Rows PySem.SetTable
section
variable {prog:Program} {w:World} {A:Around} {E:Value->Shared->Prop} {s:Shared}
end
end Tb8
namespace Tb8
open PySem PySem.SetTable
end Tb8
namespace Tb8
open PySem PyProof.Rows PySem.SetTable
section
variable {prog:Program} {w:World} {A:Around} {E:Value->Shared->Prop} {s:Shared}
end
section
variable {prog:Program} {w:World} {A:Around} {R:Result->Shared->Prop} {I:Addr} {fp wr:List Addr} {n:Nat} {P:Nat->Value->Prop} {St:Nat->Heap->Prop}
end
section
variable {prog:Program} {w:World} {A:Around} {E:Value->Shared->Prop} {s:Shared}
end
end Tb8
namespace L3
open PySem PySem.Spec PyProof.Rows L2
section
variable {X:Cx}
end
end L3
namespace Tb8
open PySem PyProof.Rows PySem.SetTable
section
variable {prog:Program} {w:World} {A:Around} {E:Value->Shared->Prop} {s:Shared}
end
end Tb8
namespace L3
open PySem PySem.Spec PyProof.Rows L2
section
variable {X:Cx}
end
section
variable {X:Cx} {K:Frg} {w:World} {mg:Str->Option Value}
inductive Ents (K:Frg) (w:World):List DictEntry->List (Str×T)->Prop
 |nil:Ents K w [] []
 |cons {x:Str} {tk:Tok} {u:Value} {v:V} {t:T} {es:List DictEntry} {tab:List (Str×T)}:jQ v u->(∀ H,Rp K H t v)->Ents K w es tab->Ents K w (⟨PyData.keyHash w.params x,.str x tk,u⟩::es) ((x,t)::tab)
def QA:List (Str×T)->Str->Option T
 |[],_=>none
 | (y,t)::r,x=>if y=x then some t else QA r x
structure Tb (K:Frg) (mg:Str->Option Value) (w:World) (x:Str) (tab:List (Str×T)):Prop where
 at_:∃ (d:Addr) (es:Array DictEntry) (ep:Nat),mg x=some (.ref d)/\K.lookup d=some ⟨.type "dict",none,.dict es ep,#[]⟩/\(d==sysModules)=false/\Ents K w es.toList tab
theorem Ents.keys {P:Program}:∀ {es:List DictEntry} {tab:List (Str×T)},Ents K w es tab->∀ e∈es,∃ k,(PySem.strKind P w).is k e.key=true/\e.hash=(PySem.strKind P w).hash k
 |_,_,.nil,e,h=>by cases h
 |_,_,.cons (x:=x) a b t,e,h=>by
  rcases mem_cons.mp h with rfl|h
  ·exact ⟨x,by show (x==x)=true;simp,rfl⟩
  ·exact Ents.keys t e h
theorem Ents.find:∀ {es:List DictEntry} {tab:List (Str×T)} (x:Str),Ents K w es tab ->
    (match QA tab x with
     |some t=>∃ (u:Value) (v:V),(es.find? λe=>Value.isStrOf x e.key).map (·.val)=some u/\jQ v u/\∀ H,Rp K H t v
     |none=>(es.find? λe=>Value.isStrOf x e.key).map (·.val)=none)
  |_,_,x,.nil=>by simp [QA]
  |_,_,x,.cons (x:=y) (tk:=tk) (u:=u) (v:=v) (t:=t) (es:=es) (tab:=tab) a b r=>by
    by_cases e:y=x
    · have:Value.isStrOf x (Value.str y tk)=true:=by show (y==x)=true;simp [e]
      simp only [QA,e,if_true,List.find?_cons,this];subst e;simp only [this];exact ⟨u,v,rfl,a,b⟩
    · have:Value.isStrOf x (Value.str y tk)=false:=by show (y==x)=false;simp [e]
      have ih:=Ents.find x r;simp only [QA,e,if_false,List.find?_cons,this];exact ih
def Ents.map {P:Program} {h:Heap} {d:Addr} {es:Array DictEntry} {ep:Nat} {tab:List (Str×T)} (hd:h.get? d=some ⟨.type "dict",none,.dict es ep,#[]⟩) (en:Ents K w es.toList tab) :
  Heap.MapOf (PySem.strKind P w) h d (λx=>findBy Value.isStrOf es x):=
 ⟨_,es,ep,hd,⟨rfl,rfl,rfl⟩,rfl,λe he=>en.keys e (by simpa using he),λ_=>rfl⟩
def qtR (K:Frg) (d:Addr) (tab:List (Str×T)):R2:=λx y H Q=>x=.ref d/\∃ s t,y=.str s/\QA tab s=some t/\∀ v,Rp K H t v->Q v H
def qp5 {d:Addr} {es:Array DictEntry} {ep:Nat} {tab:List (Str×T)} (hk:X.K.lookup d=some ⟨.type "dict",none,.dict es ep,#[]⟩) (en:Ents X.K X.w es.toList tab):IxR X (qtR X.K d tab):=by
 intro value slice pins s σ H x y v u Q I rx ry h hs;obtain ⟨rfl,z,t,rfl,ht,q⟩:=h;cases rx;obtain ⟨tk,rfl⟩:=ry;have hd:=I.kIn _ _ hk;have f:=en.find z;rw [ht] at f;obtain ⟨u,v,hf,rv,rp⟩:=f;have hf':findBy Value.isStrOf es z=some u:=by
  unfold findBy;rw [← Array.find?_toList];exact hf
 refine subscriptTail_builtinR (x:=u) ⟨_,hd,rfl⟩ PySem.F.slot_dict_getitem.lookup (wpAny_getItem_of (knd:=PySem.strKind X.prog X.w) (Q:=λr s'=>r=u/\EP X pins σ Q r s') (k:=z) (by show (z==z)=true;simp) (en.map hd) hf' ⟨rfl,v,H,I.tok _,rv,q v (rp H)⟩) hs
def qfu (tab:List (Str×T)) (te:TE3):TE3:=λτ G q=>te τ G λx G1=>match x with|.str s=>(match QA tab s with|some t=>q t G1|none=>False)|_=>False
def qjI {x:Str} {e:Expr} {te:TE3} {tab:List (Str×T)} {p1 pos:Pos} (tb:Tb X.K X.mg X.w x tab) (hg:Gl X x) (he:jE3 X e te) (hs:W8 e) (hd:(x==("__debug__" : Str))=false:=by decide):jE3 X (.Subscript (.Name x p1) e pos) (qfu tab te):=by
 obtain ⟨d,es,ep,hm,hk,hn,en⟩:=tb.at_;exact ⟨RK (qlI (qp5 hk en) (qj4 hg hm (v:=.ref d) rfl hd) he.h hs) λ_ _ _ ⟨τ,G,q,rl,h,af⟩=>zy rl h λy G1 h1 v H1 rx hr1 k1 rl1=>by
  cases y<;>try exact h1.elim
  case str z=>
   cases rx;unfold qfu at h;simp only at h1;split at h1
   ·rename_i t ht;exact ⟨rfl,z,t,rfl,ht,λv rv=>af.back k1 _ _ h1 _ _ rv hr1 Kp.refl⟩
   ·exact h1.elim⟩
def WT (hc:X.calm=true):JZ X (.builtin "min") (λxs H Q=>∃ (p:Addr) (ns:List Int),xs=[.ref p]/\SqL X.K H p (ns.map V.int)/\ns≠[]/\∀ m∈ns,(∀ a∈ns,m<=a)->Q (.int m) H):=by
 intro pins s σ H xs us Q I r h;obtain ⟨p,ns,rfl,hq,hne,q⟩:=h;obtain ⟨u,rfl,rp⟩:=XY r;cases (show u=Value.ref p from rp);obtain ⟨its,rv,pl,hz⟩:=I.list hq;have hlen:its.length=ns.length:=by have:=rv.length;simp at this;omega
 have hpos:0<ns.length:=List.length_pos_iff.mpr hne;have hp:p<s.heap.objs.size:=by obtain ⟨o,n,e,_⟩:=pl;exact v6 e
 have vals:∀ (i:Nat) (v:Value),its.toArray[i]?=some v->∃ t,v=Value.int (ns.getD i 0) t:=λi v hv=>by
  have hv':its[i]?=some v:=by simpa using hv
  obtain ⟨hi,_⟩:=zb0 hv';have hi':i<ns.length:=by omega
  obtain ⟨u,hu,ru⟩:=rv.get (i:=i) (show (ns.map V.int)[i]?=some (V.int (ns[i])) by simp [hi']);rw [hv'] at hu;cases hu;obtain ⟨t,rfl⟩:=ru;exact ⟨t,by show Value.int ns[i] t=Value.int (ns.getD i 0) t;rw [getD_eq_getElem?_getD,v9 hi'];rfl⟩
 refine call_min_walk (wpAny_pyIter_list pl.isList ⟨s.heap.objs.size,_,_,_,_,_,_,rfl,Walks.list (A:=X.A.in1) (show X.A.in1.handled=none from I.ok.hd hc) s.heap.objs.size p (za4 hp) its.toArray,⟨⟨_,v5 _ rfl,rfl,rfl⟩,?_⟩,λb hb=>?_,by rw [size_toArray];omega,CmpOf.ints_lt (λi=>ns.getD i 0) vals,λv h' tk hP hk=>?_⟩)
 ·obtain ⟨o,n,e,c,_,d⟩:=pl;exact ⟨o,v4 _ e,c,n,d⟩
 ·have lt1:∀ n c:Nat,c<n->c<n+1:=λn c h=>by omega
  rw [show (({ s with heap:=s.heap.push _ }:Shared).heap.objs.size)=s.heap.objs.size+1 from Heap.size_push ..];simp only [mem_cons,not_mem_nil,or_false] at hb;rcases hb with rfl|rfl
  ·exact Nat.lt_succ_self _
  ·exact lt1 _ _ hp
 ·obtain ⟨b1,b2⟩:=argBest_lt (λi=>ns.getD i 0) (its.toArray.size-1);obtain ⟨t,rfl⟩:=vals _ _ hP;rw [size_toArray] at b1 b2 ⊢;have gd:∀ j,j<ns.length->ns.getD j 0∈ns:=λj hj=>by rw [getD_eq_getElem?_getD,v9 hj];exact za7 hj
  refine ⟨.int _,H,I.kept (h':=h') (t':=tk) λb o e=>hk b o (by simp;exact za4 (v6 e)) (v4 _ e),⟨_,rfl⟩,q _ (gd _ (by omega)) λa ha=>?_⟩;obtain ⟨j,hj,rfl⟩:=List.mem_iff_getElem.mp ha;have:=b2 j (by omega);have e:ns.getD j 0=ns[j]:=by rw [getD_eq_getElem?_getD,v9 hj];rfl
  rw [e] at this;exact this
def NI:List T->Gp->Q3->Prop:=λxs G q=>match xs with
 |[.ref p]=>(match getL G p with|some ys=>(match TQ ys with|some ns=>ns≠[]/\∀ m∈ns,(∀ a∈ns,m<=a)->q (.int m) G|none=>False)|none=>False)
 |_=>False
def RQ {K:Frg}:qaq K NI (λxs H Q=>∃ (p:Addr) (ns:List Int),xs=[.ref p]/\SqL K H p (ns.map V.int)/\ns≠[]/\∀ m∈ns,(∀ a∈ns,m<=a)->Q (.int m) H):=λxs vs G H q Q hr rs h af=>by
 unfold NI at h;split at h
 ·rename_i p;obtain ⟨v,rfl,r⟩:=LQ rs;cases r;split at h
  ·rename_i ys e0;split at h
   ·rename_i ns e1;obtain ⟨us,hs,r2⟩:=zT hr e0;have:=U4 e1;subst this;have:=U2 r2;subst this;exact ⟨p,ns,rfl,hs,h.1,λm hm ha=>af _ _ (h.2 m hm ha) _ _ (.int _) hr Kp.refl⟩
   ·exact h.elim
  ·exact h.elim
 ·exact h.elim
def WO (hc:X.calm=true):JZ X (.builtin "max") (λxs H Q=>∃ (p:Addr) (ns:List Int),xs=[.ref p]/\SqL X.K H p (ns.map V.int)/\ns≠[]/\∀ m∈ns,(∀ a∈ns,a<=m)->Q (.int m) H):=by
 intro pins s σ H xs us Q I r h;obtain ⟨p,ns,rfl,hq,hne,q⟩:=h;obtain ⟨u,rfl,rp⟩:=XY r;cases (show u=Value.ref p from rp);obtain ⟨its,rv,pl,hz⟩:=I.list hq;have hlen:its.length=ns.length:=by have:=rv.length;simp at this;omega
 have hpos:0<ns.length:=List.length_pos_iff.mpr hne;have hp:p<s.heap.objs.size:=by obtain ⟨o,n,e,_⟩:=pl;exact v6 e
 have vals:∀ (i:Nat) (v:Value),its.toArray[i]?=some v->∃ t,v=Value.int (ns.getD i 0) t:=λi v hv=>by
  have hv':its[i]?=some v:=by simpa using hv
  obtain ⟨hi,_⟩:=zb0 hv';have hi':i<ns.length:=by omega
  obtain ⟨u,hu,ru⟩:=rv.get (i:=i) (show (ns.map V.int)[i]?=some (V.int (ns[i])) by simp [hi']);rw [hv'] at hu;cases hu;obtain ⟨t,rfl⟩:=ru;exact ⟨t,by show Value.int ns[i] t=Value.int (ns.getD i 0) t;rw [getD_eq_getElem?_getD,v9 hi'];rfl⟩
 refine call_max_walk (wpAny_pyIter_list pl.isList ⟨s.heap.objs.size,_,_,_,_,_,_,rfl,Walks.list (A:=X.A.in1) (show X.A.in1.handled=none from I.ok.hd hc) s.heap.objs.size p (za4 hp) its.toArray,⟨⟨_,v5 _ rfl,rfl,rfl⟩,?_⟩,λb hb=>?_,by rw [size_toArray];omega,CmpOf.ints_gt (λi=>ns.getD i 0) vals,λv h' tk hP hk=>?_⟩)
 ·obtain ⟨o,n,e,c,_,d⟩:=pl;exact ⟨o,v4 _ e,c,n,d⟩
 ·have lt1:∀ n c:Nat,c<n->c<n+1:=λn c h=>by omega
  rw [show (({ s with heap:=s.heap.push _ }:Shared).heap.objs.size)=s.heap.objs.size+1 from Heap.size_push ..];simp only [mem_cons,not_mem_nil,or_false] at hb;rcases hb with rfl|rfl
  ·exact Nat.lt_succ_self _
  ·exact lt1 _ _ hp
 ·obtain ⟨b1,b2⟩:=argBest_gt (λi=>ns.getD i 0) (its.toArray.size-1);obtain ⟨t,rfl⟩:=vals _ _ hP;rw [size_toArray] at b1 b2 ⊢;have gd:∀ j,j<ns.length->ns.getD j 0∈ns:=λj hj=>by rw [getD_eq_getElem?_getD,v9 hj];exact za7 hj
  refine ⟨.int _,H,I.kept (h':=h') (t':=tk) λb o e=>hk b o (by simp;exact za4 (v6 e)) (v4 _ e),⟨_,rfl⟩,q _ (gd _ (by omega)) λa ha=>?_⟩;obtain ⟨j,hj,rfl⟩:=List.mem_iff_getElem.mp ha;have:=b2 j (by omega);have e:ns.getD j 0=ns[j]:=by rw [getD_eq_getElem?_getD,v9 hj];rfl
  rw [e] at this;exact this
def qaj:List T->Gp->Q3->Prop:=λxs G q=>match xs with
 |[.ref p]=>(match getL G p with|some ys=>(match TQ ys with|some ns=>ns≠[]/\∀ m∈ns,(∀ a∈ns,a<=m)->q (.int m) G|none=>False)|none=>False)
 |_=>False
def RO {K:Frg}:qaq K qaj (λxs H Q=>∃ (p:Addr) (ns:List Int),xs=[.ref p]/\SqL K H p (ns.map V.int)/\ns≠[]/\∀ m∈ns,(∀ a∈ns,a<=m)->Q (.int m) H):=λxs vs G H q Q hr rs h af=>by
 unfold qaj at h;split at h
 ·rename_i p;obtain ⟨v,rfl,r⟩:=LQ rs;cases r;split at h
  ·rename_i ys e0;split at h
   ·rename_i ns e1;obtain ⟨us,hs,r2⟩:=zT hr e0;have:=U4 e1;subst this;have:=U2 r2;subst this;exact ⟨p,ns,rfl,hs,h.1,λm hm ha=>af _ _ (h.2 m hm ha) _ _ (.int _) hr Kp.refl⟩
   ·exact h.elim
  ·exact h.elim
 ·exact h.elim
end
inductive Cv:List Str->List V->List (Value×Value)->Prop
 |nil:Cv [] [] []
 |cons {k:Str} {tk:Tok} {v:V} {u:Value} {ks:List Str} {xs:List V} {vs:List (Value×Value)}:jQ v u->Cv ks xs vs->Cv (k::ks) (v::xs) ((.str k tk,u)::vs)
structure jD3 (X:Cx) (keys:List (Option Expr)) (values:List Expr) (ks:List Str) (t:TA3):Prop where
 h:∀ (pos:Pos) (pins:List (Addr×Obj)) (s:Shared) (σ:L2.St) (H:Hp) (Q:List V->Hp->Prop),Inv X pins σ H s->lA X.K t σ H Q ->
  wpAny (model X.prog X.w) X.A (evalPairs (pairTrees keys values X.env pos)) (λvs s'=>∃ xs H',Inv X pins σ H' s'/\Cv ks xs vs/\Q xs H') X.xe s
 len:keys.length=values.length
 all:(keys.all λx=>x.isSome)=true
section
variable {X:Cx}
def qoh:jD3 X [] [] [] qh:=
 ⟨λpos pins s σ H Q I ⟨τ,G,q,rl,h,af⟩=>by
  show wpAny _ _ (evalPairs []) _ _ _;exact y8 ⟨[],H,I,.nil,af _ _ h _ _ .nil rl.hp Kp.refl⟩,rfl,rfl⟩
def SF {k:Str} {j:Nat} {kp:Pos} {v:Expr} {tv:TE3} {keys:List (Option Expr)} {values:List Expr} {ks:List Str} {t:TA3} (hv:jE3 X v tv) (r:jD3 X keys values ks t) :
  jD3 X (some (.Constant (.str k) j kp)::keys) (v::values) (k::ks) (qc tv t):=
 ⟨λpos pins s σ H Q I ⟨τ,G,q,rl,h,af⟩=>by
  show wpAny _ _ (evalPairs ((eval (.Constant (.str k) j kp) X.env,do let x←eval v X.env;standAt pos;pure x)::pairTrees keys values X.env pos)) _ _ _;refine evalPairs_cons (thn (qiO (X:=X) (x:=k) (j:=j) (pos:=kp) pins s σ H (λy H'=>y=.str k/\H'=H) I ⟨rfl,rfl⟩) λkv s1 ⟨y,H1,I1,ry,ey,eH⟩=>?_);subst ey;subst eH;obtain ⟨tk,rfl⟩:=ry;refine y6 (thn (hv.h pins s1 σ H1 (λx H2=>lA X.K t σ H2 λxs H3=>Q (x::xs) H3) I1 (zy rl h λx G1 h1 v H2 rx hr1 k1 rl1=>⟨τ,G1,_,rl1,h1,λxs G2 h2 vs H3 rs hr2 k2=>af _ _ h2 _ _ (.cons (rx.keep hr1 k2) rs) hr2 (k1.trans k2)⟩)) λu s2 ⟨x,H2,I2,rx,q2⟩=>?_);refine y6 (wpAny_standAt (y8 ?_));exact thn (r.h pos pins s2 σ H2 _ I2 q2) λvs s3 ⟨xs,H3,I3,cv,q3⟩=>⟨x::xs,H3,I3,.cons rx cv,q3⟩,by simp [r.len],by simpa using r.all⟩
theorem Cv.carries {P:Program} {w:World}:∀ {ks:List Str} {xs:List V} {vs:List (Value×Value)},Cv ks xs vs->Carries (PySem.strKind P w) vs (ks.zip (vs.map (·.2)))
 |_,_,_,.nil=>True.intro
 |_,_,_,.cons (k:=k) r t=>⟨by show (k==k)=true;simp,rfl,t.carries⟩
theorem Cv.len:∀ {ks:List Str} {xs:List V} {vs:List (Value×Value)},Cv ks xs vs->ks.length=vs.length
 |_,_,_,.nil=>rfl
 |_,_,_,.cons _ t=>by simp [t.len]
def qe2:List Str->List V->Str->Option V
 |k::ks,v::vs,x=>if k=x then some v else qe2 ks vs x
 |_,_,_=>none
theorem Cv.get:∀ {ks:List Str} {xs:List V} {vs:List (Value×Value)} {x:Str} {v:V},Cv ks xs vs->qe2 ks xs x=some v->∃ u,valueAt (ks.zip (vs.map (·.2))) x=some u/\jQ v u
 |_,_,_,x,v,.nil,h=>by simp [qe2] at h
 |_,_,_,x,v,.cons (k:=k) (u:=u) r t,h=>by
  by_cases e:k=x
  ·simp [qe2,e] at h;subst h;exact ⟨u,by simp [valueAt,e],r⟩
  ·simp [qe2,e] at h;obtain ⟨u',h1,h2⟩:=Cv.get t h;exact ⟨u',by simpa [valueAt,e] using h1,h2⟩
def qre (ks:List Str) (tv:TA) (te:TE):TE:=λσ H Q=>tv σ H λxs H1=>te σ H1 λy H2=>∃ k v,y=.str k/\qe2 ks xs k=some v/\Q v H2
def qkX {keys:List (Option Expr)} {values:List Expr} {ks:List Str} {t:TA3} {e:Expr} {te:TE} {p1 pos:Pos} (hd:jD3 X keys values ks t) (he:PE X e te) (hs:W8 e) (nd:ks.Nodup) (ne:keys≠[]) (h15:keys.length<=15) :
  PE X (.Subscript (.Dict keys values p1) e pos) (qre ks (lA X.K t) te):=by
 intro pins s σ H Q I hl;refine Subscript_ ?_;refine wpAny_Dict_walk (knd:=PySem.strKind X.prog X.w) hd.all hd.len ne h15 ?_;have hsz:=I.sz;have hlt:=I.lt;have I0:Inv X pins σ H { s with heap:=s.heap.push { cls:=.type "dict",data:=.dict #[] } }:=I.kept (t':=s.toks) λb o e=>v4 _ e;have ok0:H s.heap.objs.size=none/\s.heap.objs.size≠X.env.locals/\s.heap.objs.size∉X.fs:=⟨I.fresh,λz=>Nat.lt_irrefl _ (z▸hlt),I.nofs (u8 _)⟩
 have hcell:∀ x c,X.env.cells.lookup x=some c->c≠s.heap.objs.size:=λx c e z=>by
  obtain ⟨v,o,ho,_⟩:=I.cell x c e;have:=v6 ho;rw [z] at this;exact Nat.lt_irrefl _ this
 have hpin:∀ p∈X.pn++pins,p.1≠s.heap.objs.size:=λp hp z=>by
  have:=v6 (I.pin p hp).1;rw [z] at this;exact Nat.lt_irrefl _ this
 have Ip:Inv X (pins++[(s.heap.objs.size,{ cls:=.type "dict",data:=.dict #[] })]) σ H { s with heap:=s.heap.push { cls:=.type "dict",data:=.dict #[] } }:=I0.pins_of λp hp=>by
  rcases List.mem_append.mp hp with z|z
  ·exact I0.pin p (za0 _ z)
  ·simp only [List.mem_singleton] at z;subst z;exact ⟨v5 _ rfl,ok0.1,ok0.2.1,ok0.2.2,λv=>by simp⟩
 refine thn (hd.h p1 _ _ σ H _ Ip hl) λvs s1 ⟨xs,H1,I1,cv,q1⟩=>?_;have p1':=I1.pin (s.heap.objs.size,{ cls:=.type "dict",data:=.dict #[] }) (by simp);have hkeys:(List.map (λx=>x.fst) (ks.zip (vs.map (·.2))))=ks:=by
  have:=cv.len;rw [List.map_fst_zip (by simp;omega)]
 refine ⟨ks.zip (vs.map (·.2)),cv.carries,⟨_,#[],0,p1'.1,⟨rfl,rfl,rfl⟩,rfl,λe he=>by simp at he,by first|exact True.intro|constructor,by simp⟩,λh' hd' hsame=>?_⟩;rw [merged_nil_of_nodup _ (by rw [hkeys];exact nd)] at hd';have I1u:Inv X pins σ H1 s1:=I1.unpinned;have I2:Inv X pins σ H1 { heap:=h',gens:=s1.gens,drawn:=s1.drawn,toks:=s1.toks+vs.length,os:=s1.os }:=
  I1u.turned (it:=s.heap.objs.size) (λb o hb e=>by rw [hsame.2 b hb];exact e) p1'.2.1 ok0.2.1 (.inr hsz) hcell hpin
 obtain ⟨o,es,ep,ho,hx,hdata,hk,hp,hn⟩:=hd';have I3:Inv X (pins++[(s.heap.objs.size,o)]) σ H1 { heap:=h',gens:=s1.gens,drawn:=s1.drawn,toks:=s1.toks+vs.length,os:=s1.os }:=I2.pins_of λp hp=>by
  rcases List.mem_append.mp hp with z|z
  ·exact I2.pin p (za0 _ z)
  ·simp only [List.mem_singleton] at z;subst z;exact ⟨ho,p1'.2.1,ok0.2.1,ok0.2.2,λv=>by rw [hdata];simp⟩
 refine thn (he _ _ σ H1 _ I3 q1) λu s2 ⟨y,H2,I4,ry,k,v,ey,hg,q2⟩=>?_;subst ey;obtain ⟨tk,rfl⟩:=ry;have po:=I4.pin (s.heap.objs.size,o) (by simp);have dd:s2.heap.DictOf (PySem.strKind X.prog X.w) s.heap.objs.size (ks.zip (vs.map (·.2))):=⟨o,es,ep,po.1,hx,hdata,hk,hp,hn⟩
 obtain ⟨u,hu,ru⟩:=cv.get hg;exact subscriptTail_builtinR (x:=u) ⟨_,po.1,hx.1⟩ PySem.F.slot_dict_getitem.lookup (wpAny_getItem_of (knd:=PySem.strKind X.prog X.w) (Q:=λr s'=>r=u/\EP X pins σ Q r s') (k:=k) (by show (k==k)=true;simp) dd.mapOf hu ⟨rfl,v,H2,I4.unpinned.tok _,ru,q2⟩) (hs _ _)
def qjh (ks:List Str) (t:TA3) (te:TE3):TE3:=λτ G q=>t τ G λxs G1=>te τ G1 λy G2=>match y with|.str k=>(match QA (ks.zip xs) k with|some x=>q x G2|none=>False)|_=>False
theorem qef {K:Frg} {H:Hp}:∀ {ks:List Str} {xs:List T} {vs:List V} {k:Str} {x:T},Rps K H xs vs->QA (ks.zip xs) k=some x->∃ v,qe2 ks vs k=some v/\Rp K H x v
 |[],_,_,k,x,_,h=>by simp [QA] at h
 |_::_,_,_,k,x,.nil,h=>by simp [QA] at h
 |y::ks,_,_,k,x,.cons (v:=v) r t,h=>by
  by_cases e:y=k
  ·simp [QA,e] at h;subst h;exact ⟨v,by simp [qe2,e],r⟩
  ·simp [QA,e] at h;obtain ⟨v,h1,h2⟩:=qef t h;exact ⟨v,by simpa [qe2,e] using h1,h2⟩
def qkG {keys:List (Option Expr)} {values:List Expr} {ks:List Str} {t:TA3} {e:Expr} {te:TE3} {p1 pos:Pos} (hd:jD3 X keys values ks t) (he:jE3 X e te) (hs:W8 e:=by intro _ _;rfl) (nd:ks.Nodup:=by decide) (ne:keys≠[]:=by simp) (h15:keys.length<=15:=by decide) :
  jE3 X (.Subscript (.Dict keys values p1) e pos) (qjh ks t te):=
 ⟨RK (qkX hd he.h hs nd ne h15) λσ H Q ⟨τ,G,q,rl,h,af⟩=>
  ⟨τ,G,_,rl,h,λxs G1 h1 vs H1 rs hr1 k1=>zy (rl.next hr1 k1) h1 λy G2 h2 v H2 ry hr2 k2 rl2=>by
   cases y<;>try exact h2.elim
   case str k=>
    cases ry;simp only at h2;split at h2
    ·rename_i x hx;obtain ⟨v,hv,rv⟩:=qef (rs.keep hr1 k2) hx;exact ⟨k,v,rfl,hv,af _ _ h2 _ _ rv hr2 (k1.trans k2)⟩
    ·exact h2.elim⟩⟩
end
def qbq {K:Frg} {p:Addr} {n:Nat} {sl:Array (Option Value)} {i j:Int} {ti tj:Tok} (h:K.lookup p=some ⟨.type "tuple",none,.seq #[.int i ti,.int j tj] n,sl⟩):∀ H,Rp K H (.tup [.int i,.int j]) (.ref p):=λH=>
 .tup (vs:=[.int i,.int j]) (.inr ⟨_,_,_,h,rfl,rfl,by show 2<=sizeLine;decide,.cons ⟨_,rfl⟩ (.cons ⟨_,rfl⟩ .nil),rfl⟩) (.cons (.int _) (.cons (.int _) .nil))
def WJ:List (Str×T):=[("row",.tup [.int 0,.int 1]),("column",.tup [.int 1,.int 0]),("slant",.tup [.int 1,.int 1]),("back",.tup [.int 1,.int (-1)])]
open PySem.SeqAt
def qbG (dx:PyData):List PyData->Option Bool
 |[]=>some false
 |d::ds=>(match jz d dx,qbG dx ds with|some b,some c=>some (b||c)|_,_=>none)
theorem qbV {dx:PyData}:∀ {ds:List PyData} {b:Bool},qbG dx ds=some b->∃ bs:List Bool,bs.length=ds.length/\(∀ (j:Nat) d,ds[j]?=some d->∃ c,bs[j]?=some c/\jz d dx=some c)/\b=bs.any id
 |[],b,h=>by simp [qbG] at h;subst h;exact ⟨[],rfl,λj d hd=>by simp at hd,rfl⟩
 |d::ds,b,h=>by
  unfold qbG at h;split at h
  ·rename_i b1 c1 e1 e2;cases h;obtain ⟨bs,hl,ha,hb⟩:=qbV e2;refine ⟨b1::bs,by simp [hl],λj d' hd=>?_,by simp [hb]⟩;cases j with
   |zero=>simp at hd;subst hd;exact ⟨b1,rfl,e1⟩
   |succ j=>simpa using ha j d' (by simpa using hd)
  ·cases h
section
variable {X:Cx} {pins:List (Addr×Obj)} {σ:L2.St} {H:Hp} {s:Shared}
def qdO (I:Inv X pins σ H s) {x:V} {dx:PyData} {v:Value} {xs:List V} {ds:List PyData} {its:List Value} {b:Bool} (hu:X.A.units+64<cLine) (hx:DV X.K H x dx) (rx:jQ x v) (hs:DVs X.K H xs ds) (rs:jh xs its) (hb:qbG dx ds=some b) (hd:∀ d∈ds,dpt d<=40) :
  ∃ e:Value->Bool,(∀ y∈its,EqAt X.A.in1 s y v (e y))/\its.any e=b:=by
 obtain ⟨bs,hl,ha,rfl⟩:=qbV hb;have un:X.A.in1.units+40<cLine:=by
  have:X.A.in1.units<=X.A.units+8:=by first|(show X.A.units+1<=_;omega)|(show X.A.units<=_;omega)|(simp [Around.in1];omega)
  omega
 have at_:∀ (j:Nat) y,its[j]?=some y->∃ c,bs[j]?=some c/\EqAt X.A.in1 s y v c:=λj y hj=>by
  obtain ⟨hj1,_⟩:=zb0 hj;have hxl:j<xs.length:=by rw [rs.length];exact hj1
  obtain ⟨u,hu',ru⟩:=rs.get (v9 hxl);rw [hj] at hu';cases hu';obtain ⟨d,hd1,hd2⟩:=hs.get (v9 hxl);obtain ⟨c,hc1,hc2⟩:=ha j d hd1;exact ⟨c,hc1,(MT I 40 hd2 hx hc2 (hd d (za2 hd1)) un ru rx).2⟩
 classical
 refine ⟨λy=>decide (∃ j:Nat,its[j]?=some y/\bs[j]?=some true),λy hy=>?_,?_⟩
 ·by_cases he:∃ j:Nat,its[j]?=some y/\bs[j]?=some true
  ·obtain ⟨j,h1,h2⟩:=id he;obtain ⟨c,hc,eq⟩:=at_ j y h1;rw [h2] at hc;cases hc;simpa [he] using eq
  ·obtain ⟨j,hj,e⟩:=List.mem_iff_getElem.mp hy;have hj':its[j]?=some y:=by rw [v9 hj,e]
   obtain ⟨c,hc,eq⟩:=at_ j y hj';cases c with
   |true=>exact absurd ⟨j,hj',hc⟩ he
   |false=>simpa [he] using eq
 ·rw [Bool.eq_iff_iff,List.any_eq_true,List.any_eq_true];constructor
  ·rintro ⟨y,_,hy⟩;obtain ⟨j,_,h2⟩:=of_decide_eq_true hy;exact ⟨true,za2 h2,rfl⟩
  ·rintro ⟨c,hc,e⟩;have:c=true:=e;subst this;obtain ⟨j,hj,ej⟩:=List.mem_iff_getElem.mp hc;have hl2:its.length=bs.length:=by rw [← rs.length,hs.length,hl]
   have hj2:j<its.length:=by omega
   exact ⟨its[j],za7 hj2,decide_eq_true ⟨j,v9 hj2,by rw [v9 hj,ej]⟩⟩
def qsW (K:Frg) (neg:Bool):R2:=λx y H Q=>∃ p xs dx ds b,y=.ref p/\(SqL K H p xs\/SqT K H p xs)/\DV K H x dx/\DVs K H xs ds/\qbG dx ds=some b/\(∀ d∈ds,dpt d<=40)/\Q (.bl (if neg then !b else b)) H
def NE (hu:X.A.units+64<cLine):OpR X (compareOp .NotIn) (qsW X.K true):=by
 intro pins s σ H x y v u Q I rx ry h;obtain ⟨p,xs,dx,ds,b,rfl,hq,hx,hs,hb,hd,q⟩:=h;cases ry;rcases hq with hq|hq
 ·obtain ⟨its,r,pl,hz⟩:=I.list hq;obtain ⟨e,he,ha⟩:=qdO I hu hx rx hs r hb hd;refine SeqAt.notIn_listAt e pl.isList (λw hw=>he w (by simpa using hw)) ⟨.bl _,H,I,rfl,?_⟩;rw [show its.toArray.any e=its.any e by simp,ha];exact q
 ·obtain ⟨its,r,pl,hz⟩:=I.tuple hq;obtain ⟨e,he,ha⟩:=qdO I hu hx rx hs r hb hd;refine SeqAt.notIn_tupleAt e pl (λw hw=>he w (by simpa using hw)) ⟨.bl _,H,I,rfl,?_⟩;rw [show its.toArray.any e=its.any e by simp,ha];exact q
end
def qqk (neg:Bool):R3:=λx y G q=>∃ ys dx ds b,jR G y=some ys/\Dp G x dx/\Dps G ys ds/\qbG dx ds=some b/\(∀ d∈ds,dpt d<=40)/\q (.bl (if neg then !b else b)) G
def qeZ {K:Frg} {neg:Bool}:RR K (qqk neg) (qsW K neg):=λx y v u G H q Q hr rx ry h af=>by
 obtain ⟨ys,dx,ds,b,h1,h2,h3,h4,h5,h6⟩:=h;cases y with
 |tup zs=>
  simp [jR] at h1;subst h1;cases ry with
  |tup hs rs=>exact ⟨_,_,dx,ds,b,rfl,.inr hs,h2.dv hr rx,h3.dv hr rs,h4,h5,af _ G h6 _ H (.bl _) hr Kp.refl⟩
 |ref p=>
  simp [jR] at h1;cases ry;obtain ⟨us,hs,rs⟩:=zT hr h1;exact ⟨_,_,dx,ds,b,rfl,.inl hs,h2.dv hr rx,h3.dv hr rs,h4,h5,af _ G h6 _ H (.bl _) hr Kp.refl⟩
 |_=>simp [jR] at h1
end L3
namespace HT
open PySem PySem.Spec PyProof.Rows L2
section
open PySem.SeqAt
open PySem.MeetsSeq PySem.MeetsSeq2 PySem.MeetsSeq3
end
section
variable {prog:Program} {w:World} {A:Around} {E:Value->Shared->Prop} {s:Shared}
end
end HT
namespace L3
open PySem PySem.Spec PyProof.Rows L2
section
variable {X:Cx}
def qi2 (K:Frg):V->List V->Hp->VK->Prop:=λx vs H Q=>∃ l ns k,x=.ref l/\vs=[.int k]/\SqL K H l (ns.map V.int)/\Q (.int (List.count k ns:Nat)) H
def qfj:MtR X "list.count" (qi2 X.K):=by
 intro pins s σ H x vs v us Q I rx rv h;obtain ⟨l,ns,k,rfl,rfl,hq,q⟩:=h;cases rx;obtain ⟨u,rfl,ru⟩:=rv.one;obtain ⟨t,rfl⟩:=ru;obtain ⟨its,rv',pl,hz⟩:=I.list hq;exact count_list_ints pl.isList (CA rv') ⟨.int _,H,I.tok _,⟨_,rfl⟩,q⟩
def qlk:T->List T->Gp->Q3->Prop:=λx xs G q=>match x,xs with
 |.ref l,[.int k]=>(match getL G l with|some ys=>(match TQ ys with|some ns=>q (.int (List.count k ns:Nat)) G|none=>False)|none=>False)
 |_,_=>False
def qjw {K:Frg}:qqy K qlk (qi2 K):=λx xs v vs G H q Q hr rx rs h af=>by
 unfold qlk at h;split at h
 ·rename_i l k;split at h
  ·rename_i ys e0;split at h
   ·rename_i ns e1;cases rx;obtain ⟨u,rfl,r⟩:=LQ rs;cases r;obtain ⟨us,hs,r2⟩:=zT hr e0;have:=U4 e1;subst this;have:=U2 r2;subst this;exact ⟨l,ns,k,rfl,rfl,hs,af _ _ h _ _ (.int _) hr Kp.refl⟩
   ·exact h.elim
  ·exact h.elim
 ·exact h.elim
def qe5 {t:TA3} {e:Expr} {o:Expr} {to:TE3} {apos cpos:Pos} (ho:jE3 X o to) (ha:jA3 X [e] t)
  (hbase:attributeBase o "count" X.env (eval o X.env)=eval o X.env:=by rfl)
  (hfew:((backTo cpos (starEach [e] X.env)).all (λx=>!x.1)&&(backToKw cpos (keywordEach [] X.env)).all (λx=>x.1.isSome)
   && decide (([e]:List Expr).length+([]:List Keyword).length+(if ([]:List Keyword).isEmpty then 0 else 1)<30))=true:=by rfl)
  (hline:(apos.endLine==cpos.line)=true:=by rfl) (hs:starEach [e] X.env=(false,eval e X.env)::starEach [] X.env:=by rfl) (hplain:(backTo cpos (starEach [] X.env)).any (·.1)=false:=by rfl) :
  jE3 X (.Call (.Attribute o "count" apos) [e] [] cpos) (bm3 qlk to t):=⟨qqW PySem.F.slot_list_count PySem.F.type_list_count qfj qjw ho.h ha.h hbase hfew hline hs hplain⟩
end
end L3
namespace HT
open PySem PyProof.Rows
section
variable {prog:Program} {w:World} {A:Around} {R:Result->Shared->Prop} {I:Addr} {fp wr:List Addr} {n:Nat} {P:Nat->Value->Prop} {St:Nat->Heap->Prop}
end
section
variable {prog:Program} {w:World} {A:Around} {E:Value->Shared->Prop} {s:Shared}
end
end HT
namespace L3
open PySem PySem.Spec PyProof.Rows L2
section
variable {X:Cx}
end
section
variable {X:Cx}
end
section
variable {X:Cx}
end
section
variable {X:Cx} {a b:Expr} {ta tb:TE3} {pos:Pos}
end
end L3
namespace L3
open PySem PySem.Spec PyProof.Rows L2 PySem.SeqAt
section
variable {X:Cx} {a b:Expr} {ta tb:TE3} {pos:Pos}
end
end L3
namespace L3
open PySem PySem.Spec PyProof.Rows L2
section
variable {X:Cx} {a b e:Expr} {ta tb te:TE3} {pos:Pos}
end
section
variable {X:Cx} {a b:Expr} {ta tb:TE3} {pos:Pos}
end
section
variable {X:Cx}
end
def ev {α:Type}:List α->List α
 |[]=>[]
 |[x]=>[x]
 |x::_::r=>x::ev r
section
variable {X:Cx} {e el ek:Expr} {p2 pos:Pos}
end
section
variable {X:Cx} {pos:Pos} {e:Expr} {te:TE3}
end
section
variable {X:Cx} {pos:Pos} {o i e:Expr} {to ti te:TE3}
end
section
variable {K:Frg} {G G':Gp} {H H':Hp}
def qsC (kvs:List (Int×T)):List Key:=kvs.map λp=>(Sum.inl p.1:Key)
def qrr (kvs:List (Int×T)):List T:=kvs.map λp=>p.2
theorem HR.dct (hr:HR K G H) {p:Addr} {kvs:List (Int×T)} (g:G p=some (.dct kvs)):∃ vs,H p=some (.dK ((qsC kvs).zip vs))/\Rps K H (qrr kvs) vs:=hr p _ g
end
section
variable {X:Cx} {pos:Pos} {o i e:Expr} {to ti te:TE3}
variable {es:List Expr} {t:TA3}
end
end L3
namespace L3
open PySem PySem.Spec PyProof.Rows L2 PySem.SeqAt
section
variable {prog:Program} {w:World} {A:Around} {E:Value->Shared->Prop} {s:Shared}
end
section
variable {X:Cx}
end
end L3
namespace L2
open PySem PySem.Spec PyProof.Rows
section
variable {X:Cx} {pins:List (Addr×Obj)} {σ:St} {H:Hp} {s:Shared}
end
def UC.there {P:Program} {w:World} {H:Hp} {h:Heap} {a:Addr} {o:HO} (x:UC P w H h a o):∃ u,h.get? a=some u:=by
 cases o with
 |lst xs=>obtain ⟨_,_,_,_,e⟩:=x;exact ⟨_,e⟩
 |tup xs=>obtain ⟨_,_,_,ob,e,_⟩:=x;exact ⟨_,e⟩
 |dK kvs=>obtain ⟨_,_,_,_,o,_,_,e,_⟩:=x;exact ⟨_,e⟩
 |dT kvs=>obtain ⟨_,_,_,_,o,_,_,e,_⟩:=x;exact ⟨_,e⟩
 |set S n=>obtain ⟨o,_,_,_,e,_⟩:=x;exact ⟨_,e⟩
 |ins C dx fs=>obtain ⟨_,_,_,e,_⟩:=x;exact ⟨_,e⟩
 |own y=>obtain ⟨_,e⟩:=x;exact ⟨_,e⟩
 |xd fs=>obtain ⟨_,⟨_,_,_,e,_⟩,_⟩:=x;exact ⟨_,e⟩
 |rng lo hi=>obtain ⟨_,_,_,e⟩:=x;exact ⟨_,e⟩
 |frz ob u=>obtain ⟨e,_⟩:=x;exact ⟨_,e⟩
 |tbl ps=>exact ⟨_,(show h.get? a=some _ from x)⟩
 |met f y=>exact ⟨_,(show h.get? a=some _ from x)⟩
 |ext φ=>obtain ⟨_,⟨_,e⟩,_⟩:=x;exact ⟨_,e⟩
def HOk.nil {P:Program} {w:World} {H:Hp} {h:Heap} {a:Addr} (x:HOk P w H h) (e:h.get? a=none):H a=none:=by
 cases q:H a with
 |none=>rfl
 |some u=>
  obtain ⟨z,y⟩:=(x a u q).there;rw [e] at y;cases y
section
variable {P:Program} {w:World} {K:Frg} {mg:Str->Option Value} {base:Heap} {N:List Str} {qual:Str} {scope:Scope} {f:Addr} {cd:Value} {A:Around} {outer:List Env} {s0:Shared} {H0:Hp} {E:XK} {CX:CXT}
 {pins:List (Addr×Obj)} {σ:St} {H:Hp} {s:Shared}
end
section
variable {X:Cx} {x:Str} {C:Addr} {B Bn newId nid initId inN:String} {bm bmN:List Value} {np cpos pos:Pos} {e:Expr} {es:List Expr} {t:TA} {EE:Hp->Prop}
end
end L2
namespace L3
open PySem PySem.Spec PyProof.Rows L2
abbrev X3:=Addr->Gp->Prop
abbrev Spx:=List T->Gp->X3->Prop
section
variable {X:Cx} {x:Str} {C:Addr} {B Bn newId nid initId inN:String} {bm bmN:List Value} {np cpos pos:Pos} {e:Expr} {es:List Expr} {t:TA3} {dx:X3}
end
section
variable {K:Frg} {G G':Gp} {H H':Hp}
def HR.kind (hr:HR K G H) {a:Addr} (n:G a≠none):(∃ vs,H a=some (.lst vs))\/(∃ o vs,H a=some (.frz o (.lst vs)))\/(∃ kvs,H a=some (.dK kvs))\/∃ φ,H a=some (.ext φ):=by
 cases e:G a with
 |none=>exact absurd e n
 |some o=>
  have q:=hr a o e;cases o with
  |lst xs=>obtain ⟨vs,h1,_⟩:=q;exact .inl ⟨vs,h1⟩
  |frz xs=>obtain ⟨vs,⟨o,h1⟩,_⟩:=q;exact .inr (.inl ⟨o,vs,h1⟩)
  |dct kvs=>obtain ⟨vs,h1,_⟩:=q;exact .inr (.inr (.inl ⟨_,h1⟩))
  |tab ks xs=>obtain ⟨vs,h1,_⟩:=q;exact .inr (.inr (.inl ⟨_,h1⟩))
  |exn C=>exact .inr (.inr (.inr ⟨_,q⟩))
end
end L3
namespace L2
open PySem PySem.Spec PyProof.Rows
section
variable {X:Cx} {pins:List (Addr×Obj)} {σ:St} {H H':Hp} {s s':Shared}
end
section
variable {M:Model} {A:Around} {E:Value->Shared->Prop}
variable {nm q nm' q':Str} {C N B N':Addr} {bs bm bs' bm':List Value} {hdct hdct':Bool} {sn sn':List Str} {sub sub':List Value} {ab ab':Bool} {col col':Option Bool} {dd dd':Option Addr} {k0 k1 k2 k3 k5 l0 l1 l2 l3 l5:Option Value} {newId newId':String}
end
open L3 (IsX)
section
variable {X:Cx} {pins:List (Addr×Obj)} {σ:St} {H:Hp} {s:Shared} {ea:Addr} {o:HO}
end
section
variable {X:Cx} {pins:List (Addr×Obj)} {σ σ0:St} {H:Hp} {s:Shared} {E:XK} {e:Value}
end
section
variable {X:Cx} {pins:List (Addr×Obj)} {σ:St} {H:Hp} {s s':Shared} {E:XK} {ev:Value}
end
end L2
namespace L2
open PySem PySem.Spec PyProof.Rows PySem.W PySem.Calls Builtin Builtin.ObjectAttr Builtin.Getset_descriptor
open L3 (IsX)
section
variable {prog:Program} {w:World} {A:Around} {E:Value->Shared->Prop} {K:Frag} {e C:Addr}
end
end L2
namespace L3
open PySem PySem.Spec PyProof.Rows L2
abbrev TX3:=X3->St3->Gp->Prop
section
variable {X:Cx} {k:Nat} {x:Str} {sx:Spx} {p pos:Pos} {e:Expr} {es:List Expr} {ta:TA3} {tx ty:TX3}
end
section
variable {X:Cx} {e ce:Expr} {te:TE3} {p pos:Pos} {D:List (Option Addr×Bool)}
end
section
variable {X:Cx}
def qtp (ks:List Str):List Key:=ks.map λk=>(Sum.inr k:Key)
theorem HR.tab {K:Frg} {G:Gp} {H:Hp} (hr:HR K G H) {p:Addr} {ks:List Str} {xs:List T} (g:G p=some (.tab ks xs)):∃ vs,H p=some (.dK ((qtp ks).zip vs))/\Rps K H xs vs:=hr p _ g
end
end L3
namespace L3
open PySem PySem.Spec PyProof.Rows L2 PySem.SeqAt
section
end
section
variable {X:Cx}
end
end L3
namespace L3
open PySem PySem.Spec PyProof.Rows L2
section
variable {X:Cx} {tg a b c:Expr} {pos:Pos}
end
section
variable {X:Cx}
end
section
variable {prog:Program} {w:World} {A:Around} {E:Value->Shared->Prop} {s:Shared}
end
section
variable {X:Cx}
end
section
variable {prog:Program} {w:World} {A:Around} {E:Value->Shared->Prop} {s:Shared}
end
section
variable {prog:Program} {w:World} {A:Around} {E:Value->Shared->Prop} {s:Shared}
end
section
variable {X:Cx}
end
section
variable {X:Cx}
end
section
variable {prog:Program} {w:World} {A:Around} {E:Value->Shared->Prop} {s:Shared}
end
section
variable {X:Cx} {pos:Pos}
end
open PySem.SeqAt
section
variable {X:Cx} {pins:List (Addr×Obj)} {σ:L2.St} {H:Hp} {s:Shared}
end
end L3
namespace L3
open PySem PySem.Spec PyProof.Rows L2
open Builtin Builtin.Str
section
variable {prog:Program} {w:World} {A:Around} {E:Value->Shared->Prop} {s:Shared}
end
section
variable {X:Cx}
end
end L3
namespace L3
open PySem PySem.Spec PyProof.Rows L2
section
variable {prog:Program} {w:World} {A:Around} {E:Value->Shared->Prop} {s:Shared}
end
section
variable {X:Cx} {pos:Pos}
end
section
variable {X:Cx} {tg l:Expr}
end
def qsh:V->V->Hp->VK->Prop:=λo i H Q=>∃ p xs k z,o=.ref p/\i=.int k/\H p=some (.lst xs)/\atI xs k=some z/\Q z H
def qgi {X:Cx}:qs8 X qsh:=by
 intro pins s σ H o i ov iv Q I ro ri h;obtain ⟨p,xs,k,z,rfl,rfl,hp,he,q⟩:=h;cases ro;obtain ⟨t,rfl⟩:=ri;obtain ⟨its,n,r,ho,hz⟩:=I.lst hp;have pl:s.heap.IsList p its.toArray:=⟨_,ho,rfl,n,rfl⟩
 obtain ⟨j,h1,h2,h3,h4,h5⟩:=MO he;obtain ⟨w,ew,rw'⟩:=r.get h2;have hl:=r.length;have hn:=K6;have fin:EP X pins σ Q w s:=⟨z,H,I,rw',q⟩
 by_cases h0:0<=k
 ·have hj:k.toNat=j:=by
   rw [seqIndex_of h0 h5] at h1;exact Option.some.inj h1
  exact wpAny_getItem_list pl h0 (by omega) (by rw [hj];simpa using ew) fin
 ·have hj:(k+(its.toArray.size:Int)).toNat=j:=by
   rw [seqIndex_neg (by omega) h4] at h1;rw [size_toArray,← hl];exact Option.some.inj h1
  exact wpAny_getItem_list_neg pl (by omega) (by rw [size_toArray]<;>omega) (by omega) (by rw [hj];simpa using ew) fin
def qe9 (to ti te:TE3):TS3:=λd τ G=>to τ G λo G1=>ti τ G1 λi G2=>match o,i with
 |.ref p,.int k=>(match G2 p with|some (.lst xs)=>(match atI xs k with|some (.int x)=>te τ G2 λy G4=>(match y with|.int y'=>JG (.ref p) (.int k) (.int (x+y')) G4 λG6=>d.nx τ G6|_=>False)|_=>False)|_=>False)
 |_,_=>False
def qk2 {te to ti:TE3} {pos tpos:Pos} {e o i:Expr} {X:Cx} (ho:jE3 X o to) (hi:jE3 X i ti) (he:jE3 X e te)
  (ha:∀ ov iv new,augStore i ov iv new=(do holding [new,ov,iv] (setItem ov iv new);release [new,ov,iv] [];pure .next):=by intros;rfl):jS3 X (.AugAssign (.Subscript o i tpos) .Add e pos) (qe9 to ti te):=
 ⟨qeU (qku ho.h hi.h qgi he.h qhS qbO ha) λD σ H ⟨τ,G,d,rl,h,af⟩=>zy rl h λx1 G1 h1 v1 H1 r1 hr1 k1 rl1=>zy rl1 h1 λx2 G2 h2 v2 H2 r2 hr2 k2 rl2=>by
  have r1':=r1.keep hr1 k2;split at h2
  ·rename_i p k;split at h2
   ·rename_i xs e;split at h2
    ·rename_i x ex;cases r1';cases r2;obtain ⟨vs,g1,rs⟩:=hr2.lst e;obtain ⟨j,ej,gj⟩:∃ j,ixN xs.length k=some j/\xs[j]?=some (.int x):=by
      unfold atI at ex;exact obb ex
     obtain ⟨v,gv,rv⟩:=rs.get gj;cases rv;refine ⟨p,vs,k,.int x,rfl,rfl,g1,by unfold atI;rw [← rs.length,ej];exact gv,zy rl2 h2 λy G4 h4 u H4 ry hr4 k4 rl4=>?_⟩;split at h4
     ·rename_i y';cases ry;refine ⟨x,y',rfl,rfl,?_⟩;cases ez:G4 p with
      |none=>simp only [JG,ez] at h4
      |some ob=>
       cases ob with
       |lst zs=>
        cases ej':ixN zs.length k with
        |none=>simp only [JG,ez,ej'] at h4
        |some j'=>
         simp only [JG,ez,ej'] at h4;obtain ⟨ws,g2,rz⟩:=hr4.lst ez;have kk:Kp G4 H4 (gu G4 p (.lst (zs.set j' (.int (x+y'))))) (upd H4 p (.lst (ws.set j' (.int (x+y'))))):=Kp.wr ez;exact ⟨p,ws,k,j',rfl,rfl,g2,by rw [← rz.length];exact ej',af.nx τ _ h4 σ _ (rl4.next (hr4.wr ez (rz.set (.int _) j')) kk) (((k1.trans k2).trans k4).trans kk)⟩
       |_=>simp only [JG,ez] at h4
     ·exact h4.elim
    ·exact h2.elim
   ·exact h2.elim
  ·exact h2.elim⟩
def CF:Sp3:=λ_ _ _=>False
def WY {P:Program} {w:World} {K:Frg} {mg:Str->Option Value} {base:Heap} {x qual:Str} {st:Stmt} {f:Addr} {fd:FuncData} {ps:List Str} (F:Fun K x qual st f fd) (bd:KB K fd ps []) (hm:mg x=some (.ref f)):Fn3 P w K mg base 0 x CF:=
 ⟨f,fd,ps,⟨λvs H Q E ⟨_,_,_,_,_,h,_⟩=>h.elim,λA outer s H args us vs Q E _ _ _ _ ⟨_,_,_,_,_,h,_⟩=>h.elim⟩,bd,F.kp,hm⟩
def ixT (xs:List T) (i:Int) (G:Gp) (q:Q3):ix3 (.tup xs) (.int i) G q=(match L2.atI xs i with|some z=>q z G|none=>False):=rfl
def ixR (p:Addr) (i:Int) (G:Gp) (q:Q3):ix3 (.ref p) (.int i) G q=(match getL G p with|some xs=>(match L2.atI xs i with|some z=>q z G|none=>False)|none=>False):=rfl
def jG {α:Type} {xs:List α} {i:Int} (h0:0<=i) (h1:i<(xs.length:Int)):L2.atI xs i=xs[i.toNat]?:=by
 unfold L2.atI ixN;have e1:i.toNat<xs.length:=by omega
 simp [h0,e1,h1]
def N2:¬ Str.ofString "row" = Str.ofString "block" := by decide
def qbj:¬ Str.ofString "row" = Str.ofString "step" := by decide
def NF:¬ Str.ofString "row" = Str.ofString "cells" := by decide
def SJ:¬ Str.ofString "column" = Str.ofString "block" := by decide
def T5:¬ Str.ofString "column" = Str.ofString "step" := by decide
def S5:¬ Str.ofString "column" = Str.ofString "cells" := by decide
def T1:¬ Str.ofString "slant" = Str.ofString "block" := by decide
def M0:¬ Str.ofString "slant" = Str.ofString "step" := by decide
def T2:¬ Str.ofString "slant" = Str.ofString "cells" := by decide
def MB:¬ Str.ofString "back" = Str.ofString "block" := by decide
def NP:¬ Str.ofString "back" = Str.ofString "step" := by decide
def LD:¬ Str.ofString "back" = Str.ofString "cells" := by decide
def EN:¬ Str.ofString "block" = Str.ofString "cells" := by decide
def WL:¬ Str.ofString "step" = Str.ofString "block" := by decide
def WS:¬ Str.ofString "step" = Str.ofString "cells" := by decide
def cm {i j:Int} (h1:-1000000<j) (h2:j<1000000):JJ i j:=.inr ⟨by omega,by omega⟩
def cm' {i j:Int} (h1:-1000000<i) (h2:i<1000000):JJ i j:=.inl ⟨by omega,by omega⟩
def WZ {stay:Gp->Prop} {g:TG3} {tif:TT3} {te:TE3} {q:Q3} (items:List T) (Pv:Nat->List T->St3->Gp->Prop) {τ:St3} {G:Gp} (h0:Pv 0 [] τ G) (hst:∀ i ys τ G,i<=items.length->Pv i ys τ G->stay G)
  (hs:∀ i x ys τ G (R:List T->St3->Gp->Prop),items[i]?=some x->Pv i ys τ G->(∀ ys' τ' G',Pv (i+1) ys' τ' G'->R ys' τ' G') ->
   g x τ G λτ2 G2=>tif τ2 G2 λk G3=>if k=true then te τ2 G3 λy G4=>ys.length<sizeLine/\R (ys++[y]) τ2 G4 else R ys τ2 G3)
  (hd:∀ ys τ G,Pv items.length ys τ G->∀ p,G p=none->q (.ref p) (gu G p (.lst ys))):TY stay g tif te q items [] τ G:=by
 have key:∀ (r:List T) (i:Nat) ys τ G,items.drop i=r->i<=items.length->Pv i ys τ G->TY stay g tif te q r ys τ G:=by
  intro r;induction r with
  |nil=>
   intro i ys τ G e hi p;have:i=items.length:=by have:=congrArg List.length e;simp at this;omega
   subst this;exact ⟨hst _ ys τ G hi p,hd ys τ G p⟩
  |cons x r ih=>
   intro i ys τ G e hi p;have hl:i<items.length:=by
    apply Classical.byContradiction;intro z;rw [List.drop_eq_nil_of_le (by omega)] at e;cases e
   have e':=List.drop_eq_getElem_cons hl;rw [e] at e';injection e' with e1 e2;exact ⟨hst i ys τ G hi p,hs i x ys τ G _ (by rw [v9 hl,e1]) p λys2 τ2 G2 p2=>ih (i+1) ys2 τ2 G2 e2.symm hl p2⟩
 exact key items 0 [] τ G (by simp) (Nat.zero_le _) h0
theorem qbW {stay:Gp->Prop} {g:TG3} {te:TE3} {q:Q3} {G:Gp} (f:T->T) (Ok:St3->Prop) (hst:stay G):∀ (items ys:List T) (τ:St3),Ok τ ->
  (∀ x∈items,∀ τ,Ok τ->∀ R:St3->T->Gp->Prop,(∀ τ',Ok τ'->R τ' (f x) G)->g x τ G λτ2 G2=>te τ2 G2 λy G4=>R τ2 y G4) ->
  ys.length+items.length<sizeLine->(∀ p,G p=none->q (.ref p) (gu G p (.lst (ys++items.map f))))->TY stay g tt3 te q items ys τ G
 |[],ys,τ,_,_,_,h=>⟨hst,by simpa using h⟩
 |x::r,ys,τ,ok,step,len,h=>by
  refine ⟨hst,?_⟩;have e:(λτ2 G2=>tt3 τ2 G2 λk G3=>if k=true then te τ2 G3 λy G4=>ys.length<sizeLine/\TY stay g tt3 te q r (ys++[y]) τ2 G4 else TY stay g tt3 te q r ys τ2 G3)=(λτ2 G2=>te τ2 G2 λy G4=>ys.length<sizeLine/\TY stay g tt3 te q r (ys++[y]) τ2 G4):=by
   funext τ2 G2;simp [tt3]
  rw [e];rw [length_cons] at len;refine step x za6 τ ok _ λτ' ok'=>⟨by omega,qbW f Ok hst r (ys++[f x]) τ' ok' (λz hz=>step z (u9 _ hz)) (by rw [length_append,List.length_singleton];omega) λp hp=>?_⟩
  simpa using h p hp
def MM {lo:Int} {n i:Nat} {x:T} (h:(qbK lo n)[i]?=some x):i<n/\x=T.int (lo+(i:Int)):=by
 unfold qbK at h;rw [getElem?_map] at h;cases e:(List.range n)[i]? with
 |none=>rw [e] at h;cases h
 |some k=>
  rw [e] at h;obtain ⟨hi,hk⟩:=zb0 e;simp at hi hk;subst hk;exact ⟨hi,by simpa using h.symm⟩
def Z5 (lo:Int) (n:Nat):(qbK lo n).length=n:=by simp [qbK]
end L3
namespace Bk
open PySem L2 L3
def DQ:TS3:=(qB (qZ (QP (λt=>je t "int") (v3 0)) (zY (QP (λt=>je t "bool") (v3 0)))))
def SM (zc4:Sp3):TS3:=(qB (qZ (QP (λt=>je t "tuple") (v3 0)) (qZ (o3 (qY false) (cb3 jP (qc (v3 0) qh)) (c3 (.int 2))) (qZ (cb3 zc4 (qc (o3 ix3 (v3 0) (c3 (.int 0))) qh)) (cb3 zc4 (qc (o3 ix3 (v3 0) (c3 (.int 1))) qh))))))
def R4 (zf3:Sp3):TS3:=(qw (qH (o3 ix3 (v3 0) (c3 (.int 0))) (gn3 1)) (qw (qV (tb3 (o3 (qY false) (v3 1) (c3 (.str "bits")))) (qB (q0 (qc (o3 (iC qcD (λi j=>i*2 ^ j.toNat)) (c3 (.int 1)) (o3 ix3 (v3 0) (c3 (.int 1)))) (qc (o3 (iC qcD (λi j=>i*2 ^ j.toNat)) (c3 (.int 1)) (o3 ix3 (v3 0) (c3 (.int 2)))) (qc (o3 (iC qcD (λi j=>i*2 ^ j.toNat)) (c3 (.int 1)) (cb3 jP (qc (o3 ix3 (v3 0) (c3 (.int 3))) qh))) qh))))) qt) (qw (qV (tb3 (o3 (qY false) (v3 1) (c3 (.str "table")))) (qB (q0 (qc (cb3 jP (qc (o3 ix3 (v3 0) (c3 (.int 2))) qh)) (qc (cb3 jP (qc (o3 ix3 (o3 ix3 (v3 0) (c3 (.int 2))) (c3 (.int 0))) qh)) (qc (o3 ix3 (v3 0) (c3 (.int 1))) qh))))) qt) (qw (qV (tb3 (o3 (qY false) (v3 1) (c3 (.str "joined")))) (qw (qH (cb3 zf3 (qc (o3 ix3 (v3 0) (c3 (.int 1))) qh)) (qM 3 (qk (gn3 2) (qk (gn3 3) (qk (gn3 4) qN))))) (qw (qH (cb3 zf3 (qc (o3 ix3 (v3 0) (c3 (.int 2))) qh)) (qM 3 (qk (gn3 5) (qk (gn3 6) (qk (gn3 7) qN))))) (qB (q0 (qc (o3 (iC JJ (·*·)) (v3 2) (v3 5)) (qc (o3 (iC JJ (·*·)) (v3 3) (v3 6)) (qc (o3 (iC JJ (·*·)) (v3 4) (v3 7)) qh))))))) qt) (qB (q0 (qc (o3 ix3 (v3 0) (c3 (.int 1))) (qc (o3 ix3 (v3 0) (c3 (.int 2))) (qc (o3 ix3 (v3 0) (c3 (.int 3))) qh)))))))))
def EY (zf3:Sp3):TS3:=(qw (qH (cb3 zf3 (qc (v3 0) qh)) (qM 3 (qk (gn3 2) (qk (gn3 3) (qk (gn3 4) qN))))) (qB (o3 zf (o3 (iC JJ (·*·)) (o3 ix3 (v3 1) (c3 (.int 0))) (v3 3)) (o3 ix3 (v3 1) (c3 (.int 1))))))
def SX (zc5:Sp3) (zf3:Sp3):TS3:=(qw (qV (JD (tb3 (cb3 zc5 (qc (v3 1) qh)))) (qB (c3 (.bl false))) qt) (qw (qH (cb3 zf3 (qc (v3 0) qh)) (qM 3 (qk (gn3 2) (qk (gn3 3) (qk (gn3 4) qN))))) (qB (qZ (ch3 (iB λi j=>decide (i<=j)) (iB λi j=>decide (i<j)) (c3 (.int 0)) (o3 ix3 (v3 1) (c3 (.int 0))) (v3 2)) (ch3 (iB λi j=>decide (i<=j)) (iB λi j=>decide (i<j)) (c3 (.int 0)) (o3 ix3 (v3 1) (c3 (.int 1))) (v3 3))))))
def ZN:TS3:=(qw (qH (o3 (iI Builtin.bitAnd) (v3 0) (v3 1)) (gn3 2)) (qw (qH (c3 (.int 0)) (gn3 3)) (qw (K2 (tb3 (o3 (iB λi j=>decide (j<i)) (v3 2) (c3 (.int 0)))) (qw (VX 3 (iI (·+·)) (o3 (iI Builtin.bitAnd) (v3 2) (c3 (.int 1)))) (qH (o3 (iC (λ_ j=>0<=j) (λi j=>i/2 ^ j.toNat)) (v3 2) (c3 (.int 1))) (gn3 2)))) (qB (o3 (qY false) (o3 (iI Builtin.bitAnd) (v3 3) (c3 (.int 1))) (c3 (.int 1)))))))
def DF (zf0:Sp3):TS3:=(qB (cb3 qlh (qc (lc3 (KN (qc (v3 0) qh)) (qM 2 (qk (gn3 0) (qk (gn3 1) qN))) (tb3 (cb3 zf0 (qc (v3 2) (qc (v3 1) qh)))) (o3 (iC qcD (λi j=>i*2 ^ j.toNat)) (c3 (.int 1)) (v3 0)) [none,none,some 1]) qh)))
def MU:TS3:=(qw (qH (v3 0) (qM 2 (qk (gn3 3) (qk (gn3 4) qN)))) (qB (q0 (qc (q0 (qc (o3 (iC qcf (·/·)) (v3 3) (v3 1)) (qc (o3 (iC qcf (·/·)) (v3 4) (v3 2)) qh))) (qc (q0 (qc (o3 (iC (λ_ j=>0<j) (·%·)) (v3 3) (v3 1)) (qc (o3 (iC (λ_ j=>0<j) (·%·)) (v3 4) (v3 2)) qh))) qh)))))
def VH (zf3:Sp3) (zf1:Sp3) (zb7:Sp3):TS3:=(qw (qH (cb3 zf3 (qc (v3 1) qh)) (qM 3 (qk (gn3 3) (qk (gn3 4) (qk (gn3 5) qN))))) (qw (qH (cb3 zf1 (qc (v3 2) (qc (v3 3) (qc (v3 4) qh)))) (qM 2 (qk (gn3 6) (qk (gn3 7) qN)))) (qB (o3 zf (o3 (iC JJ (·*·)) (cb3 zb7 (qc (v3 0) (qc (v3 6) qh))) (v3 5)) (cb3 zb7 (qc (v3 1) (qc (v3 7) qh)))))))
def TV (ze9:Sp3) (zb9:Sp3) (zc8:Sp3):TS3:=(qw (qH (o3 ix3 (v3 0) (c3 (.int 0))) (gn3 2)) (qw (qV (tb3 (o3 (qY false) (v3 2) (c3 (.str "skew")))) (qB (o3 (iC (λ_ j=>0<j) (·%·)) (o3 zf (o3 (iC JJ (·*·)) (o3 ix3 (v3 0) (c3 (.int 4))) (o3 ix3 (v3 1) (c3 (.int 0)))) (o3 (iC JJ (·*·)) (o3 ix3 (v3 0) (c3 (.int 5))) (o3 ix3 (v3 1) (c3 (.int 1))))) (o3 ix3 (v3 0) (c3 (.int 3))))) qt) (qw (qV (tb3 (o3 (qY false) (v3 2) (c3 (.str "rests")))) (qB (o3 (iC (λ_ j=>0<j) (·%·)) (cb3 ze9 (qc (v3 0) (qc (v3 1) qh))) (o3 ix3 (v3 0) (c3 (.int 3))))) qt) (qw (qV (tb3 (o3 (qY false) (v3 2) (c3 (.str "bits")))) (qB (cb3 zb9 (qc (o3 ix3 (v3 0) (c3 (.int 3))) (qc (cb3 ze9 (qc (v3 0) (qc (v3 1) qh))) qh)))) qt) (qw (qV (tb3 (o3 (qY false) (v3 2) (c3 (.str "table")))) (qB (o3 ix3 (o3 ix3 (o3 ix3 (v3 0) (c3 (.int 2))) (o3 ix3 (v3 1) (c3 (.int 0)))) (o3 ix3 (v3 1) (c3 (.int 1))))) qt) (qB (cb3 zc8 (qc (o3 ix3 (v3 0) (c3 (.int 1))) (qc (o3 ix3 (v3 0) (c3 (.int 2))) (qc (v3 1) qh))))))))))
def R5:TS3:=(qw (qH (o3 (iC (λ_ j=>0<j) (·%·)) (o3 (iC JJ (·*·)) (o3 zf (o3 zf (o3 (iC (λ_ j=>0<j) (·%·)) (v3 0) (c3 (.int 2147483629))) (o3 (iC JJ (·*·)) (o3 (iC JJ (·*·)) (v3 1) (v3 1)) (c3 (.int 7919)))) (c3 (.int 11))) (c3 (.int 48271))) (c3 (.int 2147483647))) (gn3 2)) (qB (o3 (iC (λ_ j=>0<j) (·%·)) (o3 (iC JJ (·*·)) (v3 2) (v3 2)) (c3 (.int 1999999973)))))
def W6:TS3:=(qw (qH (if3 (tb3 (o3 (iB λi j=>decide (i<j)) (v3 1) (cb3 jP (qc (v3 0) qh)))) (o3 ix3 (v3 0) (v3 1)) (c3 (.int 0))) (gn3 2)) (qw (qH (if3 (tb3 (o3 (iB λi j=>decide (j<=i)) (cb3 JS (qc (v3 2) qh)) (o3 (iC qcD (λi j=>i ^ j.toNat)) (c3 (.int 10)) (c3 (.int 18))))) (cb3 JS (qc (v3 2) qh)) (c3 (.int 0))) (gn3 3)) (qB (zX (qc (v3 3) (qc (o3 zf (v3 2) (o3 (iC JJ (·*·)) (c3 (.int 1000003)) (v3 1))) (qc (c3 (.int 0)) qh)))))))
def CD (zd7:Sp3):TS3:=(qw (qH (o3 zf (o3 ix3 (v3 0) (c3 (.int 2))) (c3 (.int 1))) (zG (v3 0) (c3 (.int 2)))) (qw (qV (tb3 (o3 (iB λi j=>decide (j<i)) (o3 ix3 (v3 0) (c3 (.int 0))) (c3 (.int 0)))) (qw (qH (o3 (iC (λ_ j=>0<j) (·%·)) (o3 ix3 (v3 0) (c3 (.int 0))) (v3 1)) (gn3 2)) (qw (qH (o3 (iC qcf (·/·)) (o3 ix3 (v3 0) (c3 (.int 0))) (v3 1)) (zG (v3 0) (c3 (.int 0)))) (qB (v3 2)))) qt) (qB (o3 (iC (λ_ j=>0<j) (·%·)) (o3 (iC qcf (·/·)) (cb3 zd7 (qc (cb3 zd7 (qc (o3 ix3 (v3 0) (c3 (.int 1))) (qc (o3 ix3 (v3 0) (c3 (.int 2))) qh))) (qc (o3 zf (o3 ix3 (v3 0) (c3 (.int 2))) (c3 (.int 64))) qh))) (c3 (.int 64))) (v3 1)))))
def DM (zd9:Sp3):TS3:=(qw (qH (o3 ix3 (zX (qc (c3 (.int 6)) (qc (c3 (.int 6)) (qc (c3 (.int 6)) (qc (c3 (.int 16)) qh))))) (cb3 zd9 (qc (v3 0) (qc (c3 (.int 4)) qh)))) (gn3 1)) (qw (j6 2 3 (qc (o3 zf (c3 (.int 1)) (cb3 zd9 (qc (v3 0) (qc (v3 1) qh)))) (qc (o3 zf (c3 (.int 1)) (cb3 zd9 (qc (v3 0) (qc (v3 1) qh)))) qh))) (qB (o3 ix3 (zX (qc (q0 (qc (v3 2) (qc (v3 3) qh))) (qc (q0 (qc (v3 2) (qc (v3 3) qh))) (qc (q0 (qc (v3 2) (qc (v3 3) qh))) (qc (q0 (qc (v3 2) (qc (v3 2) qh))) qh))))) (cb3 zd9 (qc (v3 0) (qc (c3 (.int 4)) qh)))))))
def TW:TS3:=(qw (K2 (tb3 (o3 (iB λi j=>decide (j<i)) (v3 1) (c3 (.int 0)))) (j6 0 1 (qc (v3 1) (qc (o3 (iC (λ_ j=>0<j) (·%·)) (v3 0) (v3 1)) qh)))) (qB (v3 0)))
def XU (ze3:Sp3) (zd9:Sp3):TS3:=(qw (qH (cb3 ze3 (qc (v3 0) qh)) (qM 2 (qk (gn3 1) (qk (gn3 2) qN)))) (qw (qH (o3 zf (c3 (.int 1)) (cb3 zd9 (qc (v3 0) (qc (o3 ix3 (zX (qc (c3 (.int 8)) (qc (c3 (.int 8)) (qc (c3 (.int 17)) (qc (c3 (.int 32)) qh))))) (cb3 zd9 (qc (v3 0) (qc (c3 (.int 4)) qh)))) qh)))) (gn3 3)) (qw (qH (o3 ix3 (zX (qc (v3 3) (qc (c3 (.int 10)) (qc (c3 (.int 100)) qh)))) (cb3 zd9 (qc (v3 0) (qc (c3 (.int 3)) qh)))) (gn3 4)) (qB (q0 (qc (c3 (.str "skew")) (qc (v3 1) (qc (v3 2) (qc (v3 3) (qc (cb3 zd9 (qc (v3 0) (qc (v3 4) qh))) (qc (cb3 zd9 (qc (v3 0) (qc (v3 4) qh))) qh)))))))))))
def DC (ze3:Sp3) (zd9:Sp3) (zd4:Sp3):TS3:=(qw (qH (cb3 ze3 (qc (v3 0) qh)) (qM 2 (qk (gn3 1) (qk (gn3 2) qN)))) (qw (qH (o3 zf (c3 (.int 1)) (cb3 zd9 (qc (v3 0) (qc (o3 ix3 (zX (qc (c3 (.int 8)) (qc (c3 (.int 17)) (qc (c3 (.int 32)) qh)))) (cb3 zd9 (qc (v3 0) (qc (c3 (.int 3)) qh)))) qh)))) (gn3 3)) (qw (qH (o3 zf (u3 ZB (o3 (iC qcf (·/·)) (o3 (iC JJ (·*·)) (u3 ZB (v3 1)) (v3 2)) (v3 3))) (cb3 zd9 (qc (v3 0) (qc (c3 (.int 4)) qh)))) (gn3 4)) (qw (RM (zw (qc (c3 (.int 32)) qh)) (gn3 5) (qV (tb3 (o3 (iB λi j=>decide (j<i)) (cb3 zd4 (qc (v3 3) (qc (v3 4) qh))) (c3 (.int 1)))) (qH (o3 zf (v3 4) (c3 (.int 1))) (gn3 4)) qt)) (qB (q0 (qc (c3 (.str "rests")) (qc (v3 1) (qc (v3 2) (qc (v3 3) (qc (v3 4) qh)))))))))))
def CM (zd9:Sp3):TS3:=(qw (j6 2 3 (qc (cb3 zd9 (qc (v3 0) (qc (o3 zf (v3 1) (c3 (.int 1))) qh))) (qc (cb3 zd9 (qc (v3 0) (qc (o3 zf (v3 1) (c3 (.int 1))) qh))) qh))) (qw (qH (lc3 (zw (qc (cb3 zd9 (qc (v3 0) (qc (c3 (.int 6)) qh))) qh)) (gn3 0) tt3 (cb3 zd9 (qc (v3 1) (qc (c3 (.int 256)) qh))) [none,some 0]) (gn3 4)) (qw (qH (o3 ix3 (zX (qc (c3 (.int 1)) (qc (c3 (.int 2)) (qc (c3 (.int 4)) (qc (c3 (.int 8)) (qc (c3 (.int 16)) (qc (c3 (.int 32)) (qc (c3 (.int 64)) (qc (c3 (.int 128)) (qc (c3 (.int 256)) qh)))))))))) (o3 zf (v3 2) (v3 3))) (gn3 5)) (qB (q0 (qc (c3 (.str "bits")) (qc (v3 2) (qc (v3 3) (qc (cb3 qF (qc (lc3 (JH (v3 4)) (gn3 0) tt3 (o3 (iC (λ_ j=>0<j) (·%·)) (v3 0) (v3 1)) [none,some 5]) qh)) qh)))))))))
def EV (ze3:Sp3) (zd9:Sp3):TS3:=(qw (qH (cb3 ze3 (qc (v3 0) qh)) (qM 2 (qk (gn3 1) (qk (gn3 2) qN)))) (qw (qH (o3 zf (c3 (.int 1)) (cb3 zd9 (qc (v3 0) (qc (o3 ix3 (zX (qc (c3 (.int 4)) (qc (c3 (.int 9)) (qc (c3 (.int 32)) qh)))) (cb3 zd9 (qc (v3 0) (qc (c3 (.int 3)) qh)))) qh)))) (gn3 3)) (qw (qH (lc3 (zw (qc (v3 1) qh)) (gn3 0) tt3 (cb3 qF (qc (lc3 (zw (qc (v3 3) qh)) (gn3 0) tt3 (cb3 zd9 (qc (v3 1) (qc (v3 2) qh))) [none,some 1,some 2]) qh)) [none,some 0,some 3,some 2]) (gn3 4)) (qB (q0 (qc (c3 (.str "table")) (qc (v3 3) (qc (cb3 qF (qc (v3 4) qh)) qh))))))))
def DI (zd9:Sp3) (zd4:Sp3):TS3:=(qw (qH (q0 (qc (o3 zf (c3 (.int 1)) (cb3 zd9 (qc (v3 0) (qc (c3 (.int 4)) qh)))) (qc (o3 zf (c3 (.int 1)) (cb3 zd9 (qc (v3 0) (qc (c3 (.int 4)) qh)))) (qc (o3 zf (c3 (.int 1)) (cb3 zd9 (qc (v3 0) (qc (c3 (.int 5)) qh)))) qh)))) (qM 3 (qk (gn3 1) (qk (gn3 2) (qk (gn3 3) qN))))) (qw (qH (cb3 zd9 (qc (v3 0) (qc (c3 (.int 4)) qh))) (gn3 4)) (qw (qV (tb3 (o3 (qY false) (v3 4) (c3 (.int 0)))) (qB (q0 (qc (c3 (.str "skew")) (qc (v3 1) (qc (v3 2) (qc (v3 3) (qc (cb3 zd9 (qc (v3 0) (qc (v3 3) qh))) (qc (cb3 zd9 (qc (v3 0) (qc (c3 (.int 9)) qh))) qh)))))))) qt) (qw (qV (tb3 (o3 (qY false) (v3 4) (c3 (.int 1)))) (qw (j6 5 6 (qc (cb3 zd9 (qc (v3 0) (qc (c3 (.int 3)) qh))) (qc (cb3 zd9 (qc (v3 0) (qc (c3 (.int 3)) qh))) qh))) (qw (qH (lc3 (zw (qc (cb3 zd9 (qc (v3 0) (qc (c3 (.int 3)) qh))) qh)) (gn3 0) tt3 (cb3 zd9 (qc (v3 1) (qc (c3 (.int 16)) qh))) [none,some 0]) (gn3 7)) (qw (qH (o3 ix3 (zX (qc (c3 (.int 1)) (qc (c3 (.int 2)) (qc (c3 (.int 4)) (qc (c3 (.int 8)) (qc (c3 (.int 16)) qh)))))) (o3 zf (v3 5) (v3 6))) (gn3 8)) (qB (q0 (qc (c3 (.str "bits")) (qc (v3 5) (qc (v3 6) (qc (cb3 qF (qc (lc3 (JH (v3 7)) (gn3 0) tt3 (o3 (iC (λ_ j=>0<j) (·%·)) (v3 0) (v3 1)) [none,some 8]) qh)) qh))))))))) qt) (qw (qV (tb3 (o3 (qY false) (v3 4) (c3 (.int 2)))) (qw (qH (o3 zf (u3 ZB (o3 (iC qcf (·/·)) (o3 (iC JJ (·*·)) (u3 ZB (v3 1)) (v3 2)) (v3 3))) (cb3 zd9 (qc (v3 0) (qc (c3 (.int 3)) qh)))) (gn3 9)) (qw (RM (zw (qc (c3 (.int 9)) qh)) (gn3 10) (qV (tb3 (o3 (iB λi j=>decide (j<i)) (cb3 zd4 (qc (v3 3) (qc (v3 9) qh))) (c3 (.int 1)))) (qH (o3 zf (v3 9) (c3 (.int 1))) (gn3 9)) qt)) (qB (q0 (qc (c3 (.str "rests")) (qc (v3 1) (qc (v3 2) (qc (v3 3) (qc (v3 9) qh))))))))) qt) (qw (qH (lc3 (zw (qc (v3 1) qh)) (gn3 0) tt3 (cb3 qF (qc (lc3 (zw (qc (v3 3) qh)) (gn3 0) tt3 (cb3 zd9 (qc (v3 1) (qc (v3 2) qh))) [none,some 1,some 2]) qh)) [none,some 0,some 3,some 2]) (gn3 11)) (qB (q0 (qc (c3 (.str "table")) (qc (v3 3) (qc (cb3 qF (qc (v3 11) qh)) qh)))))))))))
def VD (zd9:Sp3) (ze5:Sp3) (ze0:Sp3) (zd0:Sp3) (ze7:Sp3) (ze6:Sp3):TS3:=(qw (qH (cb3 zd9 (qc (v3 0) (qc (c3 (.int 8)) qh))) (gn3 1)) (qw (qV (tb3 (o3 (iB λi j=>decide (i<j)) (v3 1) (c3 (.int 2)))) (qB (cb3 ze5 (qc (v3 0) qh))) qt) (qw (qV (tb3 (o3 (qY false) (v3 1) (c3 (.int 2)))) (qB (cb3 ze0 (qc (v3 0) qh))) qt) (qw (qV (tb3 (o3 (qY false) (v3 1) (c3 (.int 3)))) (qB (cb3 zd0 (qc (v3 0) (qc (c3 (.int 4)) qh)))) qt) (qw (qV (tb3 (o3 (qY false) (v3 1) (c3 (.int 4)))) (qB (cb3 ze7 (qc (v3 0) qh))) qt) (qw (qV (tb3 (o3 (qY false) (v3 1) (c3 (.int 5)))) (qw (qH (q0 (qc (c3 (.str "joined")) (qc (q0 (qc (c3 (.str "skew")) (qc (o3 zf (c3 (.int 1)) (cb3 zd9 (qc (v3 0) (qc (c3 (.int 2)) qh)))) (qc (c3 (.int 1)) (qc (c3 (.int 2)) (qc (c3 (.int 1)) (qc (c3 (.int 1)) qh))))))) (qc (q0 (qc (c3 (.str "table")) (qc (c3 (.int 2)) (qc (q0 (qc (q0 (qc (c3 (.int 1)) (qc (c3 (.int 0)) qh))) qh)) qh)))) qh)))) (gn3 2)) (qw (qH (zX (qc (q0 (qc (c3 (.str "joined")) (qc (v3 2) (qc (cb3 ze6 (qc (v3 0) qh)) qh)))) (qc (q0 (qc (c3 (.str "joined")) (qc (cb3 ze6 (qc (v3 0) qh)) (qc (v3 2) qh)))) qh))) (gn3 3)) (qw (zt (bm3 JI (v3 3) (qc (q0 (qc (c3 (.str "joined")) (qc (q0 (qc (c3 (.str "skew")) (qc (c3 (.int 8)) (qc (c3 (.int 1)) (qc (c3 (.int 3)) (qc (c3 (.int 1)) (qc (c3 (.int 1)) qh))))))) (qc (q0 (qc (c3 (.str "rests")) (qc (c3 (.int 2)) (qc (c3 (.int 16)) (qc (c3 (.int 5)) (qc (c3 (.int 7)) qh)))))) qh)))) qh))) (qw (zt (bm3 JI (v3 3) (qc (q0 (qc (c3 (.str "joined")) (qc (q0 (qc (c3 (.str "rests")) (qc (c3 (.int 1)) (qc (c3 (.int 8)) (qc (c3 (.int 3)) (qc (c3 (.int 4)) qh)))))) (qc (q0 (qc (c3 (.str "skew")) (qc (c3 (.int 16)) (qc (c3 (.int 2)) (qc (c3 (.int 5)) (qc (c3 (.int 2)) (qc (c3 (.int 1)) qh))))))) qh)))) qh))) (qB (o3 ix3 (v3 3) (cb3 zd9 (qc (v3 0) (qc (c3 (.int 4)) qh))))))))) qt) (qB (q0 (qc (c3 (.str "joined")) (qc (cb3 ze6 (qc (v3 0) qh)) (qc (cb3 ze6 (qc (v3 0) qh)) qh)))))))))))
def S0:TS3:=(qw (qH (c3 (.bl false)) (gn3 1)) (qw (RM (zw (qc (c3 (.int 9)) qh)) (gn3 2) (qH (o3 (qY true) (v3 1) (o3 (qY false) (o3 (iC (λ_ j=>0<j) (·%·)) (o3 (iC qcf (·/·)) (v3 0) (o3 ix3 (zX (qc (c3 (.int 1)) (qc (c3 (.int 2)) (qc (c3 (.int 4)) (qc (c3 (.int 8)) (qc (c3 (.int 16)) (qc (c3 (.int 32)) (qc (c3 (.int 64)) (qc (c3 (.int 128)) (qc (c3 (.int 256)) qh)))))))))) (v3 2))) (c3 (.int 2))) (c3 (.int 1)))) (gn3 1))) (qB (v3 1))))
def XQ (ze4:Sp3) (zd8:Sp3) (zc9:Sp3):TS3:=(qw (qH (cb3 ze4 (qc (v3 0) qh)) (qM 3 (qk (gn3 3) (qk (gn3 4) (qk (gn3 5) qN))))) (qw (qV (tb3 (o3 (qY false) (o3 ix3 (v3 0) (c3 (.int 0))) (c3 (.str "skew")))) (qB (o3 (iC (λ_ j=>0<j) (·%·)) (o3 zf (o3 (iC JJ (·*·)) (o3 ix3 (v3 0) (c3 (.int 4))) (v3 1)) (o3 (iC JJ (·*·)) (o3 ix3 (v3 0) (c3 (.int 5))) (v3 2))) (v3 5))) qt) (qw (qV (tb3 (o3 (qY false) (o3 ix3 (v3 0) (c3 (.int 0))) (c3 (.str "rests")))) (qB (o3 (iC (λ_ j=>0<j) (·%·)) (o3 zf (o3 (iC JJ (·*·)) (v3 1) (v3 4)) (v3 2)) (v3 5))) qt) (qw (qV (tb3 (o3 (qY false) (o3 ix3 (v3 0) (c3 (.int 0))) (c3 (.str "bits")))) (qw (qH (lc3 (KN (qc (o3 ix3 (v3 0) (c3 (.int 3))) qh)) (qM 2 (qk (gn3 0) (qk (gn3 1) qN))) (tb3 (cb3 zd8 (qc (o3 (iI Builtin.bitAnd) (o3 zf (o3 (iC JJ (·*·)) (v3 3) (v3 4)) (v3 2)) (v3 1)) qh))) (o3 ix3 (zX (qc (c3 (.int 1)) (qc (c3 (.int 2)) (qc (c3 (.int 4)) (qc (c3 (.int 8)) (qc (c3 (.int 16)) qh)))))) (v3 0)) [none,none,some 2,some 1,some 4]) (gn3 6)) (qB (cb3 qlh (qc (v3 6) qh)))) qt) (qw (qV (tb3 (o3 (qY false) (o3 ix3 (v3 0) (c3 (.int 0))) (c3 (.str "table")))) (qB (o3 ix3 (o3 ix3 (o3 ix3 (v3 0) (c3 (.int 2))) (v3 1)) (v3 2))) qt) (qw (qH (cb3 ze4 (qc (o3 ix3 (v3 0) (c3 (.int 2))) qh)) (qM 3 (qk (gn3 7) (qk (gn3 8) (qk (gn3 9) qN))))) (qB (o3 zf (o3 (iC JJ (·*·)) (cb3 zc9 (qc (o3 ix3 (v3 0) (c3 (.int 1))) (qc (o3 (iC qcf (·/·)) (v3 1) (v3 7)) (qc (o3 (iC qcf (·/·)) (v3 2) (v3 8)) qh)))) (v3 9)) (cb3 zc9 (qc (o3 ix3 (v3 0) (c3 (.int 2))) (qc (o3 (iC (λ_ j=>0<j) (·%·)) (v3 1) (v3 7)) (qc (o3 (iC (λ_ j=>0<j) (·%·)) (v3 2) (v3 8)) qh))))))))))))
def K9 (ze2:Sp3):TS3:=(qw (qV (tb3 (QP (λt=>je t "list" || je t "tuple") (v3 1))) (qw (qV (or3 (tb3 (o3 (qY true) (QP (λt=>je t "list") (v3 0)) (QP (λt=>je t "list") (v3 1)))) (tb3 (o3 (qY true) (QP (λt=>je t "tuple") (v3 0)) (QP (λt=>je t "tuple") (v3 1))))) (qB (c3 (.bl false))) qt) (qB (qZ (o3 (qY false) (cb3 jP (qc (v3 0) qh)) (cb3 jP (qc (v3 1) qh))) (cb3 J6 (qc (lc3 (qca (qc (v3 0) (qc (v3 1) qh))) (qM 2 (qk (gn3 0) (qk (gn3 1) qN))) tt3 (cb3 ze2 (qc (v3 0) (qc (v3 1) qh))) [none,none]) qh))))) qt) (qw (qV (or3 (tb3 (o3 (JF false) (v3 1) (c3 .non))) (tb3 (QP (λt=>je t "str" || je t "bool") (v3 1)))) (qB (qZ (o3 (qY false) (v3 0) (v3 1)) (qZ (o3 (qY false) (QP (λt=>je t "bool") (v3 0)) (QP (λt=>je t "bool") (v3 1))) (o3 (qY false) (o3 (JF false) (v3 0) (c3 .non)) (o3 (JF false) (v3 1) (c3 .non)))))) qt) (qB (qZ (QP (λt=>je t "int") (v3 0)) (qZ (zY (QP (λt=>je t "bool") (v3 0))) (o3 (qY false) (v3 0) (v3 1)))))))
inductive Dl where
 |skew (r c b x y:Int)
 |rests (r c b p:Int)
 |bits (h l:Nat) (ms:List Int)
 |table (b:Int) (cells:List (List Int))
 |joined (d e:Dl)
def qbF (r:List Int):T:=.tup (r.map T.int)
def Dl.t:Dl->T
 |.skew r c b x y=>.tup [.str "skew",.int r,.int c,.int b,.int x,.int y]
 |.rests r c b p=>.tup [.str "rests",.int r,.int c,.int b,.int p]
 |.bits h l ms=>.tup [.str "bits",.int h,.int l,.tup (ms.map T.int)]
 |.table b cells=>.tup [.str "table",.int b,.tup (cells.map qbF)]
 |.joined d e=>.tup [.str "joined",d.t,e.t]
def Dl.R:Dl->Int
 |.skew r _ _ _ _=>r
 |.rests r _ _ _=>r
 |.bits h _ _=>2 ^ h
 |.table _ cells=>cells.length
 |.joined d e=>d.R*e.R
def Dl.C:Dl->Int
 |.skew _ c _ _ _=>c
 |.rests _ c _ _=>c
 |.bits _ l _=>2 ^ l
 |.table _ cells=>((cells[0]?).getD []).length
 |.joined d e=>d.C*e.C
def Dl.B:Dl->Int
 |.skew _ _ b _ _=>b
 |.rests _ _ b _=>b
 |.bits _ _ ms=>2 ^ ms.length
 |.table b _=>b
 |.joined d e=>d.B*e.B
def pop:Nat->Nat->Nat
 |0,_=>0
 |k+1,n=>n%2+pop k (n/2)
def qbS (n m:Int):Bool:=pop 64 (Builtin.bitAnd n m).toNat%2==1
def jH (n:Int):Nat->List Int->Int
 |_,[]=>0
 |t,m::ms=>(if qbS n m then 2 ^ t else 0)+jH n (t+1) ms
def j0 (ms:List Int) (n:Int):Int:=jH n 0 ms
def Dl.bank:Dl->Int->Int->Int
 |.skew _ _ b x y,i,j=>(x*i+y*j)%b
 |.rests _ c b _,i,j=>(i*c+j)%b
 |.bits _ l ms,i,j=>j0 ms (i*2 ^ l+j)
 |.table _ cells,i,j=>(((cells[i.toNat]?).getD [])[j.toNat]?).getD 0
 |.joined d e,i,j=>d.bank (i/e.R) (j/e.C)*e.B+e.bank (i%e.R) (j%e.C)
def Dl.Ok:Dl->Prop
 |.skew r c b x y=>1<=r/\r<=60/\1<=c/\c<=60/\1<=b/\b<=1000/\0<=x/\x<=1000/\0<=y/\y<=1000
 |.rests r c b p=>1<=r/\r<=60/\1<=c/\c<=60/\1<=b/\b<=1000/\1<=p/\p<=9999/\Int.gcd b p=1/\r*c<=b*p
 |.bits h l ms=>h<=4/\l<=4/\ms.length<=5/\∀ m∈ms,0<=m/\m<2 ^ (h+l)
 |.table b cells=>1<=b/\b<=1000/\1<=cells.length/\cells.length<=60/\∃ c,1<=c/\c<=60/\∀ row∈cells,row.length=c/\∀ x∈row,0<=x/\x<b
 |.joined d e=>d.Ok/\e.Ok/\d.R*e.R<=4096/\d.C*e.C<=4096/\d.B*e.B<=4096
def Dl.dep:Dl->Nat
 |.joined d e=>max d.dep e.dep+1
 |_=>0
def p2 (n:Nat):((2:Int) ^ n)=((2 ^ n:Nat):Int):=by simp
def WE (n:Nat):(1:Int)<=2 ^ n:=by
 rw [p2];have:=Nat.one_le_two_pow (n:=n);omega
def W0 {n k:Nat} (h:n<=k):(2:Int) ^ n<=2 ^ k:=by
 rw [p2,p2];have:=Nat.pow_le_pow_right (n:=2) (by omega) h;omega
structure Lims (d:Dl):Prop where
 r1:1<=d.R
 r2:d.R<=4096
 c1:1<=d.C
 c2:d.C<=4096
 b1:1<=d.B
 b2:d.B<=4096
def UZ {a b:Int} (h1:1<=a) (h2:1<=b):1<=a*b:=by
 have:=Int.mul_le_mul (a:=1) (b:=1) (c:=a) (d:=b) h1 h2 (by omega) (by omega);omega
theorem Dl.lims:∀ {d:Dl},d.Ok->Lims d
 |.skew r c b x y,⟨h1,h2,h3,h4,h5,h6,_⟩=>⟨h1,by simp [Dl.R];omega,h3,by simp [Dl.C];omega,h5,by simp [Dl.B];omega⟩
 |.rests r c b x,⟨h1,h2,h3,h4,h5,h6,_⟩=>⟨h1,by simp [Dl.R];omega,h3,by simp [Dl.C];omega,h5,by simp [Dl.B];omega⟩
 |.bits h l ms,⟨h1,h2,h3,_⟩=>by
  have e1:=W0 h1;have e2:=W0 h2;have e3:=W0 h3;refine ⟨WE _,?_,WE _,?_,WE _,?_⟩<;>simp [Dl.R,Dl.C,Dl.B]<;>omega
 |.table b cells,⟨h1,h2,h3,h4,c,h5,h6,h7⟩=>by
  have e0:cells[0]?=some cells[0]:=v9 (by omega);have e1:=(h7 cells[0] (za7 _)).1;have e2:(Dl.table b cells).C=c:=by simp [Dl.C,e0,e1]
  exact ⟨by simp [Dl.R];omega,by simp [Dl.R];omega,by rw [e2];omega,by rw [e2];omega,h1,by simp [Dl.B];omega⟩
 |.joined d e,⟨h1,h2,h3,h4,h5⟩=>by
  have a:=Dl.lims h1;have b:=Dl.lims h2;exact ⟨UZ a.r1 b.r1,h3,UZ a.c1 b.c1,h4,UZ a.b1 b.b1,h5⟩
structure Inn (d:Dl) (i j:Int):Prop where
 i1:0<=i
 i2:i<d.R
 j1:0<=j
 j2:j<d.C
def RE (d:Dl):T:=.tup [.int d.R,.int d.C,.int d.B]
def wdT (i j:Int):T:=.tup [.int i,.int j]
def zK:Nat->Sp3
 |0=>CF
 |n+1=>λts G q=>∃ d:Dl,ts=[d.t]/\d.dep<=n/\d.Ok/\q (RE d) G
def C7 (n:Nat):Sp3:=λts G q=>∃ (d:Dl) (i j:Int),ts=[d.t,wdT i j]/\d.dep<=n/\d.Ok/\q (.int (i*d.C+j)) G
def VS:Sp3:=λts G q=>∃ (n m:Int),ts=[.int n,.int m]/\0<=n/\0<=m/\m<2 ^ 64/\q (.bl (qbS n m)) G
def CZ:Sp3:=λts G q=>∃ (ms:List Int) (n:Int),ts=[.tup (ms.map T.int),.int n]/\ms.length<=30/\(∀ m∈ms,0<=m/\m<2 ^ 64)/\0<=n/\∀ G',Ex G G'->q (.int (j0 ms n)) G'
def YN:Nat->Sp3
 |0=>CF
 |n+1=>λts G q=>∃ (d:Dl) (i j:Int),ts=[d.t,wdT i j]/\d.dep<=n/\d.Ok/\Inn d i j/\∀ G',Ex G G'->q (.int (d.bank i j)) G'
def NN:Sp3:=λts G q=>∃ (i j r c:Int),ts=[wdT i j,.int r,.int c]/\(0<r/\r<1000000)/\(0<c/\c<1000000)/\q (.tup [wdT (i/r) (j/c),wdT (i%r) (j%c)]) G
def EL (n:Nat):Sp3:=λts G q=>∃ (d e:Dl) (i j:Int),ts=[d.t,e.t,wdT i j]/\(Dl.joined d e).dep<=n/\(Dl.joined d e).Ok/\Inn (.joined d e) i j/\∀ G',Ex G G'->q (.int ((Dl.joined d e).bank i j)) G'
def qcB (n:Nat):Sp3:=λts G q=>∃ (d:Dl) (i j:Int),ts=[d.t,wdT i j]/\d.dep<=n/\d.Ok/\Inn d i j/\∀ G',Ex G G'->q (.int (d.bank i j)) G'
abbrev RT (q:Q3):Ends3:={ nx:=λ_ G'=>q .non G',rt:=q }
def qqC {j:Nat} (h:j<=1000):qcD 1 (j:Int):=⟨by omega,by omega,by decide⟩
def zE {A B:TS3} {d:Ends3} {τ:St3} {G:Gp} (h:∀ nx,nx=B d->A { d with nx:=nx } τ G):qw A B d τ G:=h _ rfl
def zO {s l:Str} {i:Nat} {R S:TS3} {d:Ends3} {τ:St3} {G:Gp} (hτ:τ[i]?=some (some (T.str s))):qw (qV (tb3 (o3 (qY false) (v3 i) (c3 (.str l)))) R qt) S d τ G=(if s=l then R { d with nx:=S d } τ G else S d τ G):=by
 simp only [qw,qV,tb3,o3,v3,hτ,c3,qY,qS,qt];by_cases e:s=l<;>simp [e]
def W5 (n:Nat):∀ ts G q,zK (n+1) ts G q->ts.length=1/\R4 (zK n) (RT q) (qm ["dealing","kind","rows","columns","banks","other_rows","other_columns","other_banks"] ts) G:=by
 rintro ts G q ⟨d,rfl,hd,ok,h⟩;refine ⟨rfl,?_⟩;unfold R4;refine zE λnx q1=>?_;cases d with
 |skew r c b x y=>
  show nx [some (Dl.skew r c b x y).t,some (.str "skew"),none,none,none,none,none,none] G;rw [q1,zO rfl,if_neg (by decide),zO rfl,if_neg (by decide),zO rfl,if_neg (by decide)];simp [Dl.t,qw,qH,gn3,qB,jy,qV,zt,V1,qt,v3,c3,o3,u3,ZB,L3.ixT,L3.ixR,zf,iI,iC,iB,qY,qS,JF,tb3,ED,or3,JD,qZ,EF,zY,if3,ch3,cb3,qc,qh,QP,tyT,je,q0,zX,J3,np3,sp3,qM,qk,qN,zG,JG,j6,qm,bm3,JI,YI,jP,JS,VQ,VR,JT,qF,zS,J6,EB,VX,L2.atI,ixN,ZE,HT.sIx,getL,in3,zx,eqF,gu,v8,x8,x6];exact h
 |rests r c b x=>
  show nx [some (Dl.rests r c b x).t,some (.str "rests"),none,none,none,none,none,none] G;rw [q1,zO rfl,if_neg (by decide),zO rfl,if_neg (by decide),zO rfl,if_neg (by decide)];simp [Dl.t,qw,qH,gn3,qB,jy,qV,zt,V1,qt,v3,c3,o3,u3,ZB,L3.ixT,L3.ixR,zf,iI,iC,iB,qY,qS,JF,tb3,ED,or3,JD,qZ,EF,zY,if3,ch3,cb3,qc,qh,QP,tyT,je,q0,zX,J3,np3,sp3,qM,qk,qN,zG,JG,j6,qm,bm3,JI,YI,jP,JS,VQ,VR,JT,qF,zS,J6,EB,VX,L2.atI,ixN,ZE,HT.sIx,getL,in3,zx,eqF,gu,v8,x8,x6];exact h
 |bits hh l ms=>
  obtain ⟨k1,k2,k3,_⟩:=ok;show nx [some (Dl.bits hh l ms).t,some (.str "bits"),none,none,none,none,none,none] G;rw [q1,zO rfl,if_pos rfl];simp [Dl.t,qw,qH,gn3,qB,jy,qV,zt,V1,qt,v3,c3,o3,u3,ZB,L3.ixT,L3.ixR,zf,iI,iC,iB,qY,qS,JF,tb3,ED,or3,JD,qZ,EF,zY,if3,ch3,cb3,qc,qh,QP,tyT,je,q0,zX,J3,np3,sp3,qM,qk,qN,zG,JG,j6,qm,bm3,JI,YI,jP,JS,VQ,VR,JT,qF,zS,J6,EB,VX,L2.atI,ixN,ZE,HT.sIx,getL,in3,zx,eqF,gu,v8,x8,x6];exact ⟨qqC (by omega),qqC (by omega),qqC (by omega),h⟩
 |table b cells=>
  have L:=Dl.lims ok;obtain ⟨k1,k2,k3,k4,c,k5,k6,k7⟩:=ok;cases cells with
  |nil=>simp at k3
  |cons row cells=>
   show nx [some (Dl.table b (row::cells)).t,some (.str "table"),none,none,none,none,none,none] G;rw [q1,zO rfl,if_neg (by decide),zO rfl,if_pos rfl];simp [Dl.t,qbF,qw,qH,gn3,qB,jy,qV,zt,V1,qt,v3,c3,o3,u3,ZB,L3.ixT,L3.ixR,zf,iI,iC,iB,qY,qS,JF,tb3,ED,or3,JD,qZ,EF,zY,if3,ch3,cb3,qc,qh,QP,tyT,je,q0,zX,J3,np3,sp3,qM,qk,qN,zG,JG,j6,qm,bm3,JI,YI,jP,JS,VQ,VR,JT,qF,zS,J6,EB,VX,L2.atI,ixN,ZE,HT.sIx,getL,in3,zx,eqF,gu,v8,x8,x6];simpa [RE,Dl.R,Dl.C,Dl.B] using h
 |joined d e=>
  have Ld:=Dl.lims ok.1;have Le:=Dl.lims ok.2.1;have:1<=n:=by simp [Dl.dep] at hd;omega
  obtain ⟨m,rfl⟩:∃ m,n=m+1:=⟨n-1,by omega⟩
  show nx [some (Dl.joined d e).t,some (.str "joined"),none,none,none,none,none,none] G;rw [q1,zO rfl,if_neg (by decide),zO rfl,if_neg (by decide),zO rfl,if_pos rfl];simp [Dl.t,qw,qH,gn3,qB,jy,qV,zt,V1,qt,v3,c3,o3,u3,ZB,L3.ixT,L3.ixR,zf,iI,iC,iB,qY,qS,JF,tb3,ED,or3,JD,qZ,EF,zY,if3,ch3,cb3,qc,qh,QP,tyT,je,q0,zX,J3,np3,sp3,qM,qk,qN,zG,JG,j6,qm,bm3,JI,YI,jP,JS,VQ,VR,JT,qF,zS,J6,EB,VX,L2.atI,ixN,ZE,HT.sIx,getL,in3,zx,eqF,gu,v8,x8,x6];refine ⟨d,rfl,by simp [Dl.dep] at hd;omega,ok.1,?_⟩;simp [RE];refine ⟨e,rfl,by simp [Dl.dep] at hd;omega,ok.2.1,?_⟩;have e1:=Le.r1;have e2:=Le.r2;have e3:=Le.c1;have e4:=Le.c2;have e5:=Le.b1;have e6:=Le.b2;simp [RE];exact ⟨cm (by omega) (by omega),cm (by omega) (by omega),cm (by omega) (by omega),h⟩
theorem RZ:∀ k,pop k 0=0
 |0=>rfl
 |k+1=>by simp [pop,RZ k]
theorem RU:∀ (k n:Nat),n<2 ^ k->pop (k+1) n=pop k n
 |0,n,h=>by simp at h;subst h;simp [pop]
 |k+1,n,h=>by
  rw [pop,RU k (n/2) (by rw [Nat.pow_succ] at h;omega)];rfl
def V5 (n:Nat):∀ ts G q,C7 n ts G q->ts.length=2/\EY (zK (n+1)) (RT q) (qm ["dealing","word","rows","columns","banks"] ts) G:=by
 rintro ts G q ⟨d,i,j,rfl,hd,ok,h⟩;refine ⟨rfl,?_⟩;have L:=Dl.lims ok;simp [EY,qw,qH,gn3,qB,jy,qV,zt,V1,qt,v3,c3,o3,u3,ZB,L3.ixT,L3.ixR,zf,iI,iC,iB,qY,qS,JF,tb3,ED,or3,JD,qZ,EF,zY,if3,ch3,cb3,qc,qh,QP,tyT,je,q0,zX,J3,np3,sp3,qM,qk,qN,zG,JG,j6,qm,bm3,JI,YI,jP,JS,VQ,VR,JT,qF,zS,J6,EB,VX,L2.atI,ixN,ZE,HT.sIx,getL,in3,zx,eqF,gu,v8,x8,x6];refine ⟨d,rfl,hd,ok,?_⟩;simp [RE,wdT,qw,qH,gn3,qB,jy,qV,zt,V1,qt,v3,c3,o3,u3,ZB,L3.ixT,L3.ixR,zf,iI,iC,iB,qY,qS,JF,tb3,ED,or3,JD,qZ,EF,zY,if3,ch3,cb3,qc,qh,QP,tyT,je,q0,zX,J3,np3,sp3,qM,qk,qN,zG,JG,j6,qm,bm3,JI,YI,jP,JS,VQ,VR,JT,qF,zS,J6,EB,VX,L2.atI,ixN,ZE,HT.sIx,getL,in3,zx,eqF,gu,v8,x8,x6];exact ⟨cm (by have:=L.c1;omega) (by have:=L.c2;omega),h⟩
def RI:∀ ts G q,VS ts G q->ts.length=2/\ZN (RT q) (qm ["number","mask","common","many"] ts) G:=by
 rintro ts G q ⟨n,m,rfl,hn,hm,hm2,h⟩;refine ⟨rfl,?_⟩;have hr:=PyProof.Rows.bitAnd_range n hm;simp [ZN,qw,qH,gn3,qB,jy,qV,zt,V1,qt,v3,c3,o3,u3,ZB,L3.ixT,L3.ixR,zf,iI,iC,iB,qY,qS,JF,tb3,ED,or3,JD,qZ,EF,zY,if3,ch3,cb3,qc,qh,QP,tyT,je,q0,zX,J3,np3,sp3,qM,qk,qN,zG,JG,j6,qm,bm3,JI,YI,jP,JS,VQ,VR,JT,qF,zS,J6,EB,VX,L2.atI,ixN,ZE,HT.sIx,getL,in3,zx,eqF,gu,v8,x8,x6,K2];refine ⟨λk τ G'=>G'=G/\∃ c y:Nat,τ=[some (.int n),some (.int m),some (.int (c:Int)),some (.int (y:Int))]/\c<2 ^ k/\y+pop k c=pop 64 (Builtin.bitAnd n m).toNat,
  ⟨64,rfl,(Builtin.bitAnd n m).toNat,0,by simp;omega,by omega,by simp⟩,?_⟩
 rintro k τ G' ⟨rfl,c,y,rfl,hc,e⟩;simp [PyProof.Rows.bitAnd_m1];by_cases h0:0<c
 ·have hk:1<=k:=by
   rcases Nat.eq_zero_or_pos k with z|z
   ·subst z;simp at hc;omega
   ·exact z
  obtain ⟨k',rfl⟩:∃ k',k=k'+1:=⟨k-1,by omega⟩
  simp [h0];refine ⟨λτ' G''=>G''=G'/\∃ c y:Nat,τ'=[some (.int n),some (.int m),some (.int (c:Int)),some (.int (y:Int))]/\c<2 ^ k'/\y+pop k' c=pop 64 (Builtin.bitAnd n m).toNat,?_,rfl,c/2,y+c%2,?_,?_,?_⟩
  ·rintro τ' G'' ⟨e1,c',y',e2,e3,e4⟩;exact ⟨k',by omega,e1,c',y',e2,e3,e4⟩
  ·simp
  ·rw [Nat.pow_succ] at hc;omega
  ·rw [pop] at e;omega
 ·have hc0:c=0:=by omega
  subst hc0;simp;rw [RZ] at e;have e':(qbS n m)=decide ((y:Int)%2=1):=by
   unfold qbS;rw [← e,Nat.add_zero];by_cases hy:y%2=1
   ·have:(y:Int)%2=1:=by omega
    simp [hy,this]
   ·have:¬ (y:Int)%2=1:=by omega
    simp [hy,this]
  rw [← e'];exact h
def zN (n:Int):Nat->List Int->List Int
 |_,[]=>[]
 |t,m::ms=>(if qbS n m then [2 ^ t] else [])++zN n (t+1) ms
theorem VG (n:Int):∀ (t:Nat) (xs ys:List Int),zN n t (xs++ys)=zN n t xs++zN n (t+xs.length) ys
 |_,[],_=>by simp [zN]
 |t,x::xs,ys=>by simp [zN,VG n (t+1) xs ys,Nat.add_assoc,Nat.add_comm 1]
theorem U0 (n:Int):∀ (t:Nat) (ms:List Int),(zN n t ms).sum=jH n t ms
 |_,[]=>rfl
 |t,m::ms=>by
  simp only [zN,jH,List.sum_append,U0 n (t+1) ms];split<;>simp
theorem ZG (n:Int):∀ (t:Nat) (ms:List Int),(zN n t ms).length<=ms.length
 |_,[]=>by simp [zN]
 |t,m::ms=>by
  have:=ZG n (t+1) ms;simp only [zN,length_append,length_cons];split<;>simp<;>omega
theorem UW (n:Int):∀ (t:Nat) (ms:List Int) (x:Int),x∈zN n t ms->∃ k,k<t+ms.length/\x=2 ^ k
 |_,[],_,h=>by simp [zN] at h
 |t,m::ms,x,h=>by
  simp only [zN,List.mem_append] at h;rcases h with h|h
  ·split at h
   ·simp at h;exact ⟨t,by simp,h⟩
   ·simp at h
  ·obtain ⟨k,h1,h2⟩:=UW n (t+1) ms x h;exact ⟨k,by simp;omega,h2⟩
def M6:∀ ts G q,CZ ts G q->ts.length=2/\DF VS (RT q) (qm ["masks","number"] ts) G:=by
 rintro ts G q ⟨ms,n,rfl,hl,hm,hn,h⟩;refine ⟨rfl,?_⟩;simp [DF,lc3,KN,jR,cap,qw,qH,gn3,qB,jy,qV,zt,V1,qt,v3,c3,o3,u3,ZB,L3.ixT,L3.ixR,zf,iI,iC,iB,qY,qS,JF,tb3,ED,or3,JD,qZ,EF,zY,if3,ch3,cb3,qc,qh,QP,tyT,je,q0,zX,J3,np3,sp3,qM,qk,qN,zG,JG,j6,qm,bm3,JI,YI,jP,JS,VQ,VR,JT,qF,zS,J6,EB,VX,L2.atI,ixN,ZE,HT.sIx,getL,in3,zx,eqF,gu,v8,x8,x6];refine WZ _ (λi ys τ G'=>G'=G/\ys=(zN n 0 (ms.take i)).map T.int/\∃ x0 x1,τ=[x0,x1,some (.int n)]) ⟨rfl,by simp [zN],none,none,rfl⟩ (λi ys τ G' _ hp=>by simp [jR]) ?_ ?_
 ·rintro i z ys τ G' R hz ⟨rfl,rfl,x0,x1,rfl⟩ hR;obtain ⟨a,ha,rfl⟩:=WG hz;rw [getElem?_map] at ha;cases e:ms[i]? with
  |none=>rw [e] at ha;cases ha
  |some m=>
   rw [e] at ha;have:a=T.int m:=by simpa using ha.symm
   subst this;obtain ⟨hi,hm'⟩:=zb0 e;have mm:m∈ms:=by rw [← hm'];exact za7 hi
   simp [qw,qH,gn3,qB,jy,qV,zt,V1,qt,v3,c3,o3,u3,ZB,L3.ixT,L3.ixR,zf,iI,iC,iB,qY,qS,JF,tb3,ED,or3,JD,qZ,EF,zY,if3,ch3,cb3,qc,qh,QP,tyT,je,q0,zX,J3,np3,sp3,qM,qk,qN,zG,JG,j6,qm,bm3,JI,YI,jP,JS,VQ,VR,JT,qF,zS,J6,EB,VX,L2.atI,ixN,ZE,HT.sIx,getL,in3,zx,eqF,gu,v8,x8,x6];refine ⟨n,m,rfl,hn,(hm m mm).1,(hm m mm).2,?_⟩;have tk:ms.take (i+1)=ms.take i++[m]:=by rw [List.take_succ_eq_append_getElem hi,hm']
   have lt:(ms.take i).length=i:=by rw [List.length_take];omega
   have st:zN n 0 (ms.take (i+1))=zN n 0 (ms.take i)++(if qbS n m then [2 ^ i] else []):=by
    rw [tk,VG,lt];simp [zN]
   have cl:=ZG n 0 (ms.take i);cases ho:qbS n m with
   |true=>
    simp;refine ⟨qqC (by omega),by omega,hR _ _ _ ⟨rfl,?_,_,_,rfl⟩⟩;rw [st,ho];simp
   |false=>
    simp;refine hR _ _ _ ⟨rfl,?_,_,_,rfl⟩;rw [st,ho];simp
 ·rintro ys τ G' ⟨rfl,rfl,x0,x1,rfl⟩ p hp;rw [R8,length_map,List.take_length];simp [qlh,getL,qx,YG];refine ⟨⟨by have:=ZG n 0 ms;omega,λx hx=>?_⟩,?_⟩
  ·obtain ⟨k,h1,rfl⟩:=UW n 0 ms x hx;have:=WE k;have:=W0 (n:=k) (k:=30) (by omega);omega
  ·rw [U0];exact h _ (QB hp)
def qbJ {h l:Nat} {i j:Int} (i1:0<=i) (j1:0<=j):0<=i*2 ^ l+j:=by
 have:=Int.mul_nonneg i1 (show (0:Int)<=2 ^ l by have:=WE l;omega);omega
def XM (n:Nat):∀ ts G q,YN (n+1) ts G q->ts.length=2/\TV (C7 n) CZ (EL n) (RT q) (qm ["dealing","word","kind"] ts) G:=by
 rintro ts G q ⟨d,i,j,rfl,hd,ok,I,h⟩;refine ⟨rfl,?_⟩;unfold TV;refine zE λnx q1=>?_;have h:=h;have i1:=I.i1;have i2:=I.i2;have j1:=I.j1;have j2:=I.j2;have L:=Dl.lims ok;have r2:=L.r2;have c2:=L.c2;cases d with
 |skew r c b x y=>
  have k:=ok;obtain ⟨k1,k2,k3,k4,k5,k6,k7,k8,k9,k10⟩:=ok;show nx [some (Dl.skew r c b x y).t,some (wdT i j),some (.str "skew")] G;rw [q1,zO rfl,if_pos rfl];simp [Dl.t,wdT,qw,qH,gn3,qB,jy,qV,zt,V1,qt,v3,c3,o3,u3,ZB,L3.ixT,L3.ixR,zf,iI,iC,iB,qY,qS,JF,tb3,ED,or3,JD,qZ,EF,zY,if3,ch3,cb3,qc,qh,QP,tyT,je,q0,zX,J3,np3,sp3,qM,qk,qN,zG,JG,j6,qm,bm3,JI,YI,jP,JS,VQ,VR,JT,qF,zS,J6,EB,VX,L2.atI,ixN,ZE,HT.sIx,getL,in3,zx,eqF,gu,v8,x8,x6];exact ⟨cm' (by omega) (by omega),cm' (by omega) (by omega),by omega,h _ Ex.refl⟩
 |rests r c b x=>
  have k:=ok;obtain ⟨k1,k2,k3,k4,k5,k6,k7,k8,k9⟩:=ok;show nx [some (Dl.rests r c b x).t,some (wdT i j),some (.str "rests")] G;rw [q1,zO rfl,if_neg (by decide),zO rfl,if_pos rfl];simp [Dl.t,wdT,qw,qH,gn3,qB,jy,qV,zt,V1,qt,v3,c3,o3,u3,ZB,L3.ixT,L3.ixR,zf,iI,iC,iB,qY,qS,JF,tb3,ED,or3,JD,qZ,EF,zY,if3,ch3,cb3,qc,qh,QP,tyT,je,q0,zX,J3,np3,sp3,qM,qk,qN,zG,JG,j6,qm,bm3,JI,YI,jP,JS,VQ,VR,JT,qF,zS,J6,EB,VX,L2.atI,ixN,ZE,HT.sIx,getL,in3,zx,eqF,gu,v8,x8,x6];refine ⟨.rests r c b x,i,j,rfl,hd,k,?_⟩;simp;exact ⟨by omega,h _ Ex.refl⟩
 |bits hh l ms=>
  have k:=ok;obtain ⟨k1,k2,k3,k4⟩:=ok;show nx [some (Dl.bits hh l ms).t,some (wdT i j),some (.str "bits")] G;rw [q1,zO rfl,if_neg (by decide),zO rfl,if_neg (by decide),zO rfl,if_pos rfl];simp [Dl.t,wdT,qw,qH,gn3,qB,jy,qV,zt,V1,qt,v3,c3,o3,u3,ZB,L3.ixT,L3.ixR,zf,iI,iC,iB,qY,qS,JF,tb3,ED,or3,JD,qZ,EF,zY,if3,ch3,cb3,qc,qh,QP,tyT,je,q0,zX,J3,np3,sp3,qM,qk,qN,zG,JG,j6,qm,bm3,JI,YI,jP,JS,VQ,VR,JT,qF,zS,J6,EB,VX,L2.atI,ixN,ZE,HT.sIx,getL,in3,zx,eqF,gu,v8,x8,x6];refine ⟨.bits hh l ms,i,j,rfl,hd,k,?_⟩;refine ⟨ms,_,rfl,by omega,λm hm=>⟨(k4 m hm).1,?_⟩,qbJ (h:=hh) i1 j1,λG' E=>h G' E⟩;have:=(k4 m hm).2;have:=W0 (n:=hh+l) (k:=10) (by omega);omega
 |table b cells=>
  obtain ⟨k1,k2,k3,k4,c,k5,k6,k7⟩:=ok;have e0:cells[0]?=some cells[0]:=v9 (by omega);have eC:(Dl.table b cells).C=c:=by simp [Dl.C,e0,(k7 cells[0] (za7 _)).1]
  have eR:(Dl.table b cells).R=cells.length:=rfl;rw [eR] at i2;rw [eC] at j2;have hi:i.toNat<cells.length:=by omega
  have hrow:=k7 cells[i.toNat] (za7 hi);have hj:j.toNat<cells[i.toNat].length:=by rw [hrow.1];omega
  show nx [some (Dl.table b cells).t,some (wdT i j),some (.str "table")] G;rw [q1,zO rfl,if_neg (by decide),zO rfl,if_neg (by decide),zO rfl,if_neg (by decide),zO rfl,if_pos rfl];simp [Dl.t,wdT,qw,qH,gn3,qB,jy,qV,zt,V1,qt,v3,c3,o3,u3,ZB,L3.ixT,L3.ixR,zf,iI,iC,iB,qY,qS,JF,tb3,ED,or3,JD,qZ,EF,zY,if3,ch3,cb3,qc,qh,QP,tyT,je,q0,zX,J3,np3,sp3,qM,qk,qN,zG,JG,j6,qm,bm3,JI,YI,jP,JS,VQ,VR,JT,qF,zS,J6,EB,VX,ZE,HT.sIx,getL,in3,zx,eqF,gu,v8,x8,x6,jG (xs:=[T.str (Str.ofString "table"),.int b,.tup (cells.map qbF)]) (i:=2) (by omega) (by simp),jG (xs:=[T.str (Str.ofString "table"),.int b,.tup (cells.map qbF)]) (i:=0) (by omega) (by simp),jG (xs:=[T.int i,.int j]) (i:=0) (by omega) (by simp),jG (xs:=[T.int i,.int j]) (i:=1) (by omega) (by simp)];rw [jG i1 (by simpa using i2)];simp [hi,qbF,L3.ixT];rw [jG j1 (by simp;omega)];simp [hj];have:=h G Ex.refl;simpa [Dl.bank,hi,hj] using this
 |joined d e=>
  show nx [some (Dl.joined d e).t,some (wdT i j),some (.str "joined")] G;rw [q1,zO rfl,if_neg (by decide),zO rfl,if_neg (by decide),zO rfl,if_neg (by decide),zO rfl,if_neg (by decide)];simp [Dl.t,wdT,qw,qH,gn3,qB,jy,qV,zt,V1,qt,v3,c3,o3,u3,ZB,L3.ixT,L3.ixR,zf,iI,iC,iB,qY,qS,JF,tb3,ED,or3,JD,qZ,EF,zY,if3,ch3,cb3,qc,qh,QP,tyT,je,q0,zX,J3,np3,sp3,qM,qk,qN,zG,JG,j6,qm,bm3,JI,YI,jP,JS,VQ,VR,JT,qF,zS,J6,EB,VX,L2.atI,ixN,ZE,HT.sIx,getL,in3,zx,eqF,gu,v8,x8,x6];exact ⟨d,e,i,j,rfl,hd,ok,I,h⟩
def qhO {i a b:Int} (h0:0<=i) (h1:i<a*b) (hb:1<=b):0<=i/b/\i/b<a/\0<=i%b/\i%b<b:=
 ⟨Int.ediv_nonneg h0 (by omega),Int.ediv_lt_of_lt_mul (by omega) h1,Int.emod_nonneg _ (by omega),Int.emod_lt_of_pos _ (by omega)⟩
def Inn.up {d e:Dl} {i j:Int} (I:Inn (.joined d e) i j) (Le:Lims e):Inn d (i/e.R) (j/e.C)/\Inn e (i%e.R) (j%e.C):=by
 obtain ⟨i1,i2,j1,j2⟩:=I;obtain ⟨a1,a2,a3,a4⟩:=qhO i1 i2 Le.r1;obtain ⟨b1,b2,b3,b4⟩:=qhO j1 j2 Le.c1;exact ⟨⟨a1,a2,b1,b2⟩,⟨a3,a4,b3,b4⟩⟩
def qeP:∀ ts G q,NN ts G q->ts.length=3/\MU (RT q) (qm ["word","rows","columns","i","j"] ts) G:=by
 rintro ts G q ⟨i,j,r,c,rfl,hr,hc,h⟩;refine ⟨rfl,?_⟩;simp [MU,wdT,qw,qH,gn3,qB,jy,qV,zt,V1,qt,v3,c3,o3,u3,ZB,L3.ixT,L3.ixR,zf,iI,iC,iB,qY,qS,JF,tb3,ED,or3,JD,qZ,EF,zY,if3,ch3,cb3,qc,qh,QP,tyT,je,q0,zX,J3,np3,sp3,qM,qk,qN,zG,JG,j6,qm,bm3,JI,YI,jP,JS,VQ,VR,JT,qF,zS,J6,EB,VX,L2.atI,ixN,ZE,HT.sIx,getL,in3,zx,eqF,gu,v8,x8,x6];exact ⟨⟨by omega,by omega⟩,⟨by omega,by omega⟩,by omega,by omega,h⟩
def J2 (n:Nat):∀ ts G q,EL n ts G q->ts.length=3/\VH (zK (n+1)) NN (YN n) (RT q) (qm ["one","other","word","rows","columns","banks","upper","lower"] ts) G:=by
 rintro ts G q ⟨d,e,i,j,rfl,hd,ok,I,h⟩;refine ⟨rfl,?_⟩;obtain ⟨kd,ke,kr,kc,kb⟩:=ok;have Le:=Dl.lims ke;obtain ⟨I1,I2⟩:=I.up Le;have:1<=n:=by simp [Dl.dep] at hd;omega
 obtain ⟨m,rfl⟩:∃ m,n=m+1:=⟨n-1,by omega⟩
 have r1:=Le.r1;have r2:=Le.r2;have c1:=Le.c1;have c2:=Le.c2;have b1:=Le.b1;have b2:=Le.b2;simp [VH,qw,qH,gn3,qB,jy,qV,zt,V1,qt,v3,c3,o3,u3,ZB,L3.ixT,L3.ixR,zf,iI,iC,iB,qY,qS,JF,tb3,ED,or3,JD,qZ,EF,zY,if3,ch3,cb3,qc,qh,QP,tyT,je,q0,zX,J3,np3,sp3,qM,qk,qN,zG,JG,j6,qm,bm3,JI,YI,jP,JS,VQ,VR,JT,qF,zS,J6,EB,VX,L2.atI,ixN,ZE,HT.sIx,getL,in3,zx,eqF,gu,v8,x8,x6];refine ⟨e,rfl,by simp [Dl.dep] at hd;omega,ke,?_⟩;simp [RE];refine ⟨i,j,_,_,rfl,⟨by omega,by omega⟩,⟨by omega,by omega⟩,?_⟩;simp;refine ⟨d,_,_,rfl,by simp [Dl.dep] at hd;omega,kd,I1,λG1 E1=>?_⟩;simp;refine ⟨cm (by omega) (by omega),e,_,_,rfl,by simp [Dl.dep] at hd;omega,ke,I2,λG2 E2=>?_⟩;simp;exact h _ (E1.trans E2)
def Lf (G:Gp) (a:Addr) (n:Int):Prop:=∃ o c m,G a=some (.lst [.int o,.int c,.int m])/\0<=o/\0<=m/\m<=n
def Ext (a:Addr) (G G':Gp):Prop:=∀ b o,b≠a->G b=some o->G' b=some o
def Lf.ne {G:Gp} {a p:Addr} {n:Int} (h:Lf G a n) (hp:G p=none):p≠a:=by
 rintro rfl;obtain ⟨o,c,m,e,_⟩:=h;rw [hp] at e;cases e
def Lf.new {G:Gp} {a p:Addr} {n:Int} {ob:O} (h:Lf G a n) (hp:p≠a):Lf (gu G p ob) a n:=by
 obtain ⟨o,c,m,e,r⟩:=h;exact ⟨o,c,m,by rw [j8 (Ne.symm hp)];exact e,r⟩
def Lf.mono {G:Gp} {a:Addr} {n k:Int} (h:Lf G a n) (hk:n<=k):Lf G a k:=by
 obtain ⟨o,c,m,e,h1,h2,h3⟩:=h;exact ⟨o,c,m,e,h1,h2,by omega⟩
def Lf.ex {G G':Gp} {a:Addr} {n:Int} (h:Lf G a n) (e:Ex G G'):Lf G' a n:=by
 obtain ⟨o,c,m,e1,h1⟩:=h;exact ⟨o,c,m,e _ _ e1,h1⟩
def Ext.refl {a:Addr} {G:Gp}:Ext a G G:=λ_ _ _ e=>e
def Ext.trans {a:Addr} {G G1 G2:Gp} (x:Ext a G G1) (y:Ext a G1 G2):Ext a G G2:=λb o hb e=>y b o hb (x b o hb e)
def zI {a p:Addr} {G:Gp} {ob:O} (hp:G p=none):Ext a G (gu G p ob):=λb o _ e=>by
 rw [j8 (by rintro rfl;rw [hp] at e;cases e)];exact e
def NO {a:Addr} {G G':Gp} (h:Ex G G'):Ext a G G':=λb o _ e=>h b o e
def KO:Sp3:=λts G q=>∃ c k,ts=[.int c,.int k]/\0<=k/\k<4294967296/\∀ m,0<=m->m<1999999973->q (.int m) G
def YS:Sp3:=λts G q=>∃ (a:Addr) (k:Int) (ns:List Int),ts=[.ref a,.int k]/\G a=some (.frz (ns.map T.int))/\ns.length<=63/\0<=k/\k<=63/\∀ p o c,G p=none->0<=o->q (.ref p) (gu G p (.lst [.int o,.int c,.int 0]))
def qQ:Sp3:=λts G q=>∃ a n many,ts=[.ref a,.int many]/\1<=many/\many<1073741824/\Lf G a n/\n<1073741824/\∀ d G',0<=d->d<many->Lf G' a (n+1)->Ext a G G'->q (.int d) G'
def JM:Sp3:=λts G q=>∃ a n,ts=[.ref a]/\Lf G a n/\n<100000000/\∀ r c G',1<=r->r<=16->1<=c->c<=16->Lf G' a (n+4)->Ext a G G'->q (.tup [.int r,.int c]) G'
def CG:Sp3:=λts G q=>∃ x y:Int,ts=[.int x,.int y]/\0<=x/\0<=y/\q (.int (Int.gcd x y:Nat)) G
structure Dr (d:Dl) (r c b:Int):Prop where
 ok:d.Ok
 r2:d.R<=r
 c2:d.C<=c
 b2:d.B<=b
def TJ:Sp3:=λts G q=>∃ a n,ts=[.ref a]/\Lf G a n/\n<10000000/\∀ r c b x y G',Dr (.skew r c b x y) 16 16 32->Lf G' a (n+10)->Ext a G G'->q (Dl.skew r c b x y).t G'
def C1:Sp3:=λts G q=>∃ a n,ts=[.ref a]/\Lf G a n/\n<10000000/\∀ r c b p G',Dr (.rests r c b p) 16 16 32->Lf G' a (n+10)->Ext a G G'->q (Dl.rests r c b p).t G'
def qU {a:Addr} {n many:Int} {G:Gp} {q:Q3} (hL:Lf G a n) (h1:1<=many) (h2:many<1073741824) (hn:n<1073741824) (h:∀ d G',0<=d->d<many->Lf G' a (n+1)->Ext a G G'->q (.int d) G'):qQ [.ref a,.int many] G q:=⟨a,n,many,rfl,h1,h2,hL,hn,h⟩
def qcK:∀ ts G q,KO ts G q->ts.length=2/\R5 (RT q) (qm ["_law_cell","_law_k","_law_m"] ts) G:=by
 rintro ts G q ⟨c,k,rfl,h1,h2,h⟩;refine ⟨rfl,?_⟩;simp only [R5,qw,qH,o3,v3,qm,map_cons,List.map_nil,length_cons,length_nil,Nat.zero_add,Nat.reduceAdd,Nat.reduceSub,List.replicate_one,cons_append,List.nil_append,u7,getElem?_pos,y3,c3,iC,Int.reduceLT,Nat.reduceLT,y4,zf,gn3,qB,set_cons_succ,set_cons_zero,za5,true_and];exact ⟨.inl ⟨by omega,by omega⟩,cm (by omega) (by omega),cm (by omega) (by omega),.inl ⟨by omega,by omega⟩,h _ (Int.emod_nonneg _ (by omega)) (Int.emod_lt_of_pos _ (by omega))⟩
def cp:qcD 10 18:=⟨by decide,by decide,by decide⟩
def qaP:∀ ts G q,YS ts G q->ts.length=2/\W6 (RT q) (qm ["_law_script","_law_k","_law_cell","_law_own"] ts) G:=by
 rintro ts G q ⟨a,k,ns,rfl,hG,hl,h1,h2,h⟩;refine ⟨rfl,?_⟩;simp only [W6,qw,qH,if3,tb3,o3,v3,qm,map_cons,List.map_nil,length_cons,length_nil,Nat.zero_add,Nat.reduceAdd,Nat.reduceSub,List.reduceReplicate,cons_append,List.nil_append,Nat.reduceLT,getElem?_pos,y4,y3,cb3,qc,u7,qh,jP,getL,hG,iB,length_map,decide_eq_true_eq,gn3,set_cons_succ,set_cons_zero,JS,c3,iC,Int.reduceToNat,Int.reducePow,qB,zX,za5,zf,ne_eq,v8,Nat.reduceLeDiff,true_and,gu,ixR,atI,ixN,getElem?_map,Int.lt_irrefl,↓reduceIte,Int.reduceLE,decide_false,Bool.false_eq_true,Int.zero_add];have ck:JJ 1000003 k:=cm (by omega) (by omega);by_cases hk:k<ns.length
 ·have hk':k.toNat<ns.length:=by omega
  simp [hk,h1,hk',cp,ck];split
  ·split
   ·exact λp hp=>h p (-ns[k.toNat]) _ hp (by omega)
   ·exact λp hp=>h p 0 _ hp (by omega)
  ·split
   ·exact λp hp=>h p ns[k.toNat] _ hp (by omega)
   ·exact λp hp=>h p 0 _ hp (by omega)
 ·simp [hk,cp,ck];exact λp hp=>h p 0 _ hp (by omega)
def qaQ:∀ ts G q,qQ ts G q->ts.length=2/\CD KO (RT q) (qm ["_law_left_here","_law_many","_law_digit"] ts) G:=by
 rintro ts G q ⟨a,n,many,rfl,m1,m2,⟨o,c,m,hG,ho,hm,hn⟩,h3,h⟩;refine ⟨rfl,?_⟩;unfold CD;refine zE λnx1 q1=>?_;simp only [qH,o3,v3,qm,map_cons,List.map_nil,length_cons,length_nil,Nat.zero_add,Nat.reduceAdd,Nat.reduceSub,List.replicate_one,cons_append,List.nil_append,u7,getElem?_pos,y3,c3,zf,ne_eq,v8,zG,JG,ixN,Int.zero_le_ofNat,↓reduceIte,Int.reduceToNat,tb3,iB,decide_eq_true_eq,Nat.reduceLT,y4,iC,gn3,set_cons_succ,set_cons_zero,Std.le_refl,Int.natCast_pos,Int.toNat_zero,qB,za5,ixR,getL,atI,qt,cb3,qc,qh,Int.toNat_one,List.length_set,hG,Int.cast_ofNat_Int,Int.reduceLT,Option.bind_some,qx];rw [q1];clear q1;refine zE λnx2 q2=>?_;simp only [qV,qH,o3,v3,qm,map_cons,List.map_nil,length_cons,length_nil,Nat.zero_add,Nat.reduceAdd,Nat.reduceSub,List.replicate_one,cons_append,List.nil_append,u7,getElem?_pos,y3,c3,zf,ne_eq,v8,zG,JG,ixN,Int.zero_le_ofNat,↓reduceIte,Int.reduceToNat,tb3,iB,decide_eq_true_eq,Nat.reduceLT,y4,iC,gn3,set_cons_succ,set_cons_zero,Std.le_refl,Int.natCast_pos,Int.toNat_zero,qB,za5,ixR,getL,atI,qt,cb3,qc,qh,Int.toNat_one,List.length_set,hG,Int.cast_ofNat_Int,Int.reduceLT,Option.bind_some,qx];split
 ·simp only [qw,qH,o3,v3,length_cons,length_nil,Nat.zero_add,Nat.reduceAdd,u7,getElem?_pos,y3,c3,Nat.reduceLT,y4,iC,gn3,set_cons_succ,set_cons_zero,zG,JG,ixN,Std.le_refl,↓reduceIte,Int.natCast_pos,Int.toNat_zero,qB,za5,ixR,getL,atI,qx,Int.cast_ofNat_Int,Int.reduceLT,Option.bind_some];refine ⟨by omega,⟨by omega,m2⟩,h _ _ (Int.emod_nonneg _ (by omega)) (Int.emod_lt_of_pos _ (by omega)) ⟨o/many,c,m+1,qx,Int.ediv_nonneg ho (by omega),by omega,by omega⟩ λb ob hb e=>?_⟩;rw [j8 hb,j8 hb];exact e
 ·rw [q2];clear q2;simp only [qH,o3,v3,qm,map_cons,List.map_nil,length_cons,length_nil,Nat.zero_add,Nat.reduceAdd,Nat.reduceSub,List.replicate_one,cons_append,List.nil_append,u7,getElem?_pos,y3,c3,zf,ne_eq,v8,zG,JG,ixN,Int.zero_le_ofNat,↓reduceIte,Int.reduceToNat,tb3,iB,decide_eq_true_eq,Nat.reduceLT,y4,iC,gn3,set_cons_succ,set_cons_zero,Std.le_refl,Int.natCast_pos,Int.toNat_zero,qB,za5,ixR,getL,atI,qt,cb3,qc,qh,Int.toNat_one,List.length_set,hG,Int.cast_ofNat_Int,Int.reduceLT,Option.bind_some,qx];refine ⟨c,m+1,rfl,by omega,by omega,λu u1 u2=>?_⟩;simp only [qH,o3,v3,qm,map_cons,List.map_nil,length_cons,length_nil,Nat.zero_add,Nat.reduceAdd,Nat.reduceSub,List.replicate_one,cons_append,List.nil_append,u7,getElem?_pos,y3,c3,zf,ne_eq,v8,zG,JG,ixN,Int.zero_le_ofNat,↓reduceIte,Int.reduceToNat,tb3,iB,decide_eq_true_eq,Nat.reduceLT,y4,iC,gn3,set_cons_succ,set_cons_zero,Std.le_refl,Int.natCast_pos,Int.toNat_zero,qB,za5,ixR,getL,atI,qt,cb3,qc,qh,Int.toNat_one,List.length_set,hG,Int.cast_ofNat_Int,Int.reduceLT,Option.bind_some,qx];refine ⟨u,m+1+64,rfl,by omega,by omega,λv v1 v2=>?_⟩;refine ⟨⟨by omega,by omega⟩,by omega,h _ _ (Int.emod_nonneg _ (by omega)) (Int.emod_lt_of_pos _ (by omega)) ⟨o,c,m+1,qx,ho,by omega,by omega⟩ λb ob hb e=>?_⟩;rw [j8 hb];exact e
def qfr {x y:Int} (hy:0<y):Int.gcd y (x%y)=Int.gcd x y:=by
 rw [Int.emod_def,Int.gcd_comm x y];simp
def qcM:∀ ts G q,CG ts G q->ts.length=2/\TW (RT q) (qm ["_law_one","_law_other"] ts) G:=by
 rintro ts G q ⟨x,y,rfl,hx,hy,h⟩;refine ⟨rfl,?_⟩;simp only [TW,qw,K2,qm,map_cons,List.map_nil,length_cons,length_nil,Nat.zero_add,Nat.reduceAdd,Nat.sub_self,List.replicate_zero,List.append_nil,tb3,o3,v3,c3,iB,decide_eq_true_eq,j6,qc,iC,qh,qB];refine ⟨λn τ G'=>G'=G/\∃ u v:Int,τ=[some (.int u),some (.int v)]/\n=v.toNat/\0<=u/\0<=v/\Int.gcd u v=Int.gcd x y,⟨_,rfl,x,y,rfl,rfl,hx,hy,rfl⟩,?_⟩;rintro n τ G' ⟨eG,u,v,rfl,rfl,hu,hv,e⟩;simp;by_cases h0:0<v
 ·simp [h0];refine ⟨λτ' G'=>G'=G/\∃ x' y':Int,τ'=[some (.int x'),some (.int y')]/\y'.toNat<v.toNat/\0<=x'/\0<=y'/\Int.gcd x' y'=Int.gcd x y,λτ' G' ⟨e1,x',y',e2,e3,e4,e5,e6⟩=>⟨y'.toNat,by omega,e1,x',y',e2,rfl,e4,e5,e6⟩,eG,v,u%v,rfl,?_,hv,Int.emod_nonneg _ (by omega),by rw [qfr h0,e]⟩;have:=Int.emod_lt_of_pos u h0;omega
 ·have:v=0:=by omega
  subst this;simp at e;simp [eG];have:u=(Int.gcd x y:Nat):=by omega
  rw [this];exact h
def qqA {d:Int} (h1:0<=d) (h2:d<4) {x0 x1 x2 x3:T} {P:T->Prop} (p0:P x0) (p1:P x1) (p2:P x2) (p3:P x3):∃ x,L2.atI [x0,x1,x2,x3] d=some x/\P x:=by
 have:d=0\/d=1\/d=2\/d=3:=by omega
 rcases this with rfl|rfl|rfl|rfl
 ·exact ⟨x0,rfl,p0⟩
 ·exact ⟨x1,rfl,p1⟩
 ·exact ⟨x2,rfl,p2⟩
 ·exact ⟨x3,rfl,p3⟩
def qrV {d:Int} (h1:0<=d) (h2:d<3) {x0 x1 x2:T} {P:T->Prop} (p0:P x0) (p1:P x1) (p2:P x2):∃ x,L2.atI [x0,x1,x2] d=some x/\P x:=by
 have:d=0\/d=1\/d=2:=by omega
 rcases this with rfl|rfl|rfl
 ·exact ⟨x0,rfl,p0⟩
 ·exact ⟨x1,rfl,p1⟩
 ·exact ⟨x2,rfl,p2⟩
def NJ:∀ ts G q,JM ts G q->ts.length=1/\DM qQ (RT q) (qm ["_law_left_here","_law_wide","_law_rows","_law_columns"] ts) G:=by
 rintro ts G q ⟨a,n,rfl,hL,hn,h⟩;refine ⟨rfl,?_⟩;unfold DM;refine zE λnx1 q1=>?_;simp only [qH,o3,zX,qc,c3,qh,length_cons,length_nil,Nat.zero_add,Nat.reduceAdd,v8,Nat.reduceLeDiff,cb3,v3,qm,map_cons,List.map_nil,Nat.add_one_sub_one,List.reduceReplicate,cons_append,List.nil_append,u7,getElem?_pos,y3,gn3,set_cons_succ,set_cons_zero,true_and];intro p hp;have hpa:=hL.ne hp;refine qU (hL.new hpa) (by decide) (by decide) (by omega) λd G1 d1 d2 L1 E1=>?_;have g1:=E1 p _ hpa qx;obtain ⟨w,hw,w',rfl,w1,w2⟩:=qqA d1 d2 (P:=λt=>∃ w,t=T.int w/\1<=w/\w<=16) ⟨6,rfl,by decide⟩ ⟨6,rfl,by decide⟩ ⟨6,rfl,by decide⟩ ⟨16,rfl,by decide⟩;simp only [ixR,getL,g1,hw];rw [q1];clear q1;refine zE λnx2 q2=>?_;simp only [j6,qc,o3,c3,cb3,v3,length_cons,length_nil,Nat.zero_add,Nat.reduceAdd,u7,getElem?_pos,y3,Nat.reduceLT,y4,qh,zf,ne_eq,v8,set_cons_succ,set_cons_zero];refine qU L1 w1 (by omega) (by omega) λr G2 r1 r2 L2' E2=>?_;simp only [iI,qw,qH,o3,zX,qc,c3,qh,length_cons,length_nil,Nat.zero_add,Nat.reduceAdd,v8,Nat.reduceLeDiff,cb3,v3,qm,map_cons,List.map_nil,Nat.add_one_sub_one,List.reduceReplicate,cons_append,List.nil_append,u7,getElem?_pos,y3,gn3,j6,set_cons_succ,set_cons_zero,Nat.reduceLT,y4,zf,ne_eq,qB,q0,za5,true_and,gu];refine qU L2' w1 (by omega) (by omega) λc G3 c1 c2 L3' E3=>?_;simp only [iI,qw,qH,o3,zX,qc,c3,qh,length_cons,length_nil,Nat.zero_add,Nat.reduceAdd,v8,Nat.reduceLeDiff,cb3,v3,qm,map_cons,List.map_nil,Nat.add_one_sub_one,List.reduceReplicate,cons_append,List.nil_append,u7,getElem?_pos,y3,gn3,j6,set_cons_succ,set_cons_zero,Nat.reduceLT,y4,zf,ne_eq,qB,q0,za5,true_and,gu];rw [q2];clear q2;simp only [qB,o3,zX,qc,q0,v3,length_cons,length_nil,Nat.zero_add,Nat.reduceAdd,Nat.reduceLT,getElem?_pos,y4,y3,za5,qh,v8,Nat.reduceLeDiff,cb3,u7,c3,true_and];intro p2 hp2;have hpa2:=L3'.ne hp2;refine qU (L3'.new hpa2) (by decide) (by decide) (by omega) λe G4 e1 e2 L4 E4=>?_;have g4:=E4 p2 _ hpa2 qx;have x1:1<=1+r:=by omega
 have x2:1+r<=16:=by omega
 have x3:1<=1+c:=by omega
 have x4:1+c<=16:=by omega
 obtain ⟨t,ht,r',c',rfl,z1,z2,z3,z4⟩:=qqA e1 e2 (P:=λt=>∃ r' c',t=T.tup [.int r',.int c']/\1<=r'/\r'<=16/\1<=c'/\c'<=16) ⟨1+r,1+c,rfl,x1,x2,x3,x4⟩ ⟨1+r,1+c,rfl,x1,x2,x3,x4⟩ ⟨1+r,1+c,rfl,x1,x2,x3,x4⟩ ⟨1+r,1+r,rfl,x1,x2,x1,x2⟩;simp only [ixR,getL,g4,ht];exact h r' c' G4 z1 z2 z3 z4 (L4.mono (by omega)) ((((zI hp).trans E1).trans (E2.trans E3)).trans ((zI hp2).trans E4))
def qaE:∀ ts G q,TJ ts G q->ts.length=1/\XU JM qQ (RT q) (qm ["_law_left_here","_law_rows","_law_columns","_law_banks","_law_wide"] ts) G:=by
 rintro ts G q ⟨a,n,rfl,hL,hn,h⟩;refine ⟨rfl,?_⟩;unfold XU;refine zE λnx1 q1=>?_;simp only [qH,cb3,qc,v3,qm,map_cons,List.map_nil,length_cons,length_nil,Nat.zero_add,Nat.reduceAdd,Nat.add_one_sub_one,List.reduceReplicate,cons_append,List.nil_append,u7,getElem?_pos,y3,qh,qM,qk,gn3,qN,set_cons_succ,set_cons_zero];refine ⟨a,n,rfl,hL,by omega,λr c G1 r1 r2 c1 c2 L1 E1=>?_⟩;simp only [length_cons,length_nil,Nat.zero_add,Nat.reduceAdd,true_and];rw [q1];clear q1;refine zE λnx2 q2=>?_;simp only [qH,o3,c3,cb3,qc,v3,length_cons,length_nil,Nat.zero_add,Nat.reduceAdd,u7,getElem?_pos,y3,zX,qh,v8,Nat.reduceLeDiff,zf,ne_eq,gn3,set_cons_succ,set_cons_zero,true_and];intro p hp;have hpa:=L1.ne hp;refine qU (L1.new hpa) (by decide) (by decide) (by omega) λd G2 d1 d2 L2' E2=>?_;have g2:=E2 p _ hpa qx;obtain ⟨w,hw,w',rfl,w1,w2⟩:=qqA d1 d2 (P:=λt=>∃ w,t=T.int w/\1<=w/\w<=32) ⟨8,rfl,by decide⟩ ⟨8,rfl,by decide⟩ ⟨17,rfl,by decide⟩ ⟨32,rfl,by decide⟩;simp only [ixR,getL,g2,hw];refine qU L2' w1 (by omega) (by omega) λb G3 b1 b2 L3' E3=>?_;simp [qw,qH,gn3,qB,jy,qV,zt,V1,qt,v3,c3,o3,u3,ZB,L3.ixT,L3.ixR,zf,iI,iC,iB,qY,qS,JF,tb3,ED,or3,JD,qZ,EF,zY,if3,ch3,cb3,qc,qh,QP,tyT,je,q0,zX,J3,np3,sp3,qM,qk,qN,zG,JG,j6,qm,bm3,JI,YI,jP,JS,VQ,VR,JT,qF,zS,J6,EB,VX,ZE,HT.sIx,getL,in3,zx,eqF,gu,v8,x8,x6];rw [q2];clear q2;refine zE λnx3 q3=>?_;simp only [qH,o3,zX,qc,v3,length_cons,length_nil,Nat.zero_add,Nat.reduceAdd,Nat.reduceLT,getElem?_pos,y4,y3,c3,qh,v8,Nat.reduceLeDiff,cb3,u7,gn3,set_cons_succ,set_cons_zero,true_and];intro p2 hp2;have hpa2:=L3'.ne hp2;refine qU (L3'.new hpa2) (by decide) (by decide) (by omega) λe G4 e1 e2 L4 E4=>?_;have g4:=E4 p2 _ hpa2 qx;obtain ⟨u,hu,u',rfl,u1,u2⟩:=qrV e1 e2 (P:=λt=>∃ w,t=T.int w/\1<=w/\w<=100) ⟨1+b,rfl,by omega,by omega⟩ ⟨10,rfl,by decide⟩ ⟨100,rfl,by decide⟩;simp only [ixR,getL,g4,hu];rw [q3];clear q3;simp only [qB,q0,qc,c3,v3,length_cons,length_nil,Nat.zero_add,Nat.reduceAdd,Nat.reduceLT,getElem?_pos,y4,y3,cb3,u7,za5,qh,v8,Nat.reduceLeDiff,true_and];refine qU L4 u1 (by omega) (by omega) λx G5 x1 x2 L5 E5=>?_
 try simp [qw,qH,gn3,qB,jy,qV,zt,V1,qt,v3,c3,o3,u3,ZB,L3.ixT,L3.ixR,zf,iI,iC,iB,qY,qS,JF,tb3,ED,or3,JD,qZ,EF,zY,if3,ch3,cb3,qc,qh,QP,tyT,je,q0,zX,J3,np3,sp3,qM,qk,qN,zG,JG,j6,qm,bm3,JI,YI,jP,JS,VQ,VR,JT,qF,zS,J6,EB,VX,ZE,HT.sIx,getL,in3,zx,eqF,gu,v8,x8,x6]
 refine qU L5 u1 (by omega) (by omega) λy G6 y1 y2 L6 E6=>?_
 try simp [qw,qH,gn3,qB,jy,qV,zt,V1,qt,v3,c3,o3,u3,ZB,L3.ixT,L3.ixR,zf,iI,iC,iB,qY,qS,JF,tb3,ED,or3,JD,qZ,EF,zY,if3,ch3,cb3,qc,qh,QP,tyT,je,q0,zX,J3,np3,sp3,qM,qk,qN,zG,JG,j6,qm,bm3,JI,YI,jP,JS,VQ,VR,JT,qF,zS,J6,EB,VX,ZE,HT.sIx,getL,in3,zx,eqF,gu,v8,x8,x6]
 exact h r c (1+b) x y G6 ⟨⟨r1,by omega,c1,by omega,by omega,by omega,x1,by omega,y1,by omega⟩,r2,c2,by show 1+b<=32;omega⟩ (L6.mono (by omega)) (E1.trans (((zI hp).trans E2).trans (E3.trans (((zI hp2).trans E4).trans (E5.trans E6)))))
def cop {b p:Int} (hb:1<=b):∃ k:Nat,(k:Int)<b/\Int.gcd b (p+k)=1:=by
 refine ⟨((1-p)%b).toNat,?_,?_⟩
 ·have:=Int.emod_nonneg (1-p) (show b≠0 by omega);have:=Int.emod_lt_of_pos (1-p) (show 0<b by omega);omega
 ·have h1:=Int.emod_nonneg (1-p) (show b≠0 by omega);have h2:=Int.emod_add_mul_ediv (1-p) b;have e:p+(((1-p)%b).toNat:Int)=1+b*(-((1-p)/b)):=by
   rw [Int.toNat_of_nonneg h1,Int.mul_neg];omega
  rw [e];simp
structure Plc (b p0 pl:Int) (i:Nat):Prop where
 lo:p0<=pl
 hi:pl<=p0+i
 at_:Int.gcd b pl=1\/(pl=p0+i/\∀ k:Nat,k<i->Int.gcd b (p0+k)≠1)
def Plc.done {b p0 pl:Int} {n:Nat} (h:Plc b p0 pl n) (hb:1<=b) (hn:b<=n):Int.gcd b pl=1:=by
 rcases h.at_ with h|⟨_,h⟩
 ·exact h
 ·obtain ⟨k,h1,h2⟩:=cop (p:=p0) hb;exact absurd h2 (h k (by omega))
def Plc.next {b p0 pl:Int} {i:Nat} (h:Plc b p0 pl i) (hb:1<=b) (hp:1<=p0) (hg:(1:Int)<(Int.gcd b pl:Nat)):Plc b p0 (pl+1) (i+1):=by
 rcases h.at_ with z|⟨z1,z2⟩
 ·rw [z] at hg;simp at hg
 ·refine ⟨by have:=h.lo;omega,by omega,.inr ⟨by omega,λk hk=>?_⟩⟩;rcases Nat.lt_or_ge k i with q|q
  ·exact z2 k q
  ·have:k=i:=by omega
   subst this;rw [← z1];omega
def Plc.stay {b p0 pl:Int} {i:Nat} (h:Plc b p0 pl i) (hb:1<=b) (hp:1<=p0) (hg:¬ (1:Int)<(Int.gcd b pl:Nat)):Plc b p0 pl (i+1):=by
 have g0:0<Int.gcd b pl:=Int.gcd_pos_of_ne_zero_left _ (by omega);exact ⟨h.lo,by have:=h.hi;omega,.inl (by omega)⟩
def qgB {r c b:Int} (hr:1<=r) (hc:1<=c) (hb:1<=b):1<=-(-r*c/b)/\r*c<=b*-(-r*c/b)/\-(-r*c/b)<=r*c:=by
 have h1:=UZ hr hc;have e:-r*c=-(r*c):=Int.neg_mul ..;rw [e];have h2:=Int.ediv_neg_of_neg_of_pos (a:=-(r*c)) (b:=b) (by omega) (by omega);have h3:=Int.mul_ediv_self_le (x:=-(r*c)) (k:=b) (by omega);have h4:-(r*c)<=-(r*c)/b:=by
  have:=Int.le_ediv_of_mul_le (a:=-(r*c)) (b:=-(r*c)) (c:=b) (by omega) (by
   have:=Int.mul_le_mul_of_nonneg_left hb (show (0:Int)<=r*c by omega);rw [Int.neg_mul];omega)
  exact this
 rw [Int.mul_neg];omega
def N7:∀ ts G q,C1 ts G q->ts.length=1/\DC JM qQ CG (RT q) (qm ["_law_left_here","_law_rows","_law_columns","_law_banks","_law_places","_law_turn"] ts) G:=by
 rintro ts G q ⟨a,n,rfl,hL,hn,h⟩;refine ⟨rfl,?_⟩;unfold DC;refine zE λnx1 q1=>?_;simp only [qH,cb3,qc,v3,qm,map_cons,List.map_nil,length_cons,length_nil,Nat.zero_add,Nat.reduceAdd,Nat.add_one_sub_one,List.reduceReplicate,cons_append,List.nil_append,u7,getElem?_pos,y3,qh,qM,qk,gn3,qN,set_cons_succ,set_cons_zero];refine ⟨a,n,rfl,hL,by omega,λr c G1 r1 r2 c1 c2 L1 E1=>?_⟩;simp only [length_cons,length_nil,Nat.zero_add,Nat.reduceAdd,true_and];rw [q1];clear q1;refine zE λnx2 q2=>?_;simp only [qH,o3,c3,cb3,qc,v3,length_cons,length_nil,Nat.zero_add,Nat.reduceAdd,u7,getElem?_pos,y3,zX,qh,v8,Nat.reduceLeDiff,zf,ne_eq,gn3,set_cons_succ,set_cons_zero,true_and];intro p hp;have hpa:=L1.ne hp;refine qU (L1.new hpa) (by decide) (by decide) (by omega) λd G2 d1 d2 L2' E2=>?_;have g2:=E2 p _ hpa qx;obtain ⟨w,hw,w',rfl,w1,w2⟩:=qrV d1 d2 (P:=λt=>∃ w,t=T.int w/\1<=w/\w<=32) ⟨8,rfl,by decide⟩ ⟨17,rfl,by decide⟩ ⟨32,rfl,by decide⟩;simp only [ixR,getL,g2,hw];refine qU L2' w1 (by omega) (by omega) λb G3 b1 b2 L3' E3=>?_;simp [qw,qH,gn3,qB,jy,qV,zt,V1,qt,v3,c3,o3,u3,ZB,L3.ixT,L3.ixR,zf,iI,iC,iB,qY,qS,JF,tb3,ED,or3,JD,qZ,EF,zY,if3,ch3,cb3,qc,qh,QP,tyT,je,q0,zX,J3,np3,sp3,qM,qk,qN,zG,JG,j6,qm,bm3,JI,YI,jP,JS,VQ,VR,JT,qF,zS,J6,EB,VX,ZE,HT.sIx,getL,in3,zx,eqF,gu,v8,x8,x6];rw [q2];clear q2;refine zE λnx3 q3=>?_;simp only [qH,o3,u3,v3,length_cons,length_nil,Nat.zero_add,Nat.reduceAdd,Nat.reduceLT,getElem?_pos,y4,y3,ZB,iC,cb3,qc,u7,c3,qh,zf,ne_eq,v8,gn3,set_cons_succ,set_cons_zero];refine ⟨cm (by omega) (by omega),⟨by omega,by omega⟩,qU L3' (by omega) (by omega) (by omega) λe G4 e1 e2 L4 E4=>?_⟩;obtain ⟨u1,u2,u3⟩:=qgB r1 c1 (show 1<=1+b by omega);have rc:r*c<=16*16:=Int.mul_le_mul r2 c2 (by omega) (by omega);simp [qw,qH,gn3,qB,jy,qV,zt,V1,qt,v3,c3,o3,u3,ZB,L3.ixT,L3.ixR,zf,iI,iC,iB,qY,qS,JF,tb3,ED,or3,JD,qZ,EF,zY,if3,ch3,cb3,qc,qh,QP,tyT,je,q0,zX,J3,np3,sp3,qM,qk,qN,zG,JG,j6,qm,bm3,JI,YI,jP,JS,VQ,VR,JT,qF,zS,J6,EB,VX,ZE,HT.sIx,getL,in3,zx,eqF,gu,v8,x8,x6];rw [q3];clear q3;simp only [qw,RM,zw,qc,c3,qh,Int.reducePow,Int.reduceNeg,Int.neg_ofNat_le_ofNat,Int.reduceLT,and_self,Int.reduceToNat,true_and];obtain ⟨p0,hp0⟩:∃ p0,p0=-(-r*c/(1+b))+e:=⟨_,rfl⟩
 refine V6 _ (λi τ G'=>G'=G4/\∃ (pl:Int) (x:Option T),τ=[some (.ref a),some (.int r),some (.int c),some (.int (1+b)),some (.int pl),x]/\Plc (1+b) p0 pl i) ⟨rfl,_,none,by rw [← hp0],⟨by omega,by omega,.inr ⟨by omega,by omega⟩⟩⟩ (λ_ _ _ _ _=>True.intro) ?_ ?_
 ·rintro i x τ G' nx hx ⟨rfl,pl,y,rfl,P⟩ hn;simp only [gn3,qV,tb3,o3,cb3,qc,v3,set_cons_succ,set_cons_zero,length_cons,length_nil,Nat.zero_add,Nat.reduceAdd,Nat.reduceLT,getElem?_pos,y4,y3,qh,c3,iB,decide_eq_true_eq,qH,zf,qt];refine ⟨1+b,pl,rfl,by omega,by have:=P.lo;omega,?_⟩;simp;split
  ·rename_i hg;exact hn _ _ ⟨rfl,_,_,rfl,P.next (by omega) (by omega) (by omega)⟩
  ·rename_i hg;exact hn _ _ ⟨rfl,_,_,rfl,P.stay (by omega) (by omega) (by omega)⟩
 ·rintro τ G' ⟨rfl,pl,x,rfl,P⟩;simp only [qB,q0,qc,c3,v3,length_cons,length_nil,Nat.zero_add,Nat.reduceAdd,Nat.reduceLT,getElem?_pos,y4,y3,qh,v8,Nat.reduceLeDiff,true_and];rw [Z5] at P;have lo:=P.lo;have hi:=P.hi;have m1:(1+b)*-(-r*c/(1+b))<=(1+b)*pl:=Int.mul_le_mul_of_nonneg_left (by omega) (by omega);exact h r c (1+b) pl G' ⟨⟨r1,by omega,c1,by omega,by omega,by omega,by omega,by omega,P.done (by omega) (by omega),by omega⟩,r2,c2,by show 1+b<=32;omega⟩ (L4.mono (by omega)) (E1.trans (((zI hp).trans E2).trans (E3.trans E4)))
def RF:Nat->PyData->Prop
 |_,.none=>True
 |_,.bool _=>True
 |_,.int _=>True
 |_,.str _=>True
 |n+1,.list ds=>ds.length<=1000000/\∀ d∈ds,RF n d
 |n+1,.tuple ds=>ds.length<=1000000/\∀ d∈ds,RF n d
 |_,_=>False
def jf:Nat->Sp3
 |0=>CF
 |n+1=>λts G q=>∃ (x y:T) (d:PyData),ts=[x,y]/\Dp G x d/\Dp G y d/\RF n d/\∀ G',Ex G G'->q (.bl true) G'
def qbt {G G':Gp} (e:Ex G G') {x:T} {us:List T} (h:jR G x=some us):jR G' x=some us:=by
 cases x<;>simp [jR] at h ⊢
 ·exact h
 ·exact e.getL h
def qga (n:Nat):qgM (List.replicate n (.bl true))=some true:=by
 induction n with
 |zero=>rfl
 |succ n ih=>rw [List.replicate_succ];simp [qgM,ih]
def qbN {G:Gp} {n:Nat} {x y:T} {us vs:List T} {ds:List PyData} {q:Q3} (hx:jR G x=some us) (hy:jR G y=some vs) (du:Dps G us ds) (dv:Dps G vs ds) (hl:us.length<=1000000) (hd:∀ d∈ds,∃ m,n=m+1/\RF m d) (h:∀ G',Ex G G'->q (.bl true) G') :
  TY (λG=>jR G x=some us/\jR G y=some vs) (qM 2 (qk (gn3 0) (qk (gn3 1) qN))) tt3 (cb3 (jf n) (qc (v3 0) (qc (v3 1) qh))) (λx G1=>J6 [x] G1 q) (qeq us vs) [] [none,none] G:=by
 have e1:=du.length;have e2:=dv.length;refine WZ _ (λi ys τ G'=>Ex G G'/\ys=List.replicate i (.bl true)/\∃ x0 x1,τ=[x0,x1]) ⟨Ex.refl,rfl,none,none,rfl⟩ (λi ys τ G' _ hp=>⟨qbt hp.1 hx,qbt hp.1 hy⟩) ?_ ?_
 ·rintro i z ys τ G' R hz ⟨E,rfl,x0,x1,rfl⟩ hR;obtain ⟨a,b,ha,hb,rfl⟩:=MI hz;obtain ⟨d,hd1,da⟩:=du.get ha;obtain ⟨d',hd2,db⟩:=dv.get hb;rw [hd1] at hd2;cases hd2;obtain ⟨m,rfl,dl⟩:=hd d (za2 hd1);have hi:=(zb0 ha).1;simp only [qM,length_cons,length_nil,Nat.zero_add,Nat.reduceAdd,qk,gn3,qN,tt3,↓reduceIte,cb3,qc,v3,set_cons_zero,set_cons_succ,u7,getElem?_pos,y3,za5,y4,qh,List.length_replicate,v8,true_and];refine ⟨a,b,d,rfl,da.up E,db.up E,dl,λG2 E2=>⟨by omega,hR _ _ _ ⟨E.trans E2,?_,_,_,rfl⟩⟩⟩;rw [List.replicate_succ']
 ·rintro ys τ G' ⟨E,rfl,x0,x1,rfl⟩ p hp;simp [J6,getL,qx,qga];exact h _ (E.trans (QB hp))
def qf8 {n:Nat} {ds:List PyData} (h:RF n (.list ds)):ds.length<=1000000/\∀ d∈ds,∃ m,n=m+1/\RF m d:=by
 cases n with
 |zero=>exact h.elim
 |succ n=>exact ⟨h.1,λd hd=>⟨n,rfl,h.2 d hd⟩⟩
def qet {n:Nat} {ds:List PyData} (h:RF n (.tuple ds)):ds.length<=1000000/\∀ d∈ds,∃ m,n=m+1/\RF m d:=by
 cases n with
 |zero=>exact h.elim
 |succ n=>exact ⟨h.1,λd hd=>⟨n,rfl,h.2 d hd⟩⟩
def qnn {x:T} {G:Gp} {q:Q3} (h:qS x x=some true) (k:q (.bl true) G):qY false x x G q:=by
 unfold qY;rw [h];exact k
def qeI {ta tb:TE3} {e:Ends3} {τ:St3} {G:Gp} {x:T} (h:∀ q',q' x G->ta τ G q') (k:x=.bl true) (h2:tb τ G e.rt):qB (qZ ta tb) e τ G:=h _ (by subst k;exact h2)
def qtj {ta tb:TE3} {τ:St3} {G:Gp} {x:T} (ha:∀ q',q' x G->ta τ G q') (hb:∀ q',q' x G->tb τ G q') (h:qS x x=some true):∀ q',q' (.bl true) G->o3 (qY false) ta tb τ G q':=λq' k=>ha _ (hb _ (qnn h k))
def qce {c:TT3} {a b:TS3} {e:Ends3} {τ:St3} {G:Gp} (h:∀ A,A=a->qV c A b e τ G):qV c a b e τ G:=h _ rfl
def VN (n:Nat):∀ ts G q,jf (n+1) ts G q->ts.length=2/\K9 (jf n) (RT q) (qm ["_law_found","_law_due"] ts) G:=by
 rintro ts G q ⟨x,y,d,rfl,hx,hy,hd,h⟩;refine ⟨rfl,?_⟩;have h0:=h G Ex.refl;cases hx with
 |non=>cases hy;exact h0
 |bl b=>cases hy;cases b<;>exact h0
 |int i=>cases hy;exact qnn (x:=.int i) (by simp [qS]) h0
 |str s=>
  cases hy;refine zE λnx1 q1=>?_;refine qce λA1 hA=>?_;clear hA;show nx1 _ _;rw [q1];clear q1;refine zE λnx2 q2=>?_;refine qce λA2 hA=>?_;show A2 _ _ _;rw [hA];exact qeI (qtj (x:=.str s) (λ_ k=>k) (λ_ k=>k) (by simp [qS])) rfl h0
 |tup dx=>
  cases hy with
  |tup dy=>
   rename_i xs ds ys;have e1:=dx.length;have e2:=dy.length;obtain ⟨l1,l2⟩:=qet hd;have key:=qbN (n:=n) (x:=.tup xs) (y:=.tup ys) (us:=xs) (vs:=ys) (q:=q) rfl rfl dx dy (by omega) l2 h;have e3:xs.length=ys.length:=by omega
   refine zE λnx1 q1=>?_;clear q1;refine qce λA1 hA=>?_;show A1 _ _ _;rw [hA];clear hA;refine zE λnx2 q2=>?_;refine qce λA2 hA=>?_;show nx2 _ _;rw [q2];clear q2;exact qeI (qtj (x:=.int ys.length) (λ_ k=>by rw [← e3] at k;exact k) (λ_ k=>k) (by simp [qS])) rfl key
 |lst gx dx=>
  cases hy with
  |lst gy dy=>
   rename_i p1 xs ds p2 ys;have e1:=dx.length;have e2:=dy.length;obtain ⟨l1,l2⟩:=qf8 hd;have key:=qbN (n:=n) (x:=.ref p1) (y:=.ref p2) (us:=xs) (vs:=ys) (q:=q) gx gy dx dy (by omega) l2 h;have e3:xs.length=ys.length:=by omega
   refine zE λnx1 q1=>?_;clear q1;refine qce λA1 hA=>?_;simp only [qV,tb3,QP,v3,qm,map_cons,List.map_nil,length_cons,length_nil,Nat.zero_add,Nat.reduceAdd,Nat.sub_self,List.replicate_zero,List.append_nil,za5,getElem?_pos,y4,y3,tyT,gx,gy,Option.isSome_some,↓reduceIte,je,BEq.rfl,String.reduceBEq,Bool.and_self,Bool.or_false,Bool.or_self,or3,o3,u7,qY,qS,decide_true,Bool.not_true,Bool.false_eq_true,qt];rw [hA];clear hA;refine zE λnx2 q2=>?_;refine qce λA2 hA=>?_;clear hA;simp only [qV,tb3,QP,v3,qm,map_cons,List.map_nil,length_cons,length_nil,Nat.zero_add,Nat.reduceAdd,Nat.sub_self,List.replicate_zero,List.append_nil,za5,getElem?_pos,y4,y3,tyT,gx,gy,Option.isSome_some,↓reduceIte,je,BEq.rfl,String.reduceBEq,Bool.and_self,Bool.or_false,Bool.or_self,or3,o3,u7,qY,qS,decide_true,Bool.not_true,Bool.false_eq_true,qt];rw [q2];clear q2;simp only [jR,J6,qm,map_cons,List.map_nil,length_cons,length_nil,Nat.zero_add,Nat.reduceAdd,Nat.sub_self,List.replicate_zero,List.append_nil,za5,getElem?_pos,y4,y3,gy,↓reduceIte,o3,v3,u7,gx,qY,qS,decide_true,Bool.false_eq_true,qB,qZ,cb3,qc,qh,jP,e3,lc3,qca,cap] at key ⊢;exact key
def zD:Nat->Sp3
 |0=>CF
 |n+1=>λts G q=>∃ d:Dl,ts=[d.t]/\d.dep<=n/\d.Ok/\∀ G',Ex G G'->q (RE d) G'
def qbv:∀ {d:Nat},d<=8->L2.atI [T.int 1,.int 2,.int 4,.int 8,.int 16,.int 32,.int 64,.int 128,.int 256] (d:Int)=some (.int (2 ^ d))
 |0,_=>rfl
 |1,_=>rfl
 |2,_=>rfl
 |3,_=>rfl
 |4,_=>rfl
 |5,_=>rfl
 |6,_=>rfl
 |7,_=>rfl
 |8,_=>rfl
 |k+9,h=>absurd h (Nat.not_le.mpr (za1 (Nat.lt_succ_self _) (Nat.le_add_left _ _)))
def qbT:∀ {d:Nat},d<=4->L2.atI [T.int 1,.int 2,.int 4,.int 8,.int 16] (d:Int)=some (.int (2 ^ d))
 |0,_=>rfl
 |1,_=>rfl
 |2,_=>rfl
 |3,_=>rfl
 |4,_=>rfl
 |k+5,h=>absurd h (Nat.not_le.mpr (za1 (Nat.lt_succ_self _) (Nat.le_add_left _ _)))
def qcI {α:Type} {x:α} {xs:List α}:L2.atI (x::xs) 0=some x:=by simp [L2.atI,ixN]
def qda {α:Type} {x y:α} {xs:List α}:L2.atI (x::y::xs) 1=some y:=by
 rw [jG (by omega) (by simp;omega)];rfl
def qdl {α:Type} {x y z:α} {xs:List α}:L2.atI (x::y::z::xs) 2=some z:=by
 rw [jG (by omega) (by simp;omega)];rfl
def qlw {α:Type} {x y z w:α} {xs:List α}:L2.atI (x::y::z::w::xs) 3=some w:=by
 rw [jG (by omega) (by simp;omega)];rfl
def zQ {s l:Str} {xs:List T} {R S:TS3} {d:Ends3} {τ:St3} {G:Gp} (hτ:τ[0]?=some (some (T.tup (.str s::xs)))):qw (qV (tb3 (o3 (qY false) (o3 ix3 (v3 0) (c3 (.int 0))) (c3 (.str l)))) R qt) S d τ G=(if s=l then R { d with nx:=S d } τ G else S d τ G):=by
 simp only [qw,qV,tb3,o3,v3,hτ,c3,L3.ixT,qcI,qY,qS,qt];by_cases e:s=l<;>simp [e]
def L0 {te:TE3} {q:Q3} {a:Addr} {n many:Int} {VV:St3} {items:List T} {x0:Option T} {G:Gp} (hte:∀ x0 G3 (Q:T->Gp->Prop),qQ [.ref a,.int many] G3 Q->te (x0::VV) G3 Q) (hL:Lf G a n) (m1:1<=many) (m2:many<1073741824) (hl:items.length<=1000) (hn:n<1000000000)
  (h:∀ (ds:List Int) G' p,ds.length=items.length->(∀ d∈ds,0<=d/\d<many)->Lf G' a (n+items.length)->Ext a G G'->G' p=none->q (.ref p) (gu G' p (.lst (ds.map T.int)))) :
  TY (λ_=>True) (gn3 0) tt3 te q items [] (x0::VV) G:=by
 refine WZ _ (λi ys τ G'=>∃ (ds:List Int) (x0:Option T),τ=x0::VV/\ys=ds.map T.int/\ds.length=i/\(∀ d∈ds,0<=d/\d<many)/\Lf G' a (n+i)/\Ext a G G') ⟨[],x0,rfl,rfl,rfl,by simp,by simpa using hL,Ext.refl⟩ (λ_ _ _ _ _ _=>True.intro) ?_ ?_
 ·rintro i z ys τ G' R hz ⟨ds,x0,rfl,rfl,e,hd,hL',E⟩ hR;have hi:=(zb0 hz).1;simp only [gn3,tt3,set_cons_zero,if_true];refine hte _ _ _ (qU hL' m1 m2 (by omega) λd G2 d1 d2 L2 E2=>⟨by simp [v8];omega,hR _ _ _ ⟨ds++[d],_,rfl,by simp,by simp [e],λx hx=>?_,L2.mono (by omega),E.trans E2⟩⟩);rcases List.mem_append.mp hx with hx|hx
  ·exact hd x hx
  ·simp at hx;subst hx;exact ⟨d1,d2⟩
 ·rintro ys τ G' ⟨ds,x0,rfl,rfl,e,hd,hL',E⟩ p hp;exact h ds G' p e hd hL' E hp
def TH:Sp3:=λts G q=>∃ a n most,ts=[.ref a,.int most]/\Lf G a n/\n<10000000/\0<=most/\most<=4/\∀ (h l:Nat) (ms:List Int) G',(h:Int)<=most->(l:Int)<=most->(Dl.bits h l ms).Ok->Lf G' a (n+10)->Ext a G G'->q (Dl.bits h l ms).t G'
def qbP {wide:Int} {p:Addr} {ds:List Int} {x0:Option T} {G:Gp} {q:Q3} (hw:0<wide) (hl:ds.length<=1000) (hG:getL G p=some (ds.map T.int)) (h:∀ p2,G p2=none->q (.ref p2) (gu G p2 (.lst ((ds.map (·%wide)).map T.int)))) :
  TY (λG=>getL G p=some (ds.map T.int)) (gn3 0) tt3 (o3 (iC (λ_ j=>0<j) (·%·)) (v3 0) (v3 1)) q (ds.map T.int) [] [x0,some (.int wide)] G:=by
 refine qbW (λt=>match t with|.int m=>T.int (m%wide)|t=>t) (λτ=>∃ x0,τ=[x0,some (.int wide)]) hG _ _ _ ⟨_,rfl⟩ ?_ (by simp [v8];omega) λp2 hp2=>?_
 ·rintro z hz τ ⟨x0,rfl⟩ R hR;rw [mem_map] at hz;obtain ⟨m,_,rfl⟩:=hz;simp [gn3,o3,v3,iC];exact ⟨hw,hR _ ⟨_,rfl⟩⟩
 ·have:=h p2 hp2;simpa [map_map,Function.comp_def] using this
def qaJ:∀ ts G q,TH ts G q->ts.length=2/\CM qQ (RT q) (qm ["_law_left_here","_law_most","_law_high","_law_low","_law_masks","_law_wide"] ts) G:=by
 rintro ts G q ⟨a,n,most,rfl,hL,hn,m1,m2,h⟩;refine ⟨rfl,?_⟩;simp only [CM,qw,j6,qc,cb3,v3,qm,map_cons,List.map_nil,length_cons,length_nil,Nat.zero_add,Nat.reduceAdd,Nat.reduceSub,List.reduceReplicate,cons_append,List.nil_append,u7,getElem?_pos,y3,o3,Nat.reduceLT,y4,c3,zf,qh,qH,set_cons_succ,set_cons_zero,gn3,zX,v8,Nat.reduceLeDiff,ne_eq,qB,q0,qF,true_and,getL,gu,ixR,↓reduceIte];refine qU hL (by omega) (by omega) (by omega) λhi G1 h1 h2 L1 E1=>?_
 try simp
 refine qU L1 (by omega) (by omega) (by omega) λlo G2 l1 l2 L2' E2=>?_;simp only [lc3,zw,qc,cb3,v3,length_cons,length_nil,Nat.zero_add,Nat.reduceAdd,u7,getElem?_pos,y3,c3,qh,Int.reducePow,Int.reduceNeg,cap,map_cons,za5,y4,Option.join_some,List.map_nil];refine qU L2' (by omega) (by omega) (by omega) λk G3 k1 k2 L3' E3=>?_;refine ⟨⟨by omega,by omega⟩,L0 (many:=256) (λx0 G3 Q hq=>by simpa [cb3,qc,v3,c3,qh] using hq) L3' (by omega) (by omega) (by rw [Z5];omega) (by omega) λds G4 p e1 e2 L4 E4 hp=>?_⟩;rw [Z5] at e1 L4;obtain ⟨H,rfl⟩:=Int.eq_ofNat_of_zero_le h1;obtain ⟨W,rfl⟩:=Int.eq_ofNat_of_zero_le l1;have hpa:=L4.ne hp
 try simp
 intro p2 hp2;have pp:p≠p2:=by rintro rfl;rw [qx] at hp2;cases hp2
 have e3:((H:Int)+(W:Int))=((H+W:Nat):Int):=by omega
 have w1:=WE (H+W);have hG:∀ B,getL (gu (gu G4 p (.lst (ds.map T.int))) p2 B) p=some (ds.map T.int):=λB=>by simp only [getL,j8 pp,qx]
 rw [e3,qbv (d:=H+W) (by omega)];simp only [JH,v3,x8,x6,hG];refine qbP (by omega) (by omega) (hG _) λp3 hp3=>?_;simp only [qx];refine h H W _ _ (by omega) (by omega) ⟨by omega,by omega,by simp;omega,λm hm=>?_⟩ ((((L4.new hpa).new ((L4.new hpa).ne hp2)).new (((L4.new hpa).new ((L4.new hpa).ne hp2)).ne hp3)).mono (by omega)) (((E1.trans E2).trans (E3.trans E4)).trans (((zI hp).trans (zI hp2)).trans (zI hp3)));rw [mem_map] at hm;obtain ⟨x,_,rfl⟩:=hm;exact ⟨Int.emod_nonneg _ (by omega),Int.emod_lt_of_pos _ (by omega)⟩
structure Cells (cells:List (List Int)) (r c b:Int):Prop where
 r:(cells.length:Int)=r
 c:∀ row∈cells,(row.length:Int)=c/\∀ x∈row,0<=x/\x<b
def qbz {q:Q3} {a:Addr} {n r c b:Int} {x0:Option T} {G:Gp} (hL:Lf G a n) (hn:n<100000000) (r1:1<=r) (r2:r<=16) (c1:1<=c) (c2:c<=16) (b1:1<=b) (b2:b<=1000)
  (h:∀ cells G' p,Cells cells r c b->Lf G' a (n+256)->Ext a G G'->G' p=none->q (.ref p) (gu G' p (.lst (cells.map qbF)))) :
  TY (λ_=>True) (gn3 0) tt3 (cb3 qF (qc (lc3 (zw (qc (v3 3) qh)) (gn3 0) tt3 (cb3 qQ (qc (v3 1) (qc (v3 2) qh))) [none,some 1,some 2]) qh)) q (qbK 0 r.toNat) [] [x0,some (.ref a),some (.int b),some (.int c)] G:=by
 refine WZ _ (λi ys τ G'=>∃ (cells:List (List Int)) (x0:Option T),τ=[x0,some (.ref a),some (.int b),some (.int c)]/\ys=cells.map qbF/\Cells cells i c b/\Lf G' a (n+16*i)/\Ext a G G') ⟨[],x0,rfl,rfl,⟨rfl,by simp⟩,by simpa using hL,Ext.refl⟩ (λ_ _ _ _ _ _=>True.intro) ?_ ?_
 ·rintro i z ys τ G' R hz ⟨cells,x0,rfl,rfl,C,hL',E⟩ hR;obtain ⟨hi,rfl⟩:=MM hz;have hc:=C.r;simp only [gn3,tt3,↓reduceIte,cb3,qc,lc3,zw,v3,Int.zero_add,set_cons_zero,length_cons,length_nil,Nat.zero_add,Nat.reduceAdd,za5,getElem?_pos,y4,y3,qh,Int.reducePow,Int.reduceNeg,qF,length_map,v8,getL,cap,map_cons,Nat.reduceLT,Option.join_some,List.map_nil];refine ⟨⟨by omega,by omega⟩,L0 (many:=b) (λx0 G3 Q hq=>by simpa [cb3,qc,v3,c3,qh] using hq) hL' (by omega) (by omega) (by rw [Z5];omega) (by omega) λds G4 p e1 e2 L4 E4 hp=>?_⟩;rw [Z5] at e1 L4;simp only [qx];refine ⟨by omega,hR _ _ _ ⟨cells++[ds],_,rfl,by simp [qbF],⟨by simp;omega,λrow hrow=>?_⟩,((L4.new (L4.ne hp)).mono (by omega)),(E.trans E4).trans (zI hp)⟩⟩;rcases List.mem_append.mp hrow with hr|hr
  ·exact C.c row hr
  ·simp at hr;subst hr;exact ⟨by omega,e2⟩
 ·rintro ys τ G' ⟨cells,x0,rfl,rfl,C,hL',E⟩ p hp;rw [Z5] at C hL';exact h cells G' p ⟨by have:=C.r;omega,C.c⟩ (hL'.mono (by omega)) E hp
theorem Cells.ok {cells:List (List Int)} {r c b:Int} (C:Cells cells r c b) (r1:1<=r) (r2:r<=60) (c1:1<=c) (c2:c<=60) (b1:1<=b) (b2:b<=1000):(Dl.table b cells).Ok/\(Dl.table b cells).R=r/\(Dl.table b cells).C=c:=by
 have hl:=C.r;have ok:(Dl.table b cells).Ok:=⟨b1,b2,by omega,by omega,c.toNat,by omega,by omega,λrow hr=>⟨by have:=(C.c row hr).1;omega,(C.c row hr).2⟩⟩
 have e0:cells[0]?=some cells[0]:=v9 (by omega);exact ⟨ok,hl,by simp [Dl.C,e0];exact (C.c cells[0] (za7 _)).1⟩
def C6:Sp3:=λts G q=>∃ a n,ts=[.ref a]/\Lf G a n/\n<10000000/\∀ (d:Dl) G',Dr d 4 4 5->d.dep=0->Lf G' a (n+300)->Ext a G G'->q d.t G'
def NB:∀ ts G q,C6 ts G q->ts.length=1/\DI qQ CG (RT q) (qm ["_law_left_here","_law_rows","_law_columns","_law_banks","_law_way","_law_high","_law_low","_law_masks","_law_wide","_law_places","_law_turn","_law_cells"] ts) G:=by
 rintro ts G q ⟨a,n,rfl,hL,hn,h⟩;refine ⟨rfl,?_⟩;unfold DI;refine zE λnx1 q1=>?_;simp only [qH,q0,qc,o3,c3,cb3,v3,qm,map_cons,List.map_nil,length_cons,length_nil,Nat.zero_add,Nat.reduceAdd,Nat.add_one_sub_one,List.reduceReplicate,cons_append,List.nil_append,u7,getElem?_pos,y3,qh,zf,ne_eq,v8,Nat.reduceLeDiff,qM,qk,gn3,qN,set_cons_succ,set_cons_zero,true_and];refine qU hL (by omega) (by omega) (by omega) λr G1 r1 r2 L1 E1=>?_
 try simp
 refine qU L1 (by omega) (by omega) (by omega) λc G2 c1 c2 L2' E2=>?_
 try simp
 refine qU L2' (by omega) (by omega) (by omega) λb G3 b1 b2 L3' E3=>?_
 try simp
 rw [q1];refine zE λnx2 q2=>?_;simp only [qH,cb3,qc,v3,length_cons,length_nil,Nat.zero_add,Nat.reduceAdd,u7,getElem?_pos,y3,c3,qh,gn3,set_cons_succ,set_cons_zero];refine qU L3' (by omega) (by omega) (by omega) λway G4 w1 w2 L4 E4=>?_;have EE:=(E1.trans E2).trans (E3.trans E4);rw [q2];refine zE λnx3 q3=>?_;by_cases k0:way=0
 ·subst k0;simp only [qV,tb3,o3,v3,length_cons,length_nil,Nat.zero_add,Nat.reduceAdd,Nat.reduceLT,getElem?_pos,y4,y3,c3,qY,qS,decide_true,Bool.false_eq_true,↓reduceIte,qB,q0,qc,cb3,u7,qh,v8,Nat.reduceLeDiff,true_and];refine qU L4 (by omega) (by omega) (by omega) λx G5 x1 x2 L5 E5=>?_
  try simp
  refine qU L5 (by omega) (by omega) (by omega) λy G6 y1 y2 L6 E6=>?_
  try simp
  exact h (.skew (1+r) (1+c) (1+b) x y) G6 ⟨⟨by omega,by omega,by omega,by omega,by omega,by omega,by omega,by omega,by omega,by omega⟩,by show 1+r<=4;omega,by show 1+c<=4;omega,by show 1+b<=5;omega⟩ rfl (L6.mono (by omega)) (EE.trans (E5.trans E6))
 simp only [qV,tb3,o3,v3,c3,qY,qS,x8,x6,k0,decide_false,Bool.false_eq_true,if_false,qt];rw [q3];refine zE λnx4 q4=>?_;by_cases k1:way=1
 ·subst k1;simp only [qV,tb3,o3,v3,length_cons,length_nil,Nat.zero_add,Nat.reduceAdd,Nat.reduceLT,getElem?_pos,y4,y3,c3,qY,qS,decide_true,Bool.false_eq_true,↓reduceIte,qw,j6,qc,cb3,u7,qh,qH,set_cons_succ,set_cons_zero,gn3,zX,v8,Nat.reduceLeDiff,zf,ne_eq,qB,q0,qF,true_and,getL,gu,ixR];refine qU L4 (by omega) (by omega) (by omega) λhi G5 h1 h2 L5 E5=>?_
  try simp
  refine qU L5 (by omega) (by omega) (by omega) λlo G6 l1 l2 L6 E6=>?_;simp only [lc3,zw,qc,cb3,v3,length_cons,length_nil,Nat.zero_add,Nat.reduceAdd,u7,getElem?_pos,y3,c3,qh,Int.reducePow,Int.reduceNeg,cap,map_cons,Nat.reduceLT,y4,Option.join_some,List.map_nil];refine qU L6 (by omega) (by omega) (by omega) λk G7 k1 k2 L7 E7=>?_;refine ⟨⟨by omega,by omega⟩,L0 (many:=16) (λx0 G3 Q hq=>by simpa [cb3,qc,v3,c3,qh] using hq) L7 (by omega) (by omega) (by rw [Z5];omega) (by omega) λds G8 p e1 e2 L8 E8 hp=>?_⟩;rw [Z5] at e1 L8;obtain ⟨H,rfl⟩:=Int.eq_ofNat_of_zero_le h1;obtain ⟨W,rfl⟩:=Int.eq_ofNat_of_zero_le l1;have hpa:=L8.ne hp
  try simp
  intro p2 hp2;have pp:p≠p2:=by rintro rfl;rw [qx] at hp2;cases hp2
  have e3:((H:Int)+(W:Int))=((H+W:Nat):Int):=by omega
  have w1:=WE (H+W);have hG:∀ B,getL (gu (gu G8 p (.lst (ds.map T.int))) p2 B) p=some (ds.map T.int):=λB=>by simp only [getL,j8 pp,qx]
  rw [e3,qbT (d:=H+W) (by omega)];simp only [JH,v3,x8,x6,hG];refine qbP (by omega) (by omega) (hG _) λp3 hp3=>?_;simp only [qx];have bl:(Dl.bits H W (ds.map (·%2 ^ (H+W)))).Ok:=⟨by omega,by omega,by simp;omega,λm hm=>by
   rw [mem_map] at hm;obtain ⟨x,_,rfl⟩:=hm;exact ⟨Int.emod_nonneg _ (by omega),Int.emod_lt_of_pos _ (by omega)⟩⟩
  have q1:=W0 (n:=H) (k:=2) (by omega);have q2:=W0 (n:=W) (k:=2) (by omega);have q3:=W0 (n:=ds.length) (k:=2) (by omega);exact h (.bits H W _) _ ⟨bl,by show (2:Int) ^ H<=4;omega,by show (2:Int) ^ W<=4;omega,by simp [Dl.B];omega⟩ rfl ((((L8.new hpa).new ((L8.new hpa).ne hp2)).new (((L8.new hpa).new ((L8.new hpa).ne hp2)).ne hp3)).mono (by omega)) (EE.trans (((E5.trans E6).trans (E7.trans E8)).trans (((zI hp).trans (zI hp2)).trans (zI hp3))))
 simp only [qV,tb3,o3,v3,c3,qY,qS,x8,x6,k1,decide_false,Bool.false_eq_true,if_false,qt];rw [q4];refine zE λnx5 q5=>?_;by_cases k2:way=2
 ·subst k2;simp only [qV,tb3,o3,v3,length_cons,length_nil,Nat.zero_add,Nat.reduceAdd,Nat.reduceLT,getElem?_pos,y4,y3,c3,qY,qS,decide_true,Bool.false_eq_true,↓reduceIte,qw,qH,u3,ZB,iC,cb3,qc,u7,qh,zf,ne_eq,v8,gn3,set_cons_succ,set_cons_zero];refine ⟨cm (by omega) (by omega),⟨by omega,by omega⟩,qU L4 (by omega) (by omega) (by omega) λe G5 e1 e2 L5 E5=>?_⟩;obtain ⟨u1,u2,u3⟩:=qgB (show 1<=1+r by omega) (show 1<=1+c by omega) (show 1<=1+b by omega);have rc:(1+r)*(1+c)<=4*4:=Int.mul_le_mul (by omega) (by omega) (by omega) (by omega);simp only [RM,zw,qc,c3,qh,Int.reducePow,Int.reduceNeg,Int.neg_ofNat_le_ofNat,Int.reduceLT,and_self,Int.reduceToNat,true_and];obtain ⟨p0,hp0⟩:∃ p0,p0=-(-(1+r)*(1+c)/(1+b))+e:=⟨_,rfl⟩
  refine V6 _ (λi τ G'=>G'=G5/\∃ (pl:Int) (x:Option T),τ=[some (.ref a),some (.int (1+r)),some (.int (1+c)),some (.int (1+b)),some (.int 2),none,none,none,none,some (.int pl),x,none]/\Plc (1+b) p0 pl i) ⟨rfl,_,none,by rw [← hp0],⟨by omega,by omega,.inr ⟨by omega,by omega⟩⟩⟩ (λ_ _ _ _ _=>True.intro) ?_ ?_
  ·rintro i x τ G' nx hx ⟨rfl,pl,y,rfl,P⟩ hn;simp only [gn3,qV,tb3,o3,cb3,qc,v3,set_cons_succ,set_cons_zero,length_cons,length_nil,Nat.zero_add,Nat.reduceAdd,Nat.reduceLT,getElem?_pos,y4,y3,qh,c3,iB,decide_eq_true_eq,qH,zf,qt];refine ⟨1+b,pl,rfl,by omega,by have:=P.lo;omega,?_⟩;simp;split
   ·exact hn _ _ ⟨rfl,_,_,rfl,P.next (by omega) (by omega) (by omega)⟩
   ·exact hn _ _ ⟨rfl,_,_,rfl,P.stay (by omega) (by omega) (by omega)⟩
  ·rintro τ G' ⟨rfl,pl,x,rfl,P⟩;simp only [qB,q0,qc,c3,v3,length_cons,length_nil,Nat.zero_add,Nat.reduceAdd,Nat.reduceLT,getElem?_pos,y4,y3,qh,v8,Nat.reduceLeDiff,true_and];rw [Z5] at P;have lo:=P.lo;have hi:=P.hi;have m1:(1+b)*-(-(1+r)*(1+c)/(1+b))<=(1+b)*pl:=Int.mul_le_mul_of_nonneg_left (by omega) (by omega);exact h (.rests (1+r) (1+c) (1+b) pl) G' ⟨⟨by omega,by omega,by omega,by omega,by omega,by omega,by omega,by omega,P.done (by omega) (by omega),by omega⟩,by show 1+r<=4;omega,by show 1+c<=4;omega,by show 1+b<=5;omega⟩ rfl (L5.mono (by omega)) (EE.trans E5)
 ·simp only [qV,tb3,o3,v3,c3,qY,qS,x8,x6,k2,decide_false,Bool.false_eq_true,if_false,qt];rw [q5];simp only [qw,qH,lc3,zw,qc,v3,length_cons,length_nil,Nat.zero_add,Nat.reduceAdd,Nat.reduceLT,getElem?_pos,y4,y3,qh,Int.reducePow,Int.reduceNeg,gn3,qB,q0,c3,set_cons_succ,set_cons_zero,cb3,za5,qF,v8,Nat.reduceLeDiff,true_and,getL,cap,map_cons,u7,Option.join_some,List.map_nil];refine ⟨⟨by omega,by omega⟩,qbz L4 (by omega) (by omega) (by omega) (by omega) (by omega) (by omega) (by omega) λcells G5 p C L5 E5 hp=>?_⟩;obtain ⟨ok,eR,eC⟩:=C.ok (by omega) (by omega) (by omega) (by omega) (by omega) (by omega);simp only [qx];exact h (.table (1+b) cells) _ ⟨ok,by omega,by omega,by show 1+b<=5;omega⟩ rfl ((L5.new (L5.ne hp)).mono (by omega)) (EE.trans (E5.trans (zI hp)))
def C4:Sp3:=λts G q=>∃ a n,ts=[.ref a]/\Lf G a n/\n<10000000/\∀ (b:Int) cells r c G',Cells cells r c b->Dr (.table b cells) 16 16 32->(Dl.table b cells).R=r->(Dl.table b cells).C=c->Lf G' a (n+300)->Ext a G G'->q (Dl.table b cells).t G'
def M9:∀ ts G q,C4 ts G q->ts.length=1/\EV JM qQ (RT q) (qm ["_law_left_here","_law_rows","_law_columns","_law_banks","_law_cells"] ts) G:=by
 rintro ts G q ⟨a,n,rfl,hL,hn,h⟩;refine ⟨rfl,?_⟩;simp only [EV,qw,qH,cb3,qc,v3,qm,map_cons,List.map_nil,length_cons,length_nil,Nat.zero_add,Nat.reduceAdd,Nat.add_one_sub_one,List.reduceReplicate,cons_append,List.nil_append,u7,getElem?_pos,y3,qh,qM,qk,gn3,qN,o3,c3,set_cons_succ,set_cons_zero,zX,v8,Nat.reduceLeDiff,zf,ne_eq,qB,q0,Nat.reduceLT,y4,za5,qF,true_and,getL];refine ⟨a,n,rfl,hL,by omega,λr c G1 r1 r2 c1 c2 L1 E1=>?_⟩;simp;intro p hp;have hpa:=L1.ne hp;refine qU (L1.new hpa) (by omega) (by omega) (by omega) λd G2 d1 d2 L2' E2=>?_;have g2:=E2 p _ hpa qx;obtain ⟨w,hw,w',rfl,w1,w2⟩:=qrV d1 d2 (P:=λt=>∃ w,t=T.int w/\1<=w/\w<=32) ⟨4,rfl,by omega,by omega⟩ ⟨9,rfl,by omega,by omega⟩ ⟨32,rfl,by omega,by omega⟩;simp only [ixR,getL,g2,hw];refine qU L2' w1 (by omega) (by omega) λb G3 b1 b2 L3' E3=>?_;simp only [lc3,zw,qc,v3,length_cons,length_nil,Nat.zero_add,Nat.reduceAdd,Nat.reduceLT,getElem?_pos,y4,y3,qh,Int.reducePow,Int.reduceNeg,cap,map_cons,u7,Option.join_some,List.map_nil];refine ⟨⟨by omega,by omega⟩,qbz L3' (by omega) (by omega) (by omega) (by omega) (by omega) (by omega) (by omega) λcells G5 p C L5 E5 hp5=>?_⟩;obtain ⟨ok,eR,eC⟩:=C.ok (by omega) (by omega) (by omega) (by omega) (by omega) (by omega);simp only [qx];exact h (1+b) cells r c _ C ⟨ok,by omega,by omega,by show 1+b<=32;omega⟩ eR eC ((L5.new (L5.ne hp5)).mono (by omega)) (E1.trans (((zI hp).trans E2).trans (E3.trans (E5.trans (zI hp5)))))
def qaZ {a b x y:Int} (h0:1<=a) (h1:a<=x) (h2:1<=b) (h3:b<=y):a*b<=x*y:=Int.mul_le_mul h1 h3 (by omega) (by omega)
def Dr.join {d e:Dl} {r c b r' c' b':Int} (D:Dr d r c b) (E:Dr e r' c' b') (h1:r*r'<=4096) (h2:c*c'<=4096) (h3:b*b'<=4096):Dr (.joined d e) (r*r') (c*c') (b*b'):=by
 have Ld:=Dl.lims D.ok;have Le:=Dl.lims E.ok;have a1:=qaZ Ld.r1 D.r2 Le.r1 E.r2;have a2:=qaZ Ld.c1 D.c2 Le.c1 E.c2;have a3:=qaZ Ld.b1 D.b2 Le.b1 E.b2;exact ⟨⟨D.ok,E.ok,by omega,by omega,by omega⟩,a1,a2,a3⟩
def Dr.mono {d:Dl} {r c b r' c' b':Int} (D:Dr d r c b) (h1:r<=r') (h2:c<=c') (h3:b<=b'):Dr d r' c' b':=⟨D.ok,by have:=D.r2;omega,by have:=D.c2;omega,by have:=D.b2;omega⟩
def QR:Sp3:=λts G q=>∃ a n,ts=[.ref a]/\Lf G a n/\n<1000000/\∀ (d:Dl) G',Dr d 16 16 32->d.dep<=2->Lf G' a (n+1000)->Ext a G G'->q d.t G'
def qfA {x:Int} (h0:0<=x) (h1:x<2):Dr (.joined (.skew (1+x) 1 2 1 1) (.table 2 [[1,0]])) 2 2 4:=by
 have a:Dr (.skew (1+x) 1 2 1 1) 2 1 2:=⟨⟨by omega,by omega,by omega,by omega,by omega,by omega,by omega,by omega,by omega,by omega⟩,by show 1+x<=2;omega,Int.le_refl 1,Int.le_refl 2⟩
 have b:Dr (.table 2 [[1,0]]) 1 2 2:=⟨⟨by decide,by decide,by decide,by decide,2,by decide,by decide,by simp⟩,by decide,by decide,by decide⟩
 exact (a.join b (by decide) (by decide) (by decide)).mono (by decide) (by decide) (by decide)
def qtB:Dr (.joined (.skew 8 1 3 1 1) (.rests 2 16 5 7)) 16 16 15:=by
 have a:Dr (.skew 8 1 3 1 1) 8 1 3:=⟨⟨by decide,by decide,by decide,by decide,by decide,by decide,by decide,by decide,by decide,by decide⟩,by decide,by decide,by decide⟩
 have b:Dr (.rests 2 16 5 7) 2 16 5:=⟨⟨by decide,by decide,by decide,by decide,by decide,by decide,by decide,by decide,by decide,by decide⟩,by decide,by decide,by decide⟩
 exact (a.join b (by decide) (by decide) (by decide)).mono (by decide) (by decide) (by decide)
def qtP:Dr (.joined (.rests 1 8 3 4) (.skew 16 2 5 2 1)) 16 16 15:=by
 have a:Dr (.rests 1 8 3 4) 1 8 3:=⟨⟨by decide,by decide,by decide,by decide,by decide,by decide,by decide,by decide,by decide,by decide⟩,by decide,by decide,by decide⟩
 have b:Dr (.skew 16 2 5 2 1) 16 2 5:=⟨⟨by decide,by decide,by decide,by decide,by decide,by decide,by decide,by decide,by decide,by decide⟩,by decide,by decide,by decide⟩
 exact (a.join b (by decide) (by decide) (by decide)).mono (by decide) (by decide) (by decide)
def TZ:∀ ts G q,QR ts G q->ts.length=1/\VD qQ TJ C1 TH C4 C6 (RT q) (qm ["_law_left_here","_law_way","_law_inner","_law_some"] ts) G:=by
 rintro ts G q ⟨a,n,rfl,hL,hn,h⟩;refine ⟨rfl,?_⟩;unfold VD;refine zE λnx1 q1=>?_;simp only [qH,cb3,qc,v3,qm,map_cons,List.map_nil,length_cons,length_nil,Nat.zero_add,Nat.reduceAdd,Nat.add_one_sub_one,List.reduceReplicate,cons_append,List.nil_append,u7,getElem?_pos,y3,c3,qh,gn3,set_cons_succ,set_cons_zero];refine qU hL (by omega) (by omega) (by omega) λw G1 w1 w2 L1 E1=>?_
 try simp
 rw [q1];clear q1;refine zE λnx2 q2=>?_;by_cases k0:w<2
 ·simp only [qV,tb3,o3,v3,length_cons,length_nil,Nat.zero_add,Nat.reduceAdd,Nat.reduceLT,getElem?_pos,y4,y3,c3,iB,k0,decide_true,↓reduceIte,qB,cb3,qc,u7,qh];exact ⟨a,n+1,rfl,L1,by omega,λr c b x y G2 D L2' E2=>h _ G2 D (Nat.zero_le _) (L2'.mono (by omega)) (E1.trans E2)⟩
 simp only [qV,tb3,o3,v3,c3,iB,x8,x6,k0,decide_false,Bool.false_eq_true,if_false,qt];rw [q2];clear q2;refine zE λnx3 q3=>?_;by_cases k1:w=2
 ·subst k1;simp only [qV,tb3,o3,v3,length_cons,length_nil,Nat.zero_add,Nat.reduceAdd,Nat.reduceLT,getElem?_pos,y4,y3,c3,qY,qS,decide_true,Bool.false_eq_true,↓reduceIte,qB,cb3,qc,u7,qh];exact ⟨a,n+1,rfl,L1,by omega,λr c b p G2 D L2' E2=>h _ G2 D (Nat.zero_le _) (L2'.mono (by omega)) (E1.trans E2)⟩
 simp only [qV,tb3,o3,v3,c3,qY,qS,x8,x6,k1,decide_false,Bool.false_eq_true,if_false,qt];rw [q3];clear q3;refine zE λnx4 q4=>?_;by_cases k2:w=3
 ·subst k2;simp only [qV,tb3,o3,v3,length_cons,length_nil,Nat.zero_add,Nat.reduceAdd,Nat.reduceLT,getElem?_pos,y4,y3,c3,qY,qS,decide_true,Bool.false_eq_true,↓reduceIte,qB,cb3,qc,u7,qh];refine ⟨a,n+1,4,rfl,L1,by omega,by omega,by omega,λhh l ms G2 h1 h2 ok L2' E2=>h _ G2 ⟨ok,?_,?_,?_⟩ (Nat.zero_le _) (L2'.mono (by omega)) (E1.trans E2)⟩
  ·have:=W0 (n:=hh) (k:=4) (by omega);show (2:Int) ^ hh<=16;omega
  ·have:=W0 (n:=l) (k:=4) (by omega);show (2:Int) ^ l<=16;omega
  ·have:=W0 ok.2.2.1;show (2:Int) ^ ms.length<=32;omega
 simp only [qV,tb3,o3,v3,c3,qY,qS,x8,x6,k2,decide_false,Bool.false_eq_true,if_false,qt];rw [q4];clear q4;refine zE λnx5 q5=>?_;by_cases k3:w=4
 ·subst k3;simp only [qV,tb3,o3,v3,length_cons,length_nil,Nat.zero_add,Nat.reduceAdd,Nat.reduceLT,getElem?_pos,y4,y3,c3,qY,qS,decide_true,Bool.false_eq_true,↓reduceIte,qB,cb3,qc,u7,qh];exact ⟨a,n+1,rfl,L1,by omega,λb cells r c G2 C D eR eC L2' E2=>h _ G2 D (Nat.zero_le _) (L2'.mono (by omega)) (E1.trans E2)⟩
 simp only [qV,tb3,o3,v3,c3,qY,qS,x8,x6,k3,decide_false,Bool.false_eq_true,if_false,qt];rw [q5];clear q5;refine zE λnx6 q6=>?_;by_cases k4:w=5
 ·subst k4;simp only [qV,tb3,o3,v3,length_cons,length_nil,Nat.zero_add,Nat.reduceAdd,Nat.reduceLT,getElem?_pos,y4,y3,c3,qY,qS,decide_true,Bool.false_eq_true,↓reduceIte,qw,qH,q0,qc,cb3,u7,qh,zf,ne_eq,v8,Nat.reduceLeDiff,gn3,zX,set_cons_succ,set_cons_zero,zt,bm3,za5,getL,gu,Option.isSome_some,JI,cons_append,List.nil_append,qB,true_and];refine qU L1 (by omega) (by omega) (by omega) λx G2 x1 x2 L2' E2=>?_;have I:=qfA x1 x2
  try simp
  refine ⟨a,n+1+1,rfl,L2',by omega,λd G3 Dd dd L3' E3=>?_⟩
  try simp
  refine ⟨a,n+1+1+300,rfl,L3',by omega,λe G4 De de L4 E4=>?_⟩
  try simp
  intro p hp;have hpa:=L4.ne hp;refine qU (((L4.new hpa).new hpa).new hpa) (by omega) (by omega) (by omega) λk G5 k1 k2 L5 E5=>?_;have g5:=E5 p _ hpa qx;have EE:Ext a G G5:=(E1.trans E2).trans ((E3.trans E4).trans (Ext.trans (λb o hb e=>by
   have hbp:b≠p:=by rintro rfl;rw [hp] at e;cases e
   rw [j8 hbp,j8 hbp,j8 hbp];exact e) E5))
  have P1:∃ d':Dl,(Dl.joined (.joined (.skew (1+x) 1 2 1 1) (.table 2 [[1,0]])) d).t=d'.t/\Dr d' 16 16 32/\d'.dep<=2:=⟨_,rfl,(I.join Dd (by decide) (by decide) (by decide)).mono (by decide) (by decide) (by decide),by simp [Dl.dep,dd]⟩
  have P2:∃ d':Dl,(Dl.joined e (.joined (.skew (1+x) 1 2 1 1) (.table 2 [[1,0]]))).t=d'.t/\Dr d' 16 16 32/\d'.dep<=2:=⟨_,rfl,(De.join I (by decide) (by decide) (by decide)).mono (by decide) (by decide) (by decide),by simp [Dl.dep,de]⟩
  have P3:∃ d':Dl,(Dl.joined (.skew 8 1 3 1 1) (.rests 2 16 5 7)).t=d'.t/\Dr d' 16 16 32/\d'.dep<=2:=⟨_,rfl,qtB.mono (by decide) (by decide) (by decide),by simp [Dl.dep]⟩
  have P4:∃ d':Dl,(Dl.joined (.rests 1 8 3 4) (.skew 16 2 5 2 1)).t=d'.t/\Dr d' 16 16 32/\d'.dep<=2:=⟨_,rfl,qtP.mono (by decide) (by decide) (by decide),by simp [Dl.dep]⟩
  obtain ⟨t,ht,d',rfl,D',dl⟩:=qqA k1 k2 (P:=λt=>∃ d':Dl,t=d'.t/\Dr d' 16 16 32/\d'.dep<=2) P1 P2 P3 P4;have hg:getL G5 p=some [(Dl.joined (.joined (.skew (1+x) 1 2 1 1) (.table 2 [[1,0]])) d).t,(Dl.joined e (.joined (.skew (1+x) 1 2 1 1) (.table 2 [[1,0]]))).t,(Dl.joined (.skew 8 1 3 1 1) (.rests 2 16 5 7)).t,(Dl.joined (.rests 1 8 3 4) (.skew 16 2 5 2 1)).t]:=by
   unfold getL;rw [g5];rfl
  rw [L3.ixR,hg];simp only [ht];exact h d' G5 D' dl (L5.mono (by omega)) EE
 ·simp only [qV,tb3,o3,v3,c3,qY,qS,x8,x6,k4,decide_false,Bool.false_eq_true,if_false,qt];rw [q6];simp only [qB,q0,qc,c3,cb3,v3,length_cons,length_nil,Nat.zero_add,Nat.reduceAdd,u7,getElem?_pos,y3,qh,v8,Nat.reduceLeDiff,true_and];refine ⟨a,n+1,rfl,L1,by omega,λd G3 Dd dd L3' E3=>?_⟩;refine ⟨a,n+1+300,rfl,L3',by omega,λe G4 De de L4 E4=>?_⟩
  try simp
  exact h (.joined d e) G4 ((Dd.join De (by decide) (by decide) (by decide)).mono (by decide) (by decide) (by decide)) (by simp [Dl.dep];omega) (L4.mono (by omega)) (E1.trans (E3.trans E4))
theorem qdv:∀ (k n:Nat),pop (k+1) n=pop k n+n/2 ^ k%2
 |0,n=>by simp [pop]
 |k+1,n=>by
  have e1:pop (k+2) n=n%2+pop (k+1) (n/2):=rfl;have e2:pop (k+1) n=n%2+pop k (n/2):=rfl;rw [e1,e2,qdv k (n/2),Nat.div_div_eq_div_mul,show 2*2 ^ k=2 ^ (k+1) by rw [Nat.pow_succ,Nat.mul_comm]];omega
def qlE {k k' n:Nat} (h:n<2 ^ k) (hk:k<=k'):pop k' n=pop k n:=by
 induction hk with
 |refl=>rfl
 |step hk ih=>rw [RU _ n (za1 h (Nat.pow_le_pow_right (by omega) hk)),ih]
def CT:Sp3:=λts G q=>∃ n:Int,ts=[.int n]/\0<=n/\n<512/\∀ G',Ex G G'->q (.bl (pop 64 n.toNat%2==1)) G'
def qcE:∀ ts G q,CT ts G q->ts.length=1/\S0 (RT q) (qm ["_law_number","_law_found","_law_t"] ts) G:=by
 rintro ts G q ⟨n,rfl,n0,n1,h⟩;refine ⟨rfl,?_⟩;obtain ⟨m,rfl⟩:=Int.eq_ofNat_of_zero_le n0;simp only [S0,qw,qH,c3,gn3,RM,zw,qc,qh,Int.reducePow,Int.reduceNeg,Int.neg_ofNat_le_ofNat,Int.reduceLT,and_self,Int.reduceToNat,qm,map_cons,List.map_nil,length_cons,length_nil,Nat.zero_add,Nat.reduceAdd,Nat.add_one_sub_one,List.reduceReplicate,cons_append,List.nil_append,set_cons_succ,set_cons_zero,true_and];refine V6 _ (λi τ G'=>Ex G G'/\∃ x2,τ=[some (.int m),some (.bl (pop i m%2==1)),x2]) ⟨Ex.refl,none,rfl⟩ (λ_ _ _ _ _=>True.intro) ?_ ?_
 ·rintro i z τ G' nx hz ⟨E,x2,rfl⟩ hn;obtain ⟨hi,rfl⟩:=MM hz;have hi9:i<=8:=Nat.le_of_lt_succ hi;simp only [gn3,qH,o3,v3,Int.zero_add,set_cons_succ,set_cons_zero,length_cons,length_nil,Nat.zero_add,Nat.reduceAdd,Nat.reduceLT,getElem?_pos,y4,y3,u7,zX,qc,c3,qh,v8,Nat.reduceLeDiff,za5,iC,Int.reduceLT,qY,qS,Bool.false_eq_true,↓reduceIte,true_and,ixR,getL,gu];intro p hp;rw [qbv hi9];have hp2:=WE i;have hp3:=W0 (n:=i) (k:=8) hi9;simp only;refine ⟨⟨by omega,by omega⟩,hn _ _ ⟨E.trans (QB hp),some (.int i),?_⟩⟩;have e1:((m:Int)/2 ^ i)=((m/2 ^ i:Nat):Int):=by rw [p2];exact (Int.natCast_ediv _ _).symm
  have e2:decide ((m:Int)/2 ^ i%2=1)=(m/2 ^ i%2==1):=by
   rw [e1];by_cases hb:m/2 ^ i%2=1
   ·have z:((m/2 ^ i:Nat):Int)%2=1:=by omega
    rw [decide_eq_true z,hb];rfl
   ·have z:¬ ((m/2 ^ i:Nat):Int)%2=1:=by omega
    rw [za8 z];exact (beq_eq_false_iff_ne.mpr hb).symm
  have e3:(pop (i+1) m%2==1)=!(decide ((pop i m%2==1)=decide ((m:Int)/2 ^ i%2=1))):=by
   rw [e2,qdv];have h1:pop i m%2=0\/pop i m%2=1:=by omega
   have h2:m/2 ^ i%2=0\/m/2 ^ i%2=1:=by omega
   rcases h1 with h1|h1<;>rcases h2 with h2|h2<;>simp [Nat.add_mod,h1,h2]
  rw [e3]
  all_goals try simp
 ·rintro τ G' ⟨E,x2,rfl⟩;rw [Z5];simp only [qB,v3,length_cons,length_nil,Nat.zero_add,Nat.reduceAdd,Nat.reduceLT,getElem?_pos,y4,y3];have:=h G' E;rw [show (m:Int).toNat=m from rfl,qlE (k:=9) (k':=64) (by omega) (by omega)] at this;simpa using this
def jJ:Nat->Sp3
 |0=>CF
 |n+1=>λts G q=>∃ (d:Dl) (i j:Int),ts=[d.t,.int i,.int j]/\d.dep<=n/\d.Ok/\Inn d i j/\∀ G',Ex G G'->q (.int (d.bank i j)) G'
def qkp {ms:List Int} {i j c:Int} {n:Int} {G:Gp} {q:Q3} (hn:n=i*c+j) (hc:JJ i c) (h0:0<=n) (hl:ms.length<=5) (hm:∀ m∈ms,0<=m/\m<512) (h:∀ p G',Ex G G'->G' p=none->q (.ref p) (gu G' p (.lst ((zN n 0 ms).map T.int)))) :
  TY (λG=>jR G (.tup (ms.map T.int))=some (ms.map T.int)) (qM 2 (qk (gn3 0) (qk (gn3 1) qN))) (tb3 (cb3 CT (qc (o3 (iI Builtin.bitAnd) (o3 zf (o3 (iC JJ (·*·)) (v3 3) (v3 4)) (v3 2)) (v3 1)) qh))) (o3 ix3 (zX (qc (c3 (.int 1)) (qc (c3 (.int 2)) (qc (c3 (.int 4)) (qc (c3 (.int 8)) (qc (c3 (.int 16)) qh)))))) (v3 0)) q (qeu (ms.map T.int)) [] [none,none,some (.int j),some (.int i),some (.int c)] G:=by
 refine WZ _ (λk ys τ G'=>Ex G G'/\ys=(zN n 0 (ms.take k)).map T.int/\∃ x0 x1,τ=[x0,x1,some (.int j),some (.int i),some (.int c)]) ⟨Ex.refl,by simp [zN],none,none,rfl⟩ (λ_ ys τ G' _ hp=>rfl) ?_ ?_
 ·rintro k z ys τ G' R hz ⟨E,rfl,x0,x1,rfl⟩ hR;obtain ⟨a,ha,rfl⟩:=WG hz;rw [getElem?_map] at ha;cases e:ms[k]? with
  |none=>rw [e] at ha;cases ha
  |some m=>
   rw [e] at ha;have:a=T.int m:=by simpa using ha.symm
   subst this;obtain ⟨hi,hm'⟩:=zb0 e;have mm:=hm m (by rw [← hm'];exact za7 hi);have hr:=PyProof.Rows.bitAnd_range n mm.1;simp [qw,qH,gn3,qB,jy,qV,zt,V1,qt,v3,c3,o3,u3,ZB,L3.ixT,L3.ixR,zf,iI,iC,iB,qY,qS,JF,tb3,ED,or3,JD,qZ,EF,zY,if3,ch3,cb3,qc,qh,QP,tyT,je,q0,zX,J3,np3,sp3,qM,qk,qN,zG,JG,j6,qm,bm3,JI,YI,jP,JS,VQ,VR,JT,qF,zS,J6,EB,VX,ZE,HT.sIx,getL,in3,zx,eqF,gu,v8,x8,x6,hc,← hn];refine ⟨_,rfl,hr.1,by omega,λG2 E2=>?_⟩;have tk:ms.take (k+1)=ms.take k++[m]:=by rw [List.take_succ_eq_append_getElem hi,hm']
   have lt:(ms.take k).length=k:=by rw [List.length_take];omega
   have st:zN n 0 (ms.take (k+1))=zN n 0 (ms.take k)++(if qbS n m then [2 ^ k] else []):=by
    rw [tk,VG,lt];simp [zN]
   have cl:=ZG n 0 (ms.take k);have eo:(pop 64 (Builtin.bitAnd n m).toNat%2==1)=qbS n m:=rfl;rw [eo];cases ho:qbS n m with
   |true=>
    simp;intro p hp;have e5:=qbT (d:=k) (by omega);simp [L3.ixR,getL,qx,e5];refine ⟨by omega,hR _ _ _ ⟨E.trans (E2.trans (QB hp)),?_,_,_,rfl⟩⟩;rw [st,ho];simp
   |false=>
    simp;refine hR _ _ _ ⟨E.trans E2,?_,_,_,rfl⟩;rw [st,ho];simp
 ·rintro ys τ G' ⟨E,rfl,x0,x1,rfl⟩ p hp;rw [R8,length_map,List.take_length];exact h p G' E hp
def EQ (n:Nat):∀ ts G q,jJ (n+1) ts G q->ts.length=3/\XQ (zD (n+1)) CT (jJ n) (RT q) (qm ["_law_dealing_here","_law_i","_law_j","_law_rows","_law_columns","_law_banks","_law_some","_law_high","_law_wide","_law_more"] ts) G:=by
 rintro ts G q ⟨d,i,j,rfl,hd,ok,I,h⟩;refine ⟨rfl,?_⟩;have i1:=I.i1;have i2:=I.i2;have j1:=I.j1;have j2:=I.j2;have L:=Dl.lims ok;have r2:=L.r2;have c1:=L.c1;have c2:=L.c2;have b1:=L.b1;have b2:=L.b2;unfold XQ;refine zE λnx1 q1=>?_;simp only [qH,cb3,qc,qh,v3,qm,List.map,List.length,cons_append,x8];refine ⟨d,rfl,hd,ok,λG1 E1=>?_⟩;simp [RE,qM,qk,qN,gn3];cases d with
 |skew r c b x y=>
  obtain ⟨k1,k2,k3,k4,k5,k6,k7,k8,k9,k10⟩:=ok;simp only [Dl.t];rw [q1,zQ rfl,if_pos rfl];simp [L2.atI,ixN,qw,qH,gn3,qB,jy,qV,zt,V1,qt,v3,c3,o3,u3,ZB,L3.ixT,L3.ixR,zf,iI,iC,iB,qY,qS,JF,tb3,ED,or3,JD,qZ,EF,zY,if3,ch3,cb3,qc,qh,QP,tyT,je,q0,zX,J3,np3,sp3,qM,qk,qN,zG,JG,j6,qm,bm3,JI,YI,jP,JS,VQ,VR,JT,qF,zS,J6,EB,VX,ZE,HT.sIx,getL,in3,zx,eqF,gu,v8,x8,x6];exact ⟨cm' (by omega) (by omega),cm' (by omega) (by omega),by simp only [Dl.B];omega,h _ E1⟩
 |rests r c b x=>
  simp only [Dl.t];rw [q1,zQ rfl,if_neg (by decide),zQ rfl,if_pos rfl];simp [qw,qH,gn3,qB,jy,qV,zt,V1,qt,v3,c3,o3,u3,ZB,L3.ixT,L3.ixR,zf,iI,iC,iB,qY,qS,JF,tb3,ED,or3,JD,qZ,EF,zY,if3,ch3,cb3,qc,qh,QP,tyT,je,q0,zX,J3,np3,sp3,qM,qk,qN,zG,JG,j6,qm,bm3,JI,YI,jP,JS,VQ,VR,JT,qF,zS,J6,EB,VX,ZE,HT.sIx,getL,in3,zx,eqF,gu,v8,x8,x6];exact ⟨cm (by omega) (by omega),by omega,h _ E1⟩
 |bits hh l ms=>
  obtain ⟨k1,k2,k3,k4⟩:=ok;simp only [Dl.t];rw [q1,zQ rfl,if_neg (by decide),zQ rfl,if_neg (by decide),zQ rfl,if_pos rfl];refine zE λnx2 q2=>?_;simp [qcI,qlw,lc3,KN,cap,qw,qH,gn3,qB,jy,qV,zt,V1,qt,v3,c3,o3,u3,ZB,L3.ixT,L3.ixR,zf,iI,iC,iB,qY,qS,JF,tb3,ED,or3,JD,qZ,EF,zY,if3,ch3,cb3,qc,qh,QP,tyT,je,q0,zX,J3,np3,sp3,qM,qk,qN,zG,JG,j6,qm,bm3,JI,YI,jP,JS,VQ,VR,JT,qF,zS,J6,EB,VX,ZE,HT.sIx,getL,in3,zx,eqF,gu,v8,x8,x6];refine qkp (n:=i*2 ^ l+j) rfl (cm (by omega) (by omega)) (qbJ (h:=hh) i1 j1) k3 (λm hm=>⟨(k4 m hm).1,?_⟩) λp G2 E2 hp=>?_
  ·have:=(k4 m hm).2;have:=W0 (n:=hh+l) (k:=8) (by omega);omega
  ·try rw [q2]
   simp [qlh,getL,qx,YG,qw,qH,gn3,qB,jy,qV,zt,V1,qt,v3,c3,o3,u3,ZB,L3.ixT,L3.ixR,zf,iI,iC,iB,qY,qS,JF,tb3,ED,or3,JD,qZ,EF,zY,if3,ch3,cb3,qc,qh,QP,tyT,je,q0,zX,J3,np3,sp3,qM,qk,qN,zG,JG,j6,qm,bm3,JI,YI,jP,JS,VQ,VR,JT,qF,zS,J6,EB,VX,ZE,HT.sIx,getL,in3,zx,eqF,gu,v8,x8,x6];refine ⟨⟨by have:=ZG (i*2 ^ l+j) 0 ms;omega,λx hx=>?_⟩,?_⟩
   ·obtain ⟨k,h1,rfl⟩:=UW _ 0 ms x hx;have:=WE k;have:=W0 (n:=k) (k:=30) (by omega);omega
   ·rw [U0];exact h _ (E1.trans (E2.trans (QB hp)))
 |table b cells=>
  obtain ⟨k1,k2,k3,k4,c,k5,k6,k7⟩:=ok;have e0:cells[0]?=some cells[0]:=v9 (by omega);have eC:(Dl.table b cells).C=c:=by simp [Dl.C,e0,(k7 cells[0] (za7 _)).1]
  have eR:(Dl.table b cells).R=cells.length:=rfl;rw [eR] at i2;rw [eC] at j2;have hi:i.toNat<cells.length:=by omega
  have hrow:=k7 cells[i.toNat] (za7 hi);have hj:j.toNat<cells[i.toNat].length:=by rw [hrow.1];omega
  simp only [Dl.t];rw [q1,zQ rfl,if_neg (by decide),zQ rfl,if_neg (by decide),zQ rfl,if_neg (by decide),zQ rfl,if_pos rfl];simp [qdl,qw,qH,gn3,qB,jy,qV,zt,V1,qt,v3,c3,o3,u3,ZB,L3.ixT,L3.ixR,zf,iI,iC,iB,qY,qS,JF,tb3,ED,or3,JD,qZ,EF,zY,if3,ch3,cb3,qc,qh,QP,tyT,je,q0,zX,J3,np3,sp3,qM,qk,qN,zG,JG,j6,qm,bm3,JI,YI,jP,JS,VQ,VR,JT,qF,zS,J6,EB,VX,ZE,HT.sIx,getL,in3,zx,eqF,gu,v8,x8,x6];rw [jG i1 (by simpa using i2)];simp [hi,qbF,L3.ixT];rw [jG j1 (by simp;omega)];simp [hj];have:=h G1 E1;simpa [Dl.bank,hi,hj] using this
 |joined d e=>
  obtain ⟨kd,ke,kr,kc,kb⟩:=ok;have Le:=Dl.lims ke;obtain ⟨I1,I2⟩:=I.up Le;have:1<=n:=by simp [Dl.dep] at hd;omega
  obtain ⟨m,rfl⟩:∃ m,n=m+1:=⟨n-1,by omega⟩
  have r1:=Le.r1;have r2:=Le.r2;have c1:=Le.c1;have c2:=Le.c2;have b1:=Le.b1;have b2:=Le.b2;simp only [Dl.t];rw [q1,zQ rfl,if_neg (by decide),zQ rfl,if_neg (by decide),zQ rfl,if_neg (by decide),zQ rfl,if_neg (by decide)];simp [qda,qdl,qw,qH,gn3,qB,jy,qV,zt,V1,qt,v3,c3,o3,u3,ZB,L3.ixT,L3.ixR,zf,iI,iC,iB,qY,qS,JF,tb3,ED,or3,JD,qZ,EF,zY,if3,ch3,cb3,qc,qh,QP,tyT,je,q0,zX,J3,np3,sp3,qM,qk,qN,zG,JG,j6,qm,bm3,JI,YI,jP,JS,VQ,VR,JT,qF,zS,J6,EB,VX,ZE,HT.sIx,getL,in3,zx,eqF,gu,v8,x8,x6];refine ⟨e,rfl,by simp [Dl.dep] at hd;omega,ke,λG2 E2=>?_⟩;simp [RE];refine ⟨⟨by omega,by omega⟩,⟨by omega,by omega⟩,d,_,_,rfl,by simp [Dl.dep] at hd;omega,kd,I1,λG3 E3=>?_⟩;simp;refine ⟨cm (by omega) (by omega),by omega,by omega,e,_,_,rfl,by simp [Dl.dep] at hd;omega,ke,I2,λG4 E4=>?_⟩;simp;exact h _ (E1.trans (E2.trans (E3.trans E4)))
theorem _root_.L3.Dps.append {G:Gp}:∀ {xs ys:List T} {ds es:List PyData},Dps G xs ds->Dps G ys es->Dps G (xs++ys) (ds++es)
 |_,_,_,_,.nil,b=>b
 |_,_,_,_,.cons a t,b=>.cons a (L3.Dps.append t b)
theorem _root_.L3.Dps.take {G:Gp}:∀ {xs:List T} {ds:List PyData} (i:Nat),Dps G xs ds->Dps G (xs.take i) (ds.take i)
 |_,_,0,_=>.nil
 |_,_,_+1,.nil=>.nil
 |_,_,i+1,.cons a t=>.cons a (L3.Dps.take i t)
theorem _root_.L3.Dps.drop {G:Gp}:∀ {xs:List T} {ds:List PyData} (i:Nat),Dps G xs ds->Dps G (xs.drop i) (ds.drop i)
 |_,_,0,h=>h
 |_,_,_+1,.nil=>.nil
 |_,_,i+1,.cons a t=>L3.Dps.drop i t
def LM:TS3:=(qB (lc3 (zw (qc (v3 2) qh)) (gn3 0) tt3 (q0 (qc (o3 (iC JJ (·*·)) (v3 0) (v3 1)) (qc (o3 (iC JJ (·*·)) (v3 0) (v3 2)) qh))) [none,some 0,some 1]))
def CC (zf5:Sp3):TS3:=(qw (qH (o3 ix3 (v3 0) (c3 (.int 0))) (gn3 1)) (qw (qV (tb3 (o3 (qY false) (v3 1) (c3 (.str "cells")))) (qB (cb3 zS (qc (o3 ix3 (v3 0) (c3 (.int 1))) qh))) qt) (qw (qV (tb3 (o3 (qY false) (v3 1) (c3 (.str "block")))) (qB (qp8 (zw (qc (o3 ix3 (v3 0) (c3 (.int 1))) qh)) (gn3 0) tt3 (zw (qc (o3 ix3 (v3 2) (c3 (.int 2))) qh)) (gn3 1) tt3 (q0 (qc (v3 0) (qc (v3 1) qh))) [none,none,some 0])) qt) (qw (qV (tb3 (o3 (qY false) (v3 1) (c3 (.str "step")))) (qB (cb3 zf5 (qc (o3 ix3 (v3 0) (c3 (.int 1))) (qc (o3 ix3 (v3 0) (c3 (.int 2))) (qc (o3 ix3 (v3 0) (c3 (.int 3))) qh))))) qt) (qw (qH (qfu WJ (v3 1)) (qM 2 (qk (gn3 2) (qk (gn3 3) qN)))) (qB (cb3 zf5 (qc (v3 2) (qc (v3 3) (qc (o3 ix3 (v3 0) (c3 (.int 1))) qh))))))))))
def LR (zf3:Sp3) (zc0:Sp3):TS3:=(qw (qH (cb3 zf3 (qc (v3 0) qh)) (qM 3 (qk (gn3 2) (qk (gn3 3) (qk (gn3 4) qN))))) (qw (qH (cb3 zc0 (qc (v3 1) qh)) (gn3 5)) (qw (qH (lc3 (JH (v3 5)) (qM 2 (qk (gn3 0) (qk (gn3 1) qN))) tt3 (v3 0) [none,none]) (gn3 6)) (qw (qH (lc3 (JH (v3 5)) (qM 2 (qk (gn3 0) (qk (gn3 1) qN))) tt3 (v3 1) [none,none]) (gn3 7)) (qB (qp8 (zw (qc (u3 ZB (cb3 NI (qc (v3 6) qh))) (qc (o3 (iI (·-·)) (v3 2) (cb3 qaj (qc (v3 6) qh))) qh))) (gn3 0) tt3 (zw (qc (u3 ZB (cb3 NI (qc (v3 3) qh))) (qc (o3 (iI (·-·)) (v3 2) (cb3 qaj (qc (v3 3) qh))) qh))) (gn3 1) tt3 (q0 (qc (v3 0) (qc (v3 1) qh))) [none,none,some 3,some 7]))))))
def CU (zd9:Sp3):TS3:=(qB (o3 zf (c3 (.int 1)) (cb3 zd9 (qc (v3 0) (qc (o3 ix3 (zX (qc (c3 (.int 5)) (qc (c3 (.int 5)) (qc (c3 (.int 5)) (qc (c3 (.int 5)) (qc (c3 (.int 5)) (qc (c3 (.int 5)) (qc (c3 (.int 8)) (qc (c3 (.int 16)) qh))))))))) (cb3 zd9 (qc (v3 0) (qc (c3 (.int 8)) qh)))) qh)))))
def CO (zd9:Sp3) (zd6:Sp3):TS3:=(qw (qH (cb3 zd9 (qc (v3 0) (qc (c3 (.int 9)) qh))) (gn3 1)) (qw (qV (tb3 (o3 (iB λi j=>decide (i<j)) (v3 1) (c3 (.int 4)))) (qB (q0 (qc (o3 ix3 (zX (qc (c3 (.str "row")) (qc (c3 (.str "column")) (qc (c3 (.str "slant")) (qc (c3 (.str "back")) qh))))) (v3 1)) (qc (cb3 zd6 (qc (v3 0) qh)) qh)))) qt) (qw (qV (tb3 (o3 (iB λi j=>decide (i<j)) (v3 1) (c3 (.int 6)))) (qw (j6 2 3 (qc (cb3 zd9 (qc (v3 0) (qc (c3 (.int 2)) qh))) (qc (o3 zf (c3 (.int 1)) (cb3 zd9 (qc (v3 0) (qc (c3 (.int 4)) qh)))) qh))) (qw (qH (o3 zf (c3 (.int 1)) (cb3 zd9 (qc (v3 0) (qc (o3 (iC qcf (·/·)) (c3 (.int 16)) (v3 3)) qh)))) (gn3 4)) (qB (o3 ix3 (zX (qc (q0 (qc (c3 (.str "block")) (qc (v3 3) (qc (v3 4) qh)))) (qc (q0 (qc (c3 (.str "block")) (qc (v3 4) (qc (v3 3) qh)))) qh))) (v3 2))))) qt) (qw (qV (tb3 (o3 (iB λi j=>decide (i<j)) (v3 1) (c3 (.int 8)))) (qw (j6 5 6 (qc (o3 (iI (·-·)) (cb3 zd9 (qc (v3 0) (qc (c3 (.int 7)) qh))) (c3 (.int 3))) (qc (o3 (iI (·-·)) (cb3 zd9 (qc (v3 0) (qc (c3 (.int 9)) qh))) (c3 (.int 4))) qh))) (qw (qV (tb3 (o3 (qY false) (cb3 zd9 (qc (v3 0) (qc (c3 (.int 6)) qh))) (c3 (.int 0)))) (qB (q0 (qc (c3 (.str "step")) (qc (o3 (iC JJ (·*·)) (c3 (.int 5)) (v3 5)) (qc (o3 zf (o3 (iC JJ (·*·)) (c3 (.int 3)) (v3 6)) (cb3 JT (qc (qZ (o3 (qY false) (v3 5) (c3 (.int 0))) (o3 (qY false) (v3 6) (c3 (.int 0)))) qh))) (qc (o3 zf (c3 (.int 1)) (cb3 zd9 (qc (v3 0) (qc (c3 (.int 4)) qh)))) qh)))))) qt) (qB (q0 (qc (c3 (.str "step")) (qc (v3 5) (qc (o3 zf (v3 6) (cb3 JT (qc (qZ (o3 (qY false) (v3 5) (c3 (.int 0))) (o3 (qY false) (v3 6) (c3 (.int 0)))) qh))) (qc (cb3 zd6 (qc (v3 0) qh)) qh)))))))) qt) (qw (j6 7 8 (qc (zX qh) (qc (o3 zf (c3 (.int 1)) (o3 (iC JJ (·*·)) (c3 (.int 4)) (cb3 JT (qc (o3 (qY false) (cb3 zd9 (qc (v3 0) (qc (c3 (.int 5)) qh))) (c3 (.int 0))) qh)))) qh))) (qw (RM (zw (qc (cb3 zd6 (qc (v3 0) qh)) qh)) (gn3 9) (qw (qH (q0 (qc (o3 (iC JJ (·*·)) (v3 8) (o3 (iI (·-·)) (cb3 zd9 (qc (v3 0) (qc (c3 (.int 6)) qh))) (c3 (.int 2)))) (qc (o3 (iC JJ (·*·)) (v3 8) (o3 (iI (·-·)) (cb3 zd9 (qc (v3 0) (qc (c3 (.int 6)) qh))) (c3 (.int 2)))) qh))) (gn3 10)) (qV (tb3 (o3 (qqk true) (v3 10) (v3 7))) (zt (bm3 JI (v3 7) (qc (v3 10) qh))) qt))) (qB (q0 (qc (c3 (.str "cells")) (qc (cb3 qF (qc (v3 7) qh)) qh))))))))))
def DH:TS3:=(qw (qV (tb3 (o3 (qY false) (o3 ix3 (v3 0) (c3 (.int 0))) (c3 (.str "cells")))) (qB (cb3 zS (qc (o3 ix3 (v3 0) (c3 (.int 1))) qh))) qt) (qw (qV (tb3 (o3 (qY false) (o3 ix3 (v3 0) (c3 (.int 0))) (c3 (.str "block")))) (qw (qH (zX qh) (gn3 1)) (qw (RM (zw (qc (o3 ix3 (v3 0) (c3 (.int 1))) qh)) (gn3 2) (zt (bm3 YI (v3 1) (qc (lc3 (zw (qc (o3 ix3 (v3 0) (c3 (.int 2))) qh)) (gn3 0) tt3 (q0 (qc (v3 1) (qc (v3 0) qh))) [none,some 2]) qh)))) (qB (v3 1)))) qt) (qw (qH (qjh ["row","column","slant","back","step"] (qc (q0 (qc (c3 (.int 0)) (qc (c3 (.int 1)) qh))) (qc (q0 (qc (c3 (.int 1)) (qc (c3 (.int 0)) qh))) (qc (q0 (qc (c3 (.int 1)) (qc (c3 (.int 1)) qh))) (qc (q0 (qc (c3 (.int 1)) (qc (u3 ZB (c3 (.int 1))) qh))) (qc (J3 (v3 0) (sp3 (c3 (.int 1))) (sp3 (c3 (.int 3)))) qh))))) (o3 ix3 (v3 0) (c3 (.int 0)))) (qM 2 (qk (gn3 3) (qk (gn3 4) qN)))) (qB (lc3 (zw (qc (o3 ix3 (v3 0) (u3 ZB (c3 (.int 1)))) qh)) (gn3 0) tt3 (q0 (qc (o3 (iC JJ (·*·)) (v3 0) (v3 1)) (qc (o3 (iC JJ (·*·)) (v3 0) (v3 2)) qh))) [none,some 3,some 4])))))
def YT:TS3:=(qw (RM (zw (qc (cb3 jP (qc (v3 0) qh)) qh)) (gn3 1) (RM (zw (qc (o3 zf (v3 1) (c3 (.int 1))) (qc (cb3 jP (qc (v3 0) qh)) qh))) (gn3 2) (qV (tb3 (o3 (qY false) (o3 ix3 (v3 0) (v3 1)) (o3 ix3 (v3 0) (v3 2)))) (qB (q0 (qc (v3 1) (qc (v3 2) qh)))) qt))) (qB (c3 .non)))
def SK (zc0:Sp3):TS3:=(qB (lc3 (JH (cb3 zc0 (qc (v3 0) qh))) (qM 2 (qk (gn3 0) (qk (gn3 1) qN))) tt3 (q0 (qc (o3 zf (o3 ix3 (v3 2) (c3 (.int 0))) (v3 0)) (qc (o3 zf (o3 ix3 (v3 2) (c3 (.int 1))) (v3 1)) qh))) [none,none,some 1]))
def XO (zf2:Sp3) (zc7:Sp3) (zc5:Sp3):TS3:=(qB (qZ (cb3 zc5 (qc (v3 2) qh)) (cb3 J6 (qc (lc3 (JH (cb3 zf2 (qc (v3 1) (qc (v3 2) qh)))) (gn3 0) tt3 (cb3 zc7 (qc (v3 1) (qc (v3 0) qh))) [none,some 0]) qh))))
def XJ (zc6:Sp3) (zf2:Sp3):TS3:=(qw (qV (JD (tb3 (cb3 zc6 (qc (v3 0) (qc (v3 1) (qc (v3 2) qh)))))) V1 qt) (qB (cb3 zf2 (qc (v3 1) (qc (v3 2) qh)))))
def V4 (zf6:Sp3) (zb7:Sp3):TS3:=(qB (lc3 (JH (cb3 zf6 (qc (v3 0) (qc (v3 1) (qc (v3 2) qh))))) (gn3 0) tt3 (cb3 zb7 (qc (v3 1) (qc (v3 0) qh))) [none,some 0]))
def qbf (zf4:Sp3) (zb8:Sp3) (zc3:Sp3):TS3:=(qw (RM (JH (cb3 zf4 (qc (v3 0) (qc (v3 1) qh)))) (gn3 2) (qw (qH (cb3 zc3 (qc (cb3 zb8 (qc (v3 0) (qc (v3 1) (qc (v3 2) qh)))) qh)) (gn3 3)) (qV (tb3 (o3 (JF true) (v3 3) (c3 .non))) (qB (q0 (qc (v3 2) (qc (o3 ix3 (v3 3) (c3 (.int 0))) (qc (o3 ix3 (v3 3) (c3 (.int 1))) qh))))) qt))) (qB (c3 .non)))
def UI (ze4:Sp3) (zd1:Sp3):TS3:=(qw (qH (cb3 ze4 (qc (v3 0) qh)) (qM 3 (qk (gn3 2) (qk (gn3 3) (qk (gn3 4) qN))))) (qw (qH (cb3 zd1 (qc (v3 1) qh)) (gn3 5)) (qw (j6 6 7 (qc (lc3 (JH (v3 5)) (qM 2 (qk (gn3 0) (qk (gn3 1) qN))) tt3 (v3 0) [none,none]) (qc (lc3 (JH (v3 5)) (qM 2 (qk (gn3 0) (qk (gn3 1) qN))) tt3 (v3 1) [none,none]) qh))) (qw (qH (zX qh) (gn3 8)) (qw (RM (zw (qc (u3 ZB (cb3 NI (qc (v3 6) qh))) (qc (o3 (iI (·-·)) (v3 2) (cb3 qaj (qc (v3 6) qh))) qh))) (gn3 9) (zt (bm3 YI (v3 8) (qc (lc3 (zw (qc (u3 ZB (cb3 NI (qc (v3 7) qh))) (qc (o3 (iI (·-·)) (v3 3) (cb3 qaj (qc (v3 7) qh))) qh))) (gn3 0) tt3 (q0 (qc (v3 1) (qc (v3 0) qh))) [none,some 9]) qh)))) (qB (v3 8)))))))
def CQ (zd1:Sp3) (zc9:Sp3):TS3:=(qB (lc3 (JH (cb3 zd1 (qc (v3 1) qh))) (qM 2 (qk (gn3 0) (qk (gn3 1) qN))) tt3 (cb3 zc9 (qc (v3 2) (qc (o3 zf (o3 ix3 (v3 3) (c3 (.int 0))) (v3 0)) (qc (o3 zf (o3 ix3 (v3 3) (c3 (.int 1))) (v3 1)) qh)))) [none,none,some 0,some 2]))
def YZ {G:Gp} {p:Addr} {xs:List T} (h:G p=some (.lst xs)):getL G p=some xs:=by unfold getL;rw [h]
def qjS {xs:List T} {d:Int} (h0:0<=d) (h1:d<(xs.length:Int)):∃ z,L2.atI xs d=some z/\z∈xs:=by
 rw [jG h0 h1];have:d.toNat<xs.length:=by omega
 exact ⟨xs[d.toNat],v9 this,za7 this⟩
inductive Wk where
 |line (k m:Nat)
 |block (h w:Nat)
 |step (d a:Int) (m:Nat)
 |cells (ps:List (Int×Int))
def EG:Nat->Str
 |0=>"row" |1=>"column" |2=>"slant" |_=>"back"
def lnD:Nat->Int
 |0=>0|_=>1
def lnA:Nat->Int
 |0=>1|1=>0|2=>1|_=>-1
def pT (p:Int×Int):T:=.tup [.int p.1,.int p.2]
def Wk.t:Wk->T
 |.line k m=>.tup [.str (EG k),.int m]
 |.block h w=>.tup [.str "block",.int h,.int w]
 |.step d a m=>.tup [.str "step",.int d,.int a,.int m]
 |.cells ps=>.tup [.str "cells",.tup (ps.map pT)]
def jS (d a:Int) (m:Nat):List (Int×Int):=(List.range m).map λ(t:Nat)=>((t:Int)*d,(t:Int)*a)
def jM (h w:Nat):List (Int×Int):=(List.range h).flatMap λ(p:Nat)=>(List.range w).map λ(q:Nat)=>((p:Int),(q:Int))
def Wk.pc:Wk->List (Int×Int)
 |.line k m=>jS (lnD k) (lnA k) m
 |.block h w=>jM h w
 |.step d a m=>jS d a m
 |.cells ps=>ps
def Wk.Ok:Wk->Prop
 |.line k m=>k<4/\1<=m/\m<=16
 |.block h w=>1<=h/\1<=w/\h<=16/\w<=16/\h*w<=16
 |.step d a m=>(-16<=d/\d<=16)/\(-16<=a/\a<=16)/\1<=m/\m<=16
 |.cells ps=>1<=ps.length/\ps.length<=16/\ps.Nodup/\∀ p∈ps,(-16<=p.1/\p.1<=16)/\(-16<=p.2/\p.2<=16)
def KL (h w:Nat):jM (h+1) w=jM h w++(List.range w).map λ(q:Nat)=>((h:Int),(q:Int)):=by
 simp [jM,List.range_succ]
def UN (h w:Nat):(jM h w).length=h*w:=by
 induction h with
 |zero=>simp [jM]
 |succ h ih=>rw [KL,length_append,ih,length_map,length_range,Nat.succ_mul]
def qeQ {w:Wk} (ok:w.Ok):1<=w.pc.length/\w.pc.length<=16:=by
 cases w with
 |line k m=>simp only [Wk.pc,jS,length_map,length_range];exact ok.2
 |block h v=>
  obtain ⟨h1,h2,h3,h4,h5⟩:=ok;simp only [Wk.pc,UN];exact ⟨Nat.mul_le_mul h1 h2,h5⟩
 |step d a m=>simp only [Wk.pc,jS,length_map,length_range];exact ok.2.2
 |cells ps=>exact ⟨ok.1,ok.2.1⟩
def DS:Sp3:=λts G q=>∃ a n,ts=[.ref a]/\Lf G a n/\n<10000000/\∀ (m:Nat) G',1<=m->m<=16->Lf G' a (n+2)->Ext a G G'->q (.int m) G'
def qa0:∀ ts G q,DS ts G q->ts.length=1/\CU qQ (RT q) (qm ["_law_left_here"] ts) G:=by
 rintro ts G q ⟨a,n,rfl,hL,hn,h⟩;refine ⟨rfl,?_⟩;simp only [CU,qB,o3,c3,cb3,qc,v3,qm,map_cons,List.map_nil,length_cons,length_nil,Nat.zero_add,Nat.sub_self,List.replicate_zero,List.append_nil,za5,getElem?_pos,y3,zX,qh,Nat.reduceAdd,v8,Nat.reduceLeDiff,zf,ne_eq,true_and];intro p hp;have np:=hL.ne hp;refine qU (hL.new np) (by omega) (by omega) (by omega) λd G1 d0 d1 L1 E1=>?_;have g:=YZ (E1 _ _ np qx);obtain ⟨z,hz,hm⟩:=qjS (xs:=[T.int 5,.int 5,.int 5,.int 5,.int 5,.int 5,.int 8,.int 16]) d0 (by simpa using d1);simp only [L3.ixR,g,hz];have:∃ k:Int,z=.int k/\1<=k/\k<=16:=by
  simp only [mem_cons,not_mem_nil,or_false] at hm;rcases hm with rfl|rfl|rfl|rfl|rfl|rfl|rfl|rfl<;>exact ⟨_,rfl,by omega,by omega⟩
 obtain ⟨k,rfl,k1,k2⟩:=this;refine qU L1 (by omega) (by omega) (by omega) λe G2 e0 e1 L2' E2=>?_;simp;obtain ⟨e',rfl⟩:=Int.eq_ofNat_of_zero_le e0;have:=h (e'+1) G2 (by omega) (by omega) (L2'.mono (by omega)) ((zI hp).trans (E1.trans E2));rw [show (1:Int)+(e':Int)=((e'+1:Nat):Int) by omega];exact this
def pD (p:Int×Int):PyData:=.tuple [.int p.1,.int p.2]
def qpD (G:Gp) (p:Int×Int):Dp G (pT p) (pD p):=.tup (.cons (.int _) (.cons (.int _) .nil))
theorem qgk (G:Gp):∀ ps:List (Int×Int),Dps G (ps.map pT) (ps.map pD)
 |[]=>.nil
 |p::ps=>.cons (qpD G p) (qgk G ps)
def qrl (p r:Int×Int):jz (pD p) (pD r)=some (decide (p=r)):=by
 obtain ⟨a,b⟩:=p;obtain ⟨c,d⟩:=r;simp only [pD,jz,YQ];by_cases h:a=c<;>by_cases h':b=d<;>simp [h,h']
theorem pIn (r:Int×Int):∀ ps:List (Int×Int),qbG (pD r) (ps.map pD)=some (decide (r∈ps))
 |[]=>by simp [qbG]
 |p::ps=>by
  simp only [map_cons,qbG,qrl,pIn r ps];by_cases h:p=r
  ·subst h;simp
  ·have h':¬ r=p:=λz=>h z.symm;simp [h,h']
def qmi (p:Int×Int):dpt (pD p)<=40:=by simp [pD,dpt,qbx]
def YO:Sp3:=λts G q=>∃ a n,ts=[.ref a]/\Lf G a n/\n<1000000/\∀ (w:Wk) G',w.Ok->Lf G' a (n+60)->Ext a G G'->q w.t G'
def qaY:∀ ts G q,YO ts G q->ts.length=1/\CO qQ DS (RT q) (qm ["_law_left_here","_law_way","_law_lying","_law_high","_law_wide","_law_down","_law_along","_law_pairs","_law_far","_law_turn","_law_pair"] ts) G:=by
 rintro ts G q ⟨a,n,rfl,hL,hn,h⟩;refine ⟨rfl,?_⟩;unfold CO;refine zE λnx1 q1=>?_;simp only [qH,cb3,qc,v3,qm,map_cons,List.map_nil,length_cons,length_nil,Nat.zero_add,Nat.reduceAdd,Nat.add_one_sub_one,List.reduceReplicate,cons_append,List.nil_append,u7,getElem?_pos,y3,c3,qh,gn3,set_cons_succ,set_cons_zero];refine qU hL (by omega) (by omega) (by omega) λway G1 w0 w1 L1 E1=>?_
 try simp
 rw [q1];clear q1;refine zE λnx2 q2=>?_;by_cases lt:way<4
 ·simp only [qV,tb3,o3,v3,length_cons,length_nil,Nat.zero_add,Nat.reduceAdd,Nat.reduceLT,getElem?_pos,y4,y3,c3,iB,lt,decide_true,↓reduceIte,qB,q0,qc,zX,qh,v8,Nat.reduceLeDiff,cb3,u7,true_and,ixR];intro p hp;have np:=L1.ne hp;have L3':=L1.new np (ob:=.lst [.str "row",.str "column",.str "slant",.str "back"]);obtain ⟨k,rfl⟩:=Int.eq_ofNat_of_zero_le w0;have hk:k<4:=by omega
  have e1:L2.atI [T.str (Str.ofString "row"),.str (Str.ofString "column"),.str (Str.ofString "slant"),.str (Str.ofString "back")] (k:Int)=some (.str (EG k)):=by
   rcases k with _|_|_|_|k
   ·rfl
   ·rfl
   ·rfl
   ·rfl
   ·omega
  simp only [L3.ixR,YZ qx,e1];refine ⟨a,_,rfl,L3',by omega,λm G2 m1 m2 L4 E4=>?_⟩;exact h (.line k m) _ ⟨hk,m1,m2⟩ (L4.mono (by omega)) (E1.trans ((zI hp).trans E4))
 simp only [qV,tb3,o3,v3,c3,iB,x8,x6,lt,decide_false,Bool.false_eq_true,if_false,qt];rw [q2];clear q2;refine zE λnx3 q3=>?_;by_cases lt6:way<6
 ·simp only [qV,tb3,o3,v3,c3,iB,x8,x6,lt6,decide_true,if_true];refine zE λnx4 q4=>?_;simp only [j6,qc,cb3,v3,length_cons,length_nil,Nat.zero_add,Nat.reduceAdd,u7,getElem?_pos,y3,c3,qh,o3,zf,ne_eq,v8,set_cons_succ,set_cons_zero];refine qU L1 (by omega) (by omega) (by omega) λly G2 y0 y1 L2' E2=>?_
  try simp
  refine qU L2' (by omega) (by omega) (by omega) λhi G3 h0 h1 L3' E3=>?_
  try simp
  rw [q4];clear q4;obtain ⟨hh,rfl⟩:=Int.eq_ofNat_of_zero_le h0;refine zE λnx5 q5=>?_;simp only [qH,o3,c3,cb3,qc,v3,length_cons,length_nil,Nat.zero_add,Nat.reduceAdd,u7,getElem?_pos,y3,Nat.reduceLT,y4,iC,qh,zf,ne_eq,v8,gn3,set_cons_succ,set_cons_zero];have dv:1<=(16:Int)/(1+(hh:Int))/\(16:Int)/(1+(hh:Int))<=16:=by
   have:hh=0\/hh=1\/hh=2\/hh=3:=by omega
   rcases this with rfl|rfl|rfl|rfl<;>decide
  refine ⟨⟨by omega,by omega⟩,qU L3' (by omega) (by omega) (by omega) λwi G4 u0 u1 L4 E4=>?_⟩
  try simp
  rw [q5];clear q5;obtain ⟨ww,rfl⟩:=Int.eq_ofNat_of_zero_le u0;have pr:(hh+1)*(ww+1)<=16:=by
   have:hh=0\/hh=1\/hh=2\/hh=3:=by omega
   rcases this with rfl|rfl|rfl|rfl<;>simp at u1<;>omega
  simp only [qB,o3,zX,qc,q0,c3,v3,length_cons,length_nil,Nat.zero_add,Nat.reduceAdd,Nat.reduceLT,getElem?_pos,y4,y3,qh,v8,Nat.reduceLeDiff,ixR,true_and];intro p hp;have np:=L4.ne hp;have X4:=E1.trans (E2.trans (E3.trans E4));have z1:(1:Int)+(hh:Int)=((hh+1:Nat):Int):=by omega
  have z2:(1:Int)+(ww:Int)=((ww+1:Nat):Int):=by omega
  rw [z1,z2];have hl:ly=0\/ly=1:=by omega
  rcases hl with rfl|rfl
  ·simp only [L3.ixR,YZ qx,qcI];exact h (.block (hh+1) (ww+1)) _ ⟨by omega,by omega,by omega,by omega,pr⟩ ((L4.new np).mono (by omega)) (X4.trans (zI hp))
  ·simp only [L3.ixR,YZ qx,qda];exact h (.block (ww+1) (hh+1)) _ ⟨by omega,by omega,by omega,by omega,by rw [Nat.mul_comm];exact pr⟩ ((L4.new np).mono (by omega)) (X4.trans (zI hp))
 simp only [qV,tb3,o3,v3,c3,iB,x8,x6,lt6,decide_false,Bool.false_eq_true,if_false,qt];rw [q3];clear q3;refine zE λnx4 q4=>?_;by_cases lt8:way<8
 ·simp only [qV,tb3,o3,v3,c3,iB,x8,x6,lt8,decide_true,if_true];refine zE λnx5 q5=>?_;simp only [j6,qc,o3,cb3,v3,length_cons,length_nil,Nat.zero_add,Nat.reduceAdd,u7,getElem?_pos,y3,c3,qh,iI,set_cons_succ,set_cons_zero];refine qU L1 (by omega) (by omega) (by omega) λd G2 d0 d1 L2' E2=>?_
  try simp
  refine qU L2' (by omega) (by omega) (by omega) λal G3 a0 a1 L3' E3=>?_
  try simp
  rw [q5];clear q5;obtain ⟨D,hD⟩:∃ D,D=d-3:=⟨_,rfl⟩
  obtain ⟨A,hA⟩:∃ A,A=al-4:=⟨_,rfl⟩
  rw [← hD,← hA];refine zE λnx6 q6=>?_;simp only [qV,tb3,o3,cb3,qc,v3,length_cons,length_nil,Nat.zero_add,Nat.reduceAdd,u7,getElem?_pos,y3,c3,qh,qY,qS,Bool.false_eq_true,↓reduceIte,qB,q0,Nat.reduceLT,y4,iC,qZ,decide_eq_true_eq,JT,zf,ne_eq,v8,Nat.reduceLeDiff,true_and,Int.add_zero,qt,exists_and_left,Bool.exists_bool];refine qU L3' (by omega) (by omega) (by omega) λsix G4 s0 s1 L4 E4=>?_;have X4:=E1.trans (E2.trans (E3.trans E4));by_cases k0:six=0
  ·subst k0;simp only [decide_true,↓reduceIte];refine ⟨cm (by omega) (by omega),cm (by omega) (by omega),?_⟩;have fin:∀ e:Int,0<=e->e<=1->qQ [.ref a,.int 4] G4 λx G'=>(match T.int 1,x with|.int i,.int j=>q (.tup [.str (Str.ofString "step"),.int (5*D),.int (3*A+e),.int (i+j)]) G'|_,_=>False):=by
    intro e e0 e1;refine qU L4 (by omega) (by omega) (by omega) λm G5 m0 m1 L5 E5=>?_;obtain ⟨m',rfl⟩:=Int.eq_ofNat_of_zero_le m0;have:=h (.step (5*D) (3*A+e) (m'+1)) G5 ⟨⟨by omega,by omega⟩,⟨by omega,by omega⟩,by omega,by omega⟩ (L5.mono (by omega)) (X4.trans E5);simp only [Wk.t] at this;rw [show ((m'+1:Nat):Int)=1+(m':Int) by omega] at this;exact this
   by_cases hD0:D=0
   ·by_cases hA0:A=0
    ·have:=fin 1 (by omega) (by omega);simp only [hD0,Int.mul_zero,hA0,Int.zero_add,↓reduceIte] at this ⊢;exact this
    ·have:=fin 0 (by omega) (by omega);simp only [hD0,Int.mul_zero,Int.add_zero,↓reduceIte,hA0] at this ⊢;exact this
   ·have:=fin 0 (by omega) (by omega);simp only [Int.add_zero,hD0,↓reduceIte] at this ⊢;exact this
  ·simp [k0];rw [q6];clear q6;have fin:∀ e:Int,0<=e->e<=1->DS [.ref a] G4 λx G'=>q (.tup [.str (Str.ofString "step"),.int D,.int (A+e),x]) G':=by
    intro e e0 e1;refine ⟨a,_,rfl,L4,by omega,λm G5 m0 m1 L5 E5=>?_⟩;exact h (.step D (A+e) m) G5 ⟨⟨by omega,by omega⟩,⟨by omega,by omega⟩,by omega,by omega⟩ (L5.mono (by omega)) (X4.trans E5)
   by_cases hD0:D=0
   ·by_cases hA0:A=0
    ·have:=fin 1 (by omega) (by omega);simp only [hD0,hA0,Int.zero_add,qB,q0,qc,c3,v3,length_cons,length_nil,Nat.zero_add,Nat.reduceAdd,Nat.reduceLT,getElem?_pos,y4,y3,o3,cb3,qZ,qY,qS,decide_true,Bool.false_eq_true,↓reduceIte,qh,JT,zf,u7,v8,Nat.reduceLeDiff,true_and] at this ⊢;exact this
    ·have:=fin 0 (by omega) (by omega);simp only [hD0,Int.add_zero,qB,q0,qc,c3,v3,length_cons,length_nil,Nat.zero_add,Nat.reduceAdd,Nat.reduceLT,getElem?_pos,y4,y3,o3,cb3,qZ,qY,qS,decide_true,Bool.false_eq_true,↓reduceIte,hA0,decide_false,qh,JT,zf,u7,v8,Nat.reduceLeDiff,true_and] at this ⊢;exact this
   ·have:=fin 0 (by omega) (by omega);simp only [Int.add_zero,qB,q0,qc,c3,v3,length_cons,length_nil,Nat.zero_add,Nat.reduceAdd,Nat.reduceLT,getElem?_pos,y4,y3,o3,cb3,qZ,qY,qS,hD0,decide_false,Bool.false_eq_true,↓reduceIte,qh,JT,zf,u7,v8,Nat.reduceLeDiff,true_and] at this ⊢;exact this
 simp only [qV,tb3,o3,v3,c3,iB,x8,x6,lt8,decide_false,Bool.false_eq_true,if_false,qt];rw [q4];clear q4;refine zE λnx5 q5=>?_;simp only [j6,qc,zX,qh,length_nil,v8,Nat.zero_le,o3,c3,cb3,v3,length_cons,Nat.zero_add,Nat.reduceAdd,u7,getElem?_pos,y3,qY,qS,JT,iC,Bool.false_eq_true,↓reduceIte,zf,set_cons_succ,set_cons_zero,ne_eq,exists_and_left,Bool.exists_bool,Int.mul_zero,Int.add_zero,Int.mul_one,Int.reduceAdd,true_and];intro pp hpp;have npp:=L1.ne hpp;have Lp:=L1.new npp (ob:=.lst []);refine qU Lp (by omega) (by omega) (by omega) λfv G2 f0 f1 L2' E2=>?_;have gp2:=E2 _ _ npp qx;have X2:Ext a G G2:=E1.trans ((zI hpp).trans E2);have hf:∃ far:Int,(far=1\/far=5)/\nx5=nx5:=⟨1,.inl rfl,rfl⟩
 clear hf;have fin:∀ far:Int,far=1\/far=5->nx5 [some (.ref a),some (.int way),none,none,none,none,none,some (.ref pp),some (.int far),none,none] G2:=by
  intro far hfar;rw [q5];clear q5;refine zE λnx6 q6=>?_;simp only [RM,zw,cb3,qc,qh,v3,x8,x6];refine ⟨a,_,rfl,L2',by omega,λm G3 m1 m2 L3' E3=>?_⟩;have gp3:=E3 _ _ npp gp2;refine ⟨⟨by omega,by omega⟩,?_⟩;rw [Int.toNat_natCast];refine V6 _ (λi τ G'=>∃ ps:List (Int×Int),G' pp=some (.lst (ps.map pT))/\(1<=i->1<=ps.length)/\ps.length<=i/\ps.Nodup/\(∀ p∈ps,(-16<=p.1/\p.1<=16)/\(-16<=p.2/\p.2<=16))/\Lf G' a (n+5+2*i)/\Ext a G G'/\∃ x9 x10,τ=[some (.ref a),some (.int way),none,none,none,none,none,some (.ref pp),some (.int far),x9,x10])
   ⟨[],gp3,by omega,by simp,by simp,(by intro p hp;cases hp),by simpa using L3'.mono (by omega),X2.trans E3,none,none,rfl⟩ (λ_ _ _ _ _=>True.intro) ?_ ?_
  ·rintro i z τ G' nx hz ⟨ps,gp,i1,pl,nd,bd,L,E,x9,x10,rfl⟩ hnx;obtain ⟨hi,rfl⟩:=MM hz;simp only [gn3,set_cons_succ,set_cons_zero];refine zE λnx7 q7=>?_;simp only [qH,q0,qc,o3,v3,Int.zero_add,length_cons,length_nil,Nat.zero_add,Nat.reduceAdd,Nat.reduceLT,getElem?_pos,y4,y3,cb3,u7,c3,qh,iI,iC,v8,Nat.reduceLeDiff,gn3,set_cons_succ,set_cons_zero,true_and];refine qU L (by omega) (by omega) (by omega) λu G4 u0 u1 L4 E4=>?_
   try simp
   refine ⟨cm (by omega) (by omega),qU L4 (by omega) (by omega) (by omega) λv G5 v0 v1 L5 E5=>?_⟩
   try simp
   refine ⟨cm (by omega) (by omega),?_⟩;rw [q7];clear q7;have gp5:=E5 _ _ npp (E4 _ _ npp gp);have X5:=E.trans (E4.trans E5);have pe:T.tup [.int (far*(u-2)),.int (far*(v-2))]=pT (far*(u-2),far*(v-2)):=rfl;rw [pe];have pb:(-16<=far*(u-2)/\far*(u-2)<=16)/\(-16<=far*(v-2)/\far*(v-2)<=16):=by rcases hfar with rfl|rfl<;>omega
   generalize hP:(far*(u-2),far*(v-2))=P at *;have pb':(-16<=P.1/\P.1<=16)/\(-16<=P.2/\P.2<=16):=by rw [← hP];exact pb
   simp only [qV,tb3,o3,v3,x8,x6];refine ⟨_,_,_,_,YZ gp5,qpD _ _,qgk _ _,pIn _ _,λd hd=>?_,?_⟩
   ·obtain ⟨p,_,rfl⟩:=mem_map.mp hd;exact qmi p
   ·by_cases hm:P∈ps
    ·simp only [↓reduceIte,hm,decide_true,Bool.not_true,Bool.false_eq_true,qt];exact hnx _ _ ⟨ps,gp5,λ_=>List.length_pos_of_mem hm,by omega,nd,bd,L5.mono (by omega),X5,_,_,rfl⟩
    ·simp only [↓reduceIte,hm,decide_false,Bool.not_false,zt,bm3,v3,length_cons,length_nil,Nat.zero_add,Nat.reduceAdd,Nat.reduceLT,getElem?_pos,y4,y3,qc,za5,qh,JI,gp5,length_map,v8];refine ⟨by rw [YZ gp5];rfl,by omega,?_⟩;refine hnx _ _ ⟨ps++[P],by rw [qx];simp,λ_=>by simp,by simp;omega,?_,λp hp=>?_,L5.new npp |>.mono (by omega),λb o hb eb=>?_,_,_,rfl⟩
     ·rw [List.nodup_append];exact ⟨nd,by simp,λx hx y hy=>by simp at hy;subst hy;rintro rfl;exact hm hx⟩
     ·rcases List.mem_append.mp hp with hp|hp
      ·exact bd p hp
      ·simp at hp;subst hp;exact pb'
     ·have:b≠pp:=by
       rintro rfl;have:=E1 _ _ hb eb;rw [hpp] at this;cases this
      rw [j8 this];exact X5 _ _ hb eb
  ·rintro τ G' ⟨ps,gp,i1,pl,nd,bd,L,E,x9,x10,rfl⟩;rw [Z5] at i1 pl L;show nx6 _ _;rw [q6];simp only [qB,q0,qc,c3,cb3,v3,length_cons,length_nil,Nat.zero_add,Nat.reduceAdd,Nat.reduceLT,getElem?_pos,y4,y3,qh,qF,YZ gp,v8,Nat.reduceLeDiff,true_and];exact h (.cells ps) G' ⟨i1 m1,by omega,nd,bd⟩ (L.mono (by omega)) E
 by_cases k0:fv=0
 ·have:=fin 5 (.inr rfl);simp only [k0,decide_true,↓reduceIte,Int.mul_one,Int.reduceAdd];exact ⟨cm (by omega) (by omega),this⟩
 ·have:=fin 1 (.inl rfl);simp only [k0,decide_false,Bool.false_eq_true,↓reduceIte,Int.mul_zero,Int.add_zero];exact ⟨cm (by omega) (by omega),this⟩
def Un2 (ns:List Int) (i:Nat):Prop:=∀ a b,a<i->a<b->b<ns.length->ns[a]?≠ns[b]?
structure Fst (ns:List Int) (i j:Nat):Prop where
 ij:i<j
 jl:j<ns.length
 un:Un2 ns i
 nb:∀ b,i<b->b<j->ns[i]?≠ns[b]?
 eq:ns[i]?=ns[j]?
def Fst.uniq {ns:List Int} {i j i' j':Nat} (F:Fst ns i j) (F':Fst ns i' j'):i=i'/\j=j':=by
 have e:i=i':=by
  rcases Nat.lt_trichotomy i i' with z|z|z
  ·exact absurd F.eq (F'.un i j z F.ij F.jl)
  ·exact z
  ·exact absurd F'.eq (F.un i' j' z F'.ij F'.jl)
 subst e;refine ⟨rfl,?_⟩;rcases Nat.lt_trichotomy j j' with z|z|z
 ·exact absurd F.eq (F'.nb j F.ij z)
 ·exact z
 ·exact absurd F'.eq (F.nb j' F'.ij z)
open Classical in
def faO (ns:List Int):Option (Nat×Nat):=if h:∃ ij:Nat×Nat,Fst ns ij.1 ij.2 then some h.choose else none
def jX {ns:List Int} {i j:Nat} (F:Fst ns i j):faO ns=some (i,j):=by
 have h:∃ ij:Nat×Nat,Fst ns ij.1 ij.2:=⟨(i,j),F⟩
 unfold faO;rw [dif_pos h];have:=h.choose_spec;obtain ⟨e1,e2⟩:=this.uniq F;exact congrArg some (Prod.ext e1 e2)
def j3 {ns:List Int} (h:Un2 ns ns.length):faO ns=none:=by
 unfold faO;rw [dif_neg];rintro ⟨ij,F⟩;exact h ij.1 ij.2 (Nat.lt_trans F.ij F.jl) F.ij F.jl F.eq
def UJ {ns:List Int} (h:¬ Un2 ns ns.length):∃ i j,Fst ns i j:=by
 have key:∀ k,k<=ns.length->Un2 ns k\/∃ i j,Fst ns i j:=by
  intro k;induction k with
  |zero=>exact λ_=>.inl λa b ha=>by omega
  |succ k ih=>
   intro hk;rcases ih (by omega) with hu|he
   ·have inner:∀ n,(∀ b,k<b->b<k+1+n->b<ns.length->ns[k]?≠ns[b]?)\/∃ j,Fst ns k j:=by
     intro n;induction n with
     |zero=>exact .inl λb h1 h2=>by omega
     |succ n ihn=>
      rcases ihn with hn|he
      ·by_cases hb:k+1+n<ns.length/\ns[k]?=ns[k+1+n]?
       ·exact .inr ⟨k+1+n,by omega,hb.1,hu,λb h1 h2=>hn b h1 h2 (by omega),hb.2⟩
       ·refine .inl λb h1 h2 h3=>?_;by_cases e:b=k+1+n
        ·subst e;exact λz=>hb ⟨h3,z⟩
        ·exact hn b h1 (by omega) h3
      ·exact .inr he
    rcases inner ns.length with hn|⟨j,F⟩
    ·refine .inl λa b ha hab hb=>?_;by_cases e:a=k
     ·subst e;exact hn b hab (by omega) hb
     ·exact hu a b (by omega) hab hb
    ·exact .inr ⟨k,j,F⟩
   ·exact .inr he
 rcases key ns.length (u8 _) with hu|he
 ·exact absurd hu h
 ·exact he
theorem qej (val:Nat->Int):∀ i,(PyProof.Rows.firstMet val i).length=i↔∀ a b,a<b->b<i->val a≠val b
 |0=>by simp [PyProof.Rows.firstMet_zero]
 |i+1=>by
  have ih:=qej val i;have le:=PyProof.Rows.firstMet_length_le val i;have an:=PyProof.Rows.firstMet_any val i (val i);rw [PyProof.Rows.firstMet_succ];unfold PyProof.Rows.step_dedup;by_cases hq:((PyProof.Rows.firstMet val i).any (·==val i))=true
  ·rw [if_pos hq];constructor
   ·intro e;omega
   ·intro hh;rw [an] at hq;simp at hq;obtain ⟨a,ha,e⟩:=hq;exact absurd e (hh a i ha (by omega))
  ·rw [if_neg hq,length_append,List.length_singleton];have hq':∀ a,a<i->val a≠val i:=by
    intro a ha e;apply hq;rw [an];simp;exact ⟨a,ha,e⟩
   constructor
   ·intro e a b hab hb;by_cases eb:b=i
    ·subst eb;exact hq' a hab
    ·exact (ih.mp (by omega)) a b hab (by omega)
   ·intro hh;rw [ih.mpr λa b hab hb=>hh a b hab (by omega)]
def qck {ns:List Int}:EJ ns=ns.length↔Un2 ns ns.length:=by
 unfold EJ;rw [qej];constructor
 ·intro h a b ha hab hb e;refine h a b hab hb ?_;rw [getD_eq_getElem?_getD,getD_eq_getElem?_getD,e]
 ·intro h a b hab hb e;have ha:a<ns.length:=by omega
  apply h a b ha hab hb;rw [getD_eq_getElem?_getD,getD_eq_getElem?_getD] at e;simp [ha,hb] at e;simp [ha,hb,e]
end Bk
namespace Pu
open PySem L2 L3
def cif {α:Type} (P:Prop) (a b:α):α:=@ite α P (Classical.propDecidable P) a b
def zU {α:Type} {P:Prop} {a b:α} (h:P):cif P a b=a:=@if_pos P (Classical.propDecidable P) h α a b
def qbk {α:Type} {P:Prop} {a b:α} (h:¬ P):cif P a b=b:=@if_neg P (Classical.propDecidable P) h α a b
structure Tru (b:Bool):Prop where
 h:b=true
mutual
inductive Dq (G:Gp):T->PyData->Prop
 |non:Dq G .non .none
 |bl (b:Bool):Dq G (.bl b) (.bool b)
 |int (i:Int):Dq G (.int i) (.int i)
 |str (x:Str):Dq G (.str x) (.str x)
 |tup {xs:List T} {ds:List PyData}:Dqs G xs ds->Dq G (.tup xs) (.tuple ds)
 |lst {p:Addr} {xs:List T} {ds:List PyData}:G p=some (.lst xs)->Dqs G xs ds->Dq G (.ref p) (.list ds)
inductive Dqs (G:Gp):List T->List PyData->Prop
 |nil:Dqs G [] []
 |cons {x:T} {d:PyData} {xs:List T} {ds:List PyData}:Dq G x d->Dqs G xs ds->Dqs G (x::xs) (d::ds)
end
mutual
theorem Dq.up {G G':Gp} (e:Ex G G'):∀ {x:T} {d:PyData},Dq G x d->Dq G' x d
 |_,_,.non=>.non
 |_,_,.bl b=>.bl b
 |_,_,.int i=>.int i
 |_,_,.str x=>.str x
 |_,_,.tup h=>.tup (Dqs.up e h)
 |_,_,.lst h1 h2=>.lst (e _ _ h1) (Dqs.up e h2)
theorem Dqs.up {G G':Gp} (e:Ex G G'):∀ {x:List T} {d:List PyData},Dqs G x d->Dqs G' x d
 |_,_,.nil=>.nil
 |_,_,.cons a b=>.cons (Dq.up e a) (Dqs.up e b)
end
def jc {G:Gp} {p:Addr} {xs:List T} (h:G p=some (.lst xs)):getL G p=some xs:=by unfold getL;rw [h]
mutual
theorem Dq.dp {G:Gp}:∀ {x:T} {d:PyData},Dq G x d->Dp G x d
 |_,_,.non=>.non
 |_,_,.bl b=>.bl b
 |_,_,.int i=>.int i
 |_,_,.str x=>.str x
 |_,_,.tup h=>.tup (Dqs.dp h)
 |_,_,.lst h1 h2=>.lst (jc h1) (Dqs.dp h2)
theorem Dqs.dp {G:Gp}:∀ {x:List T} {d:List PyData},Dqs G x d->Dps G x d
 |_,_,.nil=>.nil
 |_,_,.cons a b=>.cons (Dq.dp a) (Dqs.dp b)
end
theorem Dqs.length {G:Gp}:∀ {xs:List T} {ds:List PyData},Dqs G xs ds->xs.length=ds.length
 |_,_,.nil=>rfl
 |_,_,.cons _ b=>by simp [Dqs.length b]
theorem Dqs.get {G:Gp}:∀ {xs:List T} {ds:List PyData} {i:Nat} {d:PyData},Dqs G xs ds->ds[i]?=some d->∃ x,xs[i]?=some x/\Dq G x d
 |_,_,_,_,.nil,e=>by simp at e
 |_,_,0,_,.cons r _,e=>by simp at e;subst e;exact ⟨_,rfl,r⟩
 |_,_,i+1,d,.cons _ t,e=>by
  obtain ⟨u,h1,h2⟩:=Dqs.get (i:=i) (d:=d) t (by simpa using e);exact ⟨u,by simpa using h1,h2⟩
theorem Dqs.append {G:Gp}:∀ {xs:List T} {ds:List PyData} {ys:List T} {es:List PyData},Dqs G xs ds->Dqs G ys es->Dqs G (xs++ys) (ds++es)
 |_,_,_,_,.nil,h=>h
 |_,_,_,_,.cons a b,h=>.cons a (Dqs.append b h)
theorem Dqs.drop {G:Gp}:∀ {xs:List T} {ds:List PyData} (n:Nat),Dqs G xs ds->Dqs G (xs.drop n) (ds.drop n)
 |_,_,0,h=>h
 |_,_,_+1,.nil=>.nil
 |_,_,n+1,.cons _ b=>Dqs.drop n b
theorem Dqs.take {G:Gp}:∀ {xs:List T} {ds:List PyData} (n:Nat),Dqs G xs ds->Dqs G (xs.take n) (ds.take n)
 |_,_,0,h=>by simp;exact .nil
 |_,_,_+1,.nil=>.nil
 |_,_,n+1,.cons a b=>.cons a (Dqs.take n b)
theorem Dqs.set {G:Gp}:∀ {xs:List T} {ds:List PyData} (n:Nat) {x:T} {d:PyData},Dqs G xs ds->Dq G x d->Dqs G (xs.set n x) (ds.set n d)
 |_,_,_,_,_,.nil,_=>.nil
 |_,_,0,_,_,.cons _ b,h=>.cons h b
 |_,_,n+1,_,_,.cons a b,h=>.cons a (Dqs.set n b h)
theorem Dqs.ints {G:Gp}:∀ {ns:List Int} {xs:List T},Dqs G xs (ns.map PyData.int)->xs=ns.map T.int
 |[],_,.nil=>rfl
 |n::ns,_,.cons a b=>by cases a;rw [Dqs.ints b];rfl
theorem Dqs.ofInts {G:Gp}:∀ (ns:List Int),Dqs G (ns.map T.int) (ns.map PyData.int)
 |[]=>.nil
 |n::r=>.cons (.int n) (Dqs.ofInts r)
def rs (D:Addr->Prop) (G:Gp):Gp:=λb=>cif (D b) none (G b)
def zb {D:Addr->Prop} {G:Gp} {b:Addr} {o:O} (h:rs D G b=some o):¬ D b/\G b=some o:=by
 unfold rs cif at h;split at h
 ·cases h
 ·rename_i n;exact ⟨n,h⟩
def ZY {D:Addr->Prop} {G:Gp} {b:Addr} (n:¬ D b):rs D G b=G b:=by unfold rs;exact qbk n
def V0 {D:Addr->Prop} {G:Gp}:Ex (rs D G) G:=λb o h=>(zb h).2
def ZL {D:Addr->Prop} {G G':Gp} (e:Ex G G'):Ex (rs D G) (rs D G'):=λb o h=>by
 obtain ⟨n,h⟩:=zb h;rw [ZY n];exact e _ _ h
def QE {D D':Addr->Prop} {G:Gp} (h:∀ b,D' b->D b):Ex (rs D G) (rs D' G):=λb o e=>by
 obtain ⟨n,e⟩:=zb e;rw [ZY λz=>n (h b z)];exact e
def Dom (D:Addr->Prop) (G:Gp):Prop:=∀ b,D b->G b≠none
def Dom.up {D:Addr->Prop} {G G':Gp} (h:Dom D G) (e:Ex G G'):Dom D G':=λb d z=>by
 cases g:G b with
 |none=>exact h b d g
 |some o=>rw [e _ _ g] at z;cases z
def qmu {D:Addr->Prop} {G:Gp} {p:Addr} {o:O} (hd:Dom D G) (hp:G p=none):rs D (gu G p o) p=some o:=by
 rw [ZY λz=>hd p z hp,qx]
inductive Sl where
 |un|sh (d:PyData)|ow (ds:List PyData)|dc (kvs:List (Int×PyData))|on (dss:List (List PyData))
abbrev Rho:=List Sl
def Sl.d:Sl->Option PyData
 |.un=>none|.sh d=>some d|.ow ds=>some (.list ds)|.dc _=>none|.on dss=>some (.list (dss.map PyData.list))
def vw (ρ:Rho) (i:Nat):Option PyData:=(ρ[i]?).bind Sl.d
def KY (fv:List Nat) (D:Addr->Prop) (G:Gp) (τ:St3) (ρ:Rho):Prop:=∀ i∈fv,∀ d,vw ρ i=some d->∃ t,τ[i]?=some (some t)/\Dq (rs D G) t d
theorem KY.up {fv:List Nat} {D:Addr->Prop} {G G':Gp} {τ:St3} {ρ:Rho} (h:KY fv D G τ ρ) (e:Ex G G'):KY fv D G' τ ρ:=λi hi d hd=>
 let ⟨t,a,b⟩:=h i hi d hd;⟨t,a,b.up (ZL e)⟩
def KY.l {fv gv:List Nat} {D:Addr->Prop} {G:Gp} {τ:St3} {ρ:Rho} (h:KY (fv++gv) D G τ ρ):KY fv D G τ ρ:=λi hi=>h i (by simp [hi])
def KY.r {fv gv:List Nat} {D:Addr->Prop} {G:Gp} {τ:St3} {ρ:Rho} (h:KY (fv++gv) D G τ ρ):KY gv D G τ ρ:=λi hi=>h i (by simp [hi])
def qcO:PyData->Bool
 |.none=>true|.bool _=>true|.int _=>true|.str _=>true|_=>false
def Nw (D:Addr->Prop) (G G':Gp) (x:T) (d:PyData):Prop:=qcO d=true\/∃ p xs ds,x=.ref p/\d=.list ds/\G p=none/\G' p=some (.lst xs)/\Dqs (rs (λb=>D b\/b=p) G') xs ds
def Nw.back {D:Addr->Prop} {G0 G G':Gp} {x:T} {d:PyData} (h:Nw D G G' x d) (e:Ex G0 G):Nw D G0 G' x d:=by
 rcases h with h|⟨p,xs,ds,a,b,c,r⟩
 ·exact .inl h
 refine .inr ⟨p,xs,ds,a,b,?_,r⟩;cases z:G0 p with
 |none=>rfl
 |some o=>rw [e _ _ z] at c;cases c
structure PuE (t:TE3) where
 f:Rho->Option PyData
 fv:List Nat
 nw:Bool
 ok:∀ {D τ ρ G} {q:Q3} {d},KY fv D G τ ρ->Dom D G->f ρ=some d->(∀ x G',Ex G G'->Dq (rs D G') x d->(nw=true->Nw D G G' x d)->q x G')->t τ G q
structure PuC (t:TT3) where
 f:Rho->Option Bool
 fv:List Nat
 ok:∀ {D τ ρ G} {q:Bool->Gp->Prop} {k},KY fv D G τ ρ->Dom D G->f ρ=some k->(∀ G',Ex G G'->q k G')->t τ G q
structure PuA (t:TA3) where
 f:Rho->Option (List PyData)
 fv:List Nat
 n:Nat
 ln:∀ {ρ d},f ρ=some d->d.length=n
 ok:∀ {D τ ρ G} {q:List T->Gp->Prop} {d},KY fv D G τ ρ->Dom D G->f ρ=some d->(∀ x G',Ex G G'->Dqs (rs D G') x d->q x G')->t τ G q
structure PuO (t:TO3) where
 f:Rho->Option (Option Int)
 fv:List Nat
 ok:∀ {D τ ρ G} {q:Option Int->Gp->Prop} {k},KY fv D G τ ρ->Dom D G->f ρ=some k->(∀ G',Ex G G'->q k G')->t τ G q
structure PuI (t:TI3) where
 f:Rho->Option (List PyData)
 fv:List Nat
 /-- numbers alone -/
 nm:Bool
 ok:∀ {D τ ρ G} {r:List T->(Gp->Prop)->Gp->Prop} {ds},KY fv D G τ ρ->Dom D G->f ρ=some ds ->
  (∀ items stay G',Ex G G'->Dqs (rs D G') items ds->(∀ G'',(nm=true\/Ex (rs D G') G'')->stay G'')->(nm=true->∃ ns:List Int,ds=ns.map PyData.int)->r items stay G')->t τ G r
structure OpD (r:R3) where
 f:PyData->PyData->Option PyData
 nw:Bool
 ok:∀ {D G x y d e v} {q:Q3},Dq (rs D G) x d->Dq (rs D G) y e->Dom D G->f d e=some v->(∀ z G',Ex G G'->Dq (rs D G') z v->(nw=true->Nw D G G' z v)->q z G')->r x y G q
structure FnD (r:List T->Gp->Q3->Prop) where
 f:List PyData->Option PyData
 nw:Bool
 ok:∀ {D G xs ds v} {q:Q3},Dqs (rs D G) xs ds->Dom D G->f ds=some v->(∀ z G',Ex G G'->Dq (rs D G') z v->(nw=true->Nw D G G' z v)->q z G')->r xs G q
def bV (i:Nat):PuE (v3 i):=⟨λρ=>vw ρ i,[i],false,λhv hd hf k=>by
 obtain ⟨t,e,h⟩:=hv i (by simp) _ hf;unfold v3;rw [e];exact k t _ Ex.refl h (λz=>by cases z)⟩
def j7 (i:Int):PuE (c3 (.int i)):=⟨λ_=>some (.int i),[],false,λhv hd hf k=>by cases hf;exact k _ _ Ex.refl (.int i) (λz=>by cases z)⟩
def bBl (i:Bool):PuE (c3 (.bl i)):=⟨λ_=>some (.bool i),[],false,λhv hd hf k=>by cases hf;exact k _ _ Ex.refl (.bl i) (λz=>by cases z)⟩
def qis (i:Str):PuE (c3 (.str i)):=⟨λ_=>some (.str i),[],false,λhv hd hf k=>by cases hf;exact k _ _ Ex.refl (.str i) (λz=>by cases z)⟩
def qdC:PuE (c3 .non):=⟨λ_=>some .none,[],false,λhv hd hf k=>by cases hf;exact k _ _ Ex.refl .non (λz=>by cases z)⟩
def bO {r:R3} {ta tb:TE3} (R:OpD r) (a:PuE ta) (b:PuE tb):PuE (o3 r ta tb):=
 ⟨λρ=>(a.f ρ).bind λx=>(b.f ρ).bind λy=>R.f x y,a.fv++b.fv,R.nw,λhv hd hf k=>by
  obtain ⟨x,e1,hf⟩:=obb hf;obtain ⟨y,e2,hf⟩:=obb hf;exact a.ok hv.l hd e1 λx' G1 E1 D1 _=>b.ok (hv.r.up E1) (hd.up E1) e2 λy' G2 E2 D2 _=>R.ok (D1.up (ZL E2)) D2 ((hd.up E1).up E2) hf λz G3 E3 D3 N3=>k z G3 ((E1.trans E2).trans E3) D3 λh=>(N3 h).back (E1.trans E2)⟩
def qW:PuA qh:=⟨λ_=>some [],[],0,(λh=>by cases h;rfl),λhv hd hf k=>by cases hf;exact k _ _ Ex.refl .nil⟩
def qi {ta:TE3} {tr:TA3} (a:PuE ta) (r:PuA tr):PuA (qc ta tr):=
 ⟨λρ=>(a.f ρ).bind λx=>(r.f ρ).bind λxs=>some (x::xs),a.fv++r.fv,r.n+1,(λhf=>by
  obtain ⟨x,e1,hf⟩:=obb hf;obtain ⟨xs,e2,hf⟩:=obb hf;cases hf;simp [r.ln e2]),λhv hd hf k=>by
  obtain ⟨x,e1,hf⟩:=obb hf;obtain ⟨xs,e2,hf⟩:=obb hf;cases hf;exact a.ok hv.l hd e1 λx' G1 E1 D1 _=>r.ok (hv.r.up E1) (hd.up E1) e2 λy' G2 E2 D2=>k _ G2 (E1.trans E2) (.cons (D1.up (ZL E2)) D2)⟩
def few {n:Nat} (h:Tru (Nat.ble n 1000)):n<=sizeLine:=za3 (Nat.le_of_ble_eq_true h.h) (by rw [v8];omega)
def M4 {t:TA3} (a:PuA t) (hn:Tru (Nat.ble a.n 1000)):PuE (q0 t):=⟨λρ=>(a.f ρ).map .tuple,a.fv,false,λhv hd hf k=>by
 obtain ⟨xs,e1,rfl⟩:=za9 hf;exact a.ok hv hd e1 λx G1 E1 D1=>⟨by rw [D1.length,a.ln e1];exact few hn,k _ _ E1 (.tup D1) (λz=>by cases z)⟩⟩
def M7 {D:Addr->Prop} {G:Gp} {p:Addr} {xs:List T} {ds:List PyData} (hp:G p=none) (h:Dqs (rs D G) xs ds):Nw D G (gu G p (.lst xs)) (.ref p) (.list ds):=
 .inr ⟨p,xs,ds,rfl,rfl,hp,qx,h.up λb o e=>by
  obtain ⟨n,e⟩:=zb e;have:b≠p:=by rintro rfl;rw [hp] at e;cases e
  rw [ZY (by rintro (z|z);exact n z;exact this z),j8 this];exact e⟩
def KR {D:Addr->Prop} {G:Gp} {p:Addr} {xs:List T} {ds:List PyData} (hd:Dom D G) (hp:G p=none) (h:Dqs (rs D G) xs ds):Dq (rs D (gu G p (.lst xs))) (.ref p) (.list ds):=
 .lst (qmu hd hp) (h.up (ZL (QB hp)))
def qp9 {t:TA3} (a:PuA t) (hn:Tru (Nat.ble a.n 1000)):PuE (zX t):=⟨λρ=>(a.f ρ).map .list,a.fv,true,λhv hd hf k=>by
 obtain ⟨xs,e1,rfl⟩:=za9 hf;exact a.ok hv hd e1 λx G1 E1 D1=>⟨by rw [D1.length,a.ln e1];exact few hn,λp hp=>k _ _ (E1.trans (QB hp)) (KR (hd.up E1) hp D1) λ_=>(M7 hp D1).back E1⟩⟩
def qE {r:List T->Gp->Q3->Prop} {t:TA3} (R:FnD r) (a:PuA t):PuE (cb3 r t):=
 ⟨λρ=>(a.f ρ).bind R.f,a.fv,R.nw,λhv hd hf k=>by
  obtain ⟨x,e1,hf⟩:=obb hf;exact a.ok hv hd e1 λx' G1 E1 D1=>R.ok D1 (hd.up E1) hf λz G3 E3 D3 N3=>k z G3 (E1.trans E3) D3 λh=>(N3 h).back E1⟩
def asB:PyData->Option Bool
 |.bool b=>some b
 |_=>none
def asI:PyData->Option Int
 |.int b=>some b
 |_=>none
def qb6 {d:PyData} {b:Bool} (h:asB d=some b):d=.bool b:=by cases d<;>simp [asB] at h;subst h;rfl
def NH {d:PyData} {b:Int} (h:asI d=some b):d=.int b:=by cases d<;>simp [asI] at h;subst h;rfl
def bTb {t:TE3} (a:PuE t):PuC (tb3 t):=⟨λρ=>(a.f ρ).bind asB,a.fv,λhv hd hf k=>by
 obtain ⟨x,e1,hf⟩:=obb hf;have:=qb6 hf;subst this;exact a.ok hv hd e1 λx' G1 E1 D1 _=>by cases D1;exact k G1 E1⟩
def bOr {t u:TT3} (a:PuC t) (b:PuC u):PuC (or3 t u):=⟨λρ=>(a.f ρ).bind λk=>if k then some true else b.f ρ,a.fv++b.fv,λhv hd hf k=>by
 obtain ⟨x,e1,hf⟩:=obb hf;refine a.ok hv.l hd e1 λG1 E1=>?_;cases x with
 |false=>exact b.ok (hv.r.up E1) (hd.up E1) hf λG2 E2=>k G2 (E1.trans E2)
 |true=>cases hf;exact k G1 E1⟩
def qf7 {t:TT3} (a:PuC t):PuC (JD t):=⟨λρ=>(a.f ρ).map (! ·),a.fv,λhv hd hf k=>by
 obtain ⟨x,e1,hf⟩:=za9 hf;subst hf;exact a.ok hv hd e1 λG1 E1=>k G1 E1⟩
def bTt:PuC tt3:=⟨λ_=>some true,[],λhv hd hf k=>by cases hf;exact k _ Ex.refl⟩
def XC {ta tb:TE3} (a:PuE ta) (b:PuE tb):PuE (qZ ta tb):=⟨λρ=>((a.f ρ).bind asB).bind λk=>if k then b.f ρ else some (.bool false),a.fv++b.fv,false,λhv hd hf k=>by
 obtain ⟨x,e1,hf⟩:=obb hf;obtain ⟨y,e1,e2⟩:=obb e1;have:=qb6 e2;subst this;refine a.ok hv.l hd e1 λx' G1 E1 D1 _=>?_;cases D1;cases x with
 |true=>exact b.ok (hv.r.up E1) (hd.up E1) hf λz G2 E2 D2 _=>k z G2 (E1.trans E2) D2 (λz=>by cases z)
 |false=>cases hf;exact k _ G1 E1 (.bl false) (λz=>by cases z)⟩
def qot {ta:TE3} (a:PuE ta):PuE (zY ta):=⟨λρ=>((a.f ρ).bind asB).map λk=>.bool (!k),a.fv,false,λhv hd hf k=>by
 obtain ⟨x,e1,hf⟩:=za9 hf;obtain ⟨y,e1,e2⟩:=obb e1;have:=qb6 e2;subst this;subst hf;refine a.ok hv hd e1 λx' G1 E1 D1 _=>?_;cases D1;exact k _ G1 E1 (.bl _) (λz=>by cases z)⟩
def bIf {t:TT3} {ta tb:TE3} (c:PuC t) (a:PuE ta) (b:PuE tb):PuE (if3 t ta tb):=⟨λρ=>(c.f ρ).bind λk=>if k then a.f ρ else b.f ρ,c.fv++(a.fv++b.fv),false,λhv hd hf k=>by
 obtain ⟨x,e1,hf⟩:=obb hf;refine c.ok hv.l hd e1 λG1 E1=>?_;cases x with
 |true=>exact a.ok (hv.r.l.up E1) (hd.up E1) hf λz G2 E2 D2 _=>k z G2 (E1.trans E2) D2 (λz=>by cases z)
 |false=>exact b.ok (hv.r.r.up E1) (hd.up E1) hf λz G2 E2 D2 _=>k z G2 (E1.trans E2) D2 (λz=>by cases z)⟩
def qh6 {ta:TE3} (a:PuE ta):PuE (u3 ZB ta):=⟨λρ=>((a.f ρ).bind asI).map λi=>.int (-i),a.fv,false,λhv hd hf k=>by
 obtain ⟨x,e1,hf⟩:=za9 hf;obtain ⟨y,e1,e2⟩:=obb e1;have:=NH e2;subst this;subst hf;refine a.ok hv hd e1 λx' G1 E1 D1 _=>?_;cases D1;exact k _ G1 E1 (.int _) (λz=>by cases z)⟩
def bCh {r r':R3} {ta tb tc:TE3} (R:OpD r) (R':OpD r') (a:PuE ta) (b:PuE tb) (c:PuE tc):PuE (ch3 r r' ta tb tc):=
 ⟨λρ=>(a.f ρ).bind λx=>(b.f ρ).bind λy=>((R.f x y).bind asB).bind λk=>if k then (c.f ρ).bind λz=>R'.f y z else some (.bool false),a.fv++(b.fv++c.fv),false,λ{D τ ρ G q d} hv hd hf k=>by
  obtain ⟨x,e1,hf⟩:=obb hf;obtain ⟨y,e2,hf⟩:=obb hf;obtain ⟨j,e3,hf⟩:=obb hf;obtain ⟨v,e3,e4⟩:=obb e3;have:=qb6 e4;subst this;refine a.ok hv.l hd e1 λx' G1 E1 D1 _=>b.ok (hv.r.l.up E1) (hd.up E1) e2 λy' G2 E2 D2 _=>R.ok (D1.up (ZL E2)) D2 ((hd.up E1).up E2) e3 λz G3 E3 D3 _=>?_;cases D3;have E:=(E1.trans E2).trans E3;cases j with
  |true=>
   obtain ⟨w,e5,hf⟩:=obb hf;exact c.ok (hv.r.r.up E) (hd.up E) e5 λw' G4 E4 D4 _=>R'.ok ((D2.up (ZL E3)).up (ZL E4)) D4 ((hd.up E).up E4) hf λu G5 E5 D5 _=>k u G5 ((E.trans E4).trans E5) D5 (λz=>by cases z)
  |false=>cases hf;exact k _ G3 E (.bl false) (λz=>by cases z)⟩
def tyD:PyData->Option String
 |.none=>some "NoneType" |.bool _=>some "bool" |.int _=>some "int" |.str _=>some "str" |.tuple _=>some "tuple" |.list _=>some "list" |.dict _=>none
def qpn {ta:TE3} (g:String->Bool) (a:PuE ta):PuE (QP g ta):=⟨λρ=>(a.f ρ).bind λd=>(tyD d).map λt=>.bool (g t),a.fv,false,λhv hd hf k=>by
 obtain ⟨x,e1,hf⟩:=obb hf;obtain ⟨y,e2,hf⟩:=za9 hf;subst hf;refine a.ok hv hd e1 λx' G1 E1 D1 _=>?_;have:tyT G1 x'=some y:=by
  cases D1 with
  |lst h _=>have g:=jc (zb h).2;simp [tyT,g];simpa [tyD] using e2
  |_=>simpa [tyT,tyD] using e2
 simp only [this];exact k _ G1 E1 (.bl _) (λz=>by cases z)⟩
def bNp:PuO np3:=⟨λ_=>some none,[],λhv hd hf k=>by cases hf;exact k _ Ex.refl⟩
def bSp {t:TE3} (a:PuE t):PuO (sp3 t):=⟨λρ=>((a.f ρ).bind asI).map some,a.fv,λhv hd hf k=>by
 obtain ⟨x,e1,hf⟩:=za9 hf;obtain ⟨y,e1,e2⟩:=obb e1;have:=NH e2;subst this;subst hf;refine a.ok hv hd e1 λx' G1 E1 D1 _=>?_;cases D1;exact k G1 E1⟩
def Dqs.cut {G:Gp} {xs:List T} {ds:List PyData} (h:Dqs G xs ds) (lo hi:Option Int):Dqs G (ZE xs lo hi) (ZE ds lo hi):=by
 unfold ZE;rw [h.length];exact (h.drop _).take _
def slD (d:PyData) (lo hi:Option Int):Option PyData:=match d with
 |.tuple xs=>cif (HT.sIx xs.length 0 lo=0/\HT.sIx xs.length xs.length hi=xs.length) none (some (.tuple (ZE xs lo hi)))
 |.list xs=>some (.list (ZE xs lo hi))
 |_=>none
def bSl {te:TE3} {tl th:TO3} (a:PuE te) (l:PuO tl) (h:PuO th):PuE (J3 te tl th):=⟨λρ=>(a.f ρ).bind λd=>(l.f ρ).bind λlo=>(h.f ρ).bind λhi=>slD d lo hi,a.fv++(l.fv++h.fv),false,λhv hd hf k=>by
 obtain ⟨d,e1,hf⟩:=obb hf;obtain ⟨lo,e2,hf⟩:=obb hf;obtain ⟨hi,e3,hf⟩:=obb hf;refine a.ok hv.l hd e1 λx' G1 E1 D1 _=>l.ok (hv.r.l.up E1) (hd.up E1) e2 λG2 E2=>h.ok (hv.r.r.up (E1.trans E2)) (hd.up (E1.trans E2)) e3 λG3 E3=>?_;have E:=(E1.trans E2).trans E3;have D3:=(D1.up (ZL E2)).up (ZL E3);unfold slD at hf;cases D3 with
 |tup hs=>
  simp only [cif] at hf;split at hf
  ·cases hf
  ·rename_i n;cases hf;exact ⟨by rw [hs.length];exact n,k _ _ E (.tup (hs.cut _ _)) (λz=>by cases z)⟩
 |lst g hs=>
  simp only at hf;cases hf;simp only [sl3,jc (zb g).2];intro p hp;exact k _ _ (E.trans (QB hp)) (KR (hd.up E) hp (hs.cut _ _)) (λz=>by cases z)
 |_=>simp at hf⟩
def EC:List PyData->Option (List Int)
 |[]=>some []
 |.int i::r=>(EC r).map (i::·)
 |_=>none
def D6 (ns:List Int):EC (ns.map PyData.int)=some ns:=by
 induction ns with
 |nil=>rfl
 |cons n r ih=>simp [EC,ih]
theorem WP:∀ {xs:List PyData} {ns:List Int},EC xs=some ns->xs=ns.map PyData.int
 |[],_,h=>by simp [EC] at h;subst h;rfl
 |.int i::r,ns,h=>by
  simp only [EC] at h;obtain ⟨ms,e,rfl⟩:=za9 h;rw [WP e];rfl
 |.none::r,ns,h=>by simp [EC] at h
 |.bool _::r,ns,h=>by simp [EC] at h
 |.str _::r,ns,h=>by simp [EC] at h
 |.list _::r,ns,h=>by simp [EC] at h
 |.tuple _::r,ns,h=>by simp [EC] at h
 |.dict _::r,ns,h=>by simp [EC] at h
def qc2 (d:PyData):Option PyData:=match d with
 |.list ds=>(EC ds).bind λns=>cif (ns.length<4000) (some (.int (EJ ns))) none
 |_=>none
def ql3 {te:TE3} (a:PuE te):PuE (qj5 te):=⟨λρ=>(a.f ρ).bind qc2,a.fv,false,λhv hd hf k=>by
 obtain ⟨d,e1,hf⟩:=obb hf;refine a.ok hv hd e1 λx' G1 E1 D1 _=>?_;unfold qc2 at hf;cases D1 with
 |lst g hs=>
  simp only at hf;obtain ⟨ns,en,hf⟩:=obb hf;unfold cif at hf;split at hf
  ·rename_i hl;cases hf;have:=WP en;subst this;have:=hs.ints;subst this;simp only [jc (zb g).2,YG];exact ⟨hl,k _ _ E1 (.int _) (λz=>by cases z)⟩
  ·cases hf
 |_=>simp at hf⟩
def opI (g:Int->Int->Int):OpD (iI g):=⟨λd e=>match d,e with|.int i,.int j=>some (.int (g i j))|_,_=>none,false,λ{D G x y d e v q} hx hy hd hf k=>by
 cases hx<;>try (simp at hf;done)
 cases hy<;>try (simp at hf;done)
 cases hf;exact k _ _ Ex.refl (.int _) (λz=>by cases z)⟩
def cI (C:Int->Int->Prop) (g:Int->Int->Int) (d e:PyData):Option PyData:=match d,e with|.int i,.int j=>cif (C i j) (some (.int (g i j))) none|_,_=>none
def opC (C:Int->Int->Prop) (g:Int->Int->Int):OpD (iC C g):=⟨cI C g,false,λ{D G x y d e v q} hx hy hd hf k=>by
 unfold cI at hf;cases hx<;>try (simp at hf;done)
 cases hy<;>try (simp at hf;done)
 simp only [cif] at hf;split at hf
 ·rename_i c;cases hf;exact ⟨c,k _ _ Ex.refl (.int _) (λz=>by cases z)⟩
 ·cases hf⟩
def opB (g:Int->Int->Bool):OpD (iB g):=⟨λd e=>match d,e with|.int i,.int j=>some (.bool (g i j))|_,_=>none,false,λ{D G x y d e v q} hx hy hd hf k=>by
 cases hx<;>try (simp at hf;done)
 cases hy<;>try (simp at hf;done)
 cases hf;exact k _ _ Ex.refl (.bl _) (λz=>by cases z)⟩
def qcm:PyData->PyData->Option Bool
 |.none,.none=>some true|.none,.int _=>some false|.int _,.none=>some false|.none,.bool _=>some false|.bool _,.none=>some false|.none,.str _=>some false|.str _,.none=>some false
 |.int i,.int j=>some (decide (i=j))|.bool i,.bool j=>some (decide (i=j))|.str i,.str j=>some (decide (i=j))
 |.int _,.str _=>some false|.str _,.int _=>some false|.bool _,.str _=>some false|.str _,.bool _=>some false
 |_,_=>none
def qdK {G:Gp} {x y:T} {d e:PyData} (hx:Dq G x d) (hy:Dq G y e):qS x y=qcm d e:=by
 cases hx<;>cases hy<;>rfl
def eqD (neg:Bool) (d e:PyData):Option PyData:=match qcm d e with
 |some k=>some (.bool (if neg then !k else k))
 |none=>cif (dpt d<=40/\dpt d≠0) ((jz d e).map λb=>.bool (if neg then !b else b)) none
def LH (neg:Bool):OpD (qY neg):=⟨eqD neg,false,λ{D G x y d e v q} hx hy hd hf k=>by
 unfold qY;rw [qdK hx hy];unfold eqD at hf;cases h:qcm d e with
 |some b=>rw [h] at hf;cases hf;exact k _ _ Ex.refl (.bl _) (λz=>by cases z)
 |none=>
  rw [h] at hf;simp only [cif] at hf ⊢;split at hf
  ·rename_i c;obtain ⟨b,e1,rfl⟩:=za9 hf;exact ⟨d,e,b,(hx.up V0).dp,(hy.up V0).dp,e1,c.1,c.2,k _ _ Ex.refl (.bl _) (λz=>by cases z)⟩
  ·cases hf⟩
def qkJ (neg:Bool) (d e:PyData):Option PyData:=match e with|.none=>some (.bool (match d with|.none=>!neg|_=>neg))|_=>none
def qbl (neg:Bool):OpD (JF neg):=⟨qkJ neg,false,λ{D G x y d e v q} hx hy hd hf k=>by
 unfold qkJ at hf;cases hy<;>try (simp at hf;done)
 cases hf;unfold JF;cases hx<;>exact k _ _ Ex.refl (.bl _) (λz=>by cases z)⟩
def qqz (neg:Bool) (d e:PyData):Option PyData:=match d,e with|.bool i,.bool j=>some (.bool (if neg then i != j else i==j))|_,_=>none
def qo7 (neg:Bool):OpD (qsf neg):=⟨qqz neg,false,λ{D G x y d e v q} hx hy hd hf k=>by
 unfold qqz at hf;cases hx<;>try (simp at hf;done)
 cases hy<;>try (simp at hf;done)
 cases hf;exact k _ _ Ex.refl (.bl _) (λz=>by cases z)⟩
def ixD (d e:PyData):Option PyData:=match d,e with
 |.tuple xs,.int i=>atI xs i
 |.list xs,.int i=>atI xs i
 |_,_=>none
theorem Dqs.atI {G:Gp} {xs:List T} {ds:List PyData} {i:Int} {d:PyData} (h:Dqs G xs ds) (e:L2.atI ds i=some d):∃ x,L2.atI xs i=some x/\Dq G x d:=by
 unfold L2.atI at e ⊢;rw [h.length];obtain ⟨j,e1,e2⟩:=obb e;obtain ⟨x,hx,r⟩:=h.get e2;exact ⟨x,by rw [e1];exact hx,r⟩
def J4:OpD ix3:=⟨ixD,false,λ{D G x y d e v q} hx hy hd hf k=>by
 unfold ixD at hf;cases hx with
 |tup hs=>
  cases hy<;>try (simp at hf;done)
  obtain ⟨x,e1,r⟩:=hs.atI hf;simp only [ix3,e1];exact k _ _ Ex.refl r (λz=>by cases z)
 |lst g hs=>
  cases hy<;>try (simp at hf;done)
  obtain ⟨x,e1,r⟩:=hs.atI hf;simp only [ix3,jc (zb g).2,e1];exact k _ _ Ex.refl r (λz=>by cases z)
 |_=>simp at hf⟩
def qlf (d e:PyData):Option PyData:=match d,e with
 |.tuple xs,.tuple ys=>cif (xs≠[]/\xs.length+ys.length<=sizeLine) (some (.tuple (xs++ys))) none
 |.list xs,.list ys=>cif (xs.length+ys.length<=sizeLine) (some (.list (xs++ys))) none
 |.int i,.int j=>some (.int (i+j))
 |_,_=>none
def KC:OpD zf:=⟨qlf,false,λ{D G x y d e v q} hx hy hd hf k=>by
  unfold qlf at hf;cases hx with
  | int i => cases hy <;> try (simp at hf;done)
             cases hf;exact k _ _ Ex.refl (.int _) (λz=>by cases z)
  |tup hs=>
    cases hy<;>try (simp at hf;done)
    rename_i hs2;simp only [cif] at hf;split at hf
    · rename_i c;cases hf;refine ⟨?_,by rw [hs.length,hs2.length];exact c.2,k _ _ Ex.refl (.tup (hs.append hs2)) (λz=>by cases z)⟩;rintro rfl;cases hs;exact c.1 rfl
    · cases hf
  |lst g hs=>
    cases hy<;>try (simp at hf;done)
    rename_i g2 hs2;simp only [cif] at hf;split at hf
    · rename_i c;cases hf;simp only [zf,(zb g).2,(zb g2).2];exact ⟨by rw [hs.length,hs2.length];exact c,λp hp=>k _ _ (QB hp) (KR hd hp (hs.append hs2)) (λz=>by cases z)⟩
    · cases hf
  |_=>simp at hf⟩
def qqq (neg:Bool) (d e:PyData):Option PyData:=match e with
 |.tuple ys=>cif (∀ y∈ys,dpt y<=40) ((qbG d ys).map λb=>.bool (if neg then !b else b)) none
 |.list ys=>cif (∀ y∈ys,dpt y<=40) ((qbG d ys).map λb=>.bool (if neg then !b else b)) none
 |_=>none
def qpJ (neg:Bool):OpD (qqk neg):=⟨qqq neg,false,λ{D G x y d e v q} hx hy hd hf k=>by
 unfold qqq at hf;cases hy with
 |tup hs=>
  simp only [cif] at hf;split at hf
  ·rename_i c;obtain ⟨b,e1,rfl⟩:=za9 hf;exact ⟨_,d,_,b,rfl,(hx.up V0).dp,(hs.up V0).dp,e1,c,k _ _ Ex.refl (.bl _) (λz=>by cases z)⟩
  ·cases hf
 |lst g hs=>
  simp only [cif] at hf;split at hf
  ·rename_i c;obtain ⟨b,e1,rfl⟩:=za9 hf;exact ⟨_,d,_,b,jc (zb g).2,(hx.up V0).dp,(hs.up V0).dp,e1,c,k _ _ Ex.refl (.bl _) (λz=>by cases z)⟩
  ·cases hf
 |_=>simp at hf⟩
def qjt:List PyData->Option PyData
 |[.tuple xs]=>some (.int xs.length)
 |[.list xs]=>some (.int xs.length)
 |_=>none
def qe1:FnD jP:=⟨qjt,false,λ{D G xs ds v q} hx hd hf k=>by
 unfold qjt at hf;split at hf
 ·cases hx with
  |cons a b=>cases b;cases a;rename_i hs;cases hf;simp only [jP];rw [hs.length];exact k _ _ Ex.refl (.int _) (λz=>by cases z)
 ·cases hx with
  |cons a b=>cases b;cases a;rename_i g hs;cases hf;simp only [jP,jc (zb g).2];rw [hs.length];exact k _ _ Ex.refl (.int _) (λz=>by cases z)
 ·cases hf⟩
def qqm:List PyData->Option PyData
 |[.int i]=>some (.int (if i<0 then -i else i))
 |_=>none
def qrF:FnD JS:=⟨qqm,false,λ{D G xs ds v q} hx hd hf k=>by
 unfold qqm at hf;split at hf
 ·cases hx with
  |cons a b=>cases b;cases a;cases hf;exact k _ _ Ex.refl (.int _) (λz=>by cases z)
 ·cases hf⟩
def qqI:List PyData->Option PyData
 |[.int i,.int j]=>some (.int (if j > i then j else i))
 |_=>none
def qs4:FnD VR:=⟨qqI,false,λ{D G xs ds v q} hx hd hf k=>by
 unfold qqI at hf;split at hf
 ·cases hx with
  |cons a b=>cases b with
   |cons b c=>cases c;cases a;cases b;cases hf;exact k _ _ Ex.refl (.int _) (λz=>by cases z)
 ·cases hf⟩
def qqv:List PyData->Option PyData
 |[.tuple xs]=>some (.tuple xs)
 |[.list xs]=>some (.tuple xs)
 |_=>none
def qqF:FnD qF:=⟨qqv,false,λ{D G xs ds v q} hx hd hf k=>by
 unfold qqv at hf;split at hf
 ·cases hx with
  |cons a b=>cases b;cases a;rename_i hs;cases hf;exact k _ _ Ex.refl (.tup hs) (λz=>by cases z)
 ·cases hx with
  |cons a b=>cases b;cases a;rename_i g hs;cases hf;simp only [qF,jc (zb g).2];exact k _ _ Ex.refl (.tup hs) (λz=>by cases z)
 ·cases hf⟩
def qqJ:List PyData->Option PyData
 |[.tuple xs]=>some (.list xs)
 |[.list xs]=>some (.list xs)
 |_=>none
def qqK:FnD zS:=⟨qqJ,true,λ{D G xs ds v q} hx hd hf k=>by
 unfold qqJ at hf;split at hf
 ·cases hx with
  |cons a b=>cases b;cases a;rename_i hs;cases hf;exact λp hp=>k _ _ (QB hp) (KR hd hp hs) λ_=>M7 hp hs
 ·cases hx with
  |cons a b=>cases b;cases a;rename_i g hs;cases hf;simp only [zS,jc (zb g).2];exact λp hp=>k _ _ (QB hp) (KR hd hp hs) λ_=>M7 hp hs
 ·cases hf⟩
def qcH:List PyData->Option (List Bool)
 |[]=>some []
 |.bool i::r=>(qcH r).map (i::·)
 |_=>none
def qfM (ns:List Bool):qcH (ns.map PyData.bool)=some ns:=by
 induction ns with
 |nil=>rfl
 |cons n r ih=>simp [qcH,ih]
theorem qcT {G:Gp}:∀ {xs:List T} {ds:List PyData} {ns:List Bool},Dqs G xs ds->qcH ds=some ns->qgM xs=some (ns.all id)/\qqB xs=some (ns.any id)
 |_,_,_,.nil,h=>by simp [qcH] at h;subst h;exact ⟨rfl,rfl⟩
 |_,.bool i::r,ns,.cons a b,h=>by
  simp only [qcH] at h;obtain ⟨ms,e,rfl⟩:=za9 h;obtain ⟨h1,h2⟩:=qcT b e;cases a;simp [qgM,qqB,h1,h2]
 |_,.int _::r,ns,_,h=>by simp [qcH] at h
 |_,.none::r,ns,_,h=>by simp [qcH] at h
 |_,.str _::r,ns,_,h=>by simp [qcH] at h
 |_,.list _::r,ns,_,h=>by simp [qcH] at h
 |_,.tuple _::r,ns,_,h=>by simp [qcH] at h
 |_,.dict _::r,ns,_,h=>by simp [qcH] at h
def qnx:List PyData->Option PyData
 |[.list xs]=>(qcH xs).map λns=>.bool (ns.all id)
 |_=>none
def qsP:FnD J6:=⟨qnx,false,λ{D G xs ds v q} hx hd hf k=>by
 unfold qnx at hf;split at hf
 ·obtain ⟨ns,e,rfl⟩:=za9 hf;cases hx with
  |cons a b=>cases b;cases a;rename_i g hs;simp only [J6,jc (zb g).2,(qcT hs e).1];exact k _ _ Ex.refl (.bl _) (λz=>by cases z)
 ·cases hf⟩
def mn:List Int->Int
 |[]=>0|[a]=>a|a::b::r=>min a (mn (b::r))
def mx:List Int->Int
 |[]=>0|[a]=>a|a::b::r=>max a (mx (b::r))
theorem qcJ:∀ {ns:List Int} {m:Int},m∈ns->mn ns<=m
 |[a],m,h=>by simp at h;subst h;exact Int.le_refl _
 |a::b::r,m,h=>by
  unfold mn;rcases mem_cons.mp h with rfl|h
  ·omega
  ·have:=qcJ h;omega
theorem KK:∀ {ns:List Int},ns≠[]->mn ns∈ns
 |[a],_=>by simp [mn]
 |a::b::r,_=>by
  unfold mn;have:=KK (ns:=b::r) (by simp);rcases Int.le_total a (mn (b::r)) with h|h
  ·rw [Int.min_eq_left h];simp
  ·rw [Int.min_eq_right h];exact u9 _ this
theorem qfn:∀ {ns:List Int} {m:Int},m∈ns->m<=mx ns
 |[a],m,h=>by simp at h;subst h;exact Int.le_refl _
 |a::b::r,m,h=>by
  unfold mx;rcases mem_cons.mp h with rfl|h
  ·omega
  ·have:=qfn h;omega
theorem K7:∀ {ns:List Int},ns≠[]->mx ns∈ns
 |[a],_=>by simp [mx]
 |a::b::r,_=>by
  unfold mx;have:=K7 (ns:=b::r) (by simp);rcases Int.le_total a (mx (b::r)) with h|h
  ·rw [Int.max_eq_right h];exact u9 _ this
  ·rw [Int.max_eq_left h];simp
def mnD:List PyData->Option PyData
 |[.list xs]=>(EC xs).bind λns=>cif (ns≠[]) (some (.int (mn ns))) none
 |_=>none
def qeh:FnD NI:=⟨mnD,false,λ{D G xs ds v q} hx hd hf k=>by
 unfold mnD at hf;split at hf
 ·obtain ⟨ns,e,hf⟩:=obb hf;unfold cif at hf;split at hf
  ·rename_i c;cases hf;cases hx with
   |cons a b=>
    cases b;cases a;rename_i g hs;have:=WP e;subst this;have:=hs.ints;subst this;simp only [NI,jc (zb g).2,YG];refine ⟨c,λm hm hl=>?_⟩;have:m=mn ns:=Int.le_antisymm (hl _ (KK c)) (qcJ hm);subst this;exact k _ _ Ex.refl (.int _) (λz=>by cases z)
  ·cases hf
 ·cases hf⟩
def mxD:List PyData->Option PyData
 |[.list xs]=>(EC xs).bind λns=>cif (ns≠[]) (some (.int (mx ns))) none
 |_=>none
def qeO:FnD qaj:=⟨mxD,false,λ{D G xs ds v q} hx hd hf k=>by
 unfold mxD at hf;split at hf
 ·obtain ⟨ns,e,hf⟩:=obb hf;unfold cif at hf;split at hf
  ·rename_i c;cases hf;cases hx with
   |cons a b=>
    cases b;cases a;rename_i g hs;have:=WP e;subst this;have:=hs.ints;subst this;simp only [qaj,jc (zb g).2,YG];refine ⟨c,λm hm hl=>?_⟩;have:m=mx ns:=Int.le_antisymm (qfn hm) (hl _ (K7 c));subst this;exact k _ _ Ex.refl (.int _) (λz=>by cases z)
  ·cases hf
 ·cases hf⟩
def PSp (F:List PyData->Option PyData) (fr:Bool):Sp3:=λts G q=>∃ (D:Addr->Prop) (ds:List PyData) (d:PyData),Dqs (rs D G) ts ds/\Dom D G/\F ds=some d/\∀ x G',Ex G G'->Dq (rs D G') x d->(fr=true->Nw D G G' x d)->q x G'
def zj (F:List PyData->Option PyData) (fr:Bool):FnD (PSp F fr):=⟨F,fr,λ{D G xs ds v q} hx hd hf k=>⟨D,ds,v,hx,hd,hf,k⟩⟩
def qqo:PyData->Option (List PyData)
 |.tuple xs=>some xs
 |.list xs=>some xs
 |_=>none
def qau {t:TE3} (a:PuE t):PuI (JH t):=⟨λρ=>(a.f ρ).bind qqo,a.fv,false,λ{D τ ρ G r ds} hv hd hf k=>by
 obtain ⟨d,e1,hf⟩:=obb hf;refine a.ok hv hd e1 λx G1 E1 D1 _=>?_;unfold qqo at hf;cases D1 with
 |tup hs=>cases hf;exact k _ _ _ E1 hs (λ_ _=>trivial) (λz=>by cases z)
 |lst g hs=>
  cases hf;simp only [jc (zb g).2];refine k _ _ _ E1 hs (λG2 h=>?_) (λz=>by cases z);rcases h with h|h
  ·cases h
  ·exact jc (h _ _ g)
 |_=>simp at hf⟩
def zM (lo:Int) (n:Nat):List Int:=(List.range n).map λ(i:Nat)=>lo+(i:Int)
def qg5 (lo:Int) (n:Nat):qbK lo n=(zM lo n).map T.int:=by simp [qbK,zM,map_map,Function.comp_def]
def qkT:List PyData->Option (List PyData)
 |[.int j]=>cif (-(2 ^ 62)<=j/\j<2 ^ 62) (some ((zM 0 j.toNat).map PyData.int)) none
 |[.int i,.int j]=>cif (-(2 ^ 62)<=i/\i<2 ^ 62/\-(2 ^ 62)<=j/\j<2 ^ 62) (some ((zM i (j-i).toNat).map PyData.int)) none
 |_=>none
def MW {t:TA3} (a:PuA t):PuI (zw t):=⟨λρ=>(a.f ρ).bind qkT,a.fv,true,λ{D τ ρ G r ds} hv hd hf k=>by
 obtain ⟨d,e1,hf⟩:=obb hf;refine a.ok hv hd e1 λx G1 E1 D1=>?_;unfold qkT at hf;split at hf
 ·unfold cif at hf;split at hf
  ·rename_i c;cases hf;cases D1 with
   |cons a b=>cases b;cases a;simp only;rw [qg5];exact ⟨c,k _ _ _ E1 (Dqs.ofInts _) (λ_ _=>trivial) λ_=>⟨_,rfl⟩⟩
  ·cases hf
 ·unfold cif at hf;split at hf
  ·rename_i c;cases hf;cases D1 with
   |cons a b=>cases b with
    |cons b c'=>cases c';cases a;cases b;simp only;rw [qg5];exact ⟨c,k _ _ _ E1 (Dqs.ofInts _) (λ_ _=>trivial) λ_=>⟨_,rfl⟩⟩
  ·cases hf
 ·cases hf⟩
def qr2 (us vs:List PyData):List PyData:=(us.zip vs).map λp=>.tuple [p.1,p.2]
theorem Dqs.zip {G:Gp}:∀ {xs:List T} {ds:List PyData} {ys:List T} {es:List PyData},Dqs G xs ds->Dqs G ys es->Dqs G (qeq xs ys) (qr2 ds es)
 |_,_,_,_,.nil,_=>by simp [qeq,qr2];exact .nil
 |_,_,_,_,.cons _ _,.nil=>by simp [qeq,qr2];exact .nil
 |_,_,_,_,.cons a b,.cons c d=>.cons (.tup (.cons a (.cons c .nil))) (Dqs.zip b d)
inductive Bd (H:Gp):List (Nat×T)->List (Nat×PyData)->Prop
 |nil:Bd H [] []
 |cons {i:Nat} {x:T} {d:PyData} {ts:List (Nat×T)} {bs:List (Nat×PyData)}:Dq H x d->Bd H ts bs->Bd H ((i,x)::ts) ((i,d)::bs)
theorem Bd.append {H:Gp}:∀ {ts:List (Nat×T)} {bs:List (Nat×PyData)} {us:List (Nat×T)} {cs:List (Nat×PyData)},Bd H ts bs->Bd H us cs->Bd H (ts++us) (bs++cs)
 |_,_,_,_,.nil,h=>h
 |_,_,_,_,.cons a b,h=>.cons a (Bd.append b h)
theorem Bd.up {H H':Gp} (e:Ex H H'):∀ {ts:List (Nat×T)} {bs:List (Nat×PyData)},Bd H ts bs->Bd H' ts bs
 |_,_,.nil=>.nil
 |_,_,.cons a b=>.cons (a.up e) (Bd.up e b)
def sets:St3->List (Nat×T)->St3
 |τ,[]=>τ
 |τ,p::r=>sets (τ.set p.1 (some p.2)) r
def J5:Rho->List (Nat×PyData)->Rho
 |ρ,[]=>ρ
 |ρ,p::r=>J5 (ρ.set p.1 (.sh p.2)) r
theorem qbr:∀ (τ:St3) (a b:List (Nat×T)),sets τ (a++b)=sets (sets τ a) b
 |τ,[],b=>rfl
 |τ,p::a,b=>by simp only [cons_append,sets];exact qbr _ a b
structure PuG (g:TG3) where
 f:PyData->Option (List (Nat×PyData))
 tg:List Nat
 at':∀ {d bs},f d=some bs->∀ p∈bs,p.1∈tg
 ok:∀ {H x d bs},Dq H x d->f d=some bs->∃ ts,Bd H ts bs/\∀ τ G (q:St3->Gp->Prop),q (sets τ ts) G->g x τ G q
structure PuGs (g:qat) where
 f:List PyData->Option (List (Nat×PyData))
 tg:List Nat
 at':∀ {d bs},f d=some bs->∀ p∈bs,p.1∈tg
 ok:∀ {H x d bs},Dqs H x d->f d=some bs->∃ ts,Bd H ts bs/\∀ τ G (q:St3->Gp->Prop),q (sets τ ts) G->g x τ G q
def gN (i:Nat):PuG (gn3 i):=⟨λd=>some [(i,d)],[i],λh p hp=>by cases h;simp at hp;subst hp;simp,λhx h=>by cases h;exact ⟨_,.cons hx .nil,λτ G q hq=>hq⟩⟩
def M3:PuGs qN:=⟨λds=>match ds with|[]=>some []|_=>none,[],(λh p hp=>by split at h;cases h;cases hp;cases h),λhx h=>by
 split at h
 ·cases h;cases hx;exact ⟨[],.nil,λτ G q hq=>hq⟩
 ·cases h⟩
def zW {t:TG3} {u:qat} (a:PuG t) (b:PuGs u):PuGs (qk t u):=⟨λds=>match ds with|d::r=>(a.f d).bind λx=>(b.f r).map λy=>x++y|[]=>none,a.tg++b.tg,(λh p hp=>by
 split at h
 ·obtain ⟨x,e1,h⟩:=obb h;obtain ⟨y,e2,rfl⟩:=za9 h;rcases List.mem_append.mp hp with z|z
  ·exact List.mem_append.mpr (.inl (a.at' e1 p z))
  ·exact List.mem_append.mpr (.inr (b.at' e2 p z))
 ·cases h),λhx h=>by
 split at h
 ·obtain ⟨x,e1,h⟩:=obb h;obtain ⟨y,e2,rfl⟩:=za9 h;cases hx with
  |cons hx hr=>
   obtain ⟨ts,b1,k1⟩:=a.ok hx e1;obtain ⟨us,b2,k2⟩:=b.ok hr e2;refine ⟨ts++us,b1.append b2,λτ G q hq=>k1 τ G _ (k2 _ G q ?_)⟩;rw [← qbr];exact hq
 ·cases h⟩
def M1 {u:qat} (n:Nat) (b:PuGs u):PuG (qM n u):=⟨λd=>match d with|.tuple ds=>if ds.length=n then b.f ds else none|_=>none,b.tg,(λh p hp=>by
 split at h
 ·split at h
  ·exact b.at' h p hp
  ·cases h
 ·cases h),λhx h=>by
 split at h
 ·split at h
  ·rename_i c;cases hx with
   |tup hs=>
    obtain ⟨ts,b1,k1⟩:=b.ok hs h;exact ⟨ts,b1,λτ G q hq=>⟨by rw [hs.length];exact c,k1 τ G q hq⟩⟩
  ·cases h
 ·cases h⟩
structure VA (D:Addr->Prop) (G:Gp) (τ:St3) (ρ:Rho):Prop where
 len:ρ.length=τ.length
 vw:∀ i d,vw ρ i=some d->∃ t,τ[i]?=some (some t)/\Dq (rs D G) t d
def VA.view {D:Addr->Prop} {G:Gp} {τ:St3} {ρ:Rho} (h:VA D G τ ρ) (fv:List Nat):KY fv D G τ ρ:=λi _ d e=>h.vw i d e
def VA.upx {D:Addr->Prop} {G G':Gp} {τ:St3} {ρ:Rho} (h:VA D G τ ρ) (e:Ex (rs D G) (rs D G')):VA D G' τ ρ:=⟨h.len,λi d hd=>let ⟨t,a,b⟩:=h.vw i d hd;⟨t,a,b.up e⟩⟩
def VA.up {D:Addr->Prop} {G G':Gp} {τ:St3} {ρ:Rho} (h:VA D G τ ρ) (e:Ex G G'):VA D G' τ ρ:=h.upx (ZL e)
def qhv {ρ:Rho} {i j:Nat} {s:Sl}:vw (ρ.set i s) j=if i=j then (if i<ρ.length then s.d else none) else vw ρ j:=by
 unfold vw;rw [getElem?_set];split
 ·subst j;split
  ·rfl
  ·rfl
 ·rfl
theorem VA.set {D:Addr->Prop} {G:Gp} {τ:St3} {ρ:Rho} (h:VA D G τ ρ) {i:Nat} {x:T} {d:PyData} (hx:Dq (rs D G) x d):VA D G (τ.set i (some x)) (ρ.set i (.sh d)):=by
 refine ⟨by simp [h.len],λj e he=>?_⟩;rw [qhv] at he;split at he
 ·subst j;split at he
  ·rename_i l;cases he;refine ⟨x,?_,hx⟩;rw [getElem?_set,if_pos rfl,if_pos (by rw [← h.len];exact l)]
  ·cases he
 ·rename_i n;obtain ⟨t,a,b⟩:=h.vw j e he;exact ⟨t,by rw [getElem?_set,if_neg n];exact a,b⟩
theorem VA.sets {D:Addr->Prop} {G:Gp}:∀ {ts:List (Nat×T)} {bs:List (Nat×PyData)} {τ:St3} {ρ:Rho},VA D G τ ρ->Bd (rs D G) ts bs->VA D G (Pu.sets τ ts) (J5 ρ bs)
 |_,_,_,_,h,.nil=>h
 |_,_,_,_,h,.cons a b=>by unfold Pu.sets J5;exact VA.sets (h.set a) b
theorem VA.keep {D:Addr->Prop} {G:Gp} {ρ:Rho}:∀ {ts:List (Nat×T)} {τ:St3},VA D G τ ρ->(∀ p∈ts,Pu.vw ρ p.1=none)->VA D G (Pu.sets τ ts) ρ
 |[],_,h,_=>h
 |p::r,τ,h,hn=>VA.keep (ts:=r) ⟨by rw [List.length_set];exact h.len,λj d hd=>by
   have:p.1≠j:=by rintro rfl;rw [hn p (by simp)] at hd;cases hd
   obtain ⟨t,a,b⟩:=h.vw j d hd;exact ⟨t,by rw [getElem?_set,if_neg this];exact a,b⟩⟩ λq hq=>hn q (by simp [hq])
def qas (m:List (Option Nat)) (ρ:Rho):Rho:=m.map λo=>match o with|some j=>(match vw ρ j with|some d=>.sh d|none=>.un)|none=>.un
theorem VA.cap {m:List (Option Nat)} {D:Addr->Prop} {G:Gp} {τ:St3} {ρ:Rho} (h:KY (m.filterMap id) D G τ ρ):VA D G (L3.cap m τ) (qas m ρ):=by
 refine ⟨by simp [qas,L3.cap],λi d hd=>?_⟩;unfold Pu.vw qas at hd;rw [getElem?_map] at hd;cases e:m[i]? with
 |none=>rw [e] at hd;cases hd
 |some o=>
  rw [e] at hd;cases o with
  |none=>cases hd
  |some j=>
   simp only [Option.map_some,Option.bind_some] at hd;cases e2:Pu.vw ρ j with
   |none=>rw [e2] at hd;cases hd
   |some d'=>
    rw [e2] at hd;have hd':d'=d:=by simpa [Sl.d] using hd
    subst hd';obtain ⟨t,a,b⟩:=h j (List.mem_filterMap.mpr ⟨some j,za2 e,rfl⟩) d' e2;refine ⟨t,?_,b⟩;unfold L3.cap;rw [getElem?_map,e];simp [a]
def qaW {m:List (Option Nat)} {ρ:Rho} {i:Nat} (h:m[i]?=some none):vw (qas m ρ) i=none:=by
 unfold vw qas;rw [getElem?_map,h];rfl
def lcP (h:PyData->Option (Option PyData)):List PyData->Option (List PyData)
 |[]=>some []
 |d::r=>(h d).bind λo=>(lcP h r).bind λys=>some (match o with|some y=>y::ys|none=>ys)
def lcH (gf:PyData->Option (List (Nat×PyData))) (cf:Rho->Option Bool) (ef:Rho->Option PyData) (ρ:Rho) (d:PyData):Option (Option PyData):=
 (gf d).bind λbs=>(cf (J5 ρ bs)).bind λk=>if k then (ef (J5 ρ bs)).map some else some none
def zJ {h:PyData->Option (Option PyData)} {α:Type} {g:α->PyData} {k:α->PyData} {xs:List α} (hh:∀ a∈xs,h (g a)=some (some (k a))):lcP h (xs.map g)=some (xs.map k):=by
 induction xs with
 |nil=>rfl
 |cons a r ih=>simp only [map_cons,lcP,hh a (by simp),Option.bind_some,ih λb hb=>hh b (by simp [hb])]
def KQ {h:PyData->Option (Option PyData)} {α:Type} {g:α->PyData} {k:α->PyData} {c:α->Bool} {xs:List α} (hh:∀ a∈xs,h (g a)=some (if c a then some (k a) else none)):lcP h (xs.map g)=some ((xs.filter c).map k):=by
 induction xs with
 |nil=>rfl
 |cons a r ih=>
  simp only [map_cons,lcP,hh a (by simp),Option.bind_some,ih λb hb=>hh b (by simp [hb])];cases e:c a with
  |true=>simp [e]
  |false=>simp [e]
theorem qgg {H:Gp}:∀ {ts:List (Nat×T)} {bs:List (Nat×PyData)},Bd H ts bs->∀ p∈ts,∃ q∈bs,q.1=p.1
 |_,_,.nil,p,hp=>by cases hp
 |_,_,.cons a b,p,hp=>by
  rcases mem_cons.mp hp with rfl|hp
  ·exact ⟨_,za6,rfl⟩
  ·obtain ⟨q,hq,e⟩:=qgg b p hp;exact ⟨q,by simp [hq],e⟩
theorem qkO {stay:Gp->Prop} {g:TG3} {tif:TT3} {te:TE3} {q:Q3} (pg:PuG g) (pc:PuC tif) (pe:PuE te) {D:Addr->Prop} {ρ0:Rho} {G0:Gp} (hs:∀ G,Ex G0 G->stay G) (hm:∀ i∈pg.tg,vw ρ0 i=none) (fin:List PyData) (hfin:fin.length<=sizeLine)
  (k:∀ G ys,Ex G0 G->Dqs (rs D G) ys fin->∀ p,G p=none->q (.ref p) (gu G p (.lst ys))) :
  ∀ (ds:List PyData) (items ys:List T) (es fs:List PyData) (τ:St3) (G:Gp),Dqs (rs D G0) items ds->VA D G τ ρ0->Ex G0 G->Dom D G->Dqs (rs D G) ys es->lcP (lcH pg.f pc.f pe.f ρ0) ds=some fs->es++fs=fin->TY stay g tif te q items ys τ G
 |_,_,ys,es,fs,τ,G,.nil,va,E,hd,hy,hf,hl=>by
  cases hf;rw [List.append_nil] at hl;subst hl;exact ⟨hs G E,k G ys E hy⟩
 |d::ds,x::items,ys,es,fs,τ,G,.cons hx hr,va,E,hd,hy,hf,hl=>by
  unfold lcP at hf;obtain ⟨o,e1,hf⟩:=obb hf;obtain ⟨VV,e2,hf⟩:=obb hf;unfold lcH at e1;obtain ⟨bs,e3,e1⟩:=obb e1;obtain ⟨c,e4,e1⟩:=obb e1;obtain ⟨ts,bd,kg⟩:=pg.ok (hx.up (ZL E)) e3;refine ⟨hs G E,kg τ G _ ?_⟩;have va1:=va.sets bd;have va2:=va.keep (ts:=ts) λp hp=>by
   obtain ⟨q,hq,e⟩:=qgg bd p hp;rw [← e];exact hm _ (pg.at' e3 q hq)
  refine pc.ok (va1.view _) hd e4 λG1 E1=>?_;cases c with
  |true=>
   rw [if_pos rfl];rw [if_pos rfl] at e1;obtain ⟨y,e5,rfl⟩:=za9 e1;simp only [Option.some.injEq] at hf;subst hf;refine pe.ok ((va1.up E1).view _) (hd.up E1) e5 λz G2 E2 D2 _=>⟨?_,?_⟩
   ·rw [hy.length];rw [← hl] at hfin;simp at hfin;omega
   ·refine qkO pg pc pe hs hm fin hfin k ds items (ys++[z]) (es++[y]) VV _ G2 hr ((va2.up E1).up E2) (E.trans (E1.trans E2)) ((hd.up E1).up E2) (((hy.up (ZL E1)).up (ZL E2)).append (.cons D2 .nil)) e2 ?_;rw [← hl];simp
  |false=>
   rw [if_neg v7];simp at e1;subst e1;simp only [Option.some.injEq] at hf;subst hf;exact qkO pg pc pe hs hm fin hfin k ds items ys es VV _ G1 hr (va2.up E1) (E.trans E1) (hd.up E1) (hy.up (ZL E1)) e2 hl
def lcF (pi:Rho->Option (List PyData)) (h:Rho->PyData->Option (Option PyData)) (m:List (Option Nat)) (ρ:Rho):Option PyData:=
 (pi ρ).bind λds=>(lcP (h (qas m ρ)) ds).bind λfs=>cif (fs.length<=sizeLine) (some (.list fs)) none
def bLc {wi:TI3} {g:TG3} {tif:TT3} {te:TE3} (pi:PuI wi) (pg:PuG g) (pc:PuC tif) (pe:PuE te) (m:List (Option Nat)) (hm:Tru (pg.tg.all λi=>m[i]?==some none)):PuE (lc3 wi g tif te m):=
 ⟨lcF pi.f (lcH pg.f pc.f pe.f) m,pi.fv++m.filterMap id,true,λ{D τ ρ G q d} hv hd hf k=>by
  unfold lcF at hf;obtain ⟨ds,e1,hf⟩:=obb hf;obtain ⟨fs,e2,hf⟩:=obb hf;unfold cif at hf;split at hf
  ·rename_i hl;cases hf;refine pi.ok hv.l hd e1 λitems stay G1 E1 D1 hs _=>?_;have va:=(VA.cap (m:=m) hv.r).up E1;refine qkO pg pc pe (D:=D) (ρ0:=qas m ρ) (G0:=G1) (λG2 E2=>hs G2 (.inr (V0.trans E2))) (λi hi=>qaW ?_) fs hl (λG2 ys E2 D2 p hp=>?_) ds items [] [] fs _ G1 D1 va Ex.refl (hd.up E1) .nil e2 (by simp)
   ·have:=List.all_eq_true.mp hm.h i hi;simpa using this
   ·exact k _ _ ((E1.trans E2).trans (QB hp)) (KR ((hd.up E1).up E2) hp D2) λ_=>(M7 hp D2).back (E1.trans E2)
  ·cases hf⟩
def E0 (p:Addr) (G G':Gp):Prop:=∀ b o,b≠p->G b=some o->G' b=some o
def E0.refl {p:Addr} {G:Gp}:E0 p G G:=λ_ _ _ e=>e
def E0.trans {p:Addr} {G G1 G2:Gp} (a:E0 p G G1) (b:E0 p G1 G2):E0 p G G2:=λx o n e=>b x o n (a x o n e)
def E0.of {p:Addr} {G G1:Gp} (a:Ex G G1):E0 p G G1:=λx o _ e=>a x o e
def E0.wr {p:Addr} {G:Gp} {o:O}:E0 p G (gu G p o):=λb ob n e=>by rw [j8 n];exact e
theorem E0.rs {p:Addr} {D:Addr->Prop} {G G1:Gp} (a:E0 p G G1):Ex (rs (λb=>D b\/b=p) G) (rs (λb=>D b\/b=p) G1):=λb o h=>by
 obtain ⟨n,h⟩:=zb h;rw [ZY n];exact a b o (λz=>n (.inr z)) h
def qp2 {D:Addr->Prop} {G:Gp} {p:Addr} {o:O} (h:Dom D G):Dom D (gu G p o):=λb d z=>by
 by_cases e:b=p
 ·subst e;rw [qx] at z;cases z
 ·rw [j8 e] at z;exact h b d z
theorem qk5 {p:Addr} {stay:Gp->Prop} {g:TG3} {tif:TT3} {te:TE3} {N:St3->Gp->Prop} (pg:PuG g) (pc:PuC tif) (pe:PuE te) {D:Addr->Prop} {ρ0:Rho} {G0:Gp} (hs:∀ G,Ex (rs (λb=>D b\/b=p) G0) G->stay G) (hm:∀ i∈pg.tg,vw ρ0 i=none) (fin:List PyData) (hfin:fin.length<=sizeLine)
  (k:∀ τ G ys,VA (λb=>D b\/b=p) G τ ρ0->E0 p G0 G->Dom (λb=>D b\/b=p) G->G p=some (.lst ys)->Dqs (rs (λb=>D b\/b=p) G) ys fin->N τ G) :
  ∀ (ds:List PyData) (items ys:List T) (es fs:List PyData) (τ:St3) (G:Gp),Dqs (rs (λb=>D b\/b=p) G0) items ds->VA (λb=>D b\/b=p) G τ ρ0->E0 p G0 G->Dom (λb=>D b\/b=p) G->G p=some (.lst ys)->Dqs (rs (λb=>D b\/b=p) G) ys es->lcP (lcH pg.f pc.f pe.f ρ0) ds=some fs->es++fs=fin->qlj p stay g tif te N items τ G
 |_,_,ys,es,fs,τ,G,.nil,va,E,hd,gp,hy,hf,hl=>by
  cases hf;rw [List.append_nil] at hl;subst hl;exact ⟨hs G (E.rs.trans V0),k τ G ys va E hd gp hy⟩
 |d::ds,x::items,ys,es,fs,τ,G,.cons hx hr,va,E,hd,gp,hy,hf,hl=>by
  unfold lcP at hf;obtain ⟨o,e1,hf⟩:=obb hf;obtain ⟨VV,e2,hf⟩:=obb hf;unfold lcH at e1;obtain ⟨bs,e3,e1⟩:=obb e1;obtain ⟨c,e4,e1⟩:=obb e1;obtain ⟨ts,bd,kg⟩:=pg.ok (hx.up E.rs) e3;refine ⟨hs G (E.rs.trans V0),kg τ G _ ?_⟩;have va1:=va.sets bd;have va2:=va.keep (ts:=ts) λp hp=>by
   obtain ⟨q,hq,e⟩:=qgg bd p hp;rw [← e];exact hm _ (pg.at' e3 q hq)
  refine pc.ok (va1.view _) hd e4 λG1 E1=>?_;cases c with
  |true=>
   rw [if_pos rfl];rw [if_pos rfl] at e1;obtain ⟨y,e5,rfl⟩:=za9 e1;simp only [Option.some.injEq] at hf;subst hf;refine pe.ok ((va1.up E1).view _) (hd.up E1) e5 λz G2 E2 D2 _=>?_;simp only [E2 _ _ (E1 _ _ gp)];have W:E0 p G2 (gu G2 p (.lst (ys++[z]))):=E0.wr;refine ⟨?_,?_⟩
   ·rw [hy.length];rw [← hl] at hfin;simp at hfin;omega
   ·refine qk5 pg pc pe hs hm fin hfin k ds items (ys++[z]) (es++[y]) VV _ _ hr (((va2.up E1).up E2).upx W.rs) ((E.trans (E0.of (E1.trans E2))).trans W) (qp2 ((hd.up E1).up E2)) qx ((((hy.up (ZL E1)).up (ZL E2)).append (.cons D2 .nil)).up W.rs) e2 ?_;rw [← hl];simp
  |false=>
   rw [if_neg v7];simp at e1;subst e1;simp only [Option.some.injEq] at hf;subst hf;exact qk5 pg pc pe hs hm fin hfin k ds items ys es VV _ G1 hr (va2.up E1) (E.trans (E0.of E1)) (hd.up E1) (E1 _ _ gp) (hy.up (ZL E1)) e2 hl
def qks (h:PyData->Option (Option (List PyData))):List PyData->Option (List PyData)
 |[]=>some []
 |d::r=>(h d).bind λo=>(qks h r).bind λys=>some (match o with|some y=>y++ys|none=>ys)
def qmp (gf:PyData->Option (List (Nat×PyData))) (cf:Rho->Option Bool) (it:Rho->Option (List PyData)) (h:Rho->PyData->Option (Option PyData)) (ρ:Rho) (d:PyData):Option (Option (List PyData)):=
 (gf d).bind λbs=>(cf (J5 ρ bs)).bind λk=>if k then ((it (J5 ρ bs)).bind λds=>lcP (h (J5 ρ bs)) ds).map some else some none
theorem qbc:∀ {bs:List (Nat×PyData)} {ρ:Rho} {i:Nat},(∀ p∈bs,p.1≠i)->vw (J5 ρ bs) i=vw ρ i
 |[],_,_,_=>rfl
 |p::r,ρ,i,h=>by
  unfold J5;rw [qbc (λq hq=>h q (by simp [hq])),qhv,if_neg (h p (by simp))]
theorem qb3:∀ (bs:List (Nat×PyData)) (ρ:Rho),(J5 ρ bs).length=ρ.length
 |[],τ=>rfl
 |p::r,τ=>by unfold J5;rw [qb3 r];simp
theorem qdy {p:Addr} {stay:Gp->Prop} {g g2:TG3} {tif tif2:TT3} {wi2:TI3} {te:TE3} {q:Q3} (pg:PuG g) (pc:PuC tif) (pi2:PuI wi2) (pg2:PuG g2) (pc2:PuC tif2) (pe:PuE te) {D:Addr->Prop} {ρ0:Rho} {G0:Gp} (hs:∀ G,Ex (rs (λb=>D b\/b=p) G0) G->stay G) (hm:∀ i∈pg.tg,vw ρ0 i=none) (hm2:∀ i∈pg2.tg,vw ρ0 i=none) (hdj:∀ i∈pg2.tg,i∉pg.tg) (fin:List PyData) (hfin:fin.length<=sizeLine)
  (k:∀ G ys,E0 p G0 G->G p=some (.lst ys)->Dqs (rs (λb=>D b\/b=p) G) ys fin->q (.ref p) G) :
  ∀ (ds:List PyData) (items ys:List T) (es fs:List PyData) (τ:St3) (G:Gp),Dqs (rs (λb=>D b\/b=p) G0) items ds->VA (λb=>D b\/b=p) G τ ρ0->E0 p G0 G->Dom (λb=>D b\/b=p) G->G p=some (.lst ys)->Dqs (rs (λb=>D b\/b=p) G) ys es->qks (qmp pg.f pc.f pi2.f (lcH pg2.f pc2.f pe.f) ρ0) ds=some fs->es++fs=fin->qeJ p stay g tif wi2 g2 tif2 te q items τ G
 |_,_,ys,es,fs,τ,G,.nil,va,E,hd,gp,hy,hf,hl=>by
  cases hf;rw [List.append_nil] at hl;subst hl;exact ⟨hs G (E.rs.trans V0),k G ys E gp hy⟩
 |d::ds,x::items,ys,es,fs,τ,G,.cons hx hr,va,E,hd,gp,hy,hf,hl=>by
  unfold qks at hf;obtain ⟨o,e1,hf⟩:=obb hf;obtain ⟨VV,e2,hf⟩:=obb hf;unfold qmp at e1;obtain ⟨bs,e3,e1⟩:=obb e1;obtain ⟨c,e4,e1⟩:=obb e1;obtain ⟨ts,bd,kg⟩:=pg.ok (hx.up E.rs) e3;refine ⟨hs G (E.rs.trans V0),kg τ G _ ?_⟩;have va1:=va.sets bd;have va2:=va.keep (ts:=ts) λp hp=>by
   obtain ⟨q,hq,e⟩:=qgg bd p hp;rw [← e];exact hm _ (pg.at' e3 q hq)
  refine pc.ok (va1.view _) hd e4 λG1 E1=>?_;cases c with
  |true=>
   rw [if_pos rfl];rw [if_pos rfl] at e1;obtain ⟨y,e5,rfl⟩:=za9 e1;obtain ⟨ds2,e6,e5⟩:=obb e5;simp only [Option.some.injEq] at hf;subst hf;refine pi2.ok ((va1.up E1).view _) (hd.up E1) e6 λitems2 stay2 G2 E2 D2 hs2 _=>?_;have l2:(es++y).length<=sizeLine:=by
    rw [← hl] at hfin;simp at hfin ⊢;omega
   refine qk5 pg2 pc2 pe (ρ0:=J5 ρ0 bs) (G0:=G2) (λG3 E3=>hs2 G3 (.inr E3)) (λi hi=>?_) (es++y) l2 (λτ3 G3 zs va3 E3 hd3 gp3 hz=>?_) ds2 items2 ys es y _ G2 D2 ((va1.up E1).up E2) E0.refl ((hd.up E1).up E2) (E2 _ _ (E1 _ _ gp)) ((hy.up (ZL E1)).up (ZL E2)) e5 rfl
   ·rw [qbc λq hq e=>hdj i hi (by rw [← e];exact pg.at' e3 q hq)];exact hm2 i hi
   ·have E4:E0 p G G3:=(E0.of (E1.trans E2)).trans E3;have va4:VA (λb=>D b\/b=p) G3 τ3 ρ0:=⟨by rw [← va3.len,qb3],λi d' hd'=>va3.vw i d' (by
     rw [qbc λq hq e=>?_];exact hd';rw [← e,hm _ (pg.at' e3 q hq)] at hd';cases hd')⟩
    exact qdy pg pc pi2 pg2 pc2 pe hs hm hm2 hdj fin hfin k ds items zs (es++y) VV τ3 G3 hr va4 (E.trans E4) hd3 gp3 hz e2 (by rw [← hl];simp)
  |false=>
   rw [if_neg v7];simp at e1;subst e1;simp only [Option.some.injEq] at hf;subst hf;exact qdy pg pc pi2 pg2 pc2 pe hs hm hm2 hdj fin hfin k ds items ys es VV _ G1 hr (va2.up E1) (E.trans (E0.of E1)) (hd.up E1) (E1 _ _ gp) (hy.up (ZL E1)) e2 hl
def qoc (pi:Rho->Option (List PyData)) (h:Rho->PyData->Option (Option (List PyData))) (m:List (Option Nat)) (ρ:Rho):Option PyData:=
 (pi ρ).bind λds=>(qks (h (qas m ρ)) ds).bind λfs=>cif (fs.length<=sizeLine) (some (.list fs)) none
def qby {h:PyData->Option (Option (List PyData))} {α:Type} {g:α->PyData} {k:α->List PyData} {xs:List α} (hh:∀ a∈xs,h (g a)=some (some (k a))):qks h (xs.map g)=some (xs.flatMap k):=by
 induction xs with
 |nil=>rfl
 |cons a r ih=>simp only [map_cons,qks,hh a (by simp),Option.bind_some,ih λb hb=>hh b (by simp [hb]),List.flatMap_cons]
def qqD {wi wi2:TI3} {g g2:TG3} {tif tif2:TT3} {te:TE3} (pi:PuI wi) (pg:PuG g) (pc:PuC tif) (pi2:PuI wi2) (pg2:PuG g2) (pc2:PuC tif2) (pe:PuE te) (m:List (Option Nat)) (hm:Tru (pg.tg.all λi=>m[i]?==some none)) (hm2:Tru (pg2.tg.all λi=>m[i]?==some none)) (hdj:Tru (pg2.tg.all λi=>!pg.tg.contains i)):PuE (qp8 wi g tif wi2 g2 tif2 te m):=
 ⟨qoc pi.f (qmp pg.f pc.f pi2.f (lcH pg2.f pc2.f pe.f)) m,pi.fv++m.filterMap id,true,λ{D τ ρ G q d} hv hd hf k=>by
  unfold qoc at hf;obtain ⟨ds,e1,hf⟩:=obb hf;obtain ⟨fs,e2,hf⟩:=obb hf;unfold cif at hf;split at hf
  ·rename_i hl;cases hf;refine pi.ok hv.l hd e1 λitems stay G1 E1 D1 hs _ p hp=>?_;have va:=(VA.cap (m:=m) hv.r).up E1;have np:∀ {b o},G1 b=some o->b≠p:=λe=>by rintro rfl;rw [hp] at e;cases e
   have X1:Ex (rs D G1) (rs (λb=>D b\/b=p) (gu G1 p (.lst []))):=λb o e=>by
    obtain ⟨n,e⟩:=zb e;rw [ZY (by rintro (z|z);exact n z;exact np e z),j8 (np e)];exact e
   refine qdy pg pc pi2 pg2 pc2 pe (D:=D) (ρ0:=qas m ρ) (G0:=gu G1 p (.lst [])) (p:=p) (λG2 E2=>hs G2 (.inr (X1.trans E2))) (λi hi=>qaW ?_) (λi hi=>qaW ?_) (λi hi hj=>?_) fs hl (λG2 ys E2 gp D2=>?_) ds items [] [] fs _ _ (D1.up X1) ⟨va.len,λi d hd=>let ⟨t,a,b⟩:=va.vw i d hd;⟨t,a,b.up X1⟩⟩ E0.refl ?_ qx .nil e2 (by simp)
   ·simpa using List.all_eq_true.mp hm.h i hi
   ·simpa using List.all_eq_true.mp hm2.h i hi
   ·have:=List.all_eq_true.mp hdj.h i hi;simp at this;exact this hj
   ·have EE:Ex G1 G2:=λb o e=>E2 b o (np e) (by rw [j8 (np e)];exact e);have hdp:¬ D p:=λz=>(hd.up E1) p z hp;refine k _ _ (E1.trans EE) (.lst (by rw [ZY hdp];exact gp) (D2.up (QE λb z=>.inl z))) λ_=>Nw.back (.inr ⟨p,ys,fs,rfl,rfl,hp,gp,D2⟩) E1
   ·intro b hb z;by_cases e:b=p
    ·subst e;rw [qx] at z;cases z
    ·rw [j8 e] at z;rcases hb with hb|hb
     ·exact (hd.up E1) b hb z
     ·exact e hb
  ·cases hf⟩
def AD (D:Addr->Prop) (A:Nat->Addr->Prop) (b:Addr):Prop:=D b\/∃ i,A i b
def Ons (R G:Gp) (B:Addr->Prop) (qs:List Addr) (dss:List (List PyData)):Prop:=qs.length=dss.length/\∀ (j:Nat) (q:Addr) (ds:List PyData),qs[j]?=some q->dss[j]?=some ds->B q/\∃ ys,G q=some (.lst ys)/\Dqs R ys ds
def SlR (R G:Gp) (B:Addr->Prop) (t:Option (Option T)):Sl->Prop
 |.un=>True
 |.sh d=>∃ x,t=some (some x)/\Dq R x d
 |.ow ds=>∃ p xs,B p/\t=some (some (.ref p))/\G p=some (.lst xs)/\Dqs R xs ds
 |.dc kvs=>∃ p ks,B p/\t=some (some (.ref p))/\G p=some (.dct ks)/\ks.map (λq=>q.1)=kvs.map (λq=>q.1)/\Dqs R (ks.map λq=>q.2) (kvs.map λq=>q.2)
 |.on dss=>∃ p qs,B p/\t=some (some (.ref p))/\G p=some (.lst (qs.map T.ref))/\(p::qs).Nodup/\Ons R G B qs dss
section
variable {R R' G G':Gp} {B B':Addr->Prop} {t:Option (Option T)} {s:Sl}
def Ons.mono {qs:List Addr} {dss:List (List PyData)} (h:Ons R G B qs dss) (hr:Ex R R') (hg:∀ q∈qs,∀ o,B q->G q=some o->G' q=some o) (hb:∀ p,B p->B' p):Ons R' G' B' qs dss:=
 ⟨h.1,λj q ds a b=>let ⟨c,ys,d,e⟩:=h.2 j q ds a b;⟨hb _ c,ys,hg _ (za2 a) _ c d,e.up hr⟩⟩
theorem SlR.mono (h:SlR R G B t s) (hr:Ex R R') (hg:s≠.un->∀ p o,B p->G p=some o->G' p=some o) (hb:∀ p,B p->B' p):SlR R' G' B' t s:=by
 by_cases n:s=.un
 ·subst n;trivial
 replace hg:=hg n
 cases s with
 |un=>trivial
 |sh d=>obtain ⟨x,a,b⟩:=h;exact ⟨x,a,b.up hr⟩
 |ow ds=>obtain ⟨p,xs,a,b,c,d⟩:=h;exact ⟨p,xs,hb _ a,b,hg _ _ a c,d.up hr⟩
 |dc ds=>obtain ⟨p,xs,a,b,c,d,e⟩:=h;exact ⟨p,xs,hb _ a,b,hg _ _ a c,d,e.up hr⟩
 |on ds=>obtain ⟨p,xs,a,b,c,d,e⟩:=h;exact ⟨p,xs,hb _ a,b,hg _ _ a c,d,e.mono hr (λq _=>hg q) hb⟩
theorem Ons.dqs:∀ {qs:List Addr} {dss:List (List PyData)},Ons R G B qs dss->Ex R R'->(∀ p o,B p->G p=some o->R' p=some o)->Dqs R' (qs.map T.ref) (dss.map PyData.list)
 |[],[],_,_,_=>.nil
 |q::qs,ds::dss,h,hr,hg=>by
  obtain ⟨a,ys,b,c⟩:=h.2 0 q ds rfl rfl;exact .cons (.lst (hg _ _ a b) (c.up hr)) (Ons.dqs ⟨by simpa using h.1,λj q ds x y=>h.2 (j+1) q ds x y⟩ hr hg)
 |[],_::_,h,_,_=>by cases h.1
 |_::_,[],h,_,_=>by cases h.1
def SlR.vis (h:SlR R G B t s) {d:PyData} (hs:s.d=some d) (hr:Ex R R') (hg:∀ p o,B p->G p=some o->R' p=some o):∃ x,t=some (some x)/\Dq R' x d:=by
 cases s with
 |un=>cases hs
 |sh d=>cases hs;obtain ⟨x,a,b⟩:=h;exact ⟨x,a,b.up hr⟩
 |ow ds=>cases hs;obtain ⟨p,xs,a,b,c,d⟩:=h;exact ⟨_,b,.lst (hg _ _ a c) (d.up hr)⟩
 |dc ds=>cases hs
 |on ds=>cases hs;obtain ⟨p,xs,a,b,c,d,e⟩:=h;exact ⟨_,b,.lst (hg _ _ a c) (e.dqs hr hg)⟩
end
structure RS (D:Addr->Prop) (G0:Gp) (A:Nat->Addr->Prop) (τ:St3) (ρ:Rho) (G:Gp):Prop where
 ex:Ex G0 G
 dm:Dom D G0
 fr:∀ i p,A i p->G0 p=none
 da:∀ i p,A i p->G p≠none
 inj:∀ i j p,A i p->A j p->i=j
 len:ρ.length=τ.length
 sl:∀ (i:Nat) (s:Sl),ρ[i]?=some s->SlR (rs (AD D A) G) G (A i) τ[i]? s
section
variable {D:Addr->Prop} {G0 G G':Gp} {A A':Nat->Addr->Prop} {τ:St3} {ρ:Rho}
theorem RS.sh (h:RS D G0 A τ ρ G) (i:Nat) (d:PyData) (e:ρ[i]?=some (Sl.sh d)):∃ t,τ[i]?=some (some t)/\Dq (rs (AD D A) G) t d:=h.sl i _ e
theorem RS.ow (h:RS D G0 A τ ρ G) (i:Nat) (ds:List PyData) (e:ρ[i]?=some (Sl.ow ds)):∃ p xs,A i p/\τ[i]?=some (some (.ref p))/\G p=some (.lst xs)/\Dqs (rs (AD D A) G) xs ds:=h.sl i _ e
def RS.nd (h:RS D G0 A τ ρ G) {i:Nat} {p:Addr} (e:A i p):¬ D p:=λz=>h.dm p z (h.fr i p e)
def RS.dom (h:RS D G0 A τ ρ G):Dom (AD D A) G:=λb hb=>by
 rcases hb with hb|⟨i,hi⟩
 ·exact (h.dm.up h.ex) b hb
 ·exact h.da i b hi
def RS.domD (h:RS D G0 A τ ρ G):Dom D G:=h.dm.up h.ex
def RS.keep (h:RS D G0 A τ ρ G) {W:Addr->Prop} (hg:∀ b o,¬ W b->G b=some o->G' b=some o) (hW:∀ b,W b->∃ j,A j b/\ρ[j]?=some Sl.un/\G' b≠none):RS D G0 A τ ρ G':=by
 have out:∀ b,W b->AD D A b:=λb z=>let ⟨j,a,_⟩:=hW b z;.inr ⟨j,a⟩
 have X:Ex (rs (AD D A) G) (rs (AD D A) G'):=λb o e=>by
  obtain ⟨n,e⟩:=zb e;rw [ZY n];exact hg b o (λz=>n (out b z)) e
 refine ⟨λb o e=>hg b o (λz=>?_) (h.ex b o e),h.dm,h.fr,λi p a z=>?_,h.inj,h.len,λi s e=>(h.sl i s e).mono X (λnu p o a g=>hg p o (λz=>?_) g) λ_ z=>z⟩
 ·obtain ⟨j,a,_⟩:=hW b z;rw [h.fr j b a] at e;cases e
 ·by_cases c:W p
  ·obtain ⟨j,_,_,n⟩:=hW p c;exact n z
  ·cases g:G p with
   |none=>exact h.da i p a g
   |some o=>rw [hg p o c g] at z;cases z
 ·obtain ⟨j,b,u,_⟩:=hW p z;have:=h.inj i j p a b;subst this;rw [u] at e;cases e;exact nu rfl
def RS.up (h:RS D G0 A τ ρ G) (e:Ex G G'):RS D G0 A τ ρ G':=h.keep (W:=λ_=>False) (λb o _ z=>e b o z) λ_ z=>z.elim
def RS.viewAll (h:RS D G0 A τ ρ G) (fv:List Nat):KY fv D G τ ρ:=λi _ d hd=>by
 unfold vw at hd;obtain ⟨s,e,hd⟩:=obb hd;exact (h.sl i s e).vis hd (QE λb z=>.inl z) λp o a g=>by rw [ZY (h.nd a)];exact g
def RS.view (h:RS D G0 A τ ρ G) {fv:List Nat} (hn:∀ i∈fv,∀ p,¬ A i p):KY fv (AD D A) G τ ρ:=λi hi d hd=>by
 unfold vw at hd;obtain ⟨s,e,hd⟩:=obb hd;exact (h.sl i s e).vis hd (λ_ _ z=>z) λp o a=>(hn i hi p a).elim
def Sl.dem:Sl->Sl
 |.ow ds=>.sh (.list ds)
 |.dc _=>.un
 |.on dss=>.sh (.list (dss.map PyData.list))
 |s=>s
def dm:List Bool->Rho->Rho
 |b::m,s::r=>(match b with|true=>s.dem|false=>s)::dm m r
 |_,r=>r
def mkb (m:List Bool) (i:Nat):Bool:=(m[i]?).getD false
theorem qfx:∀ (m:List Bool) (ρ:Rho) (i:Nat),(dm m ρ)[i]?=(ρ[i]?).map λs=>if mkb m i=true then s.dem else s
 |[],ρ,i=>by simp [dm,mkb]
 |b::m,[],i=>by simp [dm]
 |b::m,s::r,0=>by cases b<;>simp [dm,mkb]
 |b::m,s::r,i+1=>by
  have:=qfx m r i;simp only [dm,x6,mkb] at this ⊢;exact this
def qrf (s:Sl):s.dem.d=s.d:=by cases s<;>rfl
def qrc (m:List Bool) (ρ:Rho) (i:Nat):vw (dm m ρ) i=vw ρ i:=by
 unfold vw;rw [qfx];cases ρ[i]? with
 |none=>rfl
 |some s=>
  simp only [Option.map_some,Option.bind_some];split
  ·exact qrf s
  ·rfl
theorem qir:∀ (m:List Bool) (ρ:Rho),(dm m ρ).length=ρ.length
 |[],ρ=>rfl
 |b::m,[]=>rfl
 |b::m,s::r=>by simp [dm,qir m r]
def Ad (m:List Bool) (A:Nat->Addr->Prop):Nat->Addr->Prop:=λi p=>A i p/\mkb m i=false
def qnM (s:Sl):s.dem=.un\/∃ d,s.dem=.sh d/\s.d=some d:=by cases s<;>simp [Sl.dem,Sl.d]
def RS.dem (h:RS D G0 A τ ρ G) (m:List Bool):RS D G0 (Ad m A) τ (Pu.dm m ρ) G:=by
 have less:Ex (rs (AD D A) G) (rs (AD D (Ad m A)) G):=QE λb z=>by
  rcases z with z|⟨i,z⟩
  ·exact .inl z
  ·exact .inr ⟨i,z.1⟩
 refine ⟨h.ex,h.dm,λi p e=>h.fr i p e.1,λi p e=>h.da i p e.1,λi j p a b=>h.inj i j p a.1 b.1,by rw [qir];exact h.len,λi s e=>?_⟩;rw [qfx] at e;obtain ⟨s',e1,rfl⟩:=za9 e;have q:=h.sl i s' e1;split
 ·rename_i hm;rcases qnM s' with z|⟨d,z,hd⟩<;>rw [z]
  ·trivial
  ·refine q.vis hd less λp o a g=>?_;rw [ZY]
   ·exact g
   ·rintro (z|⟨j,z⟩)
    ·exact h.nd a z
    ·have:=h.inj i j p a z.1;subst this;rw [z.2] at hm;cases hm
 ·rename_i hm;exact q.mono less (λ_ _ _ _ z=>z) λp z=>⟨z,by simpa using hm⟩
def RS.viewD (h:RS D G0 A τ ρ G) {m:List Bool} {fv:List Nat} (hm:Tru (fv.all (mkb m))):KY fv (AD D (Ad m A)) G τ ρ:=by
 have:=(h.dem m).view (fv:=fv) λi hi p z=>by have q:=List.all_eq_true.mp hm.h i hi;rw [z.2] at q;cases q
 intro i hi d hd;exact this i hi d (by rw [qrc];exact hd)
def Rg (A:Nat->Addr->Prop) (i:Nat) (B:Addr->Prop):Nat->Addr->Prop:=λj p=>(j=i/\B p)\/(j≠i/\A j p)
def RS.upd (h:RS D G0 A τ ρ G) (i:Nat) {x:T} {s:Sl} {B W:Addr->Prop} (hg:∀ b o,¬ W b->G b=some o->G' b=some o) (hW:∀ b,W b->∃ j,A j b/\(j=i\/(ρ[j]?=some Sl.un/\G' b≠none))) (hB:∀ b,B b->(A i b\/G b=none)/\G' b≠none)
  (hs:Ex (rs (AD D A) G) (rs (AD D (Rg A i B)) G')->SlR (rs (AD D (Rg A i B)) G') G' B (some (some x)) s):RS D G0 (Rg A i B) (τ.set i (some x)) (ρ.set i s) G':=by
 have X:Ex (rs (AD D A) G) (rs (AD D (Rg A i B)) G'):=λb o e=>by
  obtain ⟨n,e⟩:=zb e;rw [ZY]
  ·exact hg b o (λz=>let ⟨j,a,_⟩:=hW b z;n (.inr ⟨j,a⟩)) e
  ·rintro (z|⟨j,⟨rfl,z⟩|⟨_,z⟩⟩)
   ·exact n (.inl z)
   ·rcases (hB b z).1 with z|z
    ·exact n (.inr ⟨j,z⟩)
    ·rw [z] at e;cases e
   ·exact n (.inr ⟨j,z⟩)
 have ng:∀ p,G p=none->G0 p=none:=λp g=>by
  cases z:G0 p with
  |none=>rfl
  |some o=>rw [h.ex _ _ z] at g;cases g
 refine ⟨λb o e=>hg b o (λz=>?_) (h.ex b o e),h.dm,λj p e=>?_,λj p e=>?_,λj k p a b=>?_,by simp [h.len],λj s' e=>?_⟩
 ·obtain ⟨j,a,_⟩:=hW b z;rw [h.fr j b a] at e;cases e
 ·rcases e with ⟨rfl,z⟩|⟨_,z⟩
  ·rcases (hB p z).1 with z|z
   ·exact h.fr j p z
   ·exact ng p z
  ·exact h.fr j p z
 ·rcases e with ⟨rfl,z⟩|⟨n,z⟩
  ·exact (hB p z).2
  ·intro g;by_cases c:W p
   ·obtain ⟨k,a,b|⟨_,b⟩⟩:=hW p c
    ·exact n ((h.inj j k p z a).trans b)
    ·exact b g
   ·cases g':G p with
    |none=>exact h.da j p z g'
    |some o=>rw [hg p o c g'] at g;cases g
 ·rcases a with ⟨rfl,a⟩|⟨n,a⟩<;>rcases b with ⟨rfl,b⟩|⟨n',b⟩
  ·rfl
  ·rcases (hB p a).1 with z|z
   ·exact h.inj _ _ p z b
   ·exact absurd z (h.da k p b)
  ·rcases (hB p b).1 with z|z
   ·exact h.inj _ _ p a z
   ·exact absurd z (h.da j p a)
  ·exact h.inj j k p a b
 ·rw [getElem?_set] at e ⊢;split at e
  ·rename_i hj;subst hj;split at e
   ·rename_i hl;cases e;rw [if_pos rfl,if_pos (by rw [← h.len];exact hl)];exact (hs X).mono (λ_ _ z=>z) (λ_ _ _ _ z=>z) λp z=>.inl ⟨rfl,z⟩
   ·cases e
  ·rename_i hj;rw [if_neg hj];refine (h.sl j s' e).mono X (λnu p o a g=>hg p o (λz=>?_) g) λp z=>.inr ⟨λy=>hj y.symm,z⟩;obtain ⟨k,b,y|⟨y,_⟩⟩:=hW p z
   ·exact hj ((h.inj j k p a b).trans y).symm
   ·have:=h.inj j k p a b;subst this;rw [e] at y;cases y;exact nu rfl
abbrev Er (A:Nat->Addr->Prop) (i:Nat):Nat->Addr->Prop:=Rg A i λ_=>False
def qhd {i j:Nat} {p:Addr} (h:Er A i j p):A j p/\j≠i:=by
 rcases h with ⟨_,z⟩|⟨n,z⟩
 ·exact z.elim
 ·exact ⟨z,n⟩
def RS.put (h:RS D G0 A τ ρ G) (i:Nat) {x:T} {d:PyData} (hx:Dq (rs (AD D A) G) x d):RS D G0 (Er A i) (τ.set i (some x)) (ρ.set i (.sh d)) G:=
 h.upd i (W:=λ_=>False) (λ_ _ _ z=>z) (λ_ z=>z.elim) (λ_ z=>z.elim) λX=>⟨x,rfl,hx.up X⟩
theorem RS.puts:∀ {ts:List (Nat×T)} {bs:List (Nat×PyData)} {A:Nat->Addr->Prop} {τ:St3} {ρ:Rho},RS D G0 A τ ρ G->Bd (rs (AD D A) G) ts bs->∃ A',RS D G0 A' (sets τ ts) (J5 ρ bs) G
 |_,_,A,_,_,h,.nil=>⟨A,h⟩
 |_,_,A,_,_,h,.cons (i:=i) a b=>by
  unfold sets J5;exact RS.puts (h.put i a) (b.up (QE λb z=>by
   rcases z with z|⟨j,z⟩
   ·exact .inl z
   ·exact .inr ⟨j,(qhd z).1⟩))
def RS.putN (h:RS D G0 A τ ρ G) (i:Nat) {x:T} {d:PyData} {ds:List PyData} (hd:d=.list ds) (E:Ex G G') (hx:Nw (AD D A) G G' x d):RS D G0 (Rg A i λb=>x=.ref b) (τ.set i (some x)) (ρ.set i (.ow ds)) G':=by
 rcases hx with hx|⟨p,xs,ds',rfl,e',gp,gp',hs⟩
 ·rw [hd] at hx;cases hx
 rw [hd] at e';cases e';refine h.upd i (W:=λ_=>False) (λb o _ z=>E b o z) (λ_ z=>z.elim) (λb z=>by cases z;exact ⟨.inr gp,by rw [gp'];simp⟩) λ_=>⟨p,xs,rfl,rfl,gp',hs.up (QE λb z=>?_)⟩
 rcases z with z|⟨j,⟨_,z⟩|⟨_,z⟩⟩
 ·exact .inl (.inl z)
 ·cases z;exact .inr rfl
 ·exact .inl (.inr ⟨j,z⟩)
def qfR {i:Nat} {t:Option T} (h:τ[i]?=some t):τ.set i t=τ:=by
 apply List.ext_getElem?;intro j;rw [getElem?_set];split
 ·rename_i e;subst e;split
  ·exact h.symm
  ·rename_i n;rw [List.getElem?_eq_none (by omega)] at h;cases h
 ·rfl
def qjc {i:Nat}:Rg A i (A i)=A:=funext λj=>funext λp=>propext ⟨λz=>by
 rcases z with ⟨rfl,z⟩|⟨_,z⟩<;>exact z,λz=>by
 by_cases c:j=i
 ·subst c;exact .inl ⟨rfl,z⟩
 ·exact .inr ⟨c,z⟩⟩
def RS.wr (h:RS D G0 A τ ρ G) {i:Nat} {p:Addr} {xs:List T} {ds:List PyData} (hi:A i p) (ht:τ[i]?=some (some (.ref p))) (hs:Dqs (rs (AD D A) G) xs ds):RS D G0 A τ (ρ.set i (.ow ds)) (gu G p (.lst xs)):=by
 have:=h.upd i (G':=gu G p (.lst xs)) (x:=.ref p) (s:=.ow ds) (B:=A i) (W:=λb=>b=p) (λb o n z=>by rw [j8 n];exact z) (λb z=>⟨i,by rw [z];exact hi,.inl rfl⟩) (λb z=>⟨.inl z,by
  by_cases c:b=p
  ·rw [c,qx];simp
  ·rw [j8 c];exact h.da i b z⟩) λX=>⟨p,xs,hi,rfl,qx,hs.up X⟩
 rw [qfR ht,qjc] at this;exact this
def RS.base {Gb:Gp} (h:RS D Gb A τ ρ G) (e:Ex G0 Gb) (hd:Dom D G0):RS D G0 A τ ρ G:=
 ⟨e.trans h.ex,hd,(λi p a=>by
  cases z:G0 p with
  |none=>rfl
  |some o=>have:=h.fr i p a;rw [e _ _ z] at this;cases this),h.da,h.inj,h.len,h.sl⟩
end
inductive Ot where
 |nx (ρ:Rho)|bk (ρ:Rho)|ct (ρ:Rho)|rt (d:PyData) (fr:Bool)
def qmq (D:Addr->Prop) (G0:Gp) (e:Ends3):Ot->Prop
 |.nx ρ=>∀ A τ G,RS D G0 A τ ρ G->e.nx τ G
 |.bk ρ=>∀ A τ G,RS D G0 A τ ρ G->e.bk τ G
 |.ct ρ=>∀ A τ G,RS D G0 A τ ρ G->e.ct τ G
 |.rt d fr=>∀ x G,Ex G0 G->Dq (rs D G) x d->(fr=true->Nw D G0 G x d)->e.rt x G
theorem qmq.base {D:Addr->Prop} {G0 Gb:Gp} {e:Ends3} {o:Ot} (h:qmq D G0 e o) (x:Ex G0 Gb) (hd:Dom D G0):qmq D Gb e o:=by
 cases o with
 |nx ρ=>exact λA τ G r=>h A τ G (r.base x hd)
 |bk ρ=>exact λA τ G r=>h A τ G (r.base x hd)
 |ct ρ=>exact λA τ G r=>h A τ G (r.base x hd)
 |rt d fr=>exact λy G a b c=>h y G (x.trans a) b λz=>(c z).back x
structure PuS (t:TS3) where
 f:Nat->Rho->Option Ot
 ok:∀ {D G0 A τ ρ G n o} {e:Ends3},RS D G0 A τ ρ G->f n ρ=some o->qmq D G0 e o->t e τ G
def VY:PuS qt:=⟨λ_ ρ=>some (.nx ρ),λh hf k=>by cases hf;exact k _ _ _ h⟩
def qtl:PuS V1:=⟨λ_ ρ=>none,λh hf k=>by cases hf⟩
def qqw (a b:Nat->Rho->Option Ot) (n:Nat) (ρ:Rho):Option Ot:=(a n ρ).bind λo=>match o with|.nx ρ'=>b n ρ'|o=>some o
def JE {t u:TS3} (a:PuS t) (b:PuS u):PuS (qw t u):=⟨qqw a.f b.f,λ{D G0 A τ ρ G n o e} h hf k=>by
 unfold qqw at hf;obtain ⟨o1,e1,hf⟩:=obb hf;refine a.ok h e1 ?_;cases o1 with
 |nx ρ'=>exact λA' τ' G' h'=>b.ok h' hf k
 |bk ρ'=>cases hf;exact k
 |ct ρ'=>cases hf;exact k
 |rt d fr=>cases hf;exact k⟩
def sIf {c:TT3} {t u:TS3} (pc:PuC c) (a:PuS t) (b:PuS u):PuS (qV c t u):=⟨λn ρ=>(pc.f ρ).bind λk=>if k then a.f n ρ else b.f n ρ,λh hf k=>by
 obtain ⟨o1,e1,hf⟩:=obb hf;refine pc.ok (h.viewAll _) h.domD e1 λG1 E1=>?_;cases o1 with
 |true=>exact a.ok (h.up E1) hf k
 |false=>exact b.ok (h.up E1) hf k⟩
def V2 {t:TE3} (a:PuE t):PuS (qB t):=⟨λ_ ρ=>(a.f ρ).map λd=>.rt d a.nw,λh hf k=>by
 obtain ⟨d,e1,rfl⟩:=za9 hf;exact a.ok (h.viewAll _) h.domD e1 λx G1 E1 D1 N1=>k x G1 (h.ex.trans E1) D1 λz=>(N1 z).back h.ex⟩
def qli (ρ:Rho) (i:Nat):Option Ot:=match ρ[i]? with|some (.ow ds)=>some (.rt (.list ds) true)|some (.sh d)=>some (.rt d false)|_=>none
def qfo (i:Nat):PuS (qB (v3 i)):=⟨λ_ ρ=>qli ρ i,λh hf k=>by
 unfold qli at hf;split at hf
 ·rename_i ds e;cases hf;obtain ⟨p,xs,b,c,g,f⟩:=h.ow i _ e;simp only [qB,v3,c];refine k _ _ h.ex (.lst (by rw [ZY (h.nd b)];exact g) (f.up (QE λb z=>.inl z))) λ_=>.inr ⟨p,xs,ds,rfl,rfl,h.fr i p b,g,f.up (QE λq z=>?_)⟩;rcases z with z|z
  ·exact .inl z
  ·subst z;exact .inr ⟨i,b⟩
 ·rename_i d e;cases hf;obtain ⟨t,b,c⟩:=h.sh i _ e;simp only [qB,v3,b];exact k _ _ h.ex (c.up (QE λb z=>.inl z)) (λz=>by cases z)
 ·cases hf⟩
def SR {H H':Gp} {x:T} {d:PyData} (h:Dq H x d) (s:qcO d=true):Dq H' x d:=by
 cases h<;>first|(constructor;done)|(simp [qcO] at s;done)
def qtY:PyData->Sl
 |.list ds=>.ow ds
 |d=>.sh d
def qbg (m:List Bool) (nw:Bool) (i:Nat) (d:PyData) (ρ:Rho):Rho:=if qcO d then ρ.set i (.sh d) else (dm m ρ).set i (if nw then qtY d else .sh d)
def qad {t:TE3} (a:PuE t) (i:Nat) (m:List Bool) (hm:Tru (a.fv.all (mkb m))):PuS (qH t (gn3 i)):=⟨λ_ ρ=>(a.f ρ).map λd=>.nx (qbg m a.nw i d ρ),λ{D G0 A τ ρ G n o e} h hf k=>by
 obtain ⟨d,e1,rfl⟩:=za9 hf;refine a.ok (h.viewD hm) (h.dem m).dom e1 λx G1 E1 D1 N1=>?_;unfold qbg at k;show e.nx (τ.set i (some x)) G1;split at k
 ·rename_i hs;exact k _ _ _ ((h.up E1).put i (SR D1 hs))
 ·split at k
  ·rename_i hn;have N:=N1 hn;rcases id N with h2|⟨p,xs,ds,h1,h2,_⟩
   ·exact absurd h2 (by assumption)
   subst h2;exact k _ _ _ ((h.dem m).putN i rfl E1 N)
  ·exact k _ _ _ (((h.dem m).up E1).put i D1)⟩
def ME {t:TE3} {g:TG3} (a:PuE t) (pg:PuG g) (m:List Bool) (hm:Tru (a.fv.all (mkb m))):PuS (qH t g):=⟨λ_ ρ=>(a.f ρ).bind λd=>(pg.f d).map λbs=>.nx (J5 (dm m ρ) bs),λ{D G0 A τ ρ G n o e} h hf k=>by
 obtain ⟨d,e1,hf⟩:=obb hf;obtain ⟨bs,e2,rfl⟩:=za9 hf;refine a.ok (h.viewD hm) (h.dem m).dom e1 λx G1 E1 D1 N1=>?_;obtain ⟨ts,bd,kg⟩:=pg.ok D1 e2;refine kg _ _ _ ?_;obtain ⟨A',h'⟩:=((h.dem m).up E1).puts bd;exact k _ _ _ h'⟩
def qqx (i j:Nat) (m:List Bool) (ds:List PyData) (ρ:Rho):Option Ot:=match ds with
 |[d,e]=>if qcO d&&qcO e then some (.nx ((ρ.set i (.sh d)).set j (.sh e))) else some (.nx (((dm m ρ).set i (.sh d)).set j (.sh e)))
 |_=>none
def qm1 {D:Addr->Prop} {A:Nat->Addr->Prop} {G:Gp} {i:Nat}:Ex (rs (AD D A) G) (rs (AD D (Er A i)) G):=QE λb z=>by
 rcases z with z|⟨j,z⟩
 ·exact .inl z
 ·exact .inr ⟨j,(qhd z).1⟩
def qsT {t:TA3} (a:PuA t) (i j:Nat) (m:List Bool) (hm:Tru (a.fv.all (mkb m))):PuS (j6 i j t):=⟨λ_ ρ=>(a.f ρ).bind λds=>qqx i j m ds ρ,λ{D G0 A τ ρ G n o e} h hf k=>by
 obtain ⟨ds,e1,hf⟩:=obb hf;refine a.ok (h.viewD hm) (h.dem m).dom e1 λx G1 E1 D1=>?_;unfold qqx at hf;split at hf
 ·cases D1 with
  |cons a b=>cases b with
   |cons b c=>
    cases c;split at hf
    ·rename_i hs;cases hf;rw [Bool.and_eq_true] at hs;exact k _ _ _ (((h.up E1).put i (SR a hs.1)).put j (SR b hs.2))
    ·cases hf;exact k _ _ _ ((((h.dem m).up E1).put i a).put j (b.up qm1))
 ·cases hf⟩
def slot (ρ:Rho) (i:Nat):Option (List PyData):=match ρ[i]? with|some (.ow ds)=>some ds|_=>none
def TL {ρ:Rho} {i:Nat} {ds:List PyData} (h:slot ρ i=some ds):ρ[i]?=some (.ow ds):=by
 unfold slot at h;split at h
 ·rename_i e;cases h;exact e
 ·cases h
def dmS (m:List Bool) (d:PyData) (ρ:Rho):Rho:=if qcO d then ρ else dm m ρ
def RS.evalS {D:Addr->Prop} {G0 G:Gp} {A:Nat->Addr->Prop} {τ:St3} {ρ:Rho} (h:RS D G0 A τ ρ G) {t:TE3} (a:PuE t) (m:List Bool) (hm:Tru (a.fv.all (mkb m))) {d:PyData} (hf:a.f ρ=some d):∃ A1,RS D G0 A1 τ (dmS m d ρ) G/\∀ q:Q3,(∀ x G',Ex G G'->Dq (rs (AD D A1) G') x d->q x G')->t τ G q:=by
 unfold dmS;by_cases hs:qcO d=true
 ·rw [if_pos hs];exact ⟨A,h,λq k=>a.ok (h.viewAll _) h.domD hf λx G1 E1 D1 _=>k x G1 E1 (SR D1 hs)⟩
 ·rw [if_neg hs];exact ⟨Ad m A,h.dem m,λq k=>a.ok (h.viewD hm) (h.dem m).dom hf λx G1 E1 D1 _=>k x G1 E1 D1⟩
def qqg (i:Nat) (d:PyData) (ρ:Rho):Option Ot:=(slot ρ i).bind λds=>cif (ds.length<sizeLine) (some (.nx (ρ.set i (.ow (ds++[d]))))) none
def qs2 {t:TE3} (a:PuE t) (i:Nat) (m:List Bool) (hm:Tru (a.fv.all (mkb m))):PuS (zt (bm3 JI (v3 i) (qc t qh))):=⟨λ_ ρ=>(a.f ρ).bind λd=>qqg i d (dmS m d ρ),λ{D G0 A τ ρ G n o e} h hf k=>by
 obtain ⟨d,e1,hf⟩:=obb hf;obtain ⟨A1,h1,ev⟩:=h.evalS a m hm e1;unfold qqg at hf;obtain ⟨ds,e2,hf⟩:=obb hf;unfold cif at hf;split at hf
 ·rename_i hl;cases hf;obtain ⟨p,xs,b,c,g,f⟩:=h1.ow i _ (TL e2);simp only [zt,bm3,v3,c,jc g];refine ⟨rfl,ev _ λx G1 E1 D1=>?_⟩;simp only [qh,JI,E1 _ _ g];exact ⟨by rw [f.length];exact hl,k _ _ _ ((h1.up E1).wr b c ((f.up (ZL E1)).append (.cons D1 .nil)))⟩
 ·cases hf⟩
def qql (i:Nat) (d:PyData) (ρ:Rho):Option Ot:=match d with|.list es=>(slot ρ i).bind λds=>cif (ds.length+es.length<=sizeLine) (some (.nx (ρ.set i (.ow (ds++es))))) none|_=>none
def qrH {t:TE3} (a:PuE t) (i:Nat) (m:List Bool) (hm:Tru (a.fv.all (mkb m))):PuS (zt (bm3 YI (v3 i) (qc t qh))):=⟨λ_ ρ=>(a.f ρ).bind λd=>qql i d (dmS m d ρ),λ{D G0 A τ ρ G n o e} h hf k=>by
 obtain ⟨d,e1,hf⟩:=obb hf;obtain ⟨A1,h1,ev⟩:=h.evalS a m hm e1;unfold qql at hf;split at hf
 ·obtain ⟨ds,e2,hf⟩:=obb hf;unfold cif at hf;split at hf
  ·rename_i hl;cases hf;obtain ⟨p,xs,b,c,g,f⟩:=h1.ow i _ (TL e2);simp only [zt,bm3,v3,c,jc g];refine ⟨rfl,ev _ λx G1 E1 D1=>?_⟩;cases D1 with
   |lst g2 hs2=>
    simp only [qh,YI,E1 _ _ g,(zb g2).2];exact ⟨by rw [f.length,hs2.length];exact hl,k _ _ _ ((h1.up E1).wr b c ((f.up (ZL E1)).append hs2))⟩
  ·cases hf
 ·cases hf⟩
def M2 (gf:PyData->Option (List (Nat×PyData))) (bf:Rho->Option Ot):List PyData->Rho->Option Ot
 |[],ρ=>some (.nx ρ)
 |d::r,ρ=>(gf d).bind λbs=>(bf (J5 ρ bs)).bind λo=>match o with
  |.nx ρ'=>M2 gf bf r ρ'
  |.ct ρ'=>M2 gf bf r ρ'
  |.bk ρ'=>some (.nx ρ')
  |.rt d b=>some (.rt d b)
theorem qbC {stay:Gp->Prop} {g:TG3} {tb:TS3} {e:Ends3} (pg:PuG g) (pb:PuS tb) {D:Addr->Prop} {G0:Gp} {n:Nat} {o:Ot} {items0:List T} (hs:∀ A τ ρ G,RS D G0 A τ ρ G->stay G) (k:qmq D G0 e o) :
  ∀ (ds:List PyData) (items:List T),(∀ A τ ρ G,RS D G0 A τ ρ G->Dqs (rs (AD D A) G) items ds)->∀ A τ ρ G,RS D G0 A τ ρ G->M2 pg.f (pb.f n) ds ρ=some o->MX stay g tb e items τ G
 |[],items,hi,A,τ,ρ,G,h,hf=>by
  cases hf;have:=hi _ _ _ _ h;cases this;exact ⟨hs _ _ _ _ h,k _ _ _ h⟩
 |d::ds,items,hi,A,τ,ρ,G,h,hf=>by
  have hh:=hi _ _ _ _ h;cases hh with
  |cons hx hr=>
   rename_i x items;unfold M2 at hf;obtain ⟨bs,e1,hf⟩:=obb hf;obtain ⟨o1,e2,hf⟩:=obb hf;obtain ⟨ts,bd,kg⟩:=pg.ok hx e1;refine ⟨hs _ _ _ _ h,kg _ _ _ ?_⟩;obtain ⟨A',h'⟩:=h.puts bd;refine pb.ok h' e2 ?_;have hi':∀ A τ ρ G,RS D G0 A τ ρ G->Dqs (rs (AD D A) G) items ds:=λA τ ρ G h=>by
    have:=hi _ _ _ _ h;cases this with
    |cons a b=>exact b
   cases o1 with
   |nx ρ'=>exact λA2 τ2 G2 h2=>qbC (items0:=items0) pg pb hs k ds items hi' _ _ _ _ h2 hf
   |ct ρ'=>exact λA2 τ2 G2 h2=>qbC (items0:=items0) pg pb hs k ds items hi' _ _ _ _ h2 hf
   |bk ρ'=>cases hf;exact k
   |rt d fr=>cases hf;exact k
def qo6 (pi:Rho->Option (List PyData)) (nm:Bool) (m:List Bool) (gf:PyData->Option (List (Nat×PyData))) (bf:Nat->Rho->Option Ot) (n:Nat) (ρ:Rho):Option Ot:=(pi ρ).bind λds=>M2 gf (bf n) ds (if nm then ρ else dm m ρ)
def qgA {wi:TI3} {g:TG3} {tb:TS3} (pi:PuI wi) (pg:PuG g) (pb:PuS tb) (m:List Bool) (hm:Tru (pi.fv.all (mkb m))):PuS (RM wi g tb):=⟨qo6 pi.f pi.nm m pg.f pb.f,λ{D G0 A τ ρ G n o e} h hf k=>by
 unfold qo6 at hf;obtain ⟨ds,e1,hf⟩:=obb hf;refine pi.ok (h.viewD hm) (h.dem m).dom e1 λitems stay G1 E1 D1 hs hnm=>?_;cases hb:pi.nm with
 |true=>
  rw [hb,if_pos rfl] at hf;obtain ⟨ns,rfl⟩:=hnm hb;have:=D1.ints;subst this;exact qbC (items0:=[]) pg pb (λ_ _ _ _ _=>hs _ (.inl hb)) k _ _ (λA τ ρ G _=>Dqs.ofInts _) _ _ _ _ (h.up E1) hf
 |false=>
  rw [hb,if_neg v7] at hf;have h1:=(h.dem m).up E1;have b1:Ex G0 (rs (λb=>∃ i,Ad m A i b) G1):=λb o e=>by
   rw [ZY]
   ·exact h1.ex _ _ e
   ·rintro ⟨i,z⟩;rw [h1.fr i _ z] at e;cases e
  have h2:RS D (rs (λb=>∃ i,Ad m A i b) G1) (Ad m A) τ (dm m ρ) G1:=⟨V0,h.dm.up b1,λi p z=>by unfold rs;exact zU ⟨i,z⟩,h1.da,h1.inj,h1.len,h1.sl⟩
  have X:∀ A2 τ2 ρ2 G2,RS D (rs (λb=>∃ i,Ad m A i b) G1) A2 τ2 ρ2 G2->Ex (rs (AD D (Ad m A)) G1) (rs (AD D A2) G2):=λA2 τ2 ρ2 G2 r b o e=>by
   obtain ⟨n1,e⟩:=zb e;have eb:rs (λb=>∃ i,Ad m A i b) G1 b=some o:=by rw [ZY (λz=>n1 (.inr z))];exact e
   rw [ZY]
   ·exact r.ex _ _ eb
   ·rintro (z|⟨i,z⟩)
    ·exact n1 (.inl z)
    ·rw [r.fr i _ z] at eb;cases eb
  exact qbC (items0:=[]) pg pb (λA2 τ2 ρ2 G2 r=>hs _ (.inr ((X _ _ _ _ r).trans V0))) (k.base b1 h.dm) _ _ (λA2 τ2 ρ2 G2 r=>D1.up (X _ _ _ _ r)) _ _ _ _ h2 hf⟩
def VW (fr:Bool):Option Ot->Option PyData
 |some (.rt d b)=>if fr=true/\b=false then (match d with|.none=>some .none|_=>none) else some d
 |some (.nx _)=>if fr then none else some .none
 |_=>none
def st (ds:List PyData) (N:Nat):Rho:=ds.map Sl.sh++List.replicate (N-ds.length) .un
def qq4 {D:Addr->Prop} {G:Gp} {ts:List T} {ds:List PyData} (N:List Str) (hs:Dqs (rs D G) ts ds) (hd:Dom D G):RS D G (λ_ _=>False) (qm N ts) (st ds N.length) G:=by
 refine ⟨Ex.refl,hd,(λi p e=>e.elim),(λi p e=>e.elim),(λi j p e=>e.elim),(by simp [st,qm,hs.length]),λi s e=>?_⟩;unfold st at e;unfold qm;by_cases hi:i<ds.length
 ·rw [List.getElem?_append_left (by simpa using hi),getElem?_map] at e;obtain ⟨d2,e3,rfl⟩:=za9 e;obtain ⟨x,e5,hx⟩:=hs.get e3;refine ⟨x,?_,hx.up (QE λb z=>?_)⟩
  ·rw [List.getElem?_append_left (by simp [hs.length];exact hi),getElem?_map,e5];rfl
  ·rcases z with z|⟨i,z⟩
   ·exact z
   ·exact z.elim
 ·rw [List.getElem?_append_right (by simpa using hi),List.getElem?_replicate] at e;split at e<;>cases e
  trivial
def run (f:Nat->Rho->Option Ot) (k N n:Nat) (fr:Bool) (ds:List PyData):Option PyData:=if ds.length=k then VW fr (f n (st ds N)) else none
def zo {t:TS3} (b:PuS t) (N:List Str) (k n:Nat) (fr:Bool):∀ ts G q,PSp (run b.f k N.length n fr) fr ts G q->ts.length=k/\t { nx:=λ_ G'=>q .non G',rt:=q } (qm N ts) G:=by
 rintro ts G q ⟨D,ds,d,hs,hd,hf,h⟩;unfold run at hf;split at hf
 ·rename_i hk;refine ⟨by rw [hs.length];exact hk,?_⟩;have r:=qq4 N hs hd;unfold VW at hf;split at hf
  ·rename_i d' b' e;split at hf
   ·split at hf
    ·cases hf;exact b.ok r e λx G' a c z=>h x G' a c λ_=>.inl rfl
    ·cases hf
   ·rename_i hb;cases hf;exact b.ok r e λx G' a c z=>h x G' a c λw=>z (by
     cases b' with
     |true=>rfl
     |false=>exact absurd ⟨w,rfl⟩ hb)
  ·rename_i ρ' e;split at hf
   ·cases hf
   ·rename_i hb;cases hf;exact b.ok r e λA τ G' r'=>h .non G' r'.ex .non λw=>absurd w hb
  ·cases hf
 ·cases hf
mutual
def tD:T->Option PyData
 |.non=>some .none|.bl b=>some (.bool b)|.int i=>some (.int i)|.str x=>some (.str x)|.tup xs=>(tDs xs).map .tuple|.ref _=>none
def tDs:List T->Option (List PyData)
 |[]=>some []
 |x::r=>(tD x).bind λd=>(tDs r).map (d::·)
end
mutual
theorem qmc {G:Gp}:∀ (t:T) {d:PyData},tD t=some d->Dq G t d
 |.non,_,h=>by cases h;exact .non
 |.bl b,_,h=>by cases h;exact .bl b
 |.int b,_,h=>by cases h;exact .int b
 |.str b,_,h=>by cases h;exact .str b
 |.tup xs,_,h=>by
  unfold tD at h;obtain ⟨ds,e,rfl⟩:=za9 h;exact .tup (qiF xs e)
 |.ref _,_,h=>by cases h
theorem qiF {G:Gp}:∀ (t:List T) {d:List PyData},tDs t=some d->Dqs G t d
 |[],_,h=>by cases h;exact .nil
 |x::r,_,h=>by
  unfold tDs at h;obtain ⟨d,e,h⟩:=obb h;obtain ⟨ds,e2,rfl⟩:=za9 h;exact .cons (qmc x e) (qiF r e2)
end
def asS:PyData->Option Str
 |.str s=>some s
 |_=>none
def qg3 {d:PyData} {b:Str} (h:asS d=some b):d=.str b:=by cases d<;>simp [asS] at h;subst h;rfl
def qlv (tab:List (Str×T)) {te:TE3} (a:PuE te):PuE (qfu tab te):=⟨λρ=>((a.f ρ).bind asS).bind λs=>(QA tab s).bind tD,a.fv,false,λhv hd hf k=>by
 obtain ⟨s,e1,hf⟩:=obb hf;obtain ⟨d,e1,e2⟩:=obb e1;have:=qg3 e2;subst this;obtain ⟨t,e3,hf⟩:=obb hf;refine a.ok hv hd e1 λx' G1 E1 D1 _=>?_;cases D1;simp only [e3];exact k _ _ E1 (qmc t hf) (λz=>by cases z)⟩
def qfY:List Str->List PyData->Str->Option PyData
 |k::ks,x::xs,s=>if k=s then some x else qfY ks xs s
 |_,_,_=>none
theorem qdG {G:Gp}:∀ (ks:List Str) {xs:List T} {ds:List PyData} {s:Str} {d:PyData},Dqs G xs ds->qfY ks ds s=some d->∃ x,QA (ks.zip xs) s=some x/\Dq G x d
 |[],_,_,_,_,_,h=>by simp [qfY] at h
 |k::ks,_,_,_,_,.nil,h=>by simp [qfY] at h
 |k::ks,_,_,s,d,.cons a b,h=>by
  unfold qfY at h;simp only [List.zip_cons_cons,QA];split at h
  ·rename_i e;cases h;exact ⟨_,by rw [if_pos e],a⟩
  ·rename_i e;obtain ⟨x,h1,h2⟩:=qdG ks b h;exact ⟨x,by rw [if_neg e];exact h1,h2⟩
def qp3 (ks:List Str) {t:TA3} {te:TE3} (a:PuA t) (b:PuE te):PuE (qjh ks t te):=⟨λρ=>(a.f ρ).bind λds=>((b.f ρ).bind asS).bind λs=>qfY ks ds s,a.fv++b.fv,false,λhv hd hf k=>by
 obtain ⟨ds,e1,hf⟩:=obb hf;obtain ⟨s,e2,hf⟩:=obb hf;obtain ⟨d,e2,e3⟩:=obb e2;have:=qg3 e3;subst this;refine a.ok hv.l hd e1 λxs G1 E1 D1=>b.ok (hv.r.up E1) (hd.up E1) e2 λy G2 E2 D2 _=>?_;cases D2;obtain ⟨x,h1,h2⟩:=qdG ks (D1.up (ZL E2)) hf;simp only [h1];exact k _ _ (E1.trans E2) h2 (λz=>by cases z)⟩
def qmH (d:PyData) (es:List PyData):Option PyData:=match d,es with
 |.list ds,[.int k]=>(EC ds).map λns=>.int (List.count k ns:Nat)
 |_,_=>none
def qs3 {te:TE3} {t:TA3} (b:PuE te) (a:PuA t):PuE (bm3 qlk te t):=⟨λρ=>(b.f ρ).bind λd=>(a.f ρ).bind λes=>qmH d es,b.fv++a.fv,false,λhv hd hf k=>by
 obtain ⟨d,e1,hf⟩:=obb hf;obtain ⟨es,e2,hf⟩:=obb hf;unfold qmH at hf;split at hf
 ·obtain ⟨ns,e3,rfl⟩:=za9 hf;have:=WP e3;subst this;refine b.ok hv.l hd e1 λx G1 E1 D1 _=>?_;cases D1 with
  |lst g hs=>
   have:=hs.ints;subst this;simp only [jc (zb g).2];refine ⟨rfl,a.ok (hv.r.up E1) (hd.up E1) e2 λys G2 E2 D2=>?_⟩;cases D2 with
   |cons a b=>
    cases b;cases a;simp only [qlk,jc (E2 _ _ (zb g).2),YG];exact k _ _ (E1.trans E2) (.int _) (λz=>by cases z)
 ·cases hf⟩
def qsZ {i:Nat}:(bV i).f=λρ=>vw ρ i:=id rfl
def qgs {i:Int}:(j7 i).f=λ_=>some (.int i):=id rfl
def qpV {i:Bool}:(bBl i).f=λ_=>some (.bool i):=id rfl
def qhc {i:Str}:(qis i).f=λ_=>some (.str i):=id rfl
def qiz:qdC.f=λ_=>some .none:=id rfl
def qtb {r:R3} {ta tb:TE3} {R:OpD r} {a:PuE ta} {b:PuE tb}:(bO R a b).f=λρ=>(a.f ρ).bind λx=>(b.f ρ).bind λy=>R.f x y:=id rfl
def qhj:qW.f=λ_=>some []:=id rfl
def qdF {ta:TE3} {tr:TA3} {a:PuE ta} {r:PuA tr}:(qi a r).f=λρ=>(a.f ρ).bind λx=>(r.f ρ).bind λxs=>some (x::xs):=id rfl
def qiP {t:TA3} {a:PuA t} {hn:Tru (Nat.ble a.n 1000)}:(M4 a hn).f=λρ=>(a.f ρ).map .tuple:=id rfl
def qhw {t:TA3} {a:PuA t} {hn:Tru (Nat.ble a.n 1000)}:(qp9 a hn).f=λρ=>(a.f ρ).map .list:=id rfl
def qc5 {r:List T->Gp->Q3->Prop} {t:TA3} {R:FnD r} {a:PuA t}:(qE R a).f=λρ=>(a.f ρ).bind R.f:=id rfl
def qnD {t:TE3} {a:PuE t}:(bTb a).f=λρ=>(a.f ρ).bind asB:=id rfl
def qlQ {t u:TT3} {a:PuC t} {b:PuC u}:(bOr a b).f=λρ=>(a.f ρ).bind λk=>if k then some true else b.f ρ:=id rfl
def qgS {t:TT3} {a:PuC t}:(qf7 a).f=λρ=>(a.f ρ).map (! ·):=id rfl
def qo1:bTt.f=λ_=>some true:=id rfl
def qdp {ta tb:TE3} {a:PuE ta} {b:PuE tb}:(XC a b).f=λρ=>((a.f ρ).bind asB).bind λk=>if k then b.f ρ else some (.bool false):=id rfl
def qdq {ta:TE3} {a:PuE ta}:(qot a).f=λρ=>((a.f ρ).bind asB).map λk=>.bool (!k):=id rfl
def qmL {t:TT3} {ta tb:TE3} {c:PuC t} {a:PuE ta} {b:PuE tb}:(bIf c a b).f=λρ=>(c.f ρ).bind λk=>if k then a.f ρ else b.f ρ:=id rfl
def qia {ta:TE3} {a:PuE ta}:(qh6 a).f=λρ=>((a.f ρ).bind asI).map λi=>.int (-i):=id rfl
def qpU {r r':R3} {ta tb tc:TE3} {R:OpD r} {R':OpD r'} {a:PuE ta} {b:PuE tb} {c:PuE tc}:(bCh R R' a b c).f=λρ=>(a.f ρ).bind λx=>(b.f ρ).bind λy=>((R.f x y).bind asB).bind λk=>if k then (c.f ρ).bind λz=>R'.f y z else some (.bool false):=id rfl
def qiq {ta:TE3} {g:String->Bool} {a:PuE ta}:(qpn g a).f=λρ=>(a.f ρ).bind λd=>(tyD d).map λt=>.bool (g t):=id rfl
def qlr:bNp.f=λ_=>some none:=id rfl
def qn8 {t:TE3} {a:PuE t}:(bSp a).f=λρ=>((a.f ρ).bind asI).map some:=id rfl
def qpB {te:TE3} {tl th:TO3} {a:PuE te} {l:PuO tl} {h:PuO th}:(bSl a l h).f=λρ=>(a.f ρ).bind λd=>(l.f ρ).bind λlo=>(h.f ρ).bind λhi=>slD d lo hi:=id rfl
def qea {te:TE3} {a:PuE te}:(ql3 a).f=λρ=>(a.f ρ).bind qc2:=id rfl
def qdR {tab:List (Str×T)} {te:TE3} {a:PuE te}:(qlv tab a).f=λρ=>((a.f ρ).bind asS).bind λs=>(QA tab s).bind tD:=id rfl
def qcZ {ks:List Str} {t:TA3} {te:TE3} {a:PuA t} {b:PuE te}:(qp3 ks a b).f=λρ=>(a.f ρ).bind λds=>((b.f ρ).bind asS).bind λs=>qfY ks ds s:=id rfl
def qgQ {te:TE3} {t:TA3} {b:PuE te} {a:PuA t}:(qs3 b a).f=λρ=>(b.f ρ).bind λd=>(a.f ρ).bind λes=>qmH d es:=id rfl
def qpe {wi:TI3} {g:TG3} {tif:TT3} {te:TE3} {pi:PuI wi} {pg:PuG g} {pc:PuC tif} {pe:PuE te} {m:List (Option Nat)} {hm:Tru (pg.tg.all λi=>m[i]?==some none)}:(bLc pi pg pc pe m hm).f=lcF pi.f (lcH pg.f pc.f pe.f) m:=id rfl
def qgo {wi wi2:TI3} {g g2:TG3} {tif tif2:TT3} {te:TE3} {pi:PuI wi} {pg:PuG g} {pc:PuC tif} {pi2:PuI wi2} {pg2:PuG g2} {pc2:PuC tif2} {pe:PuE te} {m:List (Option Nat)} {hm:Tru (pg.tg.all λi=>m[i]?==some none)} {hm2:Tru (pg2.tg.all λi=>m[i]?==some none)} {hdj:Tru (pg2.tg.all λi=>!pg.tg.contains i)}:(qqD pi pg pc pi2 pg2 pc2 pe m hm hm2 hdj).f=qoc pi.f (qmp pg.f pc.f pi2.f (lcH pg2.f pc2.f pe.f)) m:=id rfl
def qgt:qe1.f=qjt:=id rfl
def qhb:qrF.f=qqm:=id rfl
def qh5:qs4.f=qqI:=id rfl
def qiE:qqF.f=qqv:=id rfl
def qgw:qqK.f=qqJ:=id rfl
def qgu:qsP.f=qnx:=id rfl
def qei:qeh.f=mnD:=id rfl
def qdx:qeO.f=mxD:=id rfl
def qdM {F:List PyData->Option PyData} {fr:Bool}:(zj F fr).f=F:=id rfl
def qnQ {g:Int->Int->Int} {i j:Int}:(opI g).f (.int i) (.int j)=some (.int (g i j)):=id rfl
def qoG {g:Int->Int->Bool} {i j:Int}:(opB g).f (.int i) (.int j)=some (.bool (g i j)):=id rfl
def qml {C:Int->Int->Prop} {g:Int->Int->Int}:(opC C g).f=cI C g:=id rfl
def qhW {n:Bool}:(LH n).f=eqD n:=id rfl
def qdT {n:Bool}:(qbl n).f=qkJ n:=id rfl
def qeB {n:Bool}:(qo7 n).f=qqz n:=id rfl
def qdd {n:Bool}:(qpJ n).f=qqq n:=id rfl
def qh4:J4.f=ixD:=id rfl
def qer:KC.f=qlf:=id rfl
def qg8 {t:TE3} {a:PuE t}:(qau a).f=λρ=>(a.f ρ).bind qqo:=id rfl
def qhH {t:TA3} {a:PuA t}:(MW a).f=λρ=>(a.f ρ).bind qkT:=id rfl
def qc1 {t:TE3} {a:PuE t}:(qau a).nm=false:=id rfl
def qd7 {t:TA3} {a:PuA t}:(MW a).nm=true:=id rfl
def qs0 {i:Nat}:(gN i).f=λd=>some [(i,d)]:=id rfl
def qgp:M3.f []=some []:=id rfl
def qc4 {t:TG3} {u:qat} {a:PuG t} {b:PuGs u} {d:PyData} {r:List PyData}:(zW a b).f (d::r)=(a.f d).bind λx=>(b.f r).map λy=>x++y:=id rfl
def qhx {u:qat} {n:Nat} {b:PuGs u} {ds:List PyData}:(M1 n b).f (.tuple ds)=if ds.length=n then b.f ds else none:=id rfl
def qdI:VY.f=λ_ ρ=>some (.nx ρ):=id rfl
def qh9 {t u:TS3} {a:PuS t} {b:PuS u}:(JE a b).f=qqw a.f b.f:=id rfl
def qoe {c:TT3} {t u:TS3} {pc:PuC c} {a:PuS t} {b:PuS u}:(sIf pc a b).f=λn ρ=>(pc.f ρ).bind λk=>if k then a.f n ρ else b.f n ρ:=id rfl
def qiM {t:TE3} {a:PuE t}:(V2 a).f=λ_ ρ=>(a.f ρ).map λd=>.rt d a.nw:=id rfl
def qdW {i:Nat}:(qfo i).f=λ_ ρ=>qli ρ i:=id rfl
def qh7 {t:TE3} {a:PuE t} {i:Nat} {m:List Bool} {hm:Tru (a.fv.all (mkb m))}:(qad a i m hm).f=λ_ ρ=>(a.f ρ).map λd=>.nx (qbg m a.nw i d ρ):=id rfl
def qeM {t:TE3} {g:TG3} {a:PuE t} {pg:PuG g} {m:List Bool} {hm:Tru (a.fv.all (mkb m))}:(ME a pg m hm).f=λ_ ρ=>(a.f ρ).bind λd=>(pg.f d).map λbs=>.nx (J5 (dm m ρ) bs):=id rfl
def qhB {t:TA3} {a:PuA t} {i j:Nat} {m:List Bool} {hm:Tru (a.fv.all (mkb m))}:(qsT a i j m hm).f=λ_ ρ=>(a.f ρ).bind λds=>qqx i j m ds ρ:=id rfl
def qhy {t:TE3} {a:PuE t} {i:Nat} {m:List Bool} {hm:Tru (a.fv.all (mkb m))}:(qs2 a i m hm).f=λ_ ρ=>(a.f ρ).bind λd=>qqg i d (dmS m d ρ):=id rfl
def qgI {t:TE3} {a:PuE t} {i:Nat} {m:List Bool} {hm:Tru (a.fv.all (mkb m))}:(qrH a i m hm).f=λ_ ρ=>(a.f ρ).bind λd=>qql i d (dmS m d ρ):=id rfl
def qhR {wi:TI3} {g:TG3} {tb:TS3} {pi:PuI wi} {pg:PuG g} {pb:PuS tb} {m:List Bool} {hm:Tru (pi.fv.all (mkb m))}:(qgA pi pg pb m hm).f=qo6 pi.f pi.nm m pg.f pb.f:=id rfl
def qol {i:Nat}:(bV i).nw=false:=id rfl
def qiY {i:Bool}:(bBl i).nw=false:=id rfl
def qdm:qdC.nw=false:=id rfl
def qmy {r:R3} {ta tb:TE3} {R:OpD r} {a:PuE ta} {b:PuE tb}:(bO R a b).nw=R.nw:=id rfl
def qd5 {t:TA3} {a:PuA t} {hn:Tru (Nat.ble a.n 1000)}:(M4 a hn).nw=false:=id rfl
def qdH {t:TA3} {a:PuA t} {hn:Tru (Nat.ble a.n 1000)}:(qp9 a hn).nw=true:=id rfl
def qbZ {r:List T->Gp->Q3->Prop} {t:TA3} {R:FnD r} {a:PuA t}:(qE R a).nw=R.nw:=id rfl
def qbR {F:List PyData->Option PyData} {fr:Bool}:(zj F fr).nw=fr:=id rfl
def qbA {ta tb:TE3} {a:PuE ta} {b:PuE tb}:(XC a b).nw=false:=id rfl
def qg2 {t:TT3} {ta tb:TE3} {c:PuC t} {a:PuE ta} {b:PuE tb}:(bIf c a b).nw=false:=id rfl
def qg1 {wi:TI3} {g:TG3} {tif:TT3} {te:TE3} {pi:PuI wi} {pg:PuG g} {pc:PuC tif} {pe:PuE te} {m:List (Option Nat)} {hm:Tru (pg.tg.all λi=>m[i]?==some none)}:(bLc pi pg pc pe m hm).nw=true:=id rfl
def qdj {wi wi2:TI3} {g g2:TG3} {tif tif2:TT3} {te:TE3} {pi:PuI wi} {pg:PuG g} {pc:PuC tif} {pi2:PuI wi2} {pg2:PuG g2} {pc2:PuC tif2} {pe:PuE te} {m:List (Option Nat)} {hm:Tru (pg.tg.all λi=>m[i]?==some none)} {hm2:Tru (pg2.tg.all λi=>m[i]?==some none)} {hdj:Tru (pg2.tg.all λi=>!pg.tg.contains i)}:(qqD pi pg pc pi2 pg2 pc2 pe m hm hm2 hdj).nw=true:=id rfl
def qeY:qqK.nw=true:=id rfl
def qcR:J4.nw=false:=id rfl
def qsD {s:Sl} {r:Rho}:vw (s::r) 0=s.d:=id rfl
def qtc {s:Sl} {r:Rho} {i:Nat}:vw (s::r) (i+1)=vw r i:=id rfl
def qof {d:PyData}:(Sl.sh d).d=some d:=id rfl
def qnu {ds:List PyData}:(Sl.ow ds).d=some (.list ds):=id rfl
def qeV {r:Rho} {ds:List PyData}:slot (.ow ds::r) 0=some ds:=id rfl
def qiD {s:Sl} {r:Rho} {i:Nat}:slot (s::r) (i+1)=slot r i:=id rfl
def qdP {r:Rho} {ds:List PyData}:qli (.ow ds::r) 0=some (.rt (.list ds) true):=id rfl
def qhr {s:Sl} {r:Rho} {i:Nat}:qli (s::r) (i+1)=qli r i:=id rfl
def qoM {xs:List PyData} {i:Int}:ixD (.tuple xs) (.int i)=L2.atI xs i:=id rfl
def qpj {xs:List PyData} {i:Int}:ixD (.list xs) (.int i)=L2.atI xs i:=id rfl
def at0 {α:Type} {a:α} {r:List α}:L2.atI (a::r) 0=some a:=by simp [L2.atI,ixN]
def at1 {α:Type} {a b:α} {r:List α}:L2.atI (a::b::r) 1=some b:=by
 have h:ixN (a::b::r).length 1=some 1:=by unfold ixN;rw [if_pos (by omega),if_pos (by simp;omega)];rfl
 unfold L2.atI;rw [h];rfl
def at2 {α:Type} {a b c:α} {r:List α}:L2.atI (a::b::c::r) 2=some c:=by
 have h:ixN (a::b::c::r).length 2=some 2:=by unfold ixN;rw [if_pos (by omega),if_pos (by simp;omega)];rfl
 unfold L2.atI;rw [h];rfl
def at3 {α:Type} {a b c d:α} {r:List α}:L2.atI (a::b::c::d::r) 3=some d:=by
 have h:ixN (a::b::c::d::r).length 3=some 3:=by unfold ixN;rw [if_pos (by omega),if_pos (by simp;omega)];rfl
 unfold L2.atI;rw [h];rfl
def atN {α:Type} {xs:List α} {k:Nat} (h:k<xs.length):L2.atI xs (k:Int)=xs[k]?:=by
 have e:ixN xs.length (k:Int)=some k:=by unfold ixN;rw [if_pos (by omega),if_pos (by omega)];rfl
 unfold L2.atI;rw [e];rfl
def eqS {n:Bool} {a b:Str}:eqD n (.str a) (.str b)=some (.bool (if n then !decide (a=b) else decide (a=b))):=id rfl
def eqI {n:Bool} {a b:Int}:eqD n (.int a) (.int b)=some (.bool (if n then !decide (a=b) else decide (a=b))):=id rfl
def eqB {n:Bool} {a b:Bool}:eqD n (.bool a) (.bool b)=some (.bool (if n then !decide (a=b) else decide (a=b))):=id rfl
def qps {n:Bool}:qkJ n .none .none=some (.bool !n):=id rfl
def qlG {n:Bool} {xs:List PyData}:qkJ n (.tuple xs) .none=some (.bool n):=id rfl
def qpz {C:Int->Int->Prop} {g:Int->Int->Int} {i j:Int} (h:C i j):cI C g (.int i) (.int j)=some (.int (g i j)):=by simp only [cI];exact zU h
def qoB {i j:Int} (h:-1000000<j/\j<1000000):cI JJ (·*·) (.int i) (.int j)=some (.int (i*j)):=qpz (.inr ⟨by omega,by omega⟩)
def qdD {i j:Int} (h:-1000000<i/\i<1000000):cI JJ (·*·) (.int i) (.int j)=some (.int (i*j)):=qpz (.inl ⟨by omega,by omega⟩)
def qta {i j:Int}:qlf (.int i) (.int j)=some (.int (i+j)):=id rfl
def qcw {j:Int} (h:-1000000000<=j/\j<1000000000):qkT [.int j]=some ((zM 0 j.toNat).map PyData.int):=by simp only [qkT];exact zU ⟨by omega,by omega⟩
def qjK {i j:Int} (h:-1000000000<=i/\i<1000000000/\-1000000000<=j/\j<1000000000):qkT [.int i,.int j]=some ((zM i (j-i).toNat).map PyData.int):=by simp only [qkT];exact zU ⟨by omega,by omega,by omega,by omega⟩
def jN {pi:Rho->Option (List PyData)} {h:Rho->PyData->Option (Option PyData)} {m:List (Option Nat)} {ρ:Rho} {ds fs:List PyData} (h1:pi ρ=some ds) (h2:lcP (h (qas m ρ)) ds=some fs) (h3:fs.length<=16777216):lcF pi h m ρ=some (.list fs):=by unfold lcF;rw [h1];simp only [Option.bind_some,h2];exact zU h3
def qev {pi:Rho->Option (List PyData)} {h:Rho->PyData->Option (Option (List PyData))} {m:List (Option Nat)} {ρ:Rho} {ds fs:List PyData} (h1:pi ρ=some ds) (h2:qks (h (qas m ρ)) ds=some fs) (h3:fs.length<=16777216):qoc pi h m ρ=some (.list fs):=by unfold qoc;rw [h1];simp only [Option.bind_some,h2];exact zU h3
def qki {i:Nat} {d:PyData} {ρ:Rho} {ds:List PyData} (h:slot ρ i=some ds) (hl:ds.length<16777216):qqg i d ρ=some (.nx (ρ.set i (.ow (ds++[d])))):=by unfold qqg;rw [h];simp only [Option.bind_some];exact zU hl
def qgd {gf:PyData->Option (List (Nat×PyData))} {bf:Rho->Option Ot} {α:Type} {g:α->PyData} (xs:List α) (I:Nat->Rho->Prop) {ρ:Rho} (h0:I 0 ρ)
  (hs:∀ i x ρ,xs[i]?=some x->I i ρ->∃ bs ρ',gf (g x)=some bs/\(bf (J5 ρ bs)=some (.nx ρ')\/bf (J5 ρ bs)=some (.ct ρ'))/\I (i+1) ρ'):∃ ρ',M2 gf bf (xs.map g) ρ=some (.nx ρ')/\I xs.length ρ':=by
 have key:∀ (r:List α) (i:Nat) (ρ:Rho),xs.drop i=r->i<=xs.length->I i ρ->∃ ρ',M2 gf bf (r.map g) ρ=some (.nx ρ')/\I xs.length ρ':=by
  intro r;induction r with
  |nil=>
   intro i ρ e hi h;have:i=xs.length:=by
    have:=congrArg List.length e;simp at this;omega
   subst this;exact ⟨ρ,rfl,h⟩
  |cons x r ih=>
   intro i ρ e hi h;have hl:i<xs.length:=by
    have:=congrArg List.length e;simp at this;omega
   have e':=List.drop_eq_getElem_cons hl;rw [e] at e';injection e' with e1 e2;obtain ⟨bs,ρ',h1,h2,h3⟩:=hs i x ρ (by rw [v9 hl,e1]) h;obtain ⟨ρ2,h4,h5⟩:=ih (i+1) ρ' e2.symm hl h3;refine ⟨ρ2,?_,h5⟩;simp only [map_cons,M2,h1,Option.bind_some];rcases h2 with h2|h2<;>(rw [h2];exact h4)
 exact key xs 0 ρ (by simp) (Nat.zero_le _) h0
def qcQ {gf:PyData->Option (List (Nat×PyData))} {bf:Rho->Option Ot} {α:Type} {g:α->PyData} (xs:List α) (n:Nat) (x:α) (hn:xs[n]?=some x) (I:Nat->Rho->Prop) {ρ:Rho} {o:Ot} (h0:I 0 ρ)
  (hs:∀ i x ρ,i<n->xs[i]?=some x->I i ρ->∃ bs ρ',gf (g x)=some bs/\(bf (J5 ρ bs)=some (.nx ρ')\/bf (J5 ρ bs)=some (.ct ρ'))/\I (i+1) ρ')
  (he:∀ ρ,I n ρ->∃ bs,gf (g x)=some bs/\((∃ d b,o=.rt d b/\bf (J5 ρ bs)=some (.rt d b))\/∃ ρ',o=.nx ρ'/\bf (J5 ρ bs)=some (.bk ρ'))):M2 gf bf (xs.map g) ρ=some o:=by
 have hl:=(zb0 hn).1;have key:∀ (k i:Nat) (ρ:Rho),i+k=n->I i ρ->M2 gf bf ((xs.drop i).map g) ρ=some o:=by
  intro k;induction k with
  |zero=>
   intro i ρ e h;have:i=n:=by omega
   subst this;obtain ⟨bs,h1,h2⟩:=he ρ h;rw [List.drop_eq_getElem_cons hl];have ex:xs[i]=x:=by
    rw [v9 hl] at hn;exact Option.some.inj hn
   rw [ex];simp only [map_cons,M2,h1,Option.bind_some];rcases h2 with ⟨d,b,rfl,h2⟩|⟨ρ',rfl,h2⟩<;>(rw [h2];rfl)
  |succ k ih=>
   intro i ρ e h;have hi:i<xs.length:=by omega
   obtain ⟨bs,ρ',h1,h2,h3⟩:=hs i xs[i] ρ (by omega) (v9 hi) h;rw [List.drop_eq_getElem_cons hi];simp only [map_cons,M2,h1,Option.bind_some];rcases h2 with h2|h2<;>(rw [h2];exact ih (i+1) ρ' (by omega) h3)
 exact key n 0 ρ (by omega) h0
def sqk (b:Nat->Rho->Option Ot) (n:Nat) (o:Ot):Option Ot:=match o with|.nx ρ'=>b n ρ'|o=>some o
def qiS {a b:Nat->Rho->Option Ot} {n:Nat} {ρ:Rho}:qqw a b n ρ=(a n ρ).bind (sqk b n):=id rfl
def qiZ {b:Nat->Rho->Option Ot} {n:Nat} {ρ:Rho}:sqk b n (.nx ρ)=b n ρ:=id rfl
def qgK {b:Nat->Rho->Option Ot} {n:Nat} {d:PyData} {f:Bool}:sqk b n (.rt d f)=some (.rt d f):=id rfl
def qc6 {d:PyData}:VW true (some (.rt d true))=some d:=id rfl
def qiV {d:PyData} {b:Bool}:VW false (some (.rt d b))=some d:=by simp [VW]
def qpf {b:Bool}:asB (.bool b)=some b:=id rfl
def qop {b:Int}:asI (.int b)=some b:=id rfl
def qlm {b:Str}:asS (.str b)=some b:=id rfl
def qif {xs:List PyData}:qjt [.tuple xs]=some (.int xs.length):=id rfl
def qhf {xs:List PyData}:qjt [.list xs]=some (.int xs.length):=id rfl
def qhs {i:Int}:qqm [.int i]=some (.int (if i<0 then -i else i)):=id rfl
def qih {i j:Int}:qqI [.int i,.int j]=some (.int (if j > i then j else i)):=id rfl
def qhJ {xs:List PyData}:qqv [.list xs]=some (.tuple xs):=id rfl
def qgL {xs:List PyData}:qqJ [.tuple xs]=some (.list xs):=id rfl
def qdz {xs:List Bool}:qnx [.list (xs.map PyData.bool)]=some (.bool (xs.all id)):=by simp only [qnx,qfM,Option.map_some]
def qfB {xs:List Int} (h:xs≠[]):mnD [.list (xs.map PyData.int)]=some (.int (mn xs)):=by simp only [mnD,D6,Option.bind_some];exact zU h
def qfF {xs:List Int} (h:xs≠[]):mxD [.list (xs.map PyData.int)]=some (.int (mx xs)):=by simp only [mxD,D6,Option.bind_some];exact zU h
def qj0 {xs:List Int} (h:xs.length<4000):qc2 (.list (xs.map PyData.int))=some (.int (EJ xs)):=by simp only [qc2,D6,Option.bind_some];exact zU h
def qgm {xs:List PyData}:qqo (.list xs)=some xs:=id rfl
def qnp {i:Int}:tyD (.int i)=some "int" := id rfl
def qnt {i:List PyData}:tyD (.tuple i)=some "tuple" := id rfl
def qiB {n a b:Bool}:qqz n (.bool a) (.bool b)=some (.bool (if n then a != b else a==b)):=id rfl
def qow {m:List Bool} {nw:Bool} {i:Nat} {v:Int} {ρ:Rho}:qbg m nw i (.int v) ρ=ρ.set i (.sh (.int v)):=id rfl
def qna {m:List Bool} {nw:Bool} {i:Nat} {v:Str} {ρ:Rho}:qbg m nw i (.str v) ρ=ρ.set i (.sh (.str v)):=id rfl
def qmJ {m:List Bool} {nw:Bool} {i:Nat} {ρ:Rho}:qbg m nw i .none ρ=ρ.set i (.sh .none):=id rfl
def qew {m:List Bool} {nw:Bool} {i:Nat} {v:List PyData} {ρ:Rho}:qbg m nw i (.tuple v) ρ=(dm m ρ).set i (.sh (.tuple v)):=by cases nw<;>rfl
def qhg {m:List Bool} {i:Nat} {v:List PyData} {ρ:Rho}:qbg m true i (.list v) ρ=(dm m ρ).set i (.ow v):=id rfl
def qpY {m:List Bool} {v:List PyData} {ρ:Rho}:dmS m (.list v) ρ=dm m ρ:=id rfl
def qsX {ρ:Rho}:dm [] ρ=ρ:=id rfl
def qs1 {m:List Bool} {s:Sl} {ρ:Rho}:dm (true::m) (s::ρ)=s.dem::dm m ρ:=id rfl
def qsN {m:List Bool} {s:Sl} {ρ:Rho}:dm (false::m) (s::ρ)=s::dm m ρ:=id rfl
def qoP {ds:List PyData}:(Sl.ow ds).dem=.sh (.list ds):=id rfl
def qnF {d:PyData}:(Sl.sh d).dem=.sh d:=id rfl
def qp0 {ρ:Rho}:qas [] ρ=[]:=id rfl
def qoT {m:List (Option Nat)} {ρ:Rho}:qas (none::m) ρ=.un::qas m ρ:=id rfl
def cp (o:Option PyData):Sl:=match o with|some d=>.sh d|none=>.un
def qmh {m:List (Option Nat)} {j:Nat} {ρ:Rho}:qas (some j::m) ρ=cp (vw ρ j)::qas m ρ:=id rfl
def qsS {d:PyData}:cp (some d)=.sh d:=id rfl
def qhG {pi:Rho->Option (List PyData)} {m:List Bool} {gf:PyData->Option (List (Nat×PyData))} {bf:Nat->Rho->Option Ot} {n:Nat} {ρ:Rho}:qo6 pi true m gf bf n ρ=(pi ρ).bind λds=>M2 gf (bf n) ds ρ:=id rfl
def qg6 {pi:Rho->Option (List PyData)} {m:List Bool} {gf:PyData->Option (List (Nat×PyData))} {bf:Nat->Rho->Option Ot} {n:Nat} {ρ:Rho}:qo6 pi false m gf bf n ρ=(pi ρ).bind λds=>M2 gf (bf n) ds (dm m ρ):=id rfl
def qiC {ρ:Rho}:J5 ρ []=ρ:=id rfl
def qiN {ρ:Rho} {i:Nat} {d:PyData} {r:List (Nat×PyData)}:J5 ρ ((i,d)::r)=J5 (ρ.set i (.sh d)) r:=id rfl
def ZX {gf:PyData->Option (List (Nat×PyData))} {cf:Rho->Option Bool} {ef:Rho->Option PyData} {ρ:Rho} {d:PyData}:lcH gf cf ef ρ d=(gf d).bind λbs=>(cf (J5 ρ bs)).bind λk=>if k then (ef (J5 ρ bs)).map some else some none:=id rfl
def qh8 {gf:PyData->Option (List (Nat×PyData))} {cf:Rho->Option Bool} {it:Rho->Option (List PyData)} {h:Rho->PyData->Option (Option PyData)} {ρ:Rho} {d:PyData}:qmp gf cf it h ρ d=(gf d).bind λbs=>(cf (J5 ρ bs)).bind λk=>if k then ((it (J5 ρ bs)).bind λds=>lcP (h (J5 ρ bs)) ds).map some else some none:=id rfl
def Nx (o:Option Ot) (P:Rho->Prop):Prop:=match o with|some (.nx ρ)=>P ρ|some (.ct ρ)=>P ρ|_=>False
def qpI {ρ:Rho} {P:Rho->Prop}:Nx (some (.nx ρ)) P=P ρ:=id rfl
def qmg {o:Option Ot} {P:Rho->Prop} (h:Nx o P):∃ ρ,(o=some (.nx ρ)\/o=some (.ct ρ))/\P ρ:=by
 unfold Nx at h;split at h
 ·exact ⟨_,.inl rfl,h⟩
 ·exact ⟨_,.inr rfl,h⟩
 ·exact h.elim
section
variable {gf:PyData->Option (List (Nat×PyData))} {bf:Rho->Option Ot} {α:Type} {g:α->PyData} {ρ:Rho} {Q:Option Ot->Prop} {F:Ot->Option Ot}
def LV (xs:List α) (I:Nat->Rho->Prop) (h0:I 0 ρ) (hs:∀ i x ρ,xs[i]?=some x->I i ρ->Nx ((gf (g x)).bind λbs=>bf (J5 ρ bs)) (I (i+1))) (k:∀ ρ',I xs.length ρ'->Q (some (.nx ρ'))):Q (M2 gf bf (xs.map g) ρ):=by
 obtain ⟨ρ',e,h⟩:=qgd (gf:=gf) (bf:=bf) (g:=g) xs I h0 λi x ρ hx hi=>by
  obtain ⟨ρ2,e,h⟩:=qmg (hs i x ρ hx hi);cases e1:gf (g x) with
  |none=>rw [e1] at e;rcases e with e|e<;>cases e
  |some bs=>rw [e1] at e;exact ⟨bs,ρ2,rfl,e,h⟩
 rw [e];exact k ρ' h
def XZ (xs:List α) (I:Nat->Rho->Prop) (h0:I 0 ρ) (hs:∀ i x ρ,xs[i]?=some x->I i ρ->Nx ((gf (g x)).bind λbs=>bf (J5 ρ bs)) (I (i+1))) (k:∀ ρ',I xs.length ρ'->Q (F (.nx ρ'))):Q ((M2 gf bf (xs.map g) ρ).bind F):=
 LV (Q:=λo=>Q (o.bind F)) xs I h0 hs k
def C8 (xs:List α) (n:Nat) (x:α) (d:PyData) (b:Bool) (hn:xs[n]?=some x) (I:Nat->Rho->Prop) (h0:I 0 ρ) (hs:∀ i x ρ,i<n->xs[i]?=some x->I i ρ->Nx ((gf (g x)).bind λbs=>bf (J5 ρ bs)) (I (i+1))) (he:∀ ρ,I n ρ->((gf (g x)).bind λbs=>bf (J5 ρ bs))=some (.rt d b)) (k:Q (some (.rt d b))):Q (M2 gf bf (xs.map g) ρ):=by
 rw [qcQ (gf:=gf) (bf:=bf) (g:=g) xs n x hn I h0 (λi x ρ hi hx hI=>by
  obtain ⟨ρ2,e,h⟩:=qmg (hs i x ρ hi hx hI);cases e1:gf (g x) with
  |none=>rw [e1] at e;rcases e with e|e<;>cases e
  |some bs=>rw [e1] at e;exact ⟨bs,ρ2,rfl,e,h⟩) (o:=.rt d b) λρ hI=>by
  have:=he ρ hI;cases e1:gf (g x) with
  |none=>rw [e1] at this;cases this
  |some bs=>rw [e1] at this;exact ⟨bs,rfl,.inl ⟨d,b,rfl,this⟩⟩]
 exact k
def qek (xs:List α) (n:Nat) (x:α) (d:PyData) (b:Bool) (hn:xs[n]?=some x) (I:Nat->Rho->Prop) (h0:I 0 ρ) (hs:∀ i x ρ,i<n->xs[i]?=some x->I i ρ->Nx ((gf (g x)).bind λbs=>bf (J5 ρ bs)) (I (i+1))) (he:∀ ρ,I n ρ->((gf (g x)).bind λbs=>bf (J5 ρ bs))=some (.rt d b)) (k:Q (F (.rt d b))):Q ((M2 gf bf (xs.map g) ρ).bind F):=
 C8 (Q:=λo=>Q (o.bind F)) xs n x d b hn I h0 hs he k
end
def qsQ {α:Type} {us:List α} (h:us.length=1):∃ a0,us=[a0]:=List.length_eq_one_iff.mp h
def qs9 {α:Type} {us:List α} (h:us.length=2):∃ a0 a1,us=[a0,a1]:=by
 obtain ⟨a0,r,rfl⟩:=List.exists_cons_of_length_pos (show 0<us.length by omega);obtain ⟨a1,rfl⟩:=qsQ (show r.length=1 by simpa using h);exact ⟨a0,a1,rfl⟩
def qsI {α:Type} {us:List α} (h:us.length=3):∃ a0 a1 a2,us=[a0,a1,a2]:=by
 obtain ⟨a0,r,rfl⟩:=List.exists_cons_of_length_pos (show 0<us.length by omega);obtain ⟨a1,a2,rfl⟩:=qs9 (show r.length=2 by simpa using h);exact ⟨a0,a1,a2,rfl⟩
def qsV {α:Type} {us:List α} (h:us.length=4):∃ a0 a1 a2 a3,us=[a0,a1,a2,a3]:=by
 obtain ⟨a0,r,rfl⟩:=List.exists_cons_of_length_pos (show 0<us.length by omega);obtain ⟨a1,a2,a3,rfl⟩:=qsI (show r.length=3 by simpa using h);exact ⟨a0,a1,a2,a3,rfl⟩
def qtd {α:Type} {us:List α} (h:us.length=5):∃ a0 a1 a2 a3 a4,us=[a0,a1,a2,a3,a4]:=by
 obtain ⟨a0,r,rfl⟩:=List.exists_cons_of_length_pos (show 0<us.length by omega);obtain ⟨a1,a2,a3,a4,rfl⟩:=qsV (show r.length=4 by simpa using h);exact ⟨a0,a1,a2,a3,a4,rfl⟩
def qtM {α:Type} {us:List α} (h:us.length=6):∃ a0 a1 a2 a3 a4 a5,us=[a0,a1,a2,a3,a4,a5]:=by
 obtain ⟨a0,r,rfl⟩:=List.exists_cons_of_length_pos (show 0<us.length by omega);obtain ⟨a1,a2,a3,a4,a5,rfl⟩:=qtd (show r.length=5 by simpa using h);exact ⟨a0,a1,a2,a3,a4,a5,rfl⟩
end Pu
namespace Pv
open PySem L2 L3 Pu
def RN:PuS (Bk.LM):=(V2 (bLc (MW (qi (bV 2) qW)) (gN 0) bTt (M4 (qi (bO (opC JJ (·*·)) (bV 0) (bV 1)) (qi (bO (opC JJ (·*·)) (bV 0) (bV 2)) qW)) ⟨rfl⟩) [none,some 0,some 1] ⟨rfl⟩))
def jW:List PyData->Option PyData:=run (RN).f 3 3 1000000000 true
def qd0:∀ ts G q,PSp (jW) true ts G q->ts.length=3/\Bk.LM { nx:=λ_ G'=>q .non G',rt:=q } (qm ["down","along","many"] ts) G:=zo (RN) ["down","along","many"] 3 1000000000 true
def qeD {x0 x1 x2:PyData}:jW [x0,x1,x2]=VW true ((RN).f 1000000000 [.sh x0,.sh x1,.sh x2]):=id rfl
def QL (jW:List PyData->Option PyData):PuS (Bk.CC (PSp jW true)):=(JE (qad (bO J4 (bV 0) (j7 0)) 1 [true] ⟨rfl⟩) (JE (sIf (bTb (bO (LH false) (bV 1) (qis "cells"))) (V2 (qE qqK (qi (bO J4 (bV 0) (j7 1)) qW))) VY) (JE (sIf (bTb (bO (LH false) (bV 1) (qis "block"))) (V2 (qqD (MW (qi (bO J4 (bV 0) (j7 1)) qW)) (gN 0) bTt (MW (qi (bO J4 (bV 2) (j7 2)) qW)) (gN 1) bTt (M4 (qi (bV 0) (qi (bV 1) qW)) ⟨rfl⟩) [none,none,some 0] ⟨rfl⟩ ⟨rfl⟩ ⟨rfl⟩)) VY) (JE (sIf (bTb (bO (LH false) (bV 1) (qis "step"))) (V2 (qE (zj jW true) (qi (bO J4 (bV 0) (j7 1)) (qi (bO J4 (bV 0) (j7 2)) (qi (bO J4 (bV 0) (j7 3)) qW))))) VY) (JE (ME (qlv WJ (bV 1)) (M1 2 (zW (gN 2) (zW (gN 3) M3))) [false,true] ⟨rfl⟩) (V2 (qE (zj jW true) (qi (bV 2) (qi (bV 3) (qi (bO J4 (bV 0) (j7 1)) qW))))))))))
def zc:List PyData->Option PyData:=run (QL jW).f 1 4 1000000000 true
def qaT:∀ ts G q,PSp (zc) true ts G q->ts.length=1/\Bk.CC (PSp jW true) { nx:=λ_ G'=>q .non G',rt:=q } (qm ["walk","kind","down","along"] ts) G:=zo (QL jW) ["walk","kind","down","along"] 1 1000000000 true
def YY {x0:PyData}:zc [x0]=VW true ((QL jW).f 1000000000 [.sh x0,.un,.un,.un]):=id rfl
def ZD:PuS (Bk.YT):=(JE (qgA (MW (qi (qE qe1 (qi (bV 0) qW)) qW)) (gN 1) (qgA (MW (qi (bO KC (bV 1) (j7 1)) (qi (qE qe1 (qi (bV 0) qW)) qW))) (gN 2) (sIf (bTb (bO (LH false) (bO J4 (bV 0) (bV 1)) (bO J4 (bV 0) (bV 2)))) (V2 (M4 (qi (bV 1) (qi (bV 2) qW)) ⟨rfl⟩)) VY) [true,true] ⟨rfl⟩) [true] ⟨rfl⟩) (V2 qdC))
def qX:List PyData->Option PyData:=run (ZD).f 1 3 1000000000 false
def T0:∀ ts G q,PSp (qX) false ts G q->ts.length=1/\Bk.YT { nx:=λ_ G'=>q .non G',rt:=q } (qm ["things","k","l"] ts) G:=zo (ZD) ["things","k","l"] 1 1000000000 false
def KA {x0:PyData}:qX [x0]=VW false ((ZD).f 1000000000 [.sh x0,.un,.un]):=id rfl
open Bk (Wk Dl jS jM EG lnD lnA)
def pD (p:Int×Int):PyData:=.tuple [.int p.1,.int p.2]
def Wk.d:Wk->PyData
 |.line k m=>.tuple [.str (EG k),.int m]
 |.block h w=>.tuple [.str "block",.int h,.int w]
 |.step d a m=>.tuple [.str "step",.int d,.int a,.int m]
 |.cells ps=>.tuple [.str "cells",.tuple (ps.map pD)]
def qhk (r:List Int):PyData:=.tuple (r.map PyData.int)
def dlD:Dl->PyData
 |.skew r c b x y=>.tuple [.str "skew",.int r,.int c,.int b,.int x,.int y]
 |.rests r c b p=>.tuple [.str "rests",.int r,.int c,.int b,.int p]
 |.bits h l ms=>.tuple [.str "bits",.int h,.int l,.tuple (ms.map PyData.int)]
 |.table b cells=>.tuple [.str "table",.int b,.tuple (cells.map qhk)]
 |.joined d e=>.tuple [.str "joined",dlD d,dlD e]
theorem qdi (G:Gp):∀ (cs:List (List Int)),Dqs G (cs.map Bk.qbF) (cs.map qhk)
 |[]=>.nil
 |r::cs=>.cons (.tup (Dqs.ofInts r)) (qdi G cs)
theorem qkt (G:Gp):∀ (d:Dl),Dq G d.t (dlD d)
 |.skew r c b x y=>.tup (.cons (.str _) (.cons (.int _) (.cons (.int _) (.cons (.int _) (.cons (.int _) (.cons (.int _) .nil))))))
 |.rests r c b p=>.tup (.cons (.str _) (.cons (.int _) (.cons (.int _) (.cons (.int _) (.cons (.int _) .nil)))))
 |.bits h l ms=>.tup (.cons (.str _) (.cons (.int _) (.cons (.int _) (.cons (.tup (Dqs.ofInts ms)) .nil))))
 |.table b cells=>.tup (.cons (.str _) (.cons (.int _) (.cons (.tup (qdi G cells)) .nil)))
 |.joined d e=>.tup (.cons (.str _) (.cons (qkt G d) (.cons (qkt G e) .nil)))
theorem qbU (G:Gp):∀ (cs:List (Int×Int)),Dqs G (cs.map Bk.pT) (cs.map pD)
 |[]=>.nil
 |p::cs=>.cons (.tup (.cons (.int _) (.cons (.int _) .nil))) (qbU G cs)
def qr3 (G:Gp):∀ (w:Wk),Dq G w.t (Wk.d w)
 |.line k m=>.tup (.cons (.str _) (.cons (.int _) .nil))
 |.block h v=>.tup (.cons (.str _) (.cons (.int _) (.cons (.int _) .nil)))
 |.step d a m=>.tup (.cons (.str _) (.cons (.int _) (.cons (.int _) (.cons (.int _) .nil))))
 |.cells ps=>.tup (.cons (.str _) (.cons (.tup (qbU G ps)) .nil))
end Pv
namespace Pu
open PySem L2 L3
open Bk (Lf Ext)
section
variable {D:Addr->Prop} {a:Addr} {G G' G0:Gp} {n n':Nat} {fv gv:List Nat} {l:Nat} {τ:St3} {ρ:Rho}
def qeN (e:Ext a G G') (h:D a):Ex (rs D G) (rs D G'):=λb o x=>by
 obtain ⟨n,x⟩:=zb x;rw [ZY n];exact e b o (by rintro rfl;exact n h) x
def XN {k:Int} (h:Lf G a k):G a≠none:=by
 obtain ⟨o,c,m,e,_⟩:=h;rw [e];simp
def qa2 {k:Int} (hd:Dom D G) (e:Ext a G G') (lf:Lf G' a k):Dom D G':=λb hb z=>by
 by_cases h:b=a
 ·subst h;exact XN lf z
 ·cases g:G b with
  |none=>exact hd b hb g
  |some o=>rw [e b o h g] at z;cases z
def Nw.backx {x:T} {d:PyData} {k:Int} (h:Nw D G G' x d) (e:Ext a G0 G) (lf:Lf G a k):Nw D G0 G' x d:=by
 rcases h with h|⟨p,xs,ds,h1,h2,c,r⟩
 ·exact .inl h
 refine .inr ⟨p,xs,ds,h1,h2,?_,r⟩;cases z:G0 p with
 |none=>rfl
 |some o=>
  by_cases hp:p=a
  ·subst hp;exact absurd c (XN lf)
  ·rw [e p o hp z] at c;cases c
structure Ln (fv:List Nat) (l:Nat) (D:Addr->Prop) (G:Gp) (τ:St3) (ρ:Rho) (a:Addr) (n:Nat):Prop where
 v:KY fv D G τ ρ
 d:Dom D G
 da:D a
 tl:τ[l]?=some (some (.ref a))
 ul:vw ρ l=none
 lf:Lf G a n
theorem Ln.up (h:Ln fv l D G τ ρ a n) (e:Ext a G G') (lf:Lf G' a n'):Ln fv l D G' τ ρ a n':=
 ⟨λi hi d hd=>let ⟨t,x,y⟩:=h.v i hi d hd;⟨t,x,y.up (qeN e h.da)⟩,qa2 h.d e lf,h.da,h.tl,h.ul,lf⟩
def Ln.fst (h:Ln (fv++gv) l D G τ ρ a n):Ln fv l D G τ ρ a n:=⟨h.v.l,h.d,h.da,h.tl,h.ul,h.lf⟩
def Ln.snd (h:Ln (fv++gv) l D G τ ρ a n):Ln gv l D G τ ρ a n:=⟨h.v.r,h.d,h.da,h.tl,h.ul,h.lf⟩
end
abbrev QD:=PyData->Nat->Prop
structure PwE (l:Nat) (t:TE3) where
 w:Rho->Nat->QD->Prop
 fv:List Nat
 nw:Bool
 mono:∀ {ρ n} {Q Q':QD},w ρ n Q->(∀ d m,Q d m->Q' d m)->w ρ n Q'
 ok:∀ {D τ ρ G a n} {q:Q3} {Q:QD},Ln fv l D G τ ρ a n->w ρ n Q->(∀ x d G' n',Q d n'->Ext a G G'->Lf G' a n'->Dq (rs D G') x d->(nw=true->Nw D G G' x d)->q x G')->t τ G q
structure PwC (l:Nat) (t:TT3) where
 w:Rho->Nat->(Bool->Nat->Prop)->Prop
 fv:List Nat
 mono:∀ {ρ n} {Q Q':Bool->Nat->Prop},w ρ n Q->(∀ d m,Q d m->Q' d m)->w ρ n Q'
 ok:∀ {D τ ρ G a n} {q:Bool->Gp->Prop} {Q:Bool->Nat->Prop},Ln fv l D G τ ρ a n->w ρ n Q->(∀ k G' n',Q k n'->Ext a G G'->Lf G' a n'->q k G')->t τ G q
structure PwA (l:Nat) (t:TA3) where
 w:Rho->Nat->(List PyData->Nat->Prop)->Prop
 fv:List Nat
 k:Nat
 mono:∀ {ρ n} {Q Q':List PyData->Nat->Prop},w ρ n Q->(∀ d m,Q d m->Q' d m)->w ρ n Q'
 ok:∀ {D τ ρ G a n} {q:List T->Gp->Prop} {Q:List PyData->Nat->Prop},Ln fv l D G τ ρ a n->w ρ n Q->(∀ x d G' n',Q d n'->d.length=k->Ext a G G'->Lf G' a n'->Dqs (rs D G') x d->q x G')->t τ G q
structure PwI (l:Nat) (t:TI3) where
 w:Rho->Nat->(List PyData->Nat->Prop)->Prop
 fv:List Nat
 nm:Bool
 mono:∀ {ρ n} {Q Q':List PyData->Nat->Prop},w ρ n Q->(∀ d m,Q d m->Q' d m)->w ρ n Q'
 ok:∀ {D τ ρ G a n} {r:List T->(Gp->Prop)->Gp->Prop} {Q:List PyData->Nat->Prop},Ln fv l D G τ ρ a n->w ρ n Q ->
  (∀ items stay ds G' n',Q ds n'->Ext a G G'->Lf G' a n'->Dqs (rs D G') items ds->(∀ G'',(nm=true\/Ex (rs D G') G'')->stay G'')->(nm=true->∃ ns:List Int,ds=ns.map PyData.int)->r items stay G')->t τ G r
structure DrD (r:List T->Gp->Q3->Prop) where
 W:List PyData->Nat->QD->Prop
 nw:Bool
 mono:∀ {ds n} {Q Q':QD},W ds n Q->(∀ d m,Q d m->Q' d m)->W ds n Q'
 ok:∀ {D:Addr->Prop} {G:Gp} {a:Addr} {n:Nat} {ts:List T} {ds:List PyData} {q:Q3} {Q:QD},Lf G a n->D a->Dom D G->Dqs (rs D G) ts ds->W ds n Q->(∀ x d G' n',Q d n'->Ext a G G'->Lf G' a n'->Dq (rs D G') x d->(nw=true->Nw D G G' x d)->q x G')->r (.ref a::ts) G q
section
variable {l:Nat}
def eOf {t:TE3} (b:PuE t):PwE l t:=⟨λρ n Q=>∃ d,b.f ρ=some d/\Q d n,b.fv,b.nw,λ⟨d,h1,h2⟩ h=>⟨d,h1,h _ _ h2⟩,λh ⟨d,h1,h2⟩ k=>
 b.ok h.v h.d h1 λx G1 E1 D1 N1=>k x d G1 _ h2 (Bk.NO E1) (h.lf.ex E1) D1 N1⟩
def cOf {t:TT3} (b:PuC t):PwC l t:=⟨λρ n Q=>∃ d,b.f ρ=some d/\Q d n,b.fv,λ⟨d,h1,h2⟩ h=>⟨d,h1,h _ _ h2⟩,λh ⟨d,h1,h2⟩ k=>
 b.ok h.v h.d h1 λG1 E1=>k d G1 _ h2 (Bk.NO E1) (h.lf.ex E1)⟩
def aOf {t:TA3} (b:PuA t):PwA l t:=⟨λρ n Q=>∃ d,b.f ρ=some d/\Q d n,b.fv,b.n,λ⟨d,h1,h2⟩ h=>⟨d,h1,h _ _ h2⟩,λh ⟨d,h1,h2⟩ k=>
 b.ok h.v h.d h1 λx G1 E1 D1=>k x d G1 _ h2 (b.ln h1) (Bk.NO E1) (h.lf.ex E1) D1⟩
def iOf {t:TI3} (b:PuI t):PwI l t:=⟨λρ n Q=>∃ d,b.f ρ=some d/\Q d n,b.fv,b.nm,λ⟨d,h1,h2⟩ h=>⟨d,h1,h _ _ h2⟩,λh ⟨d,h1,h2⟩ k=>
 b.ok h.v h.d h1 λitems stay G1 E1 D1 s nm=>k items stay d G1 _ h2 (Bk.NO E1) (h.lf.ex E1) D1 s nm⟩
def qjY {ta:TE3} {tr:TA3} (a:PwE l ta) (r:PwA l tr):PwA l (qc ta tr):=
 ⟨λρ n Q=>a.w ρ n λx n1=>r.w ρ n1 λxs n2=>Q (x::xs) n2,a.fv++r.fv,r.k+1,λh k=>a.mono h λx n1 h=>r.mono h λxs n2 h=>k _ _ h,λh hw k=>
  a.ok h.fst hw λx dx G1 n1 h1 E1 L1 D1 _=>r.ok (h.snd.up E1 L1) h1 λy dy G2 n2 hq hl E2 L2 D2=>k _ _ G2 n2 hq (by simp [hl]) (E1.trans E2) L2 (.cons (D1.up (qeN E2 h.da)) D2)⟩
def qkK {r:List T->Gp->Q3->Prop} {t:TA3} (R:FnD r) (b:PwA l t):PwE l (cb3 r t):=⟨λρ n Q=>b.w ρ n λxs n1=>∃ v,R.f xs=some v/\Q v n1,b.fv,R.nw,λh k=>b.mono h λxs n1 ⟨v,h1,h2⟩=>⟨v,h1,k _ _ h2⟩,λh hw k=>
 b.ok h hw λx dx G1 n1 ⟨v,e,hq⟩ hl E1 L1 D1=>R.ok D1 (qa2 h.d E1 L1) e λz G3 E3 D3 N3=>k z v G3 n1 hq (E1.trans (Bk.NO E3)) (L1.ex E3) D3 λz=>(N3 z).backx E1 L1⟩
def eDr {r:List T->Gp->Q3->Prop} {t:TA3} (R:DrD r) (b:PwA l t):PwE l (cb3 r (qc (v3 l) t)):=⟨λρ n Q=>b.w ρ n λxs n1=>R.W xs n1 Q,b.fv,R.nw,λh k=>b.mono h λxs n1 h=>R.mono h k,λ{D τ ρ G a n q Q} h hw k=>by
 simp only [cb3,qc,v3,h.tl];exact b.ok h hw λx dx G1 n1 hW hl E1 L1 D1=>R.ok L1 h.da (qa2 h.d E1 L1) D1 hW λz d G3 n3 hq E3 L3 D3 N3=>k z d G3 n3 hq (E1.trans E3) L3 D3 λz=>(N3 z).backx E1 L1⟩
end
def VA.ext {D:Addr->Prop} {a:Addr} {G G':Gp} {τ:St3} {ρ:Rho} (h:VA D G τ ρ) (e:Ext a G G') (da:D a):VA D G' τ ρ:=h.upx (qeN e da)
structure RL (l:Nat) (a:Addr) (z0:Option (Option T)×Nat) (D:Addr->Prop) (G0:Gp) (A:Nat->Addr->Prop) (τ:St3) (ρ:Rho) (G:Gp) (n:Nat):Prop where
 r:RS D G0 A τ ρ G
 al:A l a
 tl:τ[l]?=some (some (.ref a))
 ul:ρ[l]?=some Sl.un
 lf:Lf G a n
 tz:τ[0]?=z0.1/\τ.length=z0.2
section
variable {l:Nat} {a:Addr} {z0:Option (Option T)×Nat} {D:Addr->Prop} {G0 G G':Gp} {A:Nat->Addr->Prop} {τ:St3} {ρ:Rho} {n n':Nat}
def RL.vl (h:RL l a z0 D G0 A τ ρ G n):vw ρ l=none:=by unfold vw;rw [h.ul];rfl
def RL.up (h:RL l a z0 D G0 A τ ρ G n) (e:Ext a G G') (lf:Lf G' a n'):RL l a z0 D G0 A τ ρ G' n':=
 ⟨h.r.keep (W:=λb=>b=a) e λb z=>⟨l,by rw [z];exact h.al,h.ul,by rw [z];exact XN lf⟩,h.al,h.tl,h.ul,lf,h.tz⟩
def RL.ne (h:RL l a z0 D G0 A τ ρ G n) {i:Nat} {p:Addr} {s:Sl} (hp:A i p) (e:ρ[i]?=some s) (hs:s≠.un):p≠a:=by
 rintro rfl;have:=h.r.inj i l _ hp h.al;subst this;rw [h.ul] at e;cases e;exact hs rfl
def RL.all (h:RL l a z0 D G0 A τ ρ G n) (fv:List Nat):Ln fv l (λb=>D b\/b=a) G τ ρ a n:=by
 refine ⟨λi _ d hd=>?_,λb hb=>?_,.inr rfl,h.tl,h.vl,h.lf⟩
 ·unfold vw at hd;obtain ⟨s,e,hd⟩:=obb hd;refine (h.r.sl i s e).vis hd (QE λb z=>?_) λp o q g=>?_
  ·rcases z with z|z
   ·exact .inl z
   ·subst z;exact .inr ⟨l,h.al⟩
  ·rw [ZY]
   ·exact g
   ·rintro (z|z)
    ·exact h.r.nd q z
    ·exact h.ne q e (by rintro rfl;cases hd) z
 ·rcases hb with hb|hb
  ·exact h.r.domD b hb
  ·subst hb;exact XN h.lf
def qsF {m:List Bool} (hm:mkb m l=false) (al:A l a):Ad m A l a:=⟨al,hm⟩
theorem RL.dem (h:RL l a z0 D G0 A τ ρ G n) {m:List Bool} (hm:mkb m l=false):RL l a z0 D G0 (Ad m A) τ (Pu.dm m ρ) G n:=
 ⟨h.r.dem m,qsF hm h.al,h.tl,by rw [qfx,h.ul];simp [hm],h.lf,h.tz⟩
def RL.ln (h:RL l a z0 D G0 A τ ρ G n) {m:List Bool} {fv:List Nat} (hm:mkb m l=false) (hf:Tru (fv.all (mkb m))):Ln fv l (AD D (Ad m A)) G τ ρ a n:=
 ⟨h.r.viewD hf,(h.r.dem m).dom,.inr ⟨l,qsF hm h.al⟩,h.tl,h.vl,h.lf⟩
theorem RL.put (h:RL l a z0 D G0 A τ ρ G n) {i:Nat} (hi:i≠l) (h0:i≠0) {x:T} {d:PyData} (hx:Dq (rs (AD D A) G) x d):RL l a z0 D G0 (Er A i) (τ.set i (some x)) (ρ.set i (.sh d)) G n:=
 ⟨h.r.put i hx,(.inr ⟨λz=>hi z.symm,h.al⟩),by rw [getElem?_set,if_neg hi];exact h.tl,by rw [getElem?_set,if_neg hi];exact h.ul,h.lf,⟨by rw [getElem?_set,if_neg h0];exact h.tz.1,by rw [List.length_set];exact h.tz.2⟩⟩
theorem RL.puts:∀ {ts:List (Nat×T)} {bs:List (Nat×PyData)} {A:Nat->Addr->Prop} {τ:St3} {ρ:Rho},RL l a z0 D G0 A τ ρ G n->Bd (rs (AD D A) G) ts bs->(∀ p∈bs,p.1≠l/\p.1≠0)->∃ A',RL l a z0 D G0 A' (sets τ ts) (J5 ρ bs) G n
 |_,_,A,_,_,h,.nil,_=>⟨A,h⟩
 |_,_,A,_,_,h,.cons x b,hn=>by
  unfold sets J5;exact RL.puts (h.put (hn _ za6).1 (hn _ za6).2 x) (b.up qm1) (λp hp=>hn p (u9 _ hp))
theorem RL.upd (h:RL l a z0 D G0 A τ ρ G n) {i:Nat} (hi:i≠l) (h0:i≠0) {x:T} {s:Sl} {B:Addr->Prop} (hg:∀ b o,b≠a->¬ A i b->G b=some o->G' b=some o) (lf:Lf G' a n') (hB:∀ b,B b->(A i b\/G b=none)/\G' b≠none)
  (hs:Ex (rs (AD D A) G) (rs (AD D (Rg A i B)) G')->SlR (rs (AD D (Rg A i B)) G') G' B (some (some x)) s):RL l a z0 D G0 (Rg A i B) (τ.set i (some x)) (ρ.set i s) G' n':=
 ⟨h.r.upd i (W:=λb=>b=a\/A i b) (λb o w z=>hg b o (λy=>w (.inl y)) (λy=>w (.inr y)) z) (λb z=>by
  rcases z with z|z
  ·exact ⟨l,by rw [z];exact h.al,.inr ⟨h.ul,by rw [z];exact XN lf⟩⟩
  ·exact ⟨i,z,.inl rfl⟩) hB hs,.inr ⟨λz=>hi z.symm,h.al⟩,by rw [getElem?_set,if_neg hi];exact h.tl,by rw [getElem?_set,if_neg hi];exact h.ul,lf,⟨by rw [getElem?_set,if_neg h0];exact h.tz.1,by rw [List.length_set];exact h.tz.2⟩⟩
def RL.putN (h:RL l a z0 D G0 A τ ρ G n) {i:Nat} (hi:i≠l) (h0:i≠0) {x:T} {d:PyData} {ds:List PyData} (hd:d=.list ds) (E:Ext a G G') (lf:Lf G' a n') (hx:Nw (AD D A) G G' x d):∃ A',RL l a z0 D G0 A' (τ.set i (some x)) (ρ.set i (.ow ds)) G' n':=by
 rcases hx with hx|⟨p,xs,ds',rfl,e',gp,gp',hs⟩
 ·rw [hd] at hx;cases hx
 rw [hd] at e';cases e';refine ⟨_,h.upd hi h0 (B:=λb=>b=p) (λb o w _ z=>E b o w z) lf (λb z=>by subst z;exact ⟨.inr gp,by rw [gp'];simp⟩) λ_=>⟨p,xs,rfl,rfl,gp',hs.up (QE λb z=>?_)⟩⟩;rcases z with z|⟨j,⟨_,z⟩|⟨_,z⟩⟩
 ·exact .inl (.inl z)
 ·exact .inr z
 ·exact .inl (.inr ⟨j,z⟩)
theorem RL.wr (h:RL l a z0 D G0 A τ ρ G n) {i:Nat} {p:Addr} {xs:List T} {ds ds0:List PyData} (ho:ρ[i]?=some (Sl.ow ds0)) (hi:A i p) (ht:τ[i]?=some (some (.ref p))) (hs:Dqs (rs (AD D A) G) xs ds):RL l a z0 D G0 A τ (ρ.set i (.ow ds)) (gu G p (.lst xs)) n:=by
 have il:i≠l:=by rintro rfl;rw [h.ul] at ho;cases ho
 have pa:p≠a:=by rintro rfl;exact il (h.r.inj i l _ hi h.al)
 exact ⟨h.r.wr hi ht hs,h.al,h.tl,by rw [getElem?_set,if_neg il];exact h.ul,h.lf.new pa,h.tz⟩
end
abbrev QO:=Ot->Nat->Prop
def qdr (l:Nat) (a:Addr) (z0:Option (Option T)×Nat) (D:Addr->Prop) (G0:Gp) (e:Ends3):Ot->Nat->Prop
 |.nx ρ,n=>∀ A τ G,RL l a z0 D G0 A τ ρ G n->e.nx τ G
 |.bk ρ,n=>∀ A τ G,RL l a z0 D G0 A τ ρ G n->e.bk τ G
 |.ct ρ,n=>∀ A τ G,RL l a z0 D G0 A τ ρ G n->e.ct τ G
 |.rt d fr,n=>∀ x G,Ex G0 G->Lf G a n->Dq (rs (λb=>D b\/b=a) G) x d->(fr=true->Nw (λb=>D b\/b=a) G0 G x d)->e.rt x G
structure PwS (l:Nat) (t:TS3) where
 w:Rho->Nat->QO->Prop
 mono:∀ {ρ n} {Q Q':QO},w ρ n Q->(∀ o m,Q o m->Q' o m)->w ρ n Q'
 ok:∀ {a z0 D G0 A τ ρ G n} {e:Ends3} {Q:QO},RL l a z0 D G0 A τ ρ G n->w ρ n Q->(∀ o m,Q o m->qdr l a z0 D G0 e o m)->t e τ G
section
variable {l:Nat}
def qdB:PwS l qt:=⟨λρ n Q=>Q (.nx ρ) n,λh k=>k _ _ h,λh hw k=>k _ _ hw _ _ _ h⟩
def sqw (b:Rho->Nat->QO->Prop) (Q:QO):QO:=λo n=>match o with|.nx ρ'=>b ρ' n Q|o=>Q o n
def qeg {t u:TS3} (x:PwS l t) (y:PwS l u):PwS l (qw t u):=⟨λρ n Q=>x.w ρ n (sqw y.w Q),λh k=>x.mono h λo m h=>by
  cases o with
  |nx ρ=>exact y.mono h k
  |bk ρ=>exact k _ _ h
  |ct ρ=>exact k _ _ h
  |rt d f=>exact k _ _ h,λh hw k=>x.ok h hw λo m h=>by
  cases o with
  |nx ρ=>exact λA τ G r=>y.ok r h k
  |bk ρ=>exact k _ _ h
  |ct ρ=>exact k _ _ h
  |rt d f=>exact k _ _ h⟩
def wIf {c:TT3} {t u:TS3} (pc:PwC l c) (x:PwS l t) (y:PwS l u):PwS l (qV c t u):=⟨λρ n Q=>pc.w ρ n λk n1=>if k then x.w ρ n1 Q else y.w ρ n1 Q,λh k=>pc.mono h λj m h=>by
  cases j with
  |true=>rw [if_pos rfl] at h ⊢;exact x.mono h k
  |false=>exact y.mono h k,λh hw k=>pc.ok (h.all _) hw λj G1 n1 hj E1 L1=>by
  cases j with
  |true=>rw [if_pos rfl] at hj ⊢;exact x.ok (h.up E1 L1) hj k
  |false=>exact y.ok (h.up E1 L1) hj k⟩
def qky {a:Addr} {z0:Option (Option T)×Nat} {D:Addr->Prop} {G0 G G':Gp} {A:Nat->Addr->Prop} {τ:St3} {ρ:Rho} {n:Nat} (h:RL l a z0 D G0 A τ ρ G n) (e:Ext a G G'):Ex G0 G':=λb o x=>e b o (by rintro rfl;rw [h.r.fr l _ h.al] at x;cases x) (h.r.ex b o x)
def qn6 {t:TE3} (x:PwE l t):PwS l (qB t):=⟨λρ n Q=>x.w ρ n λd n1=>Q (.rt d x.nw) n1,λh k=>x.mono h λd m h=>k _ _ h,λh hw k=>x.ok (h.all _) hw λy d G1 n1 hq E1 L1 D1 N1=>k _ _ hq y G1 (qky h E1) L1 D1 λz=>(N1 z).back h.r.ex⟩
def qiL {t:TE3} (x:PwE l t) (i:Nat) (m:List Bool) (hm:Tru (x.fv.all (mkb m))) (hl:Tru (!mkb m l&&(i != l&&i != 0))):PwS l (qH t (gn3 i)):=⟨λρ n Q=>x.w ρ n λd n1=>Q (.nx (qbg m x.nw i d ρ)) n1,λh k=>x.mono h λd m h=>k _ _ h,λ{a z0 D G0 A τ ρ G n e Q} h hw k=>by
 have hl':mkb m l=false/\i≠l/\i≠0:=by simpa using hl.h
 refine x.ok (h.ln hl'.1 hm) hw λy d G1 n1 hq E1 L1 D1 N1=>?_;have k:=k _ _ hq;unfold qbg at k;show e.nx (τ.set i (some y)) G1;split at k
 ·rename_i hs;exact k _ _ _ ((h.up E1 L1).put hl'.2.1 hl'.2.2 (SR D1 hs))
 ·split at k
  ·rename_i hn;have N:=N1 hn;rcases id N with h2|⟨p,xs,ds,h1,h2,_⟩
   ·exact absurd h2 (by assumption)
   subst h2;obtain ⟨A',r⟩:=(h.dem hl'.1).putN hl'.2.1 hl'.2.2 rfl E1 L1 N;exact k _ _ _ r
  ·exact k _ _ _ (((h.dem hl'.1).up E1 L1).put hl'.2.1 hl'.2.2 D1)⟩
def RL.evalS {a:Addr} {z0:Option (Option T)×Nat} {D:Addr->Prop} {G0 G:Gp} {A:Nat->Addr->Prop} {τ:St3} {ρ:Rho} {n:Nat} (h:RL l a z0 D G0 A τ ρ G n) {t:TE3} (x:PwE l t) (m:List Bool) (hm:Tru (x.fv.all (mkb m))) (hl:mkb m l=false) {Q:QD} (hw:x.w ρ n Q) (q:Q3) (k:∀ y d G' n' A1,Q d n'->RL l a z0 D G0 A1 τ (dmS m d ρ) G' n'->Ext a G G'->Dq (rs (AD D A1) G') y d->q y G'):t τ G q:=by
 refine x.ok (h.ln hl hm) hw λy d G1 n1 hq E1 L1 D1 _=>?_;by_cases hs:qcO d=true
 ·exact k y d G1 n1 A hq (by unfold dmS;rw [if_pos hs];exact h.up E1 L1) E1 (SR D1 hs)
 ·exact k y d G1 n1 _ hq (by unfold dmS;rw [if_neg hs];exact (h.dem hl).up E1 L1) E1 D1
def qfG (gf:PyData->Option (List (Nat×PyData))) (bw:Rho->Nat->QO->Prop):List PyData->Rho->Nat->QO->Prop
 |[],ρ,n,Q=>Q (.nx ρ) n
 |d::r,ρ,n,Q=>∃ bs,gf d=some bs/\bw (J5 ρ bs) n λo n1=>match o with
  |.nx ρ'=>qfG gf bw r ρ' n1 Q
  |.ct ρ'=>qfG gf bw r ρ' n1 Q
  |.bk ρ'=>Q (.nx ρ') n1
  |.rt d b=>Q (.rt d b) n1
theorem SI {g:TG3} {tb:TS3} (pg:PuG g) (pb:PwS l tb):∀ {ds:List PyData} {ρ:Rho} {n:Nat} {Q Q':QO},qfG pg.f pb.w ds ρ n Q->(∀ o m,Q o m->Q' o m)->qfG pg.f pb.w ds ρ n Q'
 |[],_,_,_,_,h,k=>k _ _ h
 |d::r,_,_,_,_,⟨bs,e,h⟩,k=>⟨bs,e,pb.mono h λo m h=>by
   cases o with
   |nx ρ=>exact SI pg pb h k
   |ct ρ=>exact SI pg pb h k
   |bk ρ=>exact k _ _ h
   |rt d b=>exact k _ _ h⟩
theorem LU {stay:Gp->Prop} {g:TG3} {tb:TS3} {e:Ends3} (pg:PuG g) (pb:PwS l tb) {a:Addr} {z0:Option (Option T)×Nat} {D:Addr->Prop} {G0:Gp} {Q:QO} (hl:∀ i∈pg.tg,i≠l/\i≠0) (hs:∀ A τ ρ G n,RL l a z0 D G0 A τ ρ G n->stay G) (k:∀ o m,Q o m->qdr l a z0 D G0 e o m) :
  ∀ (ds:List PyData) (items:List T),(∀ A τ ρ G n,RL l a z0 D G0 A τ ρ G n->Dqs (rs (AD D A) G) items ds)->∀ A τ ρ G n,RL l a z0 D G0 A τ ρ G n->qfG pg.f pb.w ds ρ n Q->MX stay g tb e items τ G
 |[],items,hi,A,τ,ρ,G,n,h,hw=>by
  have:=hi _ _ _ _ _ h;cases this;exact ⟨hs _ _ _ _ _ h,k _ _ hw _ _ _ h⟩
 |d::ds,items,hi,A,τ,ρ,G,n,h,⟨bs,e1,hw⟩=>by
  have hh:=hi _ _ _ _ _ h;cases hh with
  |cons hx hr=>
   rename_i x items;obtain ⟨ts,bd,kg⟩:=pg.ok hx e1;refine ⟨hs _ _ _ _ _ h,kg _ _ _ ?_⟩;obtain ⟨A',h'⟩:=h.puts bd λp hp=>hl _ (pg.at' e1 p hp);have hi':∀ A τ ρ G n,RL l a z0 D G0 A τ ρ G n->Dqs (rs (AD D A) G) items ds:=λA τ ρ G n h=>by
    have:=hi _ _ _ _ _ h;cases this with
    |cons a b=>exact b
   refine pb.ok h' hw λo m hq=>?_;cases o with
   |nx ρ'=>exact λA2 τ2 G2 h2=>LU pg pb hl hs k ds items hi' _ _ _ _ _ h2 hq
   |ct ρ'=>exact λA2 τ2 G2 h2=>LU pg pb hl hs k ds items hi' _ _ _ _ _ h2 hq
   |bk ρ'=>exact k _ _ hq
   |rt d fr=>exact k _ _ hq
theorem RL.base {a:Addr} {z0:Option (Option T)×Nat} {D:Addr->Prop} {G0 Gb G:Gp} {A:Nat->Addr->Prop} {τ:St3} {ρ:Rho} {n:Nat} (h:RL l a z0 D Gb A τ ρ G n) (e:Ex G0 Gb) (hd:Dom D G0):RL l a z0 D G0 A τ ρ G n:=⟨h.r.base e hd,h.al,h.tl,h.ul,h.lf,h.tz⟩
theorem qdr.base {a:Addr} {z0:Option (Option T)×Nat} {D:Addr->Prop} {G0 Gb:Gp} {e:Ends3} {o:Ot} {n:Nat} (h:qdr l a z0 D G0 e o n) (x:Ex G0 Gb) (hd:Dom D G0):qdr l a z0 D Gb e o n:=by
 cases o with
 |nx ρ=>exact λA τ G r=>h A τ G (r.base x hd)
 |bk ρ=>exact λA τ G r=>h A τ G (r.base x hd)
 |ct ρ=>exact λA τ G r=>h A τ G (r.base x hd)
 |rt d fr=>exact λy G p q r z=>h y G (x.trans p) q r λw=>(z w).back x
def qti {wi:TI3} {g:TG3} {tb:TS3} (pi:PwI l wi) (pg:PuG g) (pb:PwS l tb) (m:List Bool) (hm:Tru (pi.fv.all (mkb m))) (hl:Tru (!mkb m l&&pg.tg.all (λi=>i != l&&i != 0))):PwS l (RM wi g tb):=⟨λρ n Q=>pi.w ρ n λds n1=>qfG pg.f pb.w ds (if pi.nm then ρ else dm m ρ) n1 Q,λh k=>pi.mono h λd m h=>SI pg pb h k,λ{a z0 D G0 A τ ρ G n e Q} h hw k=>by
 have hl':mkb m l=false/\∀ i∈pg.tg,i≠l/\i≠0:=by simpa using hl.h
 refine pi.ok (h.ln hl'.1 hm) hw λitems stay ds G1 n1 hq E1 L1 D1 hs hnm=>?_;cases hb:pi.nm with
 |true=>
  rw [hb,if_pos rfl] at hq;obtain ⟨ns,rfl⟩:=hnm hb;have:=D1.ints;subst this;exact LU pg pb hl'.2 (λ_ _ _ _ _ _=>hs _ (.inl hb)) k _ _ (λA τ ρ G _ _=>Dqs.ofInts _) _ _ _ _ _ (h.up E1 L1) hq
 |false=>
  rw [hb,if_neg v7] at hq;have h1:=(h.dem hl'.1).up E1 L1;have b1:Ex G0 (rs (λb=>∃ i,Ad m A i b) G1):=λb o e=>by
   rw [ZY]
   ·exact h1.r.ex _ _ e
   ·rintro ⟨i,z⟩;rw [h1.r.fr i _ z] at e;cases e
  have h2:RL l a z0 D (rs (λb=>∃ i,Ad m A i b) G1) (Ad m A) τ (dm m ρ) G1 n1:=⟨⟨V0,h.r.dm.up b1,λi p z=>by unfold rs;exact zU ⟨i,z⟩,h1.r.da,h1.r.inj,h1.r.len,h1.r.sl⟩,h1.al,h1.tl,h1.ul,h1.lf,h1.tz⟩
  have X:∀ A2 τ2 ρ2 G2,RS D (rs (λb=>∃ i,Ad m A i b) G1) A2 τ2 ρ2 G2->Ex (rs (AD D (Ad m A)) G1) (rs (AD D A2) G2):=λA2 τ2 ρ2 G2 r b o e=>by
   obtain ⟨n1,e⟩:=zb e;have eb:rs (λb=>∃ i,Ad m A i b) G1 b=some o:=by rw [ZY (λz=>n1 (.inr z))];exact e
   rw [ZY]
   ·exact r.ex _ _ eb
   ·rintro (z|⟨i,z⟩)
    ·exact n1 (.inl z)
    ·rw [r.fr i _ z] at eb;cases eb
  exact LU pg pb hl'.2 (λA2 τ2 ρ2 G2 n2 r=>hs _ (.inr ((X _ _ _ _ r.r).trans V0))) (λo m hq=>(k o m hq).base b1 h.r.dm) _ _ (λA2 τ2 ρ2 G2 n2 r=>D1.up (X _ _ _ _ r.r)) _ _ _ _ _ h2 hq⟩
end
def DSp (W:List PyData->Nat->QD->Prop) (fr:Bool):Sp3:=λts G q=>∃ (D:Addr->Prop) (a:Addr) (n:Nat) (ts':List T) (ds:List PyData) (Q:QD),ts=.ref a::ts'/\Lf G a n/\D a/\Dom D G/\Dqs (rs D G) ts' ds/\W ds n Q/\∀ x d G' n',Q d n'->Ext a G G'->Lf G' a n'->Dq (rs D G') x d->(fr=true->Nw D G G' x d)->q x G'
structure Wm where
 W:List PyData->Nat->QD->Prop
 mono:∀ {ds n} {Q Q':QD},W ds n Q->(∀ d m,Q d m->Q' d m)->W ds n Q'
def dSp (w:Wm) (fr:Bool):DrD (DSp w.W fr):=⟨w.W,fr,w.mono,λ{D G a n ts ds q Q} lf da hd hs hw k=>⟨D,a,n,ts,ds,Q,rfl,lf,da,hd,hs,hw,k⟩⟩
def qr1 (fr:Bool) (Q:QD):QO:=λo n=>match o with
 |.rt d b=>(fr=true->b=true)/\∃ m,n<=m/\Q d m
 |.nx _=>fr=false/\∃ m,n<=m/\Q .none m
 |_=>False
def qs5 {t:TS3} (b:PwS 0 t) (k N:Nat) (fr:Bool):Wm:=⟨λds n Q=>ds.length+1=k/\b.w (.un::(ds.map Sl.sh++List.replicate (N-(ds.length+1)) .un)) n (qr1 fr Q),λ⟨h1,h2⟩ k=>⟨h1,b.mono h2 λo m h=>by
 cases o with
 |rt d f=>obtain ⟨h1,m,h2,h3⟩:=h;exact ⟨h1,m,h2,k _ _ h3⟩
 |nx ρ=>obtain ⟨h1,m,h2,h3⟩:=h;exact ⟨h1,m,h2,k _ _ h3⟩
 |bk ρ=>exact h
 |ct ρ=>exact h⟩⟩
def qjg {t:TS3} (b:PwS 0 t) (N:List Str) (k:Nat) (fr:Bool):∀ ts G q,DSp (qs5 b k N.length fr).W fr ts G q->ts.length=k/\t { nx:=λ_ G'=>q .non G',rt:=q } (qm N ts) G:=by
 rintro ts G q ⟨D,a,n,ts',ds,Q,rfl,lf,da,hd,hs,⟨hk,hw⟩,h⟩;refine ⟨by simp [hs.length];omega,?_⟩;have DD:∀ b,(D b/\b≠a)\/b=a↔D b:=λb=>by
  by_cases e:b=a
  ·subst e;simp [da]
  ·simp [e]
 have rr:∀ H,rs (λb=>(D b/\b≠a)\/b=a) H=rs D H:=λH=>by
  have:(λb=>(D b/\b≠a)\/b=a)=D:=funext λb=>propext (DD b);rw [this]
 have ad:AD (λb=>D b/\b≠a) (λi p=>i=0/\p=a)=D:=funext λb=>propext ⟨(λz=>by
   rcases z with z|⟨i,_,z⟩
   ·exact z.1
   ·rw [z];exact da),(λz=>by
   by_cases e:b=a
   ·exact .inr ⟨0,rfl,e⟩
   ·exact .inl ⟨z,e⟩)⟩
 have ga:G a≠none:=XN lf;have r:RL 0 a (some (some (.ref a)),(qm N (.ref a::ts')).length) (λb=>D b/\b≠a) (rs (λb=>b=a) G) (λi p=>i=0/\p=a) (qm N (.ref a::ts')) (.un::(ds.map Sl.sh++List.replicate (N.length-(ds.length+1)) .un)) G n:=by
  refine ⟨⟨V0,λb hb=>by rw [ZY (D:=λb=>b=a) hb.2];exact hd b hb.1,λi p e=>by rw [e.2];unfold rs;exact zU rfl,λi p e=>by rw [e.2];exact ga,λi j p e e'=>e.1.trans e'.1.symm,by simp [qm,hs.length],λi s e=>?_⟩,⟨rfl,rfl⟩,by simp [qm],rfl,lf,⟨by simp [qm],rfl⟩⟩;rw [ad];cases i with
  |zero=>cases e;trivial
  |succ i=>
   rw [x6] at e;by_cases hi:i<ds.length
   ·rw [List.getElem?_append_left (by simpa using hi),getElem?_map] at e;obtain ⟨d2,e3,rfl⟩:=za9 e;obtain ⟨x,e5,hx⟩:=hs.get e3;refine ⟨x,?_,hx⟩;unfold qm;rw [List.getElem?_append_left (by simp [hs.length];exact hi),getElem?_map,x6,e5];rfl
   ·rw [List.getElem?_append_right (by simpa using hi),List.getElem?_replicate] at e;split at e<;>cases e
    trivial
 have xe:∀ {G'},Ex (rs (λb=>b=a) G) G'->Ext a G G':=λe b o n x=>e b o (by rw [ZY (D:=λb=>b=a) n];exact x);refine b.ok r hw λo m hq=>?_;cases o with
 |rt d f=>
  intro x G' E L Dx0 N;have Dx:=Dx0;rw [rr] at Dx;obtain ⟨hq1,m2,hm,hq2⟩:=hq;refine h x d G' m2 hq2 (xe E) (L.mono (by omega)) Dx λz=>?_;rcases N (hq1 z) with h2|⟨p,xs,ds',h1,h2,c,g,f'⟩
  ·exact .inl h2
  have np:p≠a:=by
   rintro rfl;rw [h1] at Dx0;cases Dx0 with
   |lst g0 _=>exact (zb g0).1 (.inr rfl)
  refine .inr ⟨p,xs,ds',h1,h2,by rw [ZY (D:=λb=>b=a) np] at c;exact c,g,f'.up (QE λb z=>?_)⟩;rcases z with z|z
  ·exact .inl ((DD b).mpr z)
  ·exact .inr z
 |nx ρ=>
  obtain ⟨hq1,m2,hm,hq2⟩:=hq;exact λA τ G' r'=>h .non .none G' m2 hq2 (xe r'.r.ex) (r'.lf.mono (by omega)) .non λz=>by rw [hq1] at z;cases z
 |bk ρ=>exact hq.elim
 |ct ρ=>exact hq.elim
end Pu
namespace Pu
open PySem L2 L3
open Bk (Lf Ext Dl Wk Dr)
def okW:QO:=λo _=>match o with|.nx _=>True|.ct _=>True|_=>False
def qtf (K:Int):TE3:=o3 zf (c3 (.int 1)) (cb3 VQ (qc (c3 (.int K)) (qc (cb3 jP (qc (v3 0) qh)) qh)))
def qog {i:Nat} {τ:St3} {t:T} {G:Gp} {q:Q3} (h:τ[i]?=some (some t)):v3 i τ G q=q t G:=by unfold v3;rw [h]
def qsK (K:Int) (R:TS3):TS3:=qw (RM (zw (qc (qtf K) qh)) (gn3 1) (qw (qH (cb3 Bk.YS (qc (v3 0) (qc (v3 1) qh))) (gn3 2)) R)) (qB (c3 (.bl true)))
def qfy {R:TS3} (b:PwS 2 R) (N:List Str) (K:Int) (M:Nat) (hK:0<=K/\K<=60) (hN:N.length=M+3) (h:∀ k:Nat,k<=60->b.w ([.un,.sh (.int k),.un]++List.replicate M .un) 0 okW):∀ ts G q,K0 ts G q->ts.length=1/\qsK K R { nx:=λ_ G'=>q .non G',rt:=q } (qm N ts) G:=by
 rintro ts G q ⟨a,ns,rfl,hG,hl,hq⟩;refine ⟨rfl,?_⟩;have s0:(qm N [T.ref a])[0]?=some (some (.ref a)):=by simp [qm]
 have gl:getL G a=some (ns.map T.int):=by unfold getL;rw [hG]
 simp only [qsK,qw,RM,zw,qtf,qc,qh,o3,c3,cb3,v3,s0,jP,gl,VQ,zf,length_map];have cnt:((1+(if ((ns.length:Nat):Int)<K then ((ns.length:Nat):Int) else K)).toNat)<=61:=by split<;>omega
 refine ⟨⟨by split<;>omega,by split<;>omega⟩,?_⟩;refine V6 _ (λ_ τ G'=>G' a=some (.frz (ns.map T.int))/\τ[0]?=some (some (.ref a))/\τ.length=M+3) ⟨hG,s0,by simp [qm,hN]⟩ (λ_ _ _ _ _=>True.intro) ?_ ?_
 ·rintro i z τ G' nx hz ⟨gA,t0,tl⟩ hn;obtain ⟨hi,rfl⟩:=MM hz;have hi2:i<=60:=by omega
  have t1:(τ.set 1 (some (T.int (0+(i:Int)))))[0]?=some (some (.ref a)):=by rw [getElem?_set,if_neg (by omega)];exact t0
  have t2:(τ.set 1 (some (T.int (0+(i:Int)))))[1]?=some (some (T.int (0+(i:Int)))):=by rw [getElem?_set,if_pos rfl,if_pos (by omega)]
  show v3 0 (τ.set 1 (some (T.int (0+(i:Int))))) G' (λx G1=>v3 1 (τ.set 1 (some (T.int (0+(i:Int))))) G1 λy G2=>Bk.YS [x,y] G2 λz G3=>R _ ((τ.set 1 (some (T.int (0+(i:Int))))).set 2 (some z)) G3);rw [qog t1,qog t2];refine ⟨a,_,ns,rfl,gA,hl,by omega,by omega,λp o c hp ho=>?_⟩;have pa:a≠p:=by rintro rfl;rw [gA] at hp;cases hp
  have r:RL 2 p (some (some (.ref a)),M+3) (λ_=>False) G' (λj q=>j=2/\q=p) ((τ.set 1 (some (T.int (0+(i:Int))))).set 2 (some (.ref p))) ([.un,.sh (.int i),.un]++List.replicate M .un) (gu G' p (.lst [.int o,.int c,.int 0])) 0:=by
   refine ⟨⟨QB hp,λb z=>z.elim,λj q e=>by rw [e.2];exact hp,λj q e=>by rw [e.2,qx];simp,λj k q e e'=>e.1.trans e'.1.symm,by simp [tl],λj s e=>?_⟩,⟨rfl,rfl⟩,by rw [getElem?_set,if_pos rfl,if_pos (by simp;omega)],rfl,⟨o,c,0,qx,ho,by omega,by omega⟩,⟨by rw [getElem?_set,if_neg (by omega)];exact t1,by simp [tl]⟩⟩
   match j,e with
   |0,e=>cases e;trivial
   |1,e=>
    cases e;refine ⟨.int (0+(i:Int)),by rw [getElem?_set,if_neg (by omega)];exact t2,?_⟩;rw [Int.zero_add];exact .int _
   |2,e=>cases e;trivial
   |j+3,e=>
    simp only [cons_append,List.nil_append,x6,List.getElem?_replicate] at e;split at e<;>cases e
    trivial
  refine b.ok r (h i hi2) λo' m ho'=>?_;cases o' with
  |nx ρ'=>exact λA τ' G2 r2=>hn _ _ ⟨r2.r.ex _ _ gA,r2.tz.1,r2.tz.2⟩
  |ct ρ'=>exact λA τ' G2 r2=>hn _ _ ⟨r2.r.ex _ _ gA,r2.tz.1,r2.tz.2⟩
  |bk ρ'=>exact ho'.elim
  |rt d f=>exact ho'.elim
 ·rintro τ G' ⟨gA,t0,tl⟩;exact hq G'
def qcS {G:Gp} {ts:List T} (h:Dqs G ts []):ts=[]:=by cases h;rfl
def qq9 {G:Gp} {ts:List T} {i:Int} (h:Dqs G ts [.int i]):ts=[.int i]:=by
 cases h with
 |cons a b=>cases b;cases a;rfl
def lfc {G:Gp} {a:Addr} {n c:Nat} (h:Lf G a ((n:Int)+(c:Int))):Lf G a ((n+c:Nat):Int):=by rw [Int.natCast_add];exact h
def qkQ:DrD Bk.qQ:=⟨λds n Q=>∃ m:Int,ds=[.int m]/\(1<=m/\m<1073741824)/\n<1000000000/\∀ d:Int,0<=d->d<m->Q (.int d) (n+1),false,
 λ⟨m,h1,h2,h3,h4⟩ k=>⟨m,h1,h2,h3,λd x y=>k _ _ (h4 d x y)⟩,λ{D G a n ts ds q Q} lf da hd hs ⟨m,h1,h2,h3,h4⟩ k=>by
 subst h1;have:=qq9 hs;subst this;exact ⟨a,n,m,rfl,h2.1,h2.2,lf,by omega,λd G' x y L E=>k _ _ G' (n+1) (h4 d x y) E (lfc (c:=1) L) (.int d) (λz=>by cases z)⟩⟩
def qk1:DrD Bk.YO:=⟨λds n Q=>ds=[]/\n<1000000/\∀ w:Wk,w.Ok->Q (Pv.Wk.d w) (n+60),false,
 λ⟨h1,h3,h4⟩ k=>⟨h1,h3,λw x=>k _ _ (h4 w x)⟩,λ{D G a n ts ds q Q} lf da hd hs ⟨h1,h3,h4⟩ k=>by
 subst h1;have:=qcS hs;subst this;exact ⟨a,n,rfl,lf,by omega,λw G' x L E=>k _ _ G' (n+60) (h4 w x) E (lfc (c:=60) L) (Pv.qr3 _ w) (λz=>by cases z)⟩⟩
def LZ:DrD Bk.QR:=⟨λds n Q=>ds=[]/\n<100000/\∀ d:Dl,Dr d 16 16 32->d.dep<=2->Q (Pv.dlD d) (n+1000),false,
 λ⟨h1,h3,h4⟩ k=>⟨h1,h3,λd x y=>k _ _ (h4 d x y)⟩,λ{D G a n ts ds q Q} lf da hd hs ⟨h1,h3,h4⟩ k=>by
 subst h1;have:=qcS hs;subst this;exact ⟨a,n,rfl,lf,by omega,λd G' a1 a2 L E=>k _ _ G' (n+1000) (h4 d a1 a2) E (lfc (c:=1000) L) (Pv.qkt _ _) (λz=>by cases z)⟩⟩
def qfZ (n:Nat):FnD (Bk.jf (n+1)):=⟨λds=>match ds with|[d,e]=>cif (d=e/\Bk.RF n d) (some (.bool true)) none|_=>none,false,λ{D G xs ds v q} hx hd hf k=>by
 split at hf
 ·unfold cif at hf;split at hf
  ·rename_i c;cases hf;obtain ⟨rfl,c⟩:=c;cases hx with
   |cons x b=>cases b with
    |cons y b=>
     cases b;exact ⟨_,_,_,rfl,(x.up V0).dp,(y.up V0).dp,c,λG' E=>k _ _ E (.bl true) (λz=>by cases z)⟩
  ·cases hf
 ·cases hf⟩
def qeS {n:Nat} {d:PyData} (h:Bk.RF n d):(qfZ n).f [d,d]=some (.bool true):=zU ⟨rfl,h⟩
def qlV {l:Nat} {t:TE3} {b:PuE t}:(eOf (l:=l) b).w=λρ n Q=>∃ d,b.f ρ=some d/\Q d n:=id rfl
def qpH {l:Nat} {t:TT3} {b:PuC t}:(cOf (l:=l) b).w=λρ n Q=>∃ d,b.f ρ=some d/\Q d n:=id rfl
def qoz {l:Nat} {t:TA3} {b:PuA t}:(aOf (l:=l) b).w=λρ n Q=>∃ d,b.f ρ=some d/\Q d n:=id rfl
def qmt {l:Nat} {t:TI3} {b:PuI t}:(iOf (l:=l) b).w=λρ n Q=>∃ d,b.f ρ=some d/\Q d n:=id rfl
def qcU {l:Nat} {ta:TE3} {tr:TA3} {a:PwE l ta} {r:PwA l tr}:(qjY a r).w=λρ n Q=>a.w ρ n λx n1=>r.w ρ n1 λxs n2=>Q (x::xs) n2:=id rfl
def qds {l:Nat} {r:List T->Gp->Q3->Prop} {t:TA3} {R:FnD r} {b:PwA l t}:(qkK R b).w=λρ n Q=>b.w ρ n λxs n1=>∃ v,R.f xs=some v/\Q v n1:=id rfl
def qpt {l:Nat} {r:List T->Gp->Q3->Prop} {t:TA3} {R:DrD r} {b:PwA l t}:(eDr R b).w=λρ n Q=>b.w ρ n λxs n1=>R.W xs n1 Q:=id rfl
def qiH {l:Nat} {t:TI3} {b:PuI t}:(iOf (l:=l) b).nm=b.nm:=id rfl
def qiW {l:Nat} {t:TE3} {b:PuE t}:(eOf (l:=l) b).nw=b.nw:=id rfl
def qbM {l:Nat} {r:List T->Gp->Q3->Prop} {t:TA3} {R:FnD r} {b:PwA l t}:(qkK R b).nw=R.nw:=id rfl
def qgF {l:Nat} {r:List T->Gp->Q3->Prop} {t:TA3} {R:DrD r} {b:PwA l t}:(eDr R b).nw=R.nw:=id rfl
def qdk {l:Nat}:(qdB (l:=l)).w=λρ n Q=>Q (.nx ρ) n:=id rfl
def qhC {l:Nat} {t u:TS3} {x:PwS l t} {y:PwS l u}:(qeg x y).w=λρ n Q=>x.w ρ n (sqw y.w Q):=id rfl
def qg0 {b:Rho->Nat->QO->Prop} {Q:QO} {ρ:Rho} {n:Nat}:sqw b Q (.nx ρ) n=b ρ n Q:=id rfl
def qic {b:Rho->Nat->QO->Prop} {Q:QO} {d:PyData} {f:Bool} {n:Nat}:sqw b Q (.rt d f) n=Q (.rt d f) n:=id rfl
def qmC {l:Nat} {c:TT3} {t u:TS3} {pc:PwC l c} {x:PwS l t} {y:PwS l u}:(wIf pc x y).w=λρ n Q=>pc.w ρ n λk n1=>if k then x.w ρ n1 Q else y.w ρ n1 Q:=id rfl
def qhP {l:Nat} {t:TE3} {x:PwE l t}:(qn6 x).w=λρ n Q=>x.w ρ n λd n1=>Q (.rt d x.nw) n1:=id rfl
def qhN {l:Nat} {t:TE3} {x:PwE l t} {i:Nat} {m:List Bool} {hm:Tru (x.fv.all (mkb m))} {hl:Tru (!mkb m l&&(i != l&&i != 0))}:(qiL x i m hm hl).w=λρ n Q=>x.w ρ n λd n1=>Q (.nx (qbg m x.nw i d ρ)) n1:=id rfl
def qig {l:Nat} {wi:TI3} {g:TG3} {tb:TS3} {pi:PwI l wi} {pg:PuG g} {pb:PwS l tb} {m:List Bool} {hm:Tru (pi.fv.all (mkb m))} {hl:Tru (!mkb m l&&pg.tg.all (λi=>i != l&&i != 0))}:(qti pi pg pb m hm hl).w=λρ n Q=>pi.w ρ n λds n1=>qfG pg.f pb.w ds (if pi.nm then ρ else dm m ρ) n1 Q:=id rfl
def qdg {ds:List PyData} {n:Nat} {Q:QD}:qkQ.W ds n Q=(∃ m:Int,ds=[.int m]/\(1<=m/\m<1073741824)/\n<1000000000/\∀ d:Int,0<=d->d<m->Q (.int d) (n+1)):=id rfl
def qd4 {ds:List PyData} {n:Nat} {Q:QD}:qk1.W ds n Q=(ds=[]/\n<1000000/\∀ w:Wk,w.Ok->Q (Pv.Wk.d w) (n+60)):=id rfl
def K3 {ds:List PyData} {n:Nat} {Q:QD}:LZ.W ds n Q=(ds=[]/\n<100000/\∀ d:Dl,Dr d 16 16 32->d.dep<=2->Q (Pv.dlD d) (n+1000)):=id rfl
def qb0:qkQ.nw=false:=id rfl
def qbL:qk1.nw=false:=id rfl
def TM:LZ.nw=false:=id rfl
def qbY {n:Nat}:(qfZ n).nw=false:=id rfl
def qlz {w:Wm} {fr:Bool}:(dSp w fr).W=w.W:=id rfl
def qeb {Q:QD} {d:PyData} {b:Bool} {n:Nat}:qr1 false Q (.rt d b) n=∃ m,n<=m/\Q d m:=propext ⟨λh=>h.2,λh=>⟨λz=>(v7 z).elim,h⟩⟩
def qik {ρ:Rho} {n:Nat}:okW (.nx ρ) n=True:=id rfl
def qly {α:Type} {v:α} {P:α->Prop}:(∃ d,some v=some d/\P d)=P v:=propext ⟨λ⟨d,h1,h2⟩=>by cases h1;exact h2,λh=>⟨v,rfl,h⟩⟩
def qhi {v:Int} {P:Int->Prop}:(∃ m:Int,[PyData.int v]=[.int m]/\P m)=P v:=propext ⟨λ⟨d,h1,h2⟩=>by cases h1;exact h2,λh=>⟨v,rfl,h⟩⟩
def qg9 {m:List Bool} {nw:Bool} {i:Nat} {d:Dl} {ρ:Rho}:qbg m nw i (Pv.dlD d) ρ=(dm m ρ).set i (.sh (Pv.dlD d)):=by cases d<;>exact qew
def qgC {m:List Bool} {nw:Bool} {i:Nat} {w:Wk} {ρ:Rho}:qbg m nw i (Pv.Wk.d w) ρ=(dm m ρ).set i (.sh (Pv.Wk.d w)):=by cases w<;>exact qew
def qhQ {m:List Bool} {nw:Bool} {i:Nat} {p:Int×Int} {ρ:Rho}:qbg m nw i (Pv.pD p) ρ=(dm m ρ).set i (.sh (Pv.pD p)):=qew
def qhU {m:List Bool} {d:Int×Int} {ρ:Rho}:dmS m (Pv.pD d) ρ=dm m ρ:=id rfl
def qak {l:Nat} {t u:TS3} {x:PwS l t} {y:PwS l u} {ρ:Rho} {n:Nat} {Q:QO} (h:∀ Y:Rho->Nat->QO->Prop,Y=y.w->x.w ρ n (sqw Y Q)):(qeg x y).w ρ n Q:=h _ rfl
structure Mn (bw:Rho->Nat->QO->Prop):Prop where
 h:∀ ρ n (Q Q':QO),bw ρ n Q->(∀ o m,Q o m->Q' o m)->bw ρ n Q'
def PwS.mn {l:Nat} {t:TS3} (b:PwS l t):Mn b.w:=⟨λ_ _ _ _ h k=>b.mono h k⟩
section
variable {l:Nat} {g:TG3} {tb:TS3}
def qf3 {gf:PyData->Option (List (Nat×PyData))} {bw:Rho->Nat->QO->Prop} {α:Type} {f:α->PyData} (xs:List α) (mono:Mn bw) (I:Nat->Rho->Nat->Prop) {ρ:Rho} {n:Nat} {Q:QO} (h0:I 0 ρ n)
  (hs:∀ i x ρ n,xs[i]?=some x->I i ρ n->∃ bs,gf (f x)=some bs/\bw (J5 ρ bs) n λo m=>match o with|.nx ρ'=>I (i+1) ρ' m|.ct ρ'=>I (i+1) ρ' m|.bk ρ'=>Q (.nx ρ') m|.rt d b=>Q (.rt d b) m)
  (k:∀ ρ n,I xs.length ρ n->Q (.nx ρ) n):qfG gf bw (xs.map f) ρ n Q:=by
 have key:∀ (r:List α) (i:Nat) (ρ:Rho) (n:Nat),xs.drop i=r->i<=xs.length->I i ρ n->qfG gf bw (r.map f) ρ n Q:=by
  intro r;induction r with
  |nil=>
   intro i ρ n e hi h;have:i=xs.length:=by
    have:=congrArg List.length e;simp at this;omega
   subst this;exact k ρ n h
  |cons x r ih=>
   intro i ρ n e hi h;have hl:i<xs.length:=by
    have:=congrArg List.length e;simp at this;omega
   have e':=List.drop_eq_getElem_cons hl;rw [e] at e';injection e' with e1 e2;obtain ⟨bs,h1,h2⟩:=hs i x ρ n (by rw [v9 hl,e1]) h;refine ⟨bs,h1,mono.h _ _ _ _ h2 λo m h=>?_⟩;cases o with
   |nx ρ'=>exact ih (i+1) ρ' m e2.symm hl h
   |ct ρ'=>exact ih (i+1) ρ' m e2.symm hl h
   |bk ρ'=>exact h
   |rt d b=>exact h
 exact key xs 0 ρ n (by simp) (Nat.zero_le _) h0
end
def qdU {α β:Type} {x:α} {f:α->Option β}:(some x).bind f=f x:=id rfl
def qhL {α β:Type} {x:α} {f:α->β}:(some x).map f=some (f x):=id rfl
def qod {α:Type} {x:α} {r:List α}:(x::r).length=r.length+1:=id rfl
def qnC {α:Type}:([]:List α).length=0:=id rfl
def ql5 {α:Type} {x y:α} {r:List α}:(x::r).set 0 y=y::r:=id rfl
def qlU {α:Type} {x y:α} {r:List α} {i:Nat}:(x::r).set (i+1) y=x::r.set i y:=id rfl
def qmE {α:Type} {r:List α}:r++[]=r:=List.append_nil r
def qpq {α:Type} {x:α} {r s:List α}:(x::r)++s=x::(r++s):=id rfl
def qmG {α:Type} {s:List α}:[]++s=s:=id rfl
def qmw {n:Nat}:0+n=n:=Nat.zero_add n
def qoO {p:Prop}:(True/\p)=p:=true_and p
def qok {α:Type} {a b:α} {i:Decidable True}:@ite α True i a b=a:=if_pos trivial
def qlR {α:Type} {a b:α} {i:Decidable False}:@ite α False i a b=b:=if_neg not_false
def qlA:(false=true)=False:=Bool.false_eq_true
def qoL:(!true)=false:=id rfl
def qpb:(!false)=true:=id rfl
def qnf {i:Decidable True}:@decide True i=true:=decide_true i
def qmD {i:Decidable False}:@decide False i=false:=decide_false i
def qm8 {b:Bool}:(b&&true)=b:=Bool.and_true b
def qqi {b:Bool}:(true&&b)=b:=Bool.true_and b
def qnv {b:Bool}:(false&&b)=false:=Bool.false_and b
def qoW {b:Bool}:(b&&false)=false:=Bool.and_false b
def ai{a b:Prop}(x:a)(y:b):a/\b:=⟨x,y⟩
def pwA:=(ai (ai (ai (ai (ai (ai (ai @Pu.qlV (ai @Pu.qpH @Pu.qoz)) (ai @Pu.qmt (ai @Pu.qcU @Pu.qds))) (ai (ai @Pu.qpt (ai @Pu.qiH @Pu.qiW)) (ai @Pu.qbM (ai @Pu.qgF @Pu.qdk)))) (ai (ai (ai @Pu.qhC (ai @Pu.qg0 @Pu.qic)) (ai @Pu.qmC (ai @Pu.qhP @Pu.qhN))) (ai (ai @Pu.qig (ai @Pu.qdg @Pu.qd4)) (ai @Pu.K3 (ai @Pu.qb0 @Pu.qbL))))) (ai (ai (ai (ai @Pu.TM (ai @Pu.qbY @Pu.qlz)) (ai @Pu.qeb (ai @Pu.qik @Pu.qhi))) (ai (ai @Pu.qg9 (ai @Pu.qgC @Pu.qhQ)) (ai @Pu.qhU (ai @Pu.qpI @Pu.qsZ)))) (ai (ai (ai @Pu.qgs (ai @Pu.qpV @Pu.qhc)) (ai @Pu.qiz (ai @Pu.qtb @Pu.qhj))) (ai (ai @Pu.qdF (ai @Pu.qiP @Pu.qhw)) (ai (ai @Pu.qc5 @Pu.qnD) (ai @Pu.qlQ @Pu.qgS)))))) (ai (ai (ai (ai (ai @Pu.qo1 (ai @Pu.qdp @Pu.qdq)) (ai @Pu.qmL (ai @Pu.qia @Pu.qpU))) (ai (ai @Pu.qiq (ai @Pu.qlr @Pu.qn8)) (ai @Pu.qpB (ai @Pu.qea @Pu.qdR)))) (ai (ai (ai @Pu.qcZ (ai @Pu.qgQ @Pu.qpe)) (ai @Pu.qgo (ai @Pu.qgt @Pu.qhb))) (ai (ai @Pu.qh5 (ai @Pu.qiE @Pu.qgw)) (ai @Pu.qgu (ai @Pu.qei @Pu.qdx))))) (ai (ai (ai (ai @Pu.qdM (ai @Pu.qnQ @Pu.qoG)) (ai @Pu.qml (ai @Pu.qhW @Pu.qdT))) (ai (ai @Pu.qeB (ai @Pu.qdd @Pu.qh4)) (ai @Pu.qer (ai @Pu.qg8 @Pu.qhH)))) (ai (ai (ai @Pu.qc1 (ai @Pu.qd7 @Pu.qs0)) (ai @Pu.qgp (ai @Pu.qc4 @Pu.qhx))) (ai (ai @Pu.qdI (ai @Pu.qh9 @Pu.qoe)) (ai (ai @Pu.qiM @Pu.qdW) (ai @Pu.qh7 @Pu.qeM))))))) (ai (ai (ai (ai (ai (ai @Pu.qhB (ai @Pu.qhy @Pu.qgI)) (ai @Pu.qhR (ai @Pu.qol @Pu.qiY))) (ai (ai @Pu.qdm (ai @Pu.qmy @Pu.qd5)) (ai @Pu.qdH (ai @Pu.qbZ @Pu.qbR)))) (ai (ai (ai @Pu.qbA (ai @Pu.qg2 @Pu.qg1)) (ai @Pu.qdj (ai @Pu.qeY @Pu.qcR))) (ai (ai @Pu.qsD (ai @Pu.qtc @Pu.qof)) (ai @Pu.qnu (ai @Pu.qeV @Pu.qiD))))) (ai (ai (ai (ai @Pu.qdP (ai @Pu.qhr @Pu.qoM)) (ai @Pu.qpj (ai @Pu.at0 @Pu.at1))) (ai (ai @Pu.at2 (ai @Pu.at3 @Pu.eqS)) (ai @Pu.eqI (ai @Pu.eqB @Pu.qps)))) (ai (ai (ai @Pu.qlG (ai @Pu.qta @Pu.qiS)) (ai @Pu.qiZ (ai @Pu.qgK @Pu.qc6))) (ai (ai @Pu.qiV (ai @Pu.qpf @Pu.qop)) (ai (ai @Pu.qlm @Pu.qif) (ai @Pu.qhf @Pu.qhs)))))) (ai (ai (ai (ai (ai @Pu.qih (ai @Pu.qhJ @Pu.qgL)) (ai @Pu.qdz (ai @Pu.qgm @Pu.qnp))) (ai (ai @Pu.qnt (ai @Pu.qiB @Pu.qow)) (ai @Pu.qna (ai @Pu.qmJ @Pu.qew)))) (ai (ai (ai @Pu.qhg (ai @Pu.qpY @Pu.qsX)) (ai @Pu.qs1 (ai @Pu.qsN @Pu.qoP))) (ai (ai @Pu.qnF (ai @Pu.qp0 @Pu.qoT)) (ai (ai @Pu.qmh @Pu.qsS) (ai @Pu.qhG @Pu.qg6))))) (ai (ai (ai (ai @Pu.qiC (ai @Pu.qiN @Pu.qly)) (ai @Pu.qdU (ai @Pu.qhL @Pu.qod))) (ai (ai @Pu.qnC (ai @Pu.ql5 @Pu.qlU)) (ai @Pu.qmE (ai @Pu.qpq @Pu.qmG)))) (ai (ai (ai @Pu.qmw (ai @Pu.qoO @Pu.qok)) (ai @Pu.qlR (ai @Pu.qlA @Pu.qoL))) (ai (ai @Pu.qpb (ai @Pu.qnf @Pu.qmD)) (ai (ai @Pu.qm8 @Pu.qqi) (ai @Pu.qnv @Pu.qoW))))))))
end Pu
namespace Bk
open PySem L2 L3
end Bk
namespace Pu
open PySem L2 L3
open Bk (Wk)
end Pu
namespace Pu
open PySem L2 L3
open Bk (Lf Ext Dl Wk Dr)
def qa5 {H:Gp} {xs:List T} {d:PyData} {ds:List PyData} (h:Dqs H xs (d::ds)):∃ x r,xs=x::r/\Dq H x d/\Dqs H r ds:=by
 cases h with
 |cons a b=>exact ⟨_,_,rfl,a,b⟩
def qcd {H:Gp} {xs:List T} (h:Dqs H xs []):xs=[]:=by cases h;rfl
def qtV {H:Gp} {x:T} {i:Int} (h:Dq H x (.int i)):x=.int i:=by cases h;rfl
def qtD {H:Gp} {x:T} {i:Str} (h:Dq H x (.str i)):x=.str i:=by cases h;rfl
def qiX {H:Gp} {x:T} {ds:List PyData} (h:Dq H x (.tuple ds)):∃ xs,x=.tup xs/\Dqs H xs ds:=by
 cases h with
 |tup a=>exact ⟨_,rfl,a⟩
def RD {H:Gp} {xs:List T} {i:Int} {ds:List PyData} (h:Dqs H xs (.int i::ds)):∃ r,xs=.int i::r/\Dqs H r ds:=by
 obtain ⟨x,r,rfl,a,b⟩:=qa5 h;exact ⟨r,by rw [qtV a],b⟩
def qdw {H:Gp} {xs:List T} {i:Str} {ds:List PyData} (h:Dqs H xs (.str i::ds)):∃ r,xs=.str i::r/\Dqs H r ds:=by
 obtain ⟨x,r,rfl,a,b⟩:=qa5 h;exact ⟨r,by rw [qtD a],b⟩
def qkM {H:Gp}:∀ (cs:List (List Int)) {xs:List T},Dqs H xs (cs.map Pv.qhk)->xs=cs.map Bk.qbF:=by
 intro cs;induction cs with
 |nil=>intro xs h;exact qcd h
 |cons r cs ih=>
  intro xs h;obtain ⟨x,t,rfl,a,b⟩:=qa5 h;obtain ⟨ys,rfl,a1⟩:=qiX a;rw [ih b,Dqs.ints a1];rfl
def qfa {H:Gp} (d:Dl):∀ {x:T},Dq H x (Pv.dlD d)->x=d.t:=by
 induction d with
 |skew r c b x y=>
  intro z h0;obtain ⟨_,rfl,h1⟩:=qiX h0;obtain ⟨_,rfl,h2⟩:=qdw h1;obtain ⟨_,rfl,h3⟩:=RD h2;obtain ⟨_,rfl,h4⟩:=RD h3;obtain ⟨_,rfl,h5⟩:=RD h4;obtain ⟨_,rfl,h6⟩:=RD h5;obtain ⟨_,rfl,h7⟩:=RD h6;rw [qcd h7];rfl
 |rests r c b p=>
  intro z h0;obtain ⟨_,rfl,h1⟩:=qiX h0;obtain ⟨_,rfl,h2⟩:=qdw h1;obtain ⟨_,rfl,h3⟩:=RD h2;obtain ⟨_,rfl,h4⟩:=RD h3;obtain ⟨_,rfl,h5⟩:=RD h4;obtain ⟨_,rfl,h6⟩:=RD h5;rw [qcd h6];rfl
 |bits hh l ms=>
  intro z h0;obtain ⟨_,rfl,h1⟩:=qiX h0;obtain ⟨_,rfl,h2⟩:=qdw h1;obtain ⟨_,rfl,h3⟩:=RD h2;obtain ⟨_,rfl,h4⟩:=RD h3;obtain ⟨_,_,rfl,a0,h5⟩:=qa5 h4;obtain ⟨_,rfl,a1⟩:=qiX a0;rw [qcd h5,Dqs.ints a1];rfl
 |table b cells=>
  intro z h0;obtain ⟨_,rfl,h1⟩:=qiX h0;obtain ⟨_,rfl,h2⟩:=qdw h1;obtain ⟨_,rfl,h3⟩:=RD h2;obtain ⟨_,_,rfl,a0,h4⟩:=qa5 h3;obtain ⟨_,rfl,a1⟩:=qiX a0;rw [qcd h4,qkM cells a1];rfl
 |joined d e ih1 ih2=>
  intro z h0;obtain ⟨_,rfl,h1⟩:=qiX h0;obtain ⟨_,rfl,h2⟩:=qdw h1;obtain ⟨_,_,rfl,a0,h3⟩:=qa5 h2;obtain ⟨_,_,rfl,b0,h4⟩:=qa5 h3;rw [qcd h4,ih1 a0,ih2 b0];rfl
def qeG:∀ (a b:Int),PyData.int a=PyData.int b->a=b:=λ_ _ h=>by injection h
def qkj:∀ (a b:List Int),Pv.qhk a=Pv.qhk b->a=b:=λa b h=>by
 unfold Pv.qhk at h;injection h with h;exact (List.map_inj_right qeG).mp h
theorem qag:∀ (d e:Dl),Pv.dlD d=Pv.dlD e->d=e
 |.skew ..,.skew ..,h=>by simp [Pv.dlD] at h;simp [h]
 |.rests ..,.rests ..,h=>by simp [Pv.dlD] at h;simp [h]
 |.bits _ _ ms,.bits _ _ ns,h=>by
  simp only [Pv.dlD,PyData.tuple.injEq,List.cons.injEq,PyData.int.injEq,and_true,true_and,Int.natCast_inj] at h;have:=(List.map_inj_right qeG).mp h.2.2;simp [h.1,h.2.1,this]
 |.table _ cs,.table _ es,h=>by
  simp only [Pv.dlD,PyData.tuple.injEq,List.cons.injEq,PyData.int.injEq,and_true,true_and] at h;have:=(List.map_inj_right qkj).mp h.2;simp [h.1,this]
 |.joined d e,.joined d' e',h=>by
  simp only [Pv.dlD,PyData.tuple.injEq,List.cons.injEq,and_true,true_and] at h;rw [qag d d' h.1,qag e e' h.2]
 |.skew ..,.rests ..,h=>by simp [Pv.dlD] at h
 |.skew ..,.bits ..,h=>by simp [Pv.dlD] at h
 |.skew ..,.table ..,h=>by simp [Pv.dlD] at h
 |.skew ..,.joined ..,h=>by simp [Pv.dlD] at h
 |.rests ..,.skew ..,h=>by simp [Pv.dlD] at h
 |.rests ..,.bits ..,h=>by simp [Pv.dlD] at h
 |.rests ..,.table ..,h=>by simp [Pv.dlD] at h
 |.rests ..,.joined ..,h=>by simp [Pv.dlD] at h
 |.bits ..,.skew ..,h=>by simp [Pv.dlD] at h
 |.bits ..,.rests ..,h=>by simp [Pv.dlD] at h
 |.bits ..,.table ..,h=>by simp [Pv.dlD] at h
 |.bits ..,.joined ..,h=>by simp [Pv.dlD] at h
 |.table ..,.skew ..,h=>by simp [Pv.dlD] at h
 |.table ..,.rests ..,h=>by simp [Pv.dlD] at h
 |.table ..,.bits ..,h=>by simp [Pv.dlD] at h
 |.table ..,.joined ..,h=>by simp only [Pv.dlD,PyData.tuple.injEq,List.cons.injEq,PyData.str.injEq] at h;exact absurd h.1 (by decide)
 |.joined ..,.skew ..,h=>by simp [Pv.dlD] at h
 |.joined ..,.rests ..,h=>by simp [Pv.dlD] at h
 |.joined ..,.bits ..,h=>by simp [Pv.dlD] at h
 |.joined ..,.table ..,h=>by simp only [Pv.dlD,PyData.tuple.injEq,List.cons.injEq,PyData.str.injEq] at h;exact absurd h.1 (by decide)
def the (S:PyData->Prop):Option PyData:=@dite _ (∃ v,S v) (Classical.propDecidable _) (λh=>some (Classical.choose h)) λ_=>none
def RP {S:PyData->Prop} {v:PyData} (h:the S=some v):S v:=by
 unfold the at h;split at h
 ·rename_i e;cases h;exact Classical.choose_spec e
 ·cases h
def qd9 {S:PyData->Prop} {v:PyData} (h:S v) (u:∀ w,S w->w=v):the S=some v:=by
 unfold the;rw [dif_pos ⟨v,h⟩];exact congrArg some (u _ (Classical.choose_spec (⟨v,h⟩:∃ v,S v)))
def siz (d:Dl):PyData:=.tuple [.int d.R,.int d.C,.int d.B]
def qgv (G:Gp) (d:Dl):Dq G (Bk.RE d) (siz d):=.tup (.cons (.int _) (.cons (.int _) (.cons (.int _) .nil)))
def SzR (n:Nat) (ds:List PyData) (v:PyData):Prop:=∃ d:Dl,ds=[Pv.dlD d]/\d.dep<=n/\d.Ok/\v=siz d
def fSz (n:Nat):FnD (Bk.zK (n+1)):=⟨λds=>the (SzR n ds),false,λ{D G xs ds v q} hx hd hf k=>by
 obtain ⟨d,rfl,h1,h2,rfl⟩:=RP hf;cases hx with
 |cons a b=>
  cases b;have:=qfa d a;subst this;exact ⟨d,rfl,h1,h2,k _ _ Ex.refl (qgv _ d) (λz=>by cases z)⟩⟩
def qqn (n:Nat):FnD (Bk.zD (n+1)):=⟨λds=>the (SzR n ds),false,λ{D G xs ds v q} hx hd hf k=>by
 obtain ⟨d,rfl,h1,h2,rfl⟩:=RP hf;cases hx with
 |cons a b=>
  cases b;have:=qfa d a;subst this;exact ⟨d,rfl,h1,h2,λG' E=>k _ _ E (qgv _ d) (λz=>by cases z)⟩⟩
def qcu {n:Nat} {d:Dl} (h1:d.dep<=n) (h2:d.Ok):the (SzR n [Pv.dlD d])=some (siz d):=qd9 ⟨d,rfl,h1,h2,rfl⟩ λw ⟨e,a,_,_,b⟩=>by
 injection a with a;rw [b,qag d e a]
def qb9 {n:Nat}:(fSz n).f=λds=>the (SzR n ds):=id rfl
def qeH {n:Nat}:(qqn n).f=λds=>the (SzR n ds):=id rfl
def BkR (n:Nat) (ds:List PyData) (v:PyData):Prop:=∃ (d:Dl) (i j:Int),ds=[Pv.dlD d,.tuple [.int i,.int j]]/\d.dep<=n/\d.Ok/\Bk.Inn d i j/\v=.int (d.bank i j)
def fBk (n:Nat):FnD (Bk.qcB n):=⟨λds=>the (BkR n ds),false,λ{D G xs ds v q} hx hd hf k=>by
 obtain ⟨d,i,j,rfl,h1,h2,h3,rfl⟩:=RP hf;cases hx with
 |cons a b=>cases b with
  |cons c b=>
   cases b;have:=qfa d a;subst this;cases c with
   |tup hs=>cases hs with
    |cons x hs=>cases hs with
     |cons y hs=>
      cases hs;cases x;cases y;exact ⟨d,i,j,rfl,h1,h2,h3,λG' E=>k _ _ E (.int _) (λz=>by cases z)⟩⟩
def qsv {n:Nat} {d:Dl} {i j:Int} (h1:d.dep<=n) (h2:d.Ok) (h3:Bk.Inn d i j):the (BkR n [Pv.dlD d,.tuple [.int i,.int j]])=some (.int (d.bank i j)):=qd9 ⟨d,i,j,rfl,h1,h2,h3,rfl⟩ λw ⟨e,i',j',a,_,_,_,b⟩=>by
 simp only [List.cons.injEq,PyData.tuple.injEq,PyData.int.injEq,and_true] at a;rw [b,qag d e a.1,a.2.1,a.2.2]
def LbR (n:Nat) (ds:List PyData) (v:PyData):Prop:=∃ (d:Dl) (i j:Int),ds=[Pv.dlD d,.int i,.int j]/\d.dep<=n/\d.Ok/\Bk.Inn d i j/\v=.int (d.bank i j)
def qsu (n:Nat):FnD (Bk.jJ (n+1)):=⟨λds=>the (LbR n ds),false,λ{D G xs ds v q} hx hd hf k=>by
 obtain ⟨d,i,j,rfl,h1,h2,h3,rfl⟩:=RP hf;cases hx with
 |cons a b=>cases b with
  |cons x b=>cases b with
   |cons y b=>
    cases b;have:=qfa d a;subst this;cases x;cases y;exact ⟨d,i,j,rfl,h1,h2,h3,λG' E=>k _ _ E (.int _) (λz=>by cases z)⟩⟩
def qqe {n:Nat} {d:Dl} {i j:Int} (h1:d.dep<=n) (h2:d.Ok) (h3:Bk.Inn d i j):the (LbR n [Pv.dlD d,.int i,.int j])=some (.int (d.bank i j)):=qd9 ⟨d,i,j,rfl,h1,h2,h3,rfl⟩ λw ⟨e,i',j',a,_,_,_,b⟩=>by
 simp only [List.cons.injEq,PyData.int.injEq,and_true] at a;rw [b,qag d e a.1,a.2.1,a.2.2]
def qgn {n:Nat}:(qsu n).f=λds=>the (LbR n ds):=id rfl
end Pu
namespace Pu
open PySem L2 L3
def qpr {xs:List PyData} {j:Nat} (h1:1<=j) (h2:j<=xs.length):L2.atI xs (-(j:Int))=xs[xs.length-j]?:=by
 have e:ixN xs.length (-(j:Int))=some (xs.length-j):=by
  unfold ixN;rw [if_neg (by omega),if_pos (by omega)];congr 1;omega
 unfold L2.atI;rw [e];rfl
def qbs {a m:Int} {n:Nat} (h:m∈zM a n):a<=m/\m<a+n:=by
 unfold zM at h;obtain ⟨i,hi,rfl⟩:=mem_map.mp h;have:=mem_range.mp hi;omega
def qm9 {xs:List PyData} {lo hi:Option Int}:slD (.list xs) lo hi=some (.list (ZE xs lo hi)):=id rfl
def qnO {xs ys:List PyData} (h:xs.length+ys.length<=16777216):qlf (.list xs) (.list ys)=some (.list (xs++ys)):=zU (by rw [v8];exact h)
open Bk (Lf Ext)
end Pu
namespace Pu
open PySem L2 L3
section
variable {D:Addr->Prop} {G0 G G':Gp} {A A':Nat->Addr->Prop} {τ:St3} {ρ:Rho}
end
def fBi (n:Nat):FnD (Bk.YN (n+1)):=fBk n
def qrq {n:Nat}:(fBi n).f=λds=>the (BkR n ds):=id rfl
open Bk (Lf Ext)
end Pu
namespace Pu
open PySem L2 L3
open Bk (Dl)
end Pu
namespace Pv
open PySem L2 L3 Pu
open Bk (Wk jS jM EG lnD lnA Un2 Fst faO jX j3 UJ)
def VI {lo:Int} {n i:Nat} {x:Int} (h:(zM lo n)[i]?=some x):i<n/\x=lo+i:=by
 unfold zM at h;rw [getElem?_map] at h;obtain ⟨k,e1,e2⟩:=za9 h;obtain ⟨hl,hk⟩:=zb0 e1;simp at hl hk;subst hk;exact ⟨hl,e2.symm⟩
def WM (lo:Int) (n:Nat):(zM lo n).length=n:=by simp [zM]
def qe0 {lo:Int} {n i:Nat} (h:i<n):(zM lo n)[i]?=some (lo+i):=by simp [zM,h]
def SA {d a:Int} {m:Nat} (hd:-1000<=d/\d<=1000) (ha:-1000<=a/\a<=1000) (hm:m<=10000):jW [.int d,.int a,.int m]=some (.list ((jS d a m).map pD)):=by
 rw [qeD]
 try simp only [Pu.pwA,RN]
 rw [jN (ds:=(zM 0 m).map PyData.int) (fs:=(jS d a m).map pD)]
 ·try simp only [Pu.pwA]
 ·try simp (disch:=omega) only [Pu.pwA,qcw,Int.toNat_natCast]
 ·have:jS d a m=(zM 0 m).map λi=>(i*d,i*a):=by simp [jS,zM,map_map,Function.comp_def]
  rw [this,map_map];refine zJ λi hi=>?_
  try simp (disch:=omega) only [Pu.pwA,ZX,qoB,Function.comp_def,pD]
 ·simp [jS];omega
def Big:Wk->Prop
 |.line k m=>k<4/\m<=1000
 |.block h w=>h<=1000/\w<=1000
 |.step d a m=>(-1000<=d/\d<=1000)/\(-1000<=a/\a<=1000)/\m<=1000
 |.cells ps=>ps.length<=1000
def YH {w:Wk} (ok:Big w):zc [Wk.d w]=some (.list (w.pc.map pD)):=by
 cases w with
 |cells ps=>
  rw [YY]
  try simp only [Pu.pwA,QL,Wk.d,eq_self,Wk.pc]
 |block h v=>
  obtain ⟨h1,h2⟩:=ok;rw [YY]
  try simp only [Pu.pwA,QL,Wk.d,eq_self,L3.EN,Wk.pc]
  rw [qev (ds:=(zM 0 h).map PyData.int) (fs:=(jM h v).map pD)]
  ·try simp only [Pu.pwA]
  ·try simp (disch:=omega) only [Pu.pwA,qcw,Int.toNat_natCast]
  ·have:(jM h v).map pD=(zM 0 h).flatMap λp=>(zM 0 v).map λq=>pD (p,q):=by
    simp only [jM,zM,List.map_flatMap,map_map,List.flatMap_map,Function.comp_def,Int.zero_add]
   rw [this];refine qby λp hp=>?_
   try simp (disch:=omega) only [Pu.pwA,qh8,qcw,Int.toNat_natCast]
   rw [zJ (k:=λq=>pD (p,q)) λq hq=>?_]
   ·try simp only [Pu.pwA]
   ·try simp only [Pu.pwA,ZX,pD]
  ·have:=Nat.mul_le_mul h1 h2;rw [length_map,Bk.UN];omega
 |step d a m=>
  obtain ⟨h1,h2,h3⟩:=ok;rw [YY]
  try simp only [Pu.pwA,QL,Wk.d,eq_self,L3.WS,L3.WL,Wk.pc,SA h1 h2 (show m<=10000 by omega)]
 |line k m=>
  obtain ⟨h1,h2⟩:=ok;have key:∀ (s:Str) (d a:Int),¬ s=Str.ofString "cells" -> ¬ s=Str.ofString "block" -> ¬ s=Str.ofString "step" -> (-1000<=d/\d<=1000)->(-1000<=a/\a<=1000)->(QA WJ s).bind tD=some (.tuple [.int d,.int a])->zc [.tuple [.str s,.int (m:Int)]]=some (.list ((jS d a m).map pD)):=by
   intro s d a n1 n2 n3 hd ha e;rw [YY]
   try simp only [Pu.pwA,QL,n1,n2,n3,e,SA (d:=d) (a:=a) (m:=m) hd ha (by omega)]
  have:(k=0\/k=1\/k=2\/k=3):=by omega
  rcases this with rfl|rfl|rfl|rfl
  ·exact key "row" 0 1 L3.NF L3.N2 L3.qbj (by decide) (by decide) rfl
  ·exact key "column" 1 0 L3.S5 L3.SJ L3.T5 (by decide) (by decide) rfl
  ·exact key "slant" 1 1 L3.T2 L3.T1 L3.M0 (by decide) (by decide) rfl
  ·exact key "back" 1 (-1) L3.LD L3.MB L3.NP (by decide) (by decide) rfl
def faD (ns:List Int):PyData:=match faO ns with|some (i,j)=>.tuple [.int i,.int j]|none=>.none
def qt2 {ns:List Int} {x:PyData} (hl:ns.length<=1000000) (h1:qjt [x]=some (.int ns.length)) (h2:∀ i,ixD x (.int i)=L2.atI (ns.map PyData.int) i):qX [x]=some (faD ns):=by
 rw [KA];have at':∀ i:Nat,i<ns.length->ixD x (.int (0+(i:Int)))=some (.int ((ns[i]?).getD 0)):=λi hi=>by
  rw [h2,Int.zero_add,atN (by simpa using hi),getElem?_map,v9 hi];rfl
 have at2:∀ i j:Nat,i+1+j<ns.length->ixD x (.int (0+(i:Int)+1+(j:Int)))=some (.int ((ns[i+1+j]?).getD 0)):=λi j hi=>by
  rw [h2,show (0+(i:Int)+1+(j:Int))=((i+1+j:Nat):Int) by omega,atN (by simpa using hi),getElem?_map,v9 hi];rfl
 have ne':∀ {a b:Nat},a<ns.length->b<ns.length->ns[a]?≠ns[b]?->(ns[a]?).getD 0≠(ns[b]?).getD 0:=λ{a b} ha hb hn e=>by
  rw [v9 ha,v9 hb] at hn e;exact hn (congrArg some e)
 try simp (disch:=omega) only [Pu.pwA,ZD,h1,qcw,Int.toNat_natCast]
 have tn:∀ i:Nat,((ns.length:Int)-(0+(i:Int)+1)).toNat=ns.length-(i+1):=λi=>by omega
 by_cases hu:Un2 ns ns.length
 ·refine XZ (Q:=λo=>VW false o=_) (zM 0 ns.length) (λ_ ρ=>∃ s1 s2,ρ=[.sh x,s1,s2]) ⟨_,_,rfl⟩ ?_ ?_
  ·rintro i z ρ hz ⟨s1,s2,rfl⟩;obtain ⟨hi,rfl⟩:=VI hz
   try simp (disch:=omega) only [Pu.pwA,h1,qjK,tn]
   refine LV (Q:=λo=>Nx o _) _ (λ_ ρ=>∃ s3,ρ=[.sh x,.sh (.int (0+(i:Int))),s3]) ⟨_,rfl⟩ ?_ ?_
   ·rintro j z ρ hz ⟨s3,rfl⟩;obtain ⟨hj,rfl⟩:=VI hz;have hj2:i+1+j<ns.length:=by omega
    have:=ne' hi hj2 (hu i _ hi (by omega) hj2)
    try simp only [Pu.pwA,at' i hi,at2 i j hj2,this]
    exact ⟨_,rfl⟩
   ·rintro ρ ⟨s3,rfl⟩
    try simp only [Pu.pwA]
    exact ⟨_,_,rfl⟩
  ·rintro ρ ⟨s1,s2,rfl⟩
   try simp only [Pu.pwA,faD,j3 hu]
 ·obtain ⟨i,j,F⟩:=UJ hu;have hi:i<ns.length:=Nat.lt_trans F.ij F.jl;have jl:=F.jl;have ij:=F.ij;refine qek (Q:=λo=>VW false o=_) (zM 0 ns.length) i (0+(i:Int)) (.tuple [.int i,.int j]) false (qe0 hi) (λ_ ρ=>∃ s1 s2,ρ=[.sh x,s1,s2]) ⟨_,_,rfl⟩ ?_ ?_ ?_
  ·rintro k z ρ hk hz ⟨s1,s2,rfl⟩;obtain ⟨hk2,rfl⟩:=VI hz
   try simp (disch:=omega) only [Pu.pwA,h1,qjK,tn]
   refine LV (Q:=λo=>Nx o _) _ (λ_ ρ=>∃ s3,ρ=[.sh x,.sh (.int (0+(k:Int))),s3]) ⟨_,rfl⟩ ?_ ?_
   ·rintro l z ρ hz ⟨s3,rfl⟩;obtain ⟨hj,rfl⟩:=VI hz;have hj2:k+1+l<ns.length:=by omega
    have:=ne' hk2 hj2 (F.un k _ hk (by omega) hj2)
    try simp only [Pu.pwA,at' k hk2,at2 k l hj2,this]
    exact ⟨_,rfl⟩
   ·rintro ρ ⟨s3,rfl⟩
    try simp only [Pu.pwA]
    exact ⟨_,_,rfl⟩
  ·rintro ρ ⟨s1,s2,rfl⟩
   try simp (disch:=omega) only [Pu.pwA,h1,qjK,tn]
   refine C8 (Q:=λo=>o=_) _ (j-(i+1)) (0+(i:Int)+1+((j-(i+1):Nat):Int)) (.tuple [.int i,.int j]) false (qe0 (by omega)) (λ_ ρ=>∃ s3,ρ=[.sh x,.sh (.int (0+(i:Int))),s3]) ⟨_,rfl⟩ ?_ ?_ rfl
   ·rintro l z ρ hl hz ⟨s3,rfl⟩;obtain ⟨hj,rfl⟩:=VI hz;have hj2:i+1+l<ns.length:=by omega
    have:=ne' hi hj2 (F.nb _ (by omega) (by omega))
    try simp only [Pu.pwA,at' i hi,at2 i l hj2,this]
    exact ⟨_,rfl⟩
   ·rintro ρ ⟨s3,rfl⟩;have hj2:i+1+(j-(i+1))<ns.length:=by omega
    have ej:i+1+(j-(i+1))=j:=by omega
    have e2:(ns[i]?).getD 0=(ns[i+1+(j-(i+1))]?).getD 0:=by rw [ej,F.eq]
    try simp only [Pu.pwA,at' i hi,at2 i _ hj2,e2]
    rw [show (0+(i:Int))=i by omega,show ((i:Int)+1+((j-(i+1):Nat):Int))=j by omega]
  ·try simp only [Pu.pwA,faD,jX F]
def qn1 {ns:List Int} (hl:ns.length<=1000000):qX [.list (ns.map PyData.int)]=some (faD ns):=qt2 hl (by simp [qjt]) λ_=>rfl
end Pv
namespace Pv
open PySem L2 L3 Pu
open Bk (Wk Dl jS jM EG lnD lnA Un2 Fst faO jX j3 UJ)
def qdN {w:Wk} (ok:w.Ok):Big w:=by
 cases w with
 |line k m=>obtain ⟨h1,h2,h3⟩:=ok;exact ⟨h1,by omega⟩
 |block h v=>obtain ⟨h1,h2,h3,h4,h5⟩:=ok;exact ⟨by omega,by omega⟩
 |step d a m=>obtain ⟨h1,h2,h3,h4⟩:=ok;exact ⟨by omega,by omega,by omega⟩
 |cells ps=>have h:=ok.2.1;show ps.length<=1000;omega
def WF {w:Wk} (ok:Big w):w.pc.length<=1000000:=by
 cases w with
 |line k m=>simp only [Wk.pc,jS,length_map,length_range];have:=ok.2;omega
 |block h v=>simp only [Wk.pc,Bk.UN];exact Nat.mul_le_mul ok.1 ok.2
 |step d a m=>simp only [Wk.pc,jS,length_map,length_range];have:=ok.2.2;omega
 |cells ps=>have:ps.length<=1000:=ok;simp only [Wk.pc];omega
def unB (ns:List Int):Bool:=(faO ns).isNone
def qeW {ns:List Int}:unB ns=true↔Un2 ns ns.length:=by
 constructor
 ·intro h;apply Classical.byContradiction;intro hn;obtain ⟨i,j,F⟩:=UJ hn;unfold unB at h;rw [jX F] at h;cases h
 ·intro h;unfold unB;rw [j3 h];rfl
def dn (cs:List (Int×Int)):List Int:=cs.map λp=>p.1
def al (cs:List (Int×Int)):List Int:=cs.map λp=>p.2
def stI (R C:Int) (cs:List (Int×Int)):List (Int×Int):=(zM (-(mn (dn cs))) (R-mx (dn cs) - -(mn (dn cs))).toNat).flatMap λi=>(zM (-(mn (al cs))) (C-mx (al cs) - -(mn (al cs))).toNat).map λj=>(i,j)
def qbo {α β:Type} (xs:List α) (ys:List β) {γ:Type} (f:α->β->γ):(xs.flatMap λa=>ys.map λb=>f a b).length=xs.length*ys.length:=by
 induction xs with
 |nil=>simp
 |cons a r ih=>simp only [List.flatMap_cons,length_append,length_map,ih,length_cons,Nat.succ_mul];omega
structure Cb (cs:List (Int×Int)):Prop where
 ne:cs≠[]
 b:∀ p∈cs,(-1000000<=p.1/\p.1<=1000000)/\(-1000000<=p.2/\p.2<=1000000)
def Cb.lim {cs:List (Int×Int)} (h:Cb cs):(-1000000<=mn (dn cs)/\mn (dn cs)<=mx (dn cs)/\mx (dn cs)<=1000000)/\(-1000000<=mn (al cs)/\mn (al cs)<=mx (al cs)/\mx (al cs)<=1000000):=by
 have n1:dn cs≠[]:=by simp [dn,h.ne]
 have n2:al cs≠[]:=by simp [al,h.ne]
 have m1:=KK n1;have m2:=K7 n1;have m3:=KK n2;have m4:=K7 n2;have l1:=qcJ m2;have l2:=qcJ m4;have b1:∀ x∈dn cs,-1000000<=x/\x<=1000000:=λx hx=>by
  obtain ⟨p,hp,rfl⟩:=mem_map.mp hx;exact (h.b p hp).1
 have b2:∀ x∈al cs,-1000000<=x/\x<=1000000:=λx hx=>by
  obtain ⟨p,hp,rfl⟩:=mem_map.mp hx;exact (h.b p hp).2
 have:=b1 _ m1;have:=b1 _ m2;have:=b2 _ m3;have:=b2 _ m4;omega
def qaN {R C:Int} {cs:List (Int×Int)} (h:Cb cs) (hR:R<=4096) (hC:C<=4096):(stI R C cs).length<=16777216:=by
 obtain ⟨⟨h1,h2,h3⟩,⟨h4,h5,h6⟩⟩:=h.lim;unfold stI;rw [qbo,WM,WM];have a:(R-mx (dn cs) - -(mn (dn cs))).toNat<=4096:=by omega
 have b:(C-mx (al cs) - -(mn (al cs))).toNat<=4096:=by omega
 exact za3 (Nat.mul_le_mul a b) (by decide)
end Pv
namespace Pv
open PySem L2 L3 Pu
open Bk (pop qbS jH j0 RZ RU Dl zN U0 ZG UW)
theorem qae (n:Int):∀ (t:Nat) (ms:List Int),jH n (t+1) ms=2*jH n t ms
 |_,[]=>rfl
 |t,m::ms=>by
  simp only [jH,qae n (t+1) ms,Int.pow_succ];split<;>omega
def qes (n m:Int) (ms:List Int):j0 (m::ms) n=(if qbS n m then 1 else 0)+2*j0 ms n:=by
 unfold j0;rw [jH,qae];simp
theorem qbu (n:Int):∀ ms:List Int,0<=j0 ms n/\j0 ms n<2 ^ ms.length
 |[]=>by simp [j0,jH]
 |m::ms=>by
  have ih:=qbu n ms;rw [qes,length_cons,Int.pow_succ];split<;>omega
end Pv
namespace Pv
open PySem L2 L3 Pu
open Bk (pop qbS jH j0 RZ RU Dl)
end Pv
namespace Pv
open PySem L2 L3 Pu
open Bk (pop qbS jH j0 Dl)
end Pv
namespace Hd
open PySem L2 L3 PySem.W
def oF (x:Str) (st:Stmt) (pm cd:Value):Obj:=⟨.type "function",none,.func (PySem.W.fnOf x x (Z1 st) (jk st) (qj st) .none .none .none pm none cd .none),#[]⟩
def oG (x:Str) (st:Stmt):Obj:=⟨.none,none,.func { name:=x,qualname:=x,params:=Z1 st,body:=.stmts (jk st),scope:=qj st,globals:=0,closure:=[],defaults:=.none,kwdefaults:=.none },#[]⟩
def oC (vs:List Value):Obj:=⟨.type "code",none,.fields vs.toArray,#[]⟩
def oT (vs:List Value):Obj:=⟨.type "tuple",none,.seq vs.toArray 0,#[]⟩
def eD (P:Params):Value×Value->DictEntry
 | (.str x t,v)=>⟨PyData.keyHash P x,.str x t,v⟩
 | (u,v)=>⟨0,u,v⟩
def oD (P:Params) (n:Nat) (es:List (Value×Value)):Obj:=⟨.type "dict",none,.dict (es.map (eD P)).toArray n,#[]⟩
def oK (x:Str) (t l n m:Nat) (a b:Addr) (u v z:Value) (e y q:Nat):Obj:=oC [.str x t,.str x (t+1),.str "/claim/cut.py" (t+2),.int l 0,.int n 0,.int 0 0,.int 0 0,.int 3 0,.ref a,.bool true,.int m 0,.ref b,u,v,z,.ref e,.int y 0,.int l 0,.str "/claim/cut.py" q]
def nmV:List Str->Nat->List Value
 |[],_=>[]
 |x::r,t=>.str x t::nmV r (t+1)
def oN (xs:List Str) (t:Nat):Obj:=oT (nmV xs t)
abbrev nd (o:Obj) (l r:PySem.W.BT):PySem.W.BT:=.node o l r
abbrev lf (o:Obj):PySem.W.BT:=.node o .nil .nil
def qrQ {K:Frg} (x:Str) (st:Stmt) (f:Addr) (pm cd:Value) (l:K.lookup f=some (oF x st pm cd)) (c:PySem.W.codeIn K cd x=true) (k:PySem.W.keepIn K (.ref f)=true) :
  Fun K x x st f (PySem.W.fnOf x x (Z1 st) (jk st) (qj st) .none .none .none pm none cd .none):=qcW l c k
def qme {K:Frg} {h:Heap} {mg:Str->Option Value} (X:K.In h) (G:h.Ns mainGlobals mg) (n:Str) (v:Value) (e:PySem.W.nsIn K mainGlobals n=some (some v)):mg n=some v:=PySem.W.mg_of X G e
def head {l:OpenLaw} {q:Program} {loose:List Str} {K:Params->Frag} {as:List Addr} {d:DefRec} {N:Nat} {k:Nat} {x:Str} (ha:∀ P,as=(K P).map (·.1))
  (ok:l.wellSaid=true)
  (left:LeftO l.prog q loose (λs=>xlAt q [] s&&recOk [] s) (λs=>as.map s.heap.get?) (λw=>(K w.params).map λp=>some p.2) N)
  (hdef:defOf q l.name=some (d,[])) (hp:l.prog.theDef l.name=some (d.params,d.body,d.scope)) (hk:kwWritten? d.params.kwonlyargs d.params.kw_defaults=some [])
  (hwr:(!l.row.writes||l.row.records.isEmpty)=true) (ok2:(chainsOk q&&opensWell l.prog&&(frees l.row.toRowW&&l.row.within.isEmpty))=true) (hb:l.prog.bare) (hw:l.row.toRowW.promised)
  (hn:l.most=some 63) (hdf:d.params.defaults=[]) (hr:Room k callerA) (hK:∀ w:World,CL (K w.params)=true)
  (F:∀ (w:World) (mg:Str->Option Value) (fa:Addr) (h:Heap),(K w.params).In h->h.Ns mainGlobals mg->mg d.name=some (.ref fa) ->
   ∃ fd:FuncData,(∀ (s:Shared) (u:Value),BindsTo s fd ⟨[u],[]⟩ [(x,u)])/\∀ base:Heap,(K w.params).In base->base.Ns mainGlobals mg->FnOk l.prog w (K w.params) mg base CX0 k fa fd [x] (lSp (K w.params) K0)):l.Holds:=by
 refine holds_law ok λsaid=>?_;exact holds_open (q:=q) (loose:=loose) (Xt:=λs=>xlAt q [] s&&recOk [] s) (XP:=XL q []) (Yf:=Hook.obs (kHook K as ha)) (Ya:=Hook.val (kHook K as ha)) (YP:=Hook.says (kHook K as ha)) (N:=N) left
  (Hook.of (kHook K as ha)) (Hook.keeps (kHook K as ha)) (λs e=>xl_of s (Bool.and_eq_true_iff.mp e).1) XL.keeps hdef hp hk (λs e=>recFacts_of (Bool.and_eq_true_iff.mp e).2) hwr said ok2 hb hw
  (L3.qsx (l:=l) (k:=k) (x:=x) hn hdf hr (λw h Y=>kIn_of Y) hK F)
end Hd
namespace Hd
open PySem L2 L3 PySem.W PySem.Spec PySem.Calls PyProof.Rows
structure Fb (K:Frg) (mg:Str->Option Value) (x:Str) (st:Stmt) (ps:List Str) (f:Addr) (fd:FuncData):Prop where
 F:Fun K x x st f fd
 b:KB K fd ps []
 m:mg x=some (.ref f)
def sc0 {N ps:List Str} {s:Scope} (h1:s.kind=.function:=by rfl) (h2:s.isCoroutine=false:=by rfl) (h3:s.isGenerator=false:=by rfl) (h4:N.Nodup:=by decide +kernel) (h5:N.take ps.length=ps:=by rfl) (h6:∀ x∈ps,s.names.lookup x=some .local\/s.names.lookup x=some .cell:=by decide +kernel) (h7:∀ y∈s.names,y.2≠.free:=by decide +kernel):FnScope N ps s:=⟨h1,h2,h3,h4,h5,h6,h7⟩
def jfE {P:Program} {w:World} {K:Frg} {mg:Str->Option Value} {base:Heap} {x:Str} {st:Stmt} {f:Addr} {fd:FuncData} {N ps:List Str} {k:Nat} {sp:Sp3} {t3:TS3} (E:Fb K mg x st ps f fd) (S:FnScope N ps (qj st))
  (read:∀ ts G q,sp ts G q->ts.length=ps.length/\t3 { nx:=λ_ G'=>q .non G',rt:=q } (qm N ts) G)
  (body:∀ (cdv:Value) (A:Around) (outer:List Env) (s:Shared) (H:Hp) (E:XK),Room k (A.deeper (envOfC x (qj st) s.heap.objs.size f cdv)) ->
   jB3 (qeE CX0 P w K mg base N x (qj st) f cdv A outer s H E).nox (jk st) t3):Fn3 P w K mg base (k+1) x sp:=qjx E.F S E.b E.m body read
def no {K:Frg} {h:Heap} {mg:Str->Option Value} (X:K.In h) (G:h.Ns mainGlobals mg) (n:Str) (e:PySem.W.nsIn K mainGlobals n=some none:=by kernel_rfl):mg n=none:=PySem.W.mg_none_of X G e
def c1 (P:Params) (M:Str) (q:Nat) (nm:Str) (t:Nat) (ln:Int) (r:Nat):Obj:=oD P 4 [(.str "__module__" (t+7),.str M q),(.str "__qualname__" (t+9),.str nm (t+8)),(.str "__firstlineno__" (t+11),.int ln (t+10)),(.str "__static_attributes__" (t+12),.ref (r+7))]
def c2 (nm:Str) (t:Nat) (ln:Int) (r:Nat):Obj:=oC [.str nm (t+2),.str nm (t+3),.str "/claim/cut.py" (t+4),.int ln 0,.int 0 0,.int 0 0,.int 0 0,.int 0 0,.ref (r+3),.bool false,.int 181 0,.ref (r+4),.none,.none,.none,.none,.int (t+5:Nat) 0,.int ln 0,.str "/claim/cut.py" (t+6)]
def c3 (M:Str) (q r:Nat):Obj:=⟨.type "frame",none,.plain,#[some (.ref (r+5)),some (.ref 3),some (.ref (r+2)),none,some (.str M q),none,some (.ref 0)]⟩
def c4 (P:Params) (M:Str) (q t:Nat) (ln:Int) (r:Nat):Obj:=oD P 2 [(.str "__module__" (t+7),.str M q),(.str "__firstlineno__" (t+11),.int ln (t+10)),(.str "__static_attributes__" (t+12),.ref (r+7)),(.str "__doc__" (t+13),.none)]
def c5 (nm:Str) (b t r:Nat):Obj:=⟨.type "type",none,.cls ({ name:=nm,bases:=[Value.ref b],mro:=[Value.ref (r+9),Value.ref b,Value.type "ValueError",Value.type "Exception",Value.type "BaseException",Value.type "object"],ns:=r+8,qualname:=nm }),#[some (.ref r),none,some (.str nm t),some (.str nm (t+8)),some (.builtin "ValueError.__new__"),some (.bool true)]⟩
def c6 (r:Nat):Obj:=⟨.type "super",none,.fields #[.ref r,.ref r,.ref r],#[]⟩
def c7 (r:Nat):Obj:=⟨.type "builtin_function_or_method",none,.fields #[.builtin "object.__init_subclass__",.ref r],#[]⟩
def oM (P:Params) (n:Nat) (M:Str) (q:Nat) (es:List (Value×Value)):Obj:=oD P n ([(.str "__name__" 165,.str M q),(.str "__doc__" 166,.none),(.str "__package__" 167,.none),(.str "__loader__" 168,.builtin "__main__.__loader__#opaque"),(.str "__spec__" 169,.none),(.str "__annotations__" 170,.ref 6),(.str "__builtins__" 171,.ref 4),(.str "__file__" 173,.str "/claim/cut.py" 172),(.str "__cached__" 174,.none)]++es)
theorem e {K:Frg} {h:Heap} {mg:Str->Option Value} (X:K.In h) (G:h.Ns mainGlobals mg) (x:Str) (st:Stmt) (ps:List Str) (f:Addr) (pm cd:Value) (l:K.lookup f=some (oF x st pm cd):=by kernel_rfl) (c:PySem.W.codeIn K cd x=true:=by kernel_rfl) (k:PySem.W.keepIn K (.ref f)=true:=by kernel_rfl) (e:PySem.W.nsIn K mainGlobals x=some (some (.ref f)):=by kernel_rfl)
  (b:∀ (kV doc pm:Value) (an:Option Addr) (cdv ct:Value) (us:List Value),us.length=ps.length->bindArgs (PySem.W.fnOf x x (Z1 st) (jk st) (qj st) .none kV doc pm an cdv ct) ⟨us,[]⟩=pure (ps.zip us):=by exact λ_ _ _ _ _ _ us hl=>by first|(obtain ⟨_,rfl⟩:=Pu.qsQ hl;rfl)|(obtain ⟨_,_,rfl⟩:=Pu.qs9 hl;rfl)|(obtain ⟨_,_,_,rfl⟩:=Pu.qsI hl;rfl)|(obtain ⟨_,_,_,_,rfl⟩:=Pu.qsV hl;rfl)|(obtain ⟨_,_,_,_,_,rfl⟩:=Pu.qtd hl;rfl)|(obtain ⟨_,_,_,_,_,_,rfl⟩:=Pu.qtM hl;rfl)) :
  Fb K mg x st ps f (PySem.W.fnOf x x (Z1 st) (jk st) (qj st) .none .none .none pm none cd .none):=⟨qcW l c k,(qcW l c k).binds b,PySem.W.mg_of X G e⟩
end Hd
namespace L3
open PySem PySem.Spec PyProof.Rows L2
end L3
namespace Hd
open PySem PySem.Spec PyProof.Rows L2 L3 PySem.W
end Hd
namespace Hd
open PySem L2 L3 PySem.W PySem.Spec PySem.Calls PyProof.Rows
end Hd
namespace Pu
open PySem L2 L3
def qjU (ρ:Rho) (i:Nat):Option (List (List PyData)):=match ρ[i]? with|some (.on dss)=>some dss|_=>none
def qf0 {ρ:Rho} {i:Nat} {dss:List (List PyData)} (h:qjU ρ i=some dss):ρ[i]?=some (.on dss):=by
 unfold qjU at h;split at h
 ·rename_i e;cases h;exact e
 ·cases h
section
variable {D:Addr->Prop} {G0 G G':Gp} {A:Nat->Addr->Prop} {τ:St3} {ρ:Rho} {i:Nat} {p q:Addr} {qs:List Addr} {dss:List (List PyData)} {xs ys:List T} {ds:List PyData}
def RS.on (h:RS D G0 A τ ρ G) (e:qjU ρ i=some dss):∃ p qs,A i p/\τ[i]?=some (some (.ref p))/\G p=some (.lst (qs.map T.ref))/\(p::qs).Nodup/\Ons (rs (AD D A) G) G (A i) qs dss:=h.sl i _ (qf0 e)
end
def qfv (i:Nat) (kk y:Int) (ρ:Rho):Option Ot:=(slot ρ i).bind λds=>(ixN ds.length kk).bind λj=>(ds[j]?).bind λd=>(asI d).map λx=>.nx (ρ.set i (.ow (ds.set j (.int (x+y)))))
def qnR {tk t:TE3} (b:PuE tk) (a:PuE t) (i:Nat):PuS (qe9 (v3 i) tk t):=⟨λ_ ρ=>(b.f ρ).bind λk=>(asI k).bind λkk=>(a.f ρ).bind λd=>(asI d).bind λy=>qfv i kk y ρ,λ{D G0 A τ ρ G n o e} h hf k=>by
 obtain ⟨kd,e1,hf1⟩:=obb hf;obtain ⟨kk,e2,hf2⟩:=obb hf1;obtain ⟨d,e3,hf3⟩:=obb hf2;obtain ⟨y,e4,hf4⟩:=obb hf3;unfold qfv at hf4;obtain ⟨ds,e5,hf5⟩:=obb hf4;obtain ⟨j,e6,hf6⟩:=obb hf5;obtain ⟨dx,e7,hf7⟩:=obb hf6;obtain ⟨x,e8,rfl⟩:=za9 hf7;have:=NH e2;subst this;have:=NH e4;subst this;have:=NH e8;subst this;clear hf hf1 hf2 hf3 hf4 hf5 hf6 hf7;obtain ⟨p,xs,b1,c1,g1,f1⟩:=h.ow i _ (TL e5);simp only [qe9,v3,c1];refine b.ok (h.viewAll _) h.domD e1 λz G1 E1 D1 _=>?_;cases D1;have h1:=h.up E1;obtain ⟨p',xs',b1',c1',g1',f1'⟩:=h1.ow i _ (TL e5);rw [c1] at c1';cases c1';obtain ⟨t,gt,dt⟩:=f1'.get e7;cases dt;have at':atI xs' kk=some (.int x):=by
  unfold atI;rw [f1'.length,e6];exact gt
 simp only [g1',at'];refine a.ok (h1.viewAll _) h1.domD e3 λz G2 E2 D2 _=>?_;cases D2;have h2:=h1.up E2;obtain ⟨p2,xs2,b2,c2,g2,f2⟩:=h2.ow i _ (TL e5);rw [c1] at c2;cases c2;simp only [JG,g2,f2.length,e6];exact k _ _ _ (h2.wr b2 c1 (f2.set j (.int _)))⟩
def qkz {tk t:TE3} {b:PuE tk} {a:PuE t} {i:Nat}:(qnR b a i).f=λ_ ρ=>(b.f ρ).bind λk=>(asI k).bind λkk=>(a.f ρ).bind λd=>(asI d).bind λy=>qfv i kk y ρ:=id rfl
def qls {t:TE3} (b:PuE t) (i j:Nat):PuS (j6 i j (qc (zX qh) (qc t qh))):=⟨λ_ ρ=>(b.f ρ).bind λd=>if qcO d then some (.nx ((ρ.set i (.ow [])).set j (.sh d))) else none,λ{D G0 A τ ρ G n o e} h hf k=>by
 obtain ⟨d,e1,hf1⟩:=obb hf;split at hf1
 ·rename_i hs;cases hf1;simp only [j6,qc,zX,qh];refine ⟨Nat.zero_le _,λp hp=>?_⟩;have h1:=h.putN i (d:=.list []) rfl (QB hp) (M7 hp .nil);refine b.ok ((h.up (QB hp)).viewAll _) (h.up (QB hp)).domD e1 λy G2 E2 D2 _=>?_;exact k _ _ _ ((h1.up E2).put j (SR D2 hs))
 ·cases hf1⟩
def qjl {t:TE3} {b:PuE t} {i j:Nat}:(qls b i j).f=λ_ ρ=>(b.f ρ).bind λd=>if qcO d then some (.nx ((ρ.set i (.ow [])).set j (.sh d))) else none:=id rfl
open Bk (Lf Ext)
section
variable {l:Nat} {a0:Addr} {z0:Option (Option T)×Nat} {D:Addr->Prop} {G0 G G':Gp} {A:Nat->Addr->Prop} {τ:St3} {ρ:Rho} {n:Nat} {i j:Nat} {p q:Addr} {qs:List Addr} {dss:List (List PyData)} {xs ys:List T} {ds:List PyData}
end
end Pu
namespace K91
open PySem L2 L3 Bk
def top (i : Nat) : Stmt := PySem.Challenge.pw_bankwalk_k91_whole_walks_beside_all_star.main.body.getD i (.Pass ⟨0,0,0,0⟩)
variable {P:Program} {w:World} {K:Frg} {mg:Str->Option Value} {base:Heap} {f:Addr} {fd:FuncData} {k:Nat} {sp:Sp3}
section
variable (m0:mg "isinstance" = none) (m1:mg "bool" = none) (m2:mg "int" = none) {S3:Sp3} (V3:Fn3 P w K mg base k "is_number" S3) (m4:mg "len" = none) (m5:mg "tuple" = none) (m6:mg "range" = none) {S7:Sp3} (V7:Fn3 P w K mg base k "is_number_below" S7) {S8:Sp3} (V8:Fn3 P w K mg base k "size_of" S8) {S9:Sp3} (V9:Fn3 P w K mg base k "is_pair" S9) {S10:Sp3} (V10:Fn3 P w K mg base k "odd_in_common" S10) (m11:mg "enumerate" = none) (m12:mg "sum" = none) {S13:Sp3} (V13:Fn3 P w K mg base k "parted" S13) {S14:Sp3} (V14:Fn3 P w K mg base k "bank_in" S14) {S15:Sp3} (V15:Fn3 P w K mg base k "number_of" S15) {S16:Sp3} (V16:Fn3 P w K mg base k "bits_bank" S16) {S17:Sp3} (V17:Fn3 P w K mg base k "joined_bank" S17) {S18:Sp3} (V18:Fn3 P w K mg base k "strung" S18) (m19:mg "list" = none) (m20:Tb K mg w "STRIDES" WJ) {S21:Sp3} (V21:Fn3 P w K mg base k "cells_of" S21) (m22:mg "min" = none) (m23:mg "max" = none) {S24:Sp3} (V24:Fn3 P w K mg base k "shifted" S24) {S25:Sp3} (V25:Fn3 P w K mg base k "is_word" S25) (m26:mg "all" = none) {S27:Sp3} (V27:Fn3 P w K mg base k "is_start" S27) {S28:Sp3} (V28:Fn3 P w K mg base k "words_of" S28) {S29:Sp3} (V29:Fn3 P w K mg base k "starts" S29) {S30:Sp3} (V30:Fn3 P w K mg base k "banks_from" S30) {S31:Sp3} (V31:Fn3 P w K mg base k "first_alike" S31) {S32:Sp3} (V32:Fn3 P w K mg base k "are_alike" S32) (m33:mg "abs" = none) {S34:Sp3} (V34:Fn3 P w K mg base k "_law_mix" S34) {S35:Sp3} (V35:Fn3 P w K mg base k "_law_pick" S35) {S36:Sp3} (V36:Fn3 P w K mg base k "_law_sides" S36) {S37:Sp3} (V37:Fn3 P w K mg base k "_law_gcd" S37) {S38:Sp3} (V38:Fn3 P w K mg base k "_law_skew" S38) {S39:Sp3} (V39:Fn3 P w K mg base k "_law_rests" S39) {S40:Sp3} (V40:Fn3 P w K mg base k "_law_bits" S40) {S41:Sp3} (V41:Fn3 P w K mg base k "_law_table" S41) {S42:Sp3} (V42:Fn3 P w K mg base k "_law_small" S42) {S43:Sp3} (V43:Fn3 P w K mg base k "_law_size" S43) (m44:mg "zip" = none) {S45:Sp3} (V45:Fn3 P w K mg base k "_law_odd" S45) {S46:Sp3} (V46:Fn3 P w K mg base k "_law_bank" S46) {S47:Sp3} (V47:Fn3 P w K mg base k "_law_many" S47) {S48:Sp3} (V48:Fn3 P w K mg base k "_law_cells" S48) {S49:Sp3} (V49:Fn3 P w K mg base k "_law_same" S49) (m50:mg "str" = none) {S51:Sp3} (V51:Fn3 P w K mg base k "loads" S51) {S52:Sp3} (V52:Fn3 P w K mg base k "_law_starts" S52) {S53:Sp3} (V53:Fn3 P w K mg base k "_law_from" S53) {S54:Sp3} (V54:Fn3 P w K mg base k "_law_start_right" S54) {S55:Sp3} (V55:Fn3 P w K mg base k "clash" S55) {S56:Sp3} (V56:Fn3 P w K mg base k "clear_starts" S56) {S57:Sp3} (V57:Fn3 P w K mg base k "shows_clash" S57) (m58:mg "set" = none) {S59:Sp3} (V59:Fn3 P w K mg base k "_law_left" S59) {S60:Sp3} (V60:Fn3 P w K mg base k "_law_dealing" S60) {S61:Sp3} (V61:Fn3 P w K mg base k "_law_flat" S61) {S62:Sp3} (V62:Fn3 P w K mg base k "_law_walk" S62) {S63:Sp3} (V63:Fn3 P w K mg base k "_law_right" S63) {S64:Sp3} (V64:Fn3 P w K mg base k "_law_less" S64)
abbrev QU:Stmt:=top 1
abbrev VB:List Str:=["thing"]
abbrev ER:List Str:=["thing"]
def qab:FnScope VB ER (qj QU):=Hd.sc0
def NC (E:Hd.Fb K mg "is_number" QU ER f fd) (read:Rd sp 1 (Bk.DQ) VB):Fn3 P w K mg base (k+1) "is_number" sp:=
 Hd.jfE E qab read λcdv A outer s H E hr=>(ql (qp (j9 (VU (qb 0) rfl m0 rfl m2 PyProof.Rows.boot_int) (YF (qhh (VU (qb 0) rfl m0 rfl m1 PyProof.Rows.boot_bool))))))
abbrev J8:Stmt:=top 2
abbrev YM:List Str:=["thing"]
abbrev TU:List Str:=["thing"]
def qcF:FnScope YM TU (qj J8):=Hd.sc0
def qcC (E:Hd.Fb K mg "is_pair" J8 TU f fd) (read:Rd sp 1 (Bk.SM S3) YM):Fn3 P w K mg base (k+1) "is_pair" sp:=
 Hd.jfE E qcF read λcdv A outer s H E hr=>(ql (qp (j9 (VU (qb 0) rfl m0 rfl m5 PyProof.Rows.boot_tuple) (j9 (jo (qT hr.units) qC (qy zm zR rfl m4 PySem.boot_len (qa (qb 0) qd)) qe (qv _)) (j9 (qf V3 hr rfl (qa (qu (qb 0) qe) qd)) (YF (qf V3 hr rfl (qa (qu (qb 0) qe) qd))))))))
abbrev zA:Stmt:=top 3
abbrev zH:List Str:=["thing","end"]
abbrev QF:List Str:=["thing","end"]
def D0:FnScope zH QF (qj zA):=Hd.sc0
def QK (S3:Sp3):TS3:=(qB (qZ (cb3 S3 (qc (v3 0) qh)) (ch3 (iB λi j=>decide (i<=j)) (iB λi j=>decide (i<j)) (c3 (.int 0)) (v3 0) (v3 1))))
def WH (E:Hd.Fb K mg "is_number_below" zA QF f fd) (read:Rd sp 2 (QK S3) zH):Fn3 P w K mg base (k+1) "is_number_below" sp:=
 Hd.jfE E D0 read λcdv A outer s H E hr=>(ql (qp (j9 (qf V3 hr rfl (qa (qb 0) qd)) (YF (LX qkl jO KD jO qe (qb 0) (qb 1))))))
abbrev jB:Stmt:=top 4
abbrev WQ:List Str:=["things","k","l"]
abbrev VJ:List Str:=["things"]
def JX:FnScope WQ VJ (qj jB):=Hd.sc0
def T4 (E:Hd.Fb K mg "first_alike" jB VJ f fd) (read:Rd sp 1 (Bk.YT) WQ):Fn3 P w K mg base (k+1) "first_alike" sp:=
 Hd.jfE E JX read λcdv A outer s H E hr=>(qg (J9 PassesOwn.never rfl (qP rfl m6 (qa (qy zm zR rfl m4 PySem.boot_len (qa (qb 0) qd)) qd) (h1:=by intro _ _ _ h;simpa [qc,qh] using h)) (qq (i:=1) (JX.nd)) (ql (J9 PassesOwn.never rfl (UL rfl m6 (qa (qz (qb 1) qe) (qa (qy zm zR rfl m4 PySem.boot_len (qa (qb 0) qd)) qd)) (h1:=by intro _ _ _ h;simpa [qc,qh] using h)) (qq (i:=2) (JX.nd)) (ql (zh (qD (qT hr.units) qC (qu (qb 0) (qb 1)) (qu (qb 0) (qb 2)) (qv _)) (ql (qp (qA (qa (qb 1) (qa (qb 2) qd))))) qG))))) (ql (qp VT)))
abbrev Q5:Stmt:=top 5
abbrev QH:List Str:=["things","k","l"]
abbrev EU:List Str:=["things","k","l"]
def qai:FnScope QH EU (qj Q5):=Hd.sc0
def ES (S7:Sp3):TS3:=(qw (qV (or3 (JD (tb3 (cb3 S7 (qc (v3 1) (qc (cb3 jP (qc (v3 0) qh)) qh))))) (JD (tb3 (cb3 S7 (qc (v3 2) (qc (cb3 jP (qc (v3 0) qh)) qh)))))) (qB (c3 (.bl false))) qt) (qB (qZ (o3 (iB λi j=>decide (i<j)) (v3 1) (v3 2)) (o3 (qY false) (o3 ix3 (v3 0) (v3 1)) (o3 ix3 (v3 0) (v3 2))))))
def M5 (E:Hd.Fb K mg "are_alike" Q5 EU f fd) (read:Rd sp 3 (ES S7) QH):Fn3 P w K mg base (k+1) "are_alike" sp:=
 Hd.jfE E qai read λcdv A outer s H E hr=>(qg (zh (jpt (qch (C9 (VP (qf V7 hr rfl (qa (qb 1) (qa (qy zm zR rfl m4 PySem.boot_len (qa (qb 0) qd)) qd))))) (KM (C9 (VP (qf V7 hr rfl (qa (qb 2) (qa (qy zm zR rfl m4 PySem.boot_len (qa (qb 0) qd)) qd)))))))) (ql (qp EZ)) qG) (ql (qp (j9 (jo KD jO (qb 1) (qb 2) (qv _)) (YF (jo (qT hr.units) qC (qu (qb 0) (qb 1)) (qu (qb 0) (qb 2)) (qv _)))))))
abbrev YE:Stmt:=top 10
abbrev SZ:List Str:=["dealing","kind","rows","columns","banks","other_rows","other_columns","other_banks"]
abbrev S6:List Str:=["dealing"]
def jL:FnScope SZ S6 (qj YE):=Hd.sc0
def XA (E:Hd.Fb K mg "size_of" YE S6 f fd) (read:Rd sp 1 (Bk.R4 S8) SZ):Fn3 P w K mg base (k+1) "size_of" sp:=
 Hd.jfE E jL read λcdv A outer s H E hr=>(qg (qJ 1 jL.nd (qu (qb 0) qe)) (qg (zh (qD (qT hr.units) qC (qb 1) qK (qv _)) (ql (qp (qA (qa (qbp qe (qu (qb 0) qe)) (qa (qbp qe (qu (qb 0) qe)) (qa (qbp qe (qy zm zR rfl m4 PySem.boot_len (qa (qu (qb 0) qe) qd))) qd)))))) qG) (qg (zh (qD (qT hr.units) qC (qb 1) qK (qv _)) (ql (qp (qA (qa (qy zm zR rfl m4 PySem.boot_len (qa (qu (qb 0) qe) qd)) (qa (qy zm zR rfl m4 PySem.boot_len (qa (qu (qu (qb 0) qe) qe) qd)) (qa (qu (qb 0) qe) qd)))))) qG) (qg (zh (qD (qT hr.units) qC (qb 1) qK (qv _)) (qg (jx (qf V8 hr rfl (qa (qu (qb 0) qe) qd)) (zr rfl (qo (qq (i:=2) (jL.nd)) (qo (qq (i:=3) (jL.nd)) (qo (qq (i:=4) (jL.nd)) zp))))) (qg (jx (qf V8 hr rfl (qa (qu (qb 0) qe) qd)) (zr rfl (qo (qq (i:=5) (jL.nd)) (qo (qq (i:=6) (jL.nd)) (qo (qq (i:=7) (jL.nd)) zp))))) (ql (qp (qA (qa (zB (qb 2) (qb 5)) (qa (zB (qb 3) (qb 6)) (qa (zB (qb 4) (qb 7)) qd)))))))) qG) (ql (qp (qA (qa (qu (qb 0) qe) (qa (qu (qb 0) qe) (qa (qu (qb 0) qe) qd))))))))))
abbrev QV:Stmt:=top 11
abbrev DL:List Str:=["dealing","word","rows","columns","banks"]
abbrev DO:List Str:=["dealing","word"]
def JR:FnScope DL DO (qj QV):=Hd.sc0
def UF (E:Hd.Fb K mg "number_of" QV DO f fd) (read:Rd sp 2 (Bk.EY S8) DL):Fn3 P w K mg base (k+1) "number_of" sp:=
 Hd.jfE E JR read λcdv A outer s H E hr=>(qg (jx (qf V8 hr rfl (qa (qb 0) qd)) (zr rfl (qo (qq (i:=2) (JR.nd)) (qo (qq (i:=3) (JR.nd)) (qo (qq (i:=4) (JR.nd)) zp))))) (ql (qp (qz (zB (qu (qb 1) qe) (qb 3)) (qu (qb 1) qe)))))
abbrev YJ:Stmt:=top 12
abbrev UE:List Str:=["dealing","thing","rows","columns","banks"]
abbrev SY:List Str:=["dealing","thing"]
def U6:FnScope UE SY (qj YJ):=Hd.sc0
def qcG (E:Hd.Fb K mg "is_word" YJ SY f fd) (read:Rd sp 2 (Bk.SX S9 S8) UE):Fn3 P w K mg base (k+1) "is_word" sp:=
 Hd.jfE E U6 read λcdv A outer s H E hr=>(qg (zh (C9 (VP (qf V9 hr rfl (qa (qb 1) qd)))) (ql (qp EZ)) qG) (qg (jx (qf V8 hr rfl (qa (qb 0) qd)) (zr rfl (qo (qq (i:=2) (U6.nd)) (qo (qq (i:=3) (U6.nd)) (qo (qq (i:=4) (U6.nd)) zp))))) (ql (qp (j9 (LX qkl jO KD jO qe (qu (qb 1) qe) (qb 2)) (YF (LX qkl jO KD jO qe (qu (qb 1) qe) (qb 3))))))))
abbrev z9:Stmt:=top 13
abbrev ZJ:List Str:=["number","mask","common","many"]
abbrev ZW:List Str:=["number","mask"]
def zZ:FnScope ZJ ZW (qj z9):=Hd.sc0
def RH (E:Hd.Fb K mg "odd_in_common" z9 ZW f fd) (read:Rd sp 2 (Bk.ZN) ZJ):Fn3 P w K mg base (k+1) "odd_in_common" sp:=
 Hd.jfE E zZ read λcdv A outer s H E hr=>(qg (qJ 2 zZ.nd (LI (qb 0) (qb 1))) (qg (qJ 3 zZ.nd qe) (qg (qb1 PassesOwn.never (qD qcj jO (qb 2) qe (qv _)) (qg (qc8 3 zZ.nd (LI (qb 2) qe)) (ql (qJ 2 zZ.nd (qpX (qb 2) qe))))) (ql (qp (jo (qT hr.units) qC (LI (qb 3) qe) qe (qv _)))))))
abbrev QX:Stmt:=top 14
abbrev R6:List Str:=["masks","number"]
abbrev DX:List Str:=["masks","number"]
def NA:FnScope R6 DX (qj QX):=Hd.sc0
def qan (E:Hd.Fb K mg "bits_bank" QX DX f fd) (read:Rd sp 2 (Bk.DF S10) R6):Fn3 P w K mg base (k+1) "bits_bank" sp:=
 Hd.jfE E NA read λcdv A outer s H E hr=>(ql (qp (qy (DZ rfl) qdE rfl m12 PyProof.Rows.boot_sum (qa (ZZ ["t","mask","number"] [none,none,some 1] rfl (qdY rfl m11 (qa (qb 0) qd)) (λ_ _ _=>(zr rfl (qo (jgn 0) (qo (jgn 1) zp)))) (λ_ _ _=>qb4 (VP (qf V10 hr rfl (qa (qb 2) (qa (qb 1) qd))))) (λ_ _ _=>(qbp qe (qb 0))) (by kernel_rfl) (by kernel_rfl)) qd))))
abbrev US:Stmt:=top 15
abbrev MP:List Str:=["word","rows","columns","i","j"]
abbrev LY:List Str:=["word","rows","columns"]
def SW:FnScope MP LY (qj US):=Hd.sc0
def qdo (E:Hd.Fb K mg "parted" US LY f fd) (read:Rd sp 3 (Bk.MU) MP):Fn3 P w K mg base (k+1) "parted" sp:=
 Hd.jfE E SW read λcdv A outer s H E hr=>(qg (jx (qb 0) (zr rfl (qo (qq (i:=3) (SW.nd)) (qo (qq (i:=4) (SW.nd)) zp)))) (ql (qp (qA (qa (qA (qa (EK (qb 3) (qb 1)) (qa (EK (qb 4) (qb 2)) qd))) (qa (qA (qa (Q2 (qb 3) (qb 1)) (qa (Q2 (qb 4) (qb 2)) qd))) qd))))))
abbrev jE:Stmt:=top 16
abbrev YX:List Str:=["one","other","word","rows","columns","banks","upper","lower"]
abbrev Y7:List Str:=["one","other","word"]
def ja:FnScope YX Y7 (qj jE):=Hd.sc0
def JY (E:Hd.Fb K mg "joined_bank" jE Y7 f fd) (read:Rd sp 3 (Bk.VH S8 S13 S14) YX):Fn3 P w K mg base (k+1) "joined_bank" sp:=
 Hd.jfE E ja read λcdv A outer s H E hr=>(qg (jx (qf V8 hr rfl (qa (qb 1) qd)) (zr rfl (qo (qq (i:=3) (ja.nd)) (qo (qq (i:=4) (ja.nd)) (qo (qq (i:=5) (ja.nd)) zp))))) (qg (jx (qf V13 hr rfl (qa (qb 2) (qa (qb 3) (qa (qb 4) qd)))) (zr rfl (qo (qq (i:=6) (ja.nd)) (qo (qq (i:=7) (ja.nd)) zp)))) (ql (qp (qz (zB (qf V14 hr rfl (qa (qb 0) (qa (qb 6) qd))) (qb 5)) (qf V14 hr rfl (qa (qb 1) (qa (qb 7) qd))))))))
abbrev YB:Stmt:=top 17
abbrev S4:List Str:=["dealing","word","kind"]
abbrev TB:List Str:=["dealing","word"]
def K1:FnScope S4 TB (qj YB):=Hd.sc0
def CV (E:Hd.Fb K mg "bank_in" YB TB f fd) (read:Rd sp 2 (Bk.TV S15 S16 S17) S4):Fn3 P w K mg base (k+1) "bank_in" sp:=
 Hd.jfE E K1 read λcdv A outer s H E hr=>(qg (qJ 2 K1.nd (qu (qb 0) qe)) (qg (zh (qD (qT hr.units) qC (qb 2) qK (qv _)) (ql (qp (Q2 (qz (zB (qu (qb 0) qe) (qu (qb 1) qe)) (zB (qu (qb 0) qe) (qu (qb 1) qe))) (qu (qb 0) qe)))) qG) (qg (zh (qD (qT hr.units) qC (qb 2) qK (qv _)) (ql (qp (Q2 (qf V15 hr rfl (qa (qb 0) (qa (qb 1) qd))) (qu (qb 0) qe)))) qG) (qg (zh (qD (qT hr.units) qC (qb 2) qK (qv _)) (ql (qp (qf V16 hr rfl (qa (qu (qb 0) qe) (qa (qf V15 hr rfl (qa (qb 0) (qa (qb 1) qd))) qd))))) qG) (qg (zh (qD (qT hr.units) qC (qb 2) qK (qv _)) (ql (qp (qu (qu (qu (qb 0) qe) (qu (qb 1) qe)) (qu (qb 1) qe)))) qG) (ql (qp (qf V17 hr rfl (qa (qu (qb 0) qe) (qa (qu (qb 0) qe) (qa (qb 1) qd)))))))))))
abbrev UR:Stmt:=top 20
abbrev qb5:List Str:=["down","along","many"]
abbrev LF:List Str:=["down","along","many"]
def qd3:FnScope qb5 LF (qj UR):=Hd.sc0
def qeF (E:Hd.Fb K mg "strung" UR LF f fd) (read:Rd sp 3 (Bk.LM) qb5):Fn3 P w K mg base (k+1) "strung" sp:=
 Hd.jfE E qd3 read λcdv A outer s H E hr=>(ql (qp (ZZ ["t","down","along"] [none,some 0,some 1] rfl (qP rfl m6 (qa (qb 2) qd) (h1:=by intro _ _ _ h;simpa [qc,qh] using h)) (λ_ _ _=>(jgn 0)) (λ_ _ _=>zq) (λ_ _ _=>(qA (qa (zB (qb 0) (qb 1)) (qa (zB (qb 0) (qb 2)) qd)))) (by kernel_rfl) (by kernel_rfl))))
abbrev JC:Stmt:=top 21
abbrev KP:List Str:=["walk","kind","down","along"]
abbrev XF:List Str:=["walk"]
def YW:FnScope KP XF (qj JC):=Hd.sc0
def qa7 (E:Hd.Fb K mg "cells_of" JC XF f fd) (read:Rd sp 1 (Bk.CC S18) KP):Fn3 P w K mg base (k+1) "cells_of" sp:=
 Hd.jfE E YW read λcdv A outer s H E hr=>(qg (qJ 1 YW.nd (qu (qb 0) qe)) (qg (zh (qD (qT hr.units) qC (qb 1) qK (qv _)) (ql (qp (zk C0 qbI rfl m19 PyProof.Rows.boot_list (qa (qu (qb 0) qe) qd)))) qG) (qg (zh (qD (qT hr.units) qC (qb 1) qK (qv _)) (ql (qp (qip ["p","q","walk"] [none,none,some 0] rfl (qP rfl m6 (qa (qu (qb 0) qe) qd) (h1:=by intro _ _ _ h;simpa [qc,qh] using h)) (λ_ _ _=>(jgn 0)) (λ_ _ _=>zq) (λ_ _ _=>(qP rfl m6 (qa (qu (qb 2) qe) qd) (h1:=by intro _ _ _ h;simpa [qc,qh] using h))) (λ_ _ _=>(jgn 1)) (λ_ _ _=>zq) (λ_ _ _=>(qA (qa (qb 0) (qa (qb 1) qd)))) (by kernel_rfl) (by kernel_rfl)))) qG) (qg (zh (qD (qT hr.units) qC (qb 1) qK (qv _)) (ql (qp (qf V18 hr rfl (qa (qu (qb 0) qe) (qa (qu (qb 0) qe) (qa (qu (qb 0) qe) qd)))))) qG) (qg (jx (qjI m20 rfl (qb 1) (λ_ _=>rfl)) (zr rfl (qo (qq (i:=2) (YW.nd)) (qo (qq (i:=3) (YW.nd)) zp)))) (ql (qp (qf V18 hr rfl (qa (qb 2) (qa (qb 3) (qa (qu (qb 0) qe) qd)))))))))))
abbrev UB:Stmt:=top 22
abbrev RJ:List Str:=["dealing","walk","rows","columns","banks","cells","downs","alongs"]
abbrev MD:List Str:=["dealing","walk"]
def ZO:FnScope RJ MD (qj UB):=Hd.sc0
def qcV (E:Hd.Fb K mg "starts" UB MD f fd) (read:Rd sp 2 (Bk.LR S8 S21) RJ):Fn3 P w K mg base (k+1) "starts" sp:=
 Hd.jfE E ZO read λcdv A outer s H E hr=>(qg (jx (qf V8 hr rfl (qa (qb 0) qd)) (zr rfl (qo (qq (i:=2) (ZO.nd)) (qo (qq (i:=3) (ZO.nd)) (qo (qq (i:=4) (ZO.nd)) zp))))) (qg (qJ 5 ZO.nd (qf V21 hr rfl (qa (qb 1) qd))) (qg (JN 6 ["p","q"] [none,none] rfl ZO.nd (ZC (qb 5)) (λ_ _ _=>(zr rfl (qo (jgn 0) (qo (jgn 1) zp)))) (λ_ _ _=>zq) (λ_ _ _=>(qb 0)) (by kernel_rfl) (by kernel_rfl) rfl rfl) (qg (qJ 7 ZO.nd (ZZ ["p","q"] [none,none] rfl (ZC (qb 5)) (λ_ _ _=>(zr rfl (qo (jgn 0) (qo (jgn 1) zp)))) (λ_ _ _=>zq) (λ_ _ _=>(qb 1)) (by kernel_rfl) (by kernel_rfl))) (ql (qp (qip ["i","j","columns","alongs"] [none,none,some 3,some 7] rfl (UL rfl m6 (qa (UG (qy (WT rfl) RQ rfl m22 PyProof.Rows.boot_min (qa (qb 6) qd))) (qa (CY (qb 2) (qy (WO rfl) RO rfl m23 PyProof.Rows.boot_max (qa (qb 6) qd))) qd)) (h1:=by intro _ _ _ h;simpa [qc,qh] using h)) (λ_ _ _=>(jgn 0)) (λ_ _ _=>zq) (λ_ _ _=>(UL rfl m6 (qa (UG (qy (WT rfl) RQ rfl m22 PyProof.Rows.boot_min (qa (qb 3) qd))) (qa (CY (qb 2) (qy (WO rfl) RO rfl m23 PyProof.Rows.boot_max (qa (qb 3) qd))) qd)) (h1:=by intro _ _ _ h;simpa [qc,qh] using h))) (λ_ _ _=>(jgn 1)) (λ_ _ _=>zq) (λ_ _ _=>(qA (qa (qb 0) (qa (qb 1) qd)))) (by kernel_rfl) (by kernel_rfl))))))))
abbrev YD:Stmt:=top 23
abbrev WD:List Str:=["walk","start"]
abbrev SU:List Str:=["walk","start"]
def qcv:FnScope WD SU (qj YD):=Hd.sc0
def qcr (E:Hd.Fb K mg "shifted" YD SU f fd) (read:Rd sp 2 (Bk.SK S21) WD):Fn3 P w K mg base (k+1) "shifted" sp:=
 Hd.jfE E qcv read λcdv A outer s H E hr=>(ql (qp (ZZ ["p","q","start"] [none,none,some 1] rfl (ZC (qf V21 hr rfl (qa (qb 0) qd))) (λ_ _ _=>(zr rfl (qo (jgn 0) (qo (jgn 1) zp)))) (λ_ _ _=>zq) (λ_ _ _=>(qA (qa (qz (qu (qb 2) qe) (qb 0)) (qa (qz (qu (qb 2) qe) (qb 1)) qd)))) (by kernel_rfl) (by kernel_rfl))))
abbrev ZS:Stmt:=top 24
abbrev U1:List Str:=["dealing","walk","thing"]
abbrev CI:List Str:=["dealing","walk","thing"]
def qbm:FnScope U1 CI (qj ZS):=Hd.sc0
def qa9 (E:Hd.Fb K mg "is_start" ZS CI f fd) (read:Rd sp 3 (Bk.XO S24 S25 S9) U1):Fn3 P w K mg base (k+1) "is_start" sp:=
 Hd.jfE E qbm read λcdv A outer s H E hr=>(ql (qp (j9 (qf V9 hr rfl (qa (qb 2) qd)) (YF (qy (EI rfl) qex rfl m26 PyProof.Rows.boot_all (qa (ZZ ["word","dealing"] [none,some 0] rfl (ZC (qf V24 hr rfl (qa (qb 1) (qa (qb 2) qd)))) (λ_ _ _=>(jgn 0)) (λ_ _ _=>zq) (λ_ _ _=>(qf V25 hr rfl (qa (qb 1) (qa (qb 0) qd)))) (by kernel_rfl) (by kernel_rfl)) qd))))))
abbrev ZV:Stmt:=top 25
abbrev UU:List Str:=["dealing","walk","start"]
abbrev W2:List Str:=["dealing","walk","start"]
def qaS:FnScope UU W2 (qj ZV):=Hd.sc0
def qa8 (E:Hd.Fb K mg "words_of" ZV W2 f fd) (read:Rd sp 3 (Bk.XJ S27 S24) UU):Fn3 P w K mg base (k+1) "words_of" sp:=
 Hd.jfE E qaS read λcdv A outer s H E hr=>(qg (zh (C9 (VP (qf V27 hr rfl (qa (qb 0) (qa (qb 1) (qa (qb 2) qd)))))) qfN qG) (ql (qp (qf V24 hr rfl (qa (qb 1) (qa (qb 2) qd))))))
abbrev j5:Stmt:=top 27
abbrev QY:List Str:=["dealing","walk","start"]
abbrev UQ:List Str:=["dealing","walk","start"]
def MR:FnScope QY UQ (qj j5):=Hd.sc0
def MV (E:Hd.Fb K mg "banks_from" j5 UQ f fd) (read:Rd sp 3 (Bk.V4 S28 S14) QY):Fn3 P w K mg base (k+1) "banks_from" sp:=
 Hd.jfE E MR read λcdv A outer s H E hr=>(ql (qp (ZZ ["word","dealing"] [none,some 0] rfl (ZC (qf V28 hr rfl (qa (qb 0) (qa (qb 1) (qa (qb 2) qd))))) (λ_ _ _=>(jgn 0)) (λ_ _ _=>zq) (λ_ _ _=>(qf V14 hr rfl (qa (qb 1) (qa (qb 0) qd)))) (by kernel_rfl) (by kernel_rfl))))
abbrev D9:Stmt:=top 28
abbrev SB:List Str:=["dealing","walk","start","found"]
abbrev qbd:List Str:=["dealing","walk"]
def LK:FnScope SB qbd (qj D9):=Hd.sc0
def qfV (E:Hd.Fb K mg "clash" D9 qbd f fd) (read:Rd sp 2 (Bk.qbf S29 S30 S31) SB):Fn3 P w K mg base (k+1) "clash" sp:=
 Hd.jfE E LK read λcdv A outer s H E hr=>(qg (J9 PassesOwn.never rfl (ZC (qf V29 hr rfl (qa (qb 0) (qa (qb 1) qd)))) (qq (i:=2) (LK.nd)) (qg (qJ 3 LK.nd (qf V31 hr rfl (qa (qf V30 hr rfl (qa (qb 0) (qa (qb 1) (qa (qb 2) qd)))) qd))) (ql (zh (qD qkB qgf (qb 3) VT (qv _)) (ql (qp (qA (qa (qb 2) (qa (qu (qb 3) qe) (qa (qu (qb 3) qe) qd)))))) qG)))) (ql (qp VT)))
abbrev jC:Stmt:=top 29
abbrev jT:List Str:=["dealing","walk","thing","start","k","l"]
abbrev YR:List Str:=["dealing","walk","thing"]
def QT:FnScope jT YR (qj jC):=Hd.sc0
def Y8 (S30:Sp3) (S32:Sp3) (S27:Sp3):TS3:=(qw (qV (or3 (JD (tb3 (QP (λt=>je t "tuple") (v3 2)))) (tb3 (o3 (qY true) (cb3 jP (qc (v3 2) qh)) (c3 (.int 3))))) (qB (c3 (.bl false))) qt) (qw (qH (v3 2) (qM 3 (qk (gn3 3) (qk (gn3 4) (qk (gn3 5) qN))))) (qB (qZ (cb3 S27 (qc (v3 0) (qc (v3 1) (qc (v3 3) qh)))) (cb3 S32 (qc (cb3 S30 (qc (v3 0) (qc (v3 1) (qc (v3 3) qh)))) (qc (v3 4) (qc (v3 5) qh))))))))
def KF (E:Hd.Fb K mg "shows_clash" jC YR f fd) (read:Rd sp 3 (Y8 S30 S32 S27) jT):Fn3 P w K mg base (k+1) "shows_clash" sp:=
 Hd.jfE E QT read λcdv A outer s H E hr=>(qg (zh (jpt (qch (C9 (VP (VU (qb 2) rfl m0 rfl m5 PyProof.Rows.boot_tuple))) (KM (qD (EH hr.units) J1 (qy zm zR rfl m4 PySem.boot_len (qa (qb 2) qd)) qe (qv _))))) (ql (qp EZ)) qG) (qg (jx (qb 2) (zr rfl (qo (qq (i:=3) (QT.nd)) (qo (qq (i:=4) (QT.nd)) (qo (qq (i:=5) (QT.nd)) zp))))) (ql (qp (j9 (qf V27 hr rfl (qa (qb 0) (qa (qb 1) (qa (qb 3) qd)))) (YF (qf V32 hr rfl (qa (qf V30 hr rfl (qa (qb 0) (qa (qb 1) (qa (qb 3) qd)))) (qa (qb 4) (qa (qb 5) qd))))))))))
abbrev WW:Stmt:=top 30
abbrev MC:List Str:=["dealing","walk","start","rows","columns","banks","told","bank"]
abbrev qbi:List Str:=["dealing","walk","start"]
def U8:FnScope MC qbi (qj WW):=Hd.sc0
def qbb (S8:Sp3) (S30:Sp3):TS3:=(qw (qH (cb3 S8 (qc (v3 0) qh)) (qM 3 (qk (gn3 3) (qk (gn3 4) (qk (gn3 5) qN))))) (qw (qH (lc3 (zw (qc (v3 5) qh)) (gn3 0) tt3 (c3 (.int 0)) [none]) (gn3 6)) (qw (RM (JH (cb3 S30 (qc (v3 0) (qc (v3 1) (qc (v3 2) qh))))) (gn3 7) (qe9 (v3 6) (v3 7) (c3 (.int 1)))) (qB (v3 6)))))
def qfO (E:Hd.Fb K mg "loads" WW qbi f fd) (read:Rd sp 3 (qbb S8 S30) MC):Fn3 P w K mg base (k+1) "loads" sp:=
 Hd.jfE E U8 read λcdv A outer s H E hr=>(qg (jx (qf V8 hr rfl (qa (qb 0) qd)) (zr rfl (qo (qq (i:=3) (U8.nd)) (qo (qq (i:=4) (U8.nd)) (qo (qq (i:=5) (U8.nd)) zp))))) (qg (JN 6 ["bank"] [none] rfl U8.nd (qP rfl m6 (qa (qb 5) qd) (h1:=by intro _ _ _ h;simpa [qc,qh] using h)) (λ_ _ _=>(jgn 0)) (λ_ _ _=>zq) (λ_ _ _=>qe) (by kernel_rfl) (by kernel_rfl) rfl rfl) (qg (J9 PassesOwn.never rfl (ZC (qf V30 hr rfl (qa (qb 0) (qa (qb 1) (qa (qb 2) qd))))) (qq (i:=7) (U8.nd)) (ql (qk2 (qb 6) (qb 7) qe))) (ql (qp (qb 6))))))
abbrev jm:Stmt:=top 31
abbrev QS:List Str:=["dealing","walk"]
abbrev JU:List Str:=["dealing","walk"]
def SN:FnScope QS JU (qj jm):=Hd.sc0
def JV (S29:Sp3) (S30:Sp3) (S31:Sp3):TS3:=(qB (lc3 (JH (cb3 S29 (qc (v3 0) (qc (v3 1) qh)))) (gn3 0) (tb3 (o3 (JF false) (cb3 S31 (qc (cb3 S30 (qc (v3 1) (qc (v3 2) (qc (v3 0) qh)))) qh)) (c3 .non))) (v3 0) [none,some 0,some 1]))
def SG (E:Hd.Fb K mg "clear_starts" jm JU f fd) (read:Rd sp 2 (JV S29 S30 S31) QS):Fn3 P w K mg base (k+1) "clear_starts" sp:=
 Hd.jfE E SN read λcdv A outer s H E hr=>(ql (qp (ZZ ["start","dealing","walk"] [none,some 0,some 1] rfl (ZC (qf V29 hr rfl (qa (qb 0) (qa (qb 1) qd)))) (λ_ _ _=>(jgn 0)) (λ_ _ _=>qb4 (qD RA UP (qf V31 hr rfl (qa (qf V30 hr rfl (qa (qb 1) (qa (qb 2) (qa (qb 0) qd)))) qd)) VT (qv _))) (λ_ _ _=>(qb 0)) (by kernel_rfl) (by kernel_rfl))))
abbrev J7:Stmt:=top 33
abbrev TD:List Str:=["_law_cell","_law_k","_law_m"]
abbrev TF:List Str:=["_law_cell","_law_k"]
def KS:FnScope TD TF (qj J7):=Hd.sc0
def qci (E:Hd.Fb K mg "_law_mix" J7 TF f fd) (read:Rd sp 2 (Bk.R5) TD):Fn3 P w K mg base (k+1) "_law_mix" sp:=
 Hd.jfE E KS read λcdv A outer s H E hr=>(qg (qJ 2 KS.nd (Q2 (zB (qz (qz (Q2 (qb 0) qe) (zB (zB (qb 1) (qb 1)) qe)) qe) qe) qe)) (ql (qp (Q2 (zB (qb 2) (qb 2)) qe))))
abbrev Z6:Stmt:=top 34
abbrev X0:List Str:=["_law_script","_law_k","_law_cell","_law_own"]
abbrev XR:List Str:=["_law_script","_law_k"]
def DG:FnScope X0 XR (qj Z6):=Hd.sc0
def qaH (E:Hd.Fb K mg "_law_left" Z6 XR f fd) (read:Rd sp 2 (Bk.W6) X0):Fn3 P w K mg base (k+1) "_law_left" sp:=
 Hd.jfE E DG read λcdv A outer s H E hr=>(qg (qJ 2 DG.nd (qkN (qD KD jO (qb 1) (qy zm zR rfl m4 PySem.boot_len (qa (qb 0) qd)) (qv _)) (qu (qb 0) (qb 1)) qe)) (qg (qJ 3 DG.nd (qkN (qD qst jO (qy RX MZ rfl m33 PyProof.Rows.boot_abs (qa (qb 2) qd)) (qlt qe qe) (qv _)) (qy RX MZ rfl m33 PyProof.Rows.boot_abs (qa (qb 2) qd)) qe)) (ql (qp (jA (qa (qb 3) (qa (qz (qb 2) (zB qe (qb 1))) (qa qe qd))))))))
abbrev Z3:Stmt:=top 35
abbrev XB:List Str:=["_law_left_here","_law_many_here","_law_digit"]
abbrev CJ:List Str:=["_law_left_here","_law_many_here"]
def SH:FnScope XB CJ (qj Z3):=Hd.sc0
def qa6 (E:Hd.Fb K mg "_law_pick" Z3 CJ f fd) (read:Rd sp 2 (Bk.CD S34) XB):Fn3 P w K mg base (k+1) "_law_pick" sp:=
 Hd.jfE E SH read λcdv A outer s H E hr=>(qg (jx (qz (qu (qb 0) qe) qe) (qhe (qb 0) qe)) (qg (zh (qD qcj jO (qu (qb 0) qe) qe (qv _)) (qg (qJ 2 SH.nd (Q2 (qu (qb 0) qe) (qb 1))) (qg (jx (EK (qu (qb 0) qe) (qb 1)) (qhe (qb 0) qe)) (ql (qp (qb 2))))) qG) (ql (qp (Q2 (EK (qf V34 hr rfl (qa (qf V34 hr rfl (qa (qu (qb 0) qe) (qa (qu (qb 0) qe) qd))) (qa (qz (qu (qb 0) qe) qe) qd))) qe) (qb 1))))))
abbrev Q0:Stmt:=top 36
abbrev DR:List Str:=["_law_left_here","_law_wide","_law_rows","_law_columns"]
abbrev DN:List Str:=["_law_left_here"]
def UT:FnScope DR DN (qj Q0):=Hd.sc0
def qah (E:Hd.Fb K mg "_law_sides" Q0 DN f fd) (read:Rd sp 1 (Bk.DM S35) DR):Fn3 P w K mg base (k+1) "_law_sides" sp:=
 Hd.jfE E UT read λcdv A outer s H E hr=>(qg (qJ 1 UT.nd (qu (jA (qa qe (qa qe (qa qe (qa qe qd))))) (qf V35 hr rfl (qa (qb 0) (qa qe qd))))) (qg (EM (i:=2) (j:=3) rfl UT.nd rfl rfl (by decide) rfl rfl (qa (qz qe (qf V35 hr rfl (qa (qb 0) (qa (qb 1) qd)))) (qa (qz qe (qf V35 hr rfl (qa (qb 0) (qa (qb 1) qd)))) qd))) (ql (qp (qu (jA (qa (qA (qa (qb 2) (qa (qb 3) qd))) (qa (qA (qa (qb 2) (qa (qb 3) qd))) (qa (qA (qa (qb 2) (qa (qb 3) qd))) (qa (qA (qa (qb 2) (qa (qb 2) qd))) qd))))) (qf V35 hr rfl (qa (qb 0) (qa qe qd))))))))
abbrev YC:Stmt:=top 37
abbrev TK:List Str:=["_law_one","_law_other"]
abbrev SC:List Str:=["_law_one","_law_other"]
def K8:FnScope TK SC (qj YC):=Hd.sc0
def qcA (E:Hd.Fb K mg "_law_gcd" YC SC f fd) (read:Rd sp 2 (Bk.TW) TK):Fn3 P w K mg base (k+1) "_law_gcd" sp:=
 Hd.jfE E K8 read λcdv A outer s H E hr=>(qg (qb1 PassesOwn.never (qD qcj jO (qb 1) qe (qv _)) (ql (EM (i:=0) (j:=1) rfl K8.nd rfl rfl (by decide) rfl rfl (qa (qb 1) (qa (Q2 (qb 0) (qb 1)) qd))))) (ql (qp (qb 0))))
abbrev ZU:Stmt:=top 38
abbrev W9:List Str:=["_law_left_here","_law_rows","_law_columns","_law_banks","_law_wide"]
abbrev XE:List Str:=["_law_left_here"]
def ZM:FnScope W9 XE (qj ZU):=Hd.sc0
def qaO (E:Hd.Fb K mg "_law_skew" ZU XE f fd) (read:Rd sp 1 (Bk.XU S36 S35) W9):Fn3 P w K mg base (k+1) "_law_skew" sp:=
 Hd.jfE E ZM read λcdv A outer s H E hr=>(qg (jx (qf V36 hr rfl (qa (qb 0) qd)) (zr rfl (qo (qq (i:=1) (ZM.nd)) (qo (qq (i:=2) (ZM.nd)) zp)))) (qg (qJ 3 ZM.nd (qz qe (qf V35 hr rfl (qa (qb 0) (qa (qu (jA (qa qe (qa qe (qa qe (qa qe qd))))) (qf V35 hr rfl (qa (qb 0) (qa qe qd)))) qd))))) (qg (qJ 4 ZM.nd (qu (jA (qa (qb 3) (qa qe (qa qe qd)))) (qf V35 hr rfl (qa (qb 0) (qa qe qd))))) (ql (qp (qA (qa qK (qa (qb 1) (qa (qb 2) (qa (qb 3) (qa (qf V35 hr rfl (qa (qb 0) (qa (qb 4) qd))) (qa (qf V35 hr rfl (qa (qb 0) (qa (qb 4) qd))) qd))))))))))))
abbrev Q7:Stmt:=top 39
abbrev DU:List Str:=["_law_left_here","_law_rows","_law_columns","_law_banks","_law_places","_law_turn"]
abbrev DA:List Str:=["_law_left_here"]
def jj:FnScope DU DA (qj Q7):=Hd.sc0
def ND (E:Hd.Fb K mg "_law_rests" Q7 DA f fd) (read:Rd sp 1 (Bk.DC S36 S35 S37) DU):Fn3 P w K mg base (k+1) "_law_rests" sp:=
 Hd.jfE E jj read λcdv A outer s H E hr=>(qg (jx (qf V36 hr rfl (qa (qb 0) qd)) (zr rfl (qo (qq (i:=1) (jj.nd)) (qo (qq (i:=2) (jj.nd)) zp)))) (qg (qJ 3 jj.nd (qz qe (qf V35 hr rfl (qa (qb 0) (qa (qu (jA (qa qe (qa qe (qa qe qd)))) (qf V35 hr rfl (qa (qb 0) (qa qe qd)))) qd))))) (qg (qJ 4 jj.nd (qz (UG (EK (zB (UG (qb 1)) (qb 2)) (qb 3))) (qf V35 hr rfl (qa (qb 0) (qa qe qd))))) (qg (J9 PassesOwn.never rfl (qP rfl m6 (qa qe qd) (h1:=by intro _ _ _ h;simpa [qc,qh] using h)) (qq (i:=5) (jj.nd)) (ql (zh (qD qcj jO (qf V37 hr rfl (qa (qb 3) (qa (qb 4) qd))) qe (qv _)) (ql (qJ 4 jj.nd (qz (qb 4) qe))) qG))) (ql (qp (qA (qa qK (qa (qb 1) (qa (qb 2) (qa (qb 3) (qa (qb 4) qd))))))))))))
abbrev Z7:Stmt:=top 40
abbrev KU:List Str:=["_law_left_here","_law_most","_law_high","_law_low","_law_masks","_law_wide"]
abbrev CH:List Str:=["_law_left_here","_law_most"]
def Y9:FnScope KU CH (qj Z7):=Hd.sc0
def qaR (E:Hd.Fb K mg "_law_bits" Z7 CH f fd) (read:Rd sp 2 (Bk.CM S35) KU):Fn3 P w K mg base (k+1) "_law_bits" sp:=
 Hd.jfE E Y9 read λcdv A outer s H E hr=>(qg (EM (i:=2) (j:=3) rfl Y9.nd rfl rfl (by decide) rfl rfl (qa (qf V35 hr rfl (qa (qb 0) (qa (qz (qb 1) qe) qd))) (qa (qf V35 hr rfl (qa (qb 0) (qa (qz (qb 1) qe) qd))) qd))) (qg (JN 4 ["_law_t","_law_left_here"] [none,some 0] rfl Y9.nd (qP rfl m6 (qa (qf V35 hr rfl (qa (qb 0) (qa qe qd))) qd) (h1:=by intro _ _ _ h;simpa [qc,qh] using h)) (λ_ _ _=>(jgn 0)) (λ_ _ _=>zq) (λ_ _ _=>(qf V35 hr rfl (qa (qb 1) (qa qe qd)))) (by kernel_rfl) (by kernel_rfl) rfl rfl) (qg (qJ 5 Y9.nd (qu (jA (qa qe (qa qe (qa qe (qa qe (qa qe (qa qe (qa qe (qa qe (qa qe qd)))))))))) (qz (qb 2) (qb 3)))) (ql (qp (qA (qa qK (qa (qb 2) (qa (qb 3) (qa (zk za jp rfl m5 PyProof.Rows.boot_tuple (qa (ZZ ["_law_mask","_law_wide"] [none,some 5] rfl (ZC (qb 4)) (λ_ _ _=>(jgn 0)) (λ_ _ _=>zq) (λ_ _ _=>(Q2 (qb 0) (qb 1))) (by kernel_rfl) (by kernel_rfl)) qd)) qd))))))))))
abbrev QW:Stmt:=top 41
abbrev TR:List Str:=["_law_left_here","_law_rows","_law_columns","_law_banks","_law_cells_here"]
abbrev DT:List Str:=["_law_left_here"]
def Q6:FnScope TR DT (qj QW):=Hd.sc0
def NK (E:Hd.Fb K mg "_law_table" QW DT f fd) (read:Rd sp 1 (Bk.EV S36 S35) TR):Fn3 P w K mg base (k+1) "_law_table" sp:=
 Hd.jfE E Q6 read λcdv A outer s H E hr=>(qg (jx (qf V36 hr rfl (qa (qb 0) qd)) (zr rfl (qo (qq (i:=1) (Q6.nd)) (qo (qq (i:=2) (Q6.nd)) zp)))) (qg (qJ 3 Q6.nd (qz qe (qf V35 hr rfl (qa (qb 0) (qa (qu (jA (qa qe (qa qe (qa qe qd)))) (qf V35 hr rfl (qa (qb 0) (qa qe qd)))) qd))))) (qg (JN 4 ["_law_i","_law_left_here","_law_banks","_law_columns"] [none,some 0,some 3,some 2] rfl Q6.nd (qP rfl m6 (qa (qb 1) qd) (h1:=by intro _ _ _ h;simpa [qc,qh] using h)) (λ_ _ _=>(jgn 0)) (λ_ _ _=>zq) (λ_ _ _=>(zk za jp rfl m5 PyProof.Rows.boot_tuple (qa (ZZ ["_law_j","_law_left_here","_law_banks"] [none,some 1,some 2] rfl (qP rfl m6 (qa (qb 3) qd) (h1:=by intro _ _ _ h;simpa [qc,qh] using h)) (λ_ _ _=>(jgn 0)) (λ_ _ _=>zq) (λ_ _ _=>(qf V35 hr rfl (qa (qb 1) (qa (qb 2) qd)))) (by kernel_rfl) (by kernel_rfl)) qd))) (by kernel_rfl) (by kernel_rfl) rfl rfl) (ql (qp (qA (qa qK (qa (qb 3) (qa (zk za jp rfl m5 PyProof.Rows.boot_tuple (qa (qb 4) qd)) qd)))))))))
abbrev Q8:Stmt:=top 42
abbrev SV:List Str:=["_law_left_here","_law_rows","_law_columns","_law_banks","_law_way","_law_high","_law_low","_law_masks","_law_wide","_law_places","_law_turn","_law_cells_here"]
abbrev ET:List Str:=["_law_left_here"]
def ze:FnScope SV ET (qj Q8):=Hd.sc0
def qap (E:Hd.Fb K mg "_law_small" Q8 ET f fd) (read:Rd sp 1 (Bk.DI S35 S37) SV):Fn3 P w K mg base (k+1) "_law_small" sp:=
 Hd.jfE E ze read λcdv A outer s H E hr=>(qg (jx (qA (qa (qz qe (qf V35 hr rfl (qa (qb 0) (qa qe qd)))) (qa (qz qe (qf V35 hr rfl (qa (qb 0) (qa qe qd)))) (qa (qz qe (qf V35 hr rfl (qa (qb 0) (qa qe qd)))) qd)))) (zr rfl (qo (qq (i:=1) (ze.nd)) (qo (qq (i:=2) (ze.nd)) (qo (qq (i:=3) (ze.nd)) zp))))) (qg (qJ 4 ze.nd (qf V35 hr rfl (qa (qb 0) (qa qe qd)))) (qg (zh (qD (qT hr.units) qC (qb 4) qe (qv _)) (ql (qp (qA (qa qK (qa (qb 1) (qa (qb 2) (qa (qb 3) (qa (qf V35 hr rfl (qa (qb 0) (qa (qb 3) qd))) (qa (qf V35 hr rfl (qa (qb 0) (qa qe qd))) qd))))))))) qG) (qg (zh (qD (qT hr.units) qC (qb 4) qe (qv _)) (qg (EM (i:=5) (j:=6) rfl ze.nd rfl rfl (by decide) rfl rfl (qa (qf V35 hr rfl (qa (qb 0) (qa qe qd))) (qa (qf V35 hr rfl (qa (qb 0) (qa qe qd))) qd))) (qg (JN 7 ["_law_t","_law_left_here"] [none,some 0] rfl ze.nd (qP rfl m6 (qa (qf V35 hr rfl (qa (qb 0) (qa qe qd))) qd) (h1:=by intro _ _ _ h;simpa [qc,qh] using h)) (λ_ _ _=>(jgn 0)) (λ_ _ _=>zq) (λ_ _ _=>(qf V35 hr rfl (qa (qb 1) (qa qe qd)))) (by kernel_rfl) (by kernel_rfl) rfl rfl) (qg (qJ 8 ze.nd (qu (jA (qa qe (qa qe (qa qe (qa qe (qa qe qd)))))) (qz (qb 5) (qb 6)))) (ql (qp (qA (qa qK (qa (qb 5) (qa (qb 6) (qa (zk za jp rfl m5 PyProof.Rows.boot_tuple (qa (ZZ ["_law_mask","_law_wide"] [none,some 8] rfl (ZC (qb 7)) (λ_ _ _=>(jgn 0)) (λ_ _ _=>zq) (λ_ _ _=>(Q2 (qb 0) (qb 1))) (by kernel_rfl) (by kernel_rfl)) qd)) qd)))))))))) qG) (qg (zh (qD (qT hr.units) qC (qb 4) qe (qv _)) (qg (qJ 9 ze.nd (qz (UG (EK (zB (UG (qb 1)) (qb 2)) (qb 3))) (qf V35 hr rfl (qa (qb 0) (qa qe qd))))) (qg (J9 PassesOwn.never rfl (qP rfl m6 (qa qe qd) (h1:=by intro _ _ _ h;simpa [qc,qh] using h)) (qq (i:=10) (ze.nd)) (ql (zh (qD qcj jO (qf V37 hr rfl (qa (qb 3) (qa (qb 9) qd))) qe (qv _)) (ql (qJ 9 ze.nd (qz (qb 9) qe))) qG))) (ql (qp (qA (qa qK (qa (qb 1) (qa (qb 2) (qa (qb 3) (qa (qb 9) qd)))))))))) qG) (qg (JN 11 ["_law_i","_law_left_here","_law_banks","_law_columns"] [none,some 0,some 3,some 2] rfl ze.nd (qP rfl m6 (qa (qb 1) qd) (h1:=by intro _ _ _ h;simpa [qc,qh] using h)) (λ_ _ _=>(jgn 0)) (λ_ _ _=>zq) (λ_ _ _=>(zk za jp rfl m5 PyProof.Rows.boot_tuple (qa (ZZ ["_law_j","_law_left_here","_law_banks"] [none,some 1,some 2] rfl (qP rfl m6 (qa (qb 3) qd) (h1:=by intro _ _ _ h;simpa [qc,qh] using h)) (λ_ _ _=>(jgn 0)) (λ_ _ _=>zq) (λ_ _ _=>(qf V35 hr rfl (qa (qb 1) (qa (qb 2) qd)))) (by kernel_rfl) (by kernel_rfl)) qd))) (by kernel_rfl) (by kernel_rfl) rfl rfl) (ql (qp (qA (qa qK (qa (qb 3) (qa (zk za jp rfl m5 PyProof.Rows.boot_tuple (qa (qb 11) qd)) qd))))))))))))
abbrev jD:Stmt:=top 43
abbrev YU:List Str:=["_law_left_here","_law_way","_law_inner","_law_some"]
abbrev VM:List Str:=["_law_left_here"]
def QN:FnScope YU VM (qj jD):=Hd.sc0
def T9 (E:Hd.Fb K mg "_law_dealing" jD VM f fd) (read:Rd sp 1 (Bk.VD S35 S38 S39 S40 S41 S42) YU):Fn3 P w K mg base (k+1) "_law_dealing" sp:=
 Hd.jfE E QN read λcdv A outer s H E hr=>(qg (qJ 1 QN.nd (qf V35 hr rfl (qa (qb 0) (qa qe qd)))) (qg (zh (qD KD jO (qb 1) qe (qv _)) (ql (qp (qf V38 hr rfl (qa (qb 0) qd)))) qG) (qg (zh (qD (qT hr.units) qC (qb 1) qe (qv _)) (ql (qp (qf V39 hr rfl (qa (qb 0) qd)))) qG) (qg (zh (qD (qT hr.units) qC (qb 1) qe (qv _)) (ql (qp (qf V40 hr rfl (qa (qb 0) (qa qe qd))))) qG) (qg (zh (qD (qT hr.units) qC (qb 1) qe (qv _)) (ql (qp (qf V41 hr rfl (qa (qb 0) qd)))) qG) (qg (zh (qD (qT hr.units) qC (qb 1) qe (qv _)) (qg (qJ 2 QN.nd (qA (qa qK (qa (qA (qa qK (qa (qz qe (qf V35 hr rfl (qa (qb 0) (qa qe qd)))) (qa qe (qa qe (qa qe (qa qe qd))))))) (qa (qA (qa qK (qa qe (qa (qA (qa (qA (qa qe (qa qe qd))) qd)) qd)))) qd))))) (qg (qJ 3 QN.nd (jA (qa (qA (qa qK (qa (qb 2) (qa (qf V42 hr rfl (qa (qb 0) qd)) qd)))) (qa (qA (qa qK (qa (qf V42 hr rfl (qa (qb 0) qd)) (qa (qb 2) qd)))) qd)))) (qg (CB (WC (qb 3) (qa (qA (qa qK (qa (qA (qa qK (qa qe (qa qe (qa qe (qa qe (qa qe qd))))))) (qa (qA (qa qK (qa qe (qa qe (qa qe (qa qe qd)))))) qd)))) qd))) (qg (CB (WC (qb 3) (qa (qA (qa qK (qa (qA (qa qK (qa qe (qa qe (qa qe (qa qe qd)))))) (qa (qA (qa qK (qa qe (qa qe (qa qe (qa qe (qa qe qd))))))) qd)))) qd))) (ql (qp (qu (qb 3) (qf V35 hr rfl (qa (qb 0) (qa qe qd)))))))))) qG) (ql (qp (qA (qa qK (qa (qf V42 hr rfl (qa (qb 0) qd)) (qa (qf V42 hr rfl (qa (qb 0) qd)) qd))))))))))))
abbrev ZP:Stmt:=top 44
abbrev KJ:List Str:=["_law_dealing_here","_law_two","_law_one","_law_other"]
abbrev X6:List Str:=["_law_dealing_here"]
def EX:FnScope KJ X6 (qj ZP):=Hd.sc0
def CN (S43:Sp3):TS3:=(qw (qV (tb3 (o3 (in3 false) (o3 ix3 (v3 0) (c3 (.int 0))) (q0 (qc (c3 (.str "skew")) (qc (c3 (.str "rests")) qh))))) (qB (J3 (v3 0) (sp3 (c3 (.int 1))) (sp3 (c3 (.int 4))))) qt) (qw (qV (tb3 (o3 (qY false) (o3 ix3 (v3 0) (c3 (.int 0))) (c3 (.str "bits")))) (qw (qH (zX (qc (c3 (.int 1)) (qc (c3 (.int 2)) (qc (c3 (.int 4)) (qc (c3 (.int 8)) (qc (c3 (.int 16)) (qc (c3 (.int 32)) qh))))))) (gn3 1)) (qB (q0 (qc (o3 ix3 (v3 1) (o3 ix3 (v3 0) (c3 (.int 1)))) (qc (o3 ix3 (v3 1) (o3 ix3 (v3 0) (c3 (.int 2)))) (qc (o3 ix3 (v3 1) (cb3 jP (qc (o3 ix3 (v3 0) (c3 (.int 3))) qh))) qh)))))) qt) (qw (qV (tb3 (o3 (qY false) (o3 ix3 (v3 0) (c3 (.int 0))) (c3 (.str "table")))) (qB (q0 (qc (cb3 jP (qc (o3 ix3 (v3 0) (c3 (.int 2))) qh)) (qc (cb3 jP (qc (o3 ix3 (o3 ix3 (v3 0) (c3 (.int 2))) (c3 (.int 0))) qh)) (qc (o3 ix3 (v3 0) (c3 (.int 1))) qh))))) qt) (qw (j6 2 3 (qc (cb3 S43 (qc (o3 ix3 (v3 0) (c3 (.int 1))) qh)) (qc (cb3 S43 (qc (o3 ix3 (v3 0) (c3 (.int 2))) qh)) qh))) (qB (cb3 qF (qc (lc3 (qca (qc (v3 2) (qc (v3 3) qh))) (qM 2 (qk (gn3 0) (qk (gn3 1) qN))) tt3 (o3 (iC JJ (·*·)) (v3 0) (v3 1)) [none,none]) qh)))))))
def EO (E:Hd.Fb K mg "_law_size" ZP X6 f fd) (read:Rd sp 1 (CN S43) KJ):Fn3 P w K mg base (k+1) "_law_size" sp:=
 Hd.jfE E EX read λcdv A outer s H E hr=>(qg (zh (qD qeC qm4 (qu (qb 0) qe) (qA (qa qK (qa qK qd))) (by with_unfolding_all rfl)) (ql (qp (RW (qb 0) (W1 qe) (W1 qe)))) qG) (qg (zh (qD (qT hr.units) qC (qu (qb 0) qe) qK (qv _)) (qg (qJ 1 EX.nd (jA (qa qe (qa qe (qa qe (qa qe (qa qe (qa qe qd)))))))) (ql (qp (qA (qa (qu (qb 1) (qu (qb 0) qe)) (qa (qu (qb 1) (qu (qb 0) qe)) (qa (qu (qb 1) (qy zm zR rfl m4 PySem.boot_len (qa (qu (qb 0) qe) qd))) qd))))))) qG) (qg (zh (qD (qT hr.units) qC (qu (qb 0) qe) qK (qv _)) (ql (qp (qA (qa (qy zm zR rfl m4 PySem.boot_len (qa (qu (qb 0) qe) qd)) (qa (qy zm zR rfl m4 PySem.boot_len (qa (qu (qu (qb 0) qe) qe) qd)) (qa (qu (qb 0) qe) qd)))))) qG) (qg (EM (i:=2) (j:=3) rfl EX.nd rfl rfl (by decide) rfl rfl (qa (qf V43 hr rfl (qa (qu (qb 0) qe) qd)) (qa (qf V43 hr rfl (qa (qu (qb 0) qe) qd)) qd))) (ql (qp (zk za jp rfl m5 PyProof.Rows.boot_tuple (qa (ZZ ["_law_x","_law_y"] [none,none] rfl (qgU rfl m44 (qa (qb 2) (qa (qb 3) qd))) (λ_ _ _=>(zr rfl (qo (jgn 0) (qo (jgn 1) zp)))) (λ_ _ _=>zq) (λ_ _ _=>(zB (qb 0) (qb 1))) (by kernel_rfl) (by kernel_rfl)) qd))))))))
abbrev YK:Stmt:=top 45
abbrev TN:List Str:=["_law_number","_law_found","_law_t"]
abbrev SE:List Str:=["_law_number"]
def UY:FnScope TN SE (qj YK):=Hd.sc0
def qcx (E:Hd.Fb K mg "_law_odd" YK SE f fd) (read:Rd sp 1 (Bk.S0) TN):Fn3 P w K mg base (k+1) "_law_odd" sp:=
 Hd.jfE E UY read λcdv A outer s H E hr=>(qg (qJ 1 UY.nd EZ) (qg (J9 PassesOwn.never rfl (qP rfl m6 (qa qe qd) (h1:=by intro _ _ _ h;simpa [qc,qh] using h)) (qq (i:=2) (UY.nd)) (ql (qJ 1 UY.nd (jo (EH hr.units) J1 (qb 1) (jo (qT hr.units) qC (Q2 (EK (qb 0) (qu (jA (qa qe (qa qe (qa qe (qa qe (qa qe (qa qe (qa qe (qa qe (qa qe qd)))))))))) (qb 2))) qe) qe (qv _)) (qv _))))) (ql (qp (qb 1)))))
abbrev ZQ:Stmt:=top 46
abbrev KW:List Str:=["_law_dealing_here","_law_i","_law_j","_law_rows","_law_columns","_law_banks","_law_some","_law_high","_law_wide","_law_more"]
abbrev XS:List Str:=["_law_dealing_here","_law_i","_law_j"]
def jr:FnScope KW XS (qj ZQ):=Hd.sc0
def DP (E:Hd.Fb K mg "_law_bank" ZQ XS f fd) (read:Rd sp 3 (Bk.XQ S43 S45 S46) KW):Fn3 P w K mg base (k+1) "_law_bank" sp:=
 Hd.jfE E jr read λcdv A outer s H E hr=>(qg (jx (qf V43 hr rfl (qa (qb 0) qd)) (zr rfl (qo (qq (i:=3) (jr.nd)) (qo (qq (i:=4) (jr.nd)) (qo (qq (i:=5) (jr.nd)) zp))))) (qg (zh (qD (qT hr.units) qC (qu (qb 0) qe) qK (qv _)) (ql (qp (Q2 (qz (zB (qu (qb 0) qe) (qb 1)) (zB (qu (qb 0) qe) (qb 2))) (qb 5)))) qG) (qg (zh (qD (qT hr.units) qC (qu (qb 0) qe) qK (qv _)) (ql (qp (Q2 (qz (zB (qb 1) (qb 4)) (qb 2)) (qb 5)))) qG) (qg (zh (qD (qT hr.units) qC (qu (qb 0) qe) qK (qv _)) (qg (JN 6 ["_law_t","_law_mask","_law_j","_law_i","_law_columns"] [none,none,some 2,some 1,some 4] rfl jr.nd (qdY rfl m11 (qa (qu (qb 0) qe) qd)) (λ_ _ _=>(zr rfl (qo (jgn 0) (qo (jgn 1) zp)))) (λ_ _ _=>qb4 (VP (qf V45 hr rfl (qa (LI (qz (zB (qb 3) (qb 4)) (qb 2)) (qb 1)) qd)))) (λ_ _ _=>(qu (jA (qa qe (qa qe (qa qe (qa qe (qa qe qd)))))) (qb 0))) (by kernel_rfl) (by kernel_rfl) rfl rfl) (ql (qp (qy (DZ rfl) qdE rfl m12 PyProof.Rows.boot_sum (qa (qb 6) qd))))) qG) (qg (zh (qD (qT hr.units) qC (qu (qb 0) qe) qK (qv _)) (ql (qp (qu (qu (qu (qb 0) qe) (qb 1)) (qb 2)))) qG) (qg (jx (qf V43 hr rfl (qa (qu (qb 0) qe) qd)) (zr rfl (qo (qq (i:=7) (jr.nd)) (qo (qq (i:=8) (jr.nd)) (qo (qq (i:=9) (jr.nd)) zp))))) (ql (qp (qz (zB (qf V46 hr rfl (qa (qu (qb 0) qe) (qa (EK (qb 1) (qb 7)) (qa (EK (qb 2) (qb 8)) qd)))) (qb 9)) (qf V46 hr rfl (qa (qu (qb 0) qe) (qa (Q2 (qb 1) (qb 7)) (qa (Q2 (qb 2) (qb 8)) qd)))))))))))))
abbrev Z4:Stmt:=top 47
abbrev X7:List Str:=["_law_left_here"]
abbrev XX:List Str:=["_law_left_here"]
def qaw:FnScope X7 XX (qj Z4):=Hd.sc0
def qa4 (E:Hd.Fb K mg "_law_many" Z4 XX f fd) (read:Rd sp 1 (Bk.CU S35) X7):Fn3 P w K mg base (k+1) "_law_many" sp:=
 Hd.jfE E qaw read λcdv A outer s H E hr=>(ql (qp (qz qe (qf V35 hr rfl (qa (qb 0) (qa (qu (jA (qa qe (qa qe (qa qe (qa qe (qa qe (qa qe (qa qe (qa qe qd))))))))) (qf V35 hr rfl (qa (qb 0) (qa qe qd)))) qd))))))
abbrev Z9:Stmt:=top 48
abbrev CK:List Str:=["_law_left_here","_law_way","_law_lying","_law_high","_law_wide","_law_down","_law_along","_law_pairs","_law_far","_law_turn","_law_pair"]
abbrev CW:List Str:=["_law_left_here"]
def jn:FnScope CK CW (qj Z9):=Hd.sc0
def qa1 (E:Hd.Fb K mg "_law_walk" Z9 CW f fd) (read:Rd sp 1 (Bk.CO S35 S47) CK):Fn3 P w K mg base (k+1) "_law_walk" sp:=
 Hd.jfE E jn read λcdv A outer s H E hr=>(qg (qJ 1 jn.nd (qf V35 hr rfl (qa (qb 0) (qa qe qd)))) (qg (zh (qD KD jO (qb 1) qe (qv _)) (ql (qp (qA (qa (qu (jA (qa qK (qa qK (qa qK (qa qK qd))))) (qb 1)) (qa (qf V47 hr rfl (qa (qb 0) qd)) qd))))) qG) (qg (zh (qD KD jO (qb 1) qe (qv _)) (qg (EM (i:=2) (j:=3) rfl jn.nd rfl rfl (by decide) rfl rfl (qa (qf V35 hr rfl (qa (qb 0) (qa qe qd))) (qa (qz qe (qf V35 hr rfl (qa (qb 0) (qa qe qd)))) qd))) (qg (qJ 4 jn.nd (qz qe (qf V35 hr rfl (qa (qb 0) (qa (EK qe (qb 3)) qd))))) (ql (qp (qu (jA (qa (qA (qa qK (qa (qb 3) (qa (qb 4) qd)))) (qa (qA (qa qK (qa (qb 4) (qa (qb 3) qd)))) qd))) (qb 2)))))) qG) (qg (zh (qD KD jO (qb 1) qe (qv _)) (qg (EM (i:=5) (j:=6) rfl jn.nd rfl rfl (by decide) rfl rfl (qa (CY (qf V35 hr rfl (qa (qb 0) (qa qe qd))) qe) (qa (CY (qf V35 hr rfl (qa (qb 0) (qa qe qd))) qe) qd))) (qg (zh (qD (qT hr.units) qC (qf V35 hr rfl (qa (qb 0) (qa qe qd))) qe (qv _)) (ql (qp (qA (qa qK (qa (zB qe (qb 5)) (qa (qz (zB qe (qb 6)) (zk R7 qba rfl m2 PyProof.Rows.boot_int (qa (j9 (jo (qT hr.units) qC (qb 5) qe (qv _)) (YF (jo (qT hr.units) qC (qb 6) qe (qv _)))) qd))) (qa (qz qe (qf V35 hr rfl (qa (qb 0) (qa qe qd)))) qd))))))) qG) (ql (qp (qA (qa qK (qa (qb 5) (qa (qz (qb 6) (zk R7 qba rfl m2 PyProof.Rows.boot_int (qa (j9 (jo (qT hr.units) qC (qb 5) qe (qv _)) (YF (jo (qT hr.units) qC (qb 6) qe (qv _)))) qd))) (qa (qf V47 hr rfl (qa (qb 0) qd)) qd))))))))) qG) (qg (EM (i:=7) (j:=8) rfl jn.nd rfl rfl (by decide) rfl rfl (qa (jA qd) (qa (qz qe (zB qe (zk R7 qba rfl m2 PyProof.Rows.boot_int (qa (jo (qT hr.units) qC (qf V35 hr rfl (qa (qb 0) (qa qe qd))) qe (qv _)) qd)))) qd))) (qg (J9 PassesOwn.never rfl (qP rfl m6 (qa (qf V47 hr rfl (qa (qb 0) qd)) qd) (h1:=by intro _ _ _ h;simpa [qc,qh] using h)) (qq (i:=9) (jn.nd)) (qg (qJ 10 jn.nd (qA (qa (zB (qb 8) (CY (qf V35 hr rfl (qa (qb 0) (qa qe qd))) qe)) (qa (zB (qb 8) (CY (qf V35 hr rfl (qa (qb 0) (qa qe qd))) qe)) qd)))) (ql (zh (qD (NE hr.units) qeZ (qb 10) (qb 7) (by with_unfolding_all rfl)) (ql (CB (WC (qb 7) (qa (qb 10) qd)))) qG)))) (ql (qp (qA (qa qK (qa (zk za jp rfl m5 PyProof.Rows.boot_tuple (qa (qb 7) qd)) qd)))))))))))
abbrev Q1:Stmt:=top 49
abbrev VF:List Str:=["_law_walk_here","_law_found","_law_p","_law_down","_law_along"]
abbrev DY:List Str:=["_law_walk_here"]
def QZ:FnScope VF DY (qj Q1):=Hd.sc0
def N4 (E:Hd.Fb K mg "_law_cells" Q1 DY f fd) (read:Rd sp 1 (Bk.DH) VF):Fn3 P w K mg base (k+1) "_law_cells" sp:=
 Hd.jfE E QZ read λcdv A outer s H E hr=>(qg (zh (qD (qT hr.units) qC (qu (qb 0) qe) qK (qv _)) (ql (qp (zk C0 qbI rfl m19 PyProof.Rows.boot_list (qa (qu (qb 0) qe) qd)))) qG) (qg (zh (qD (qT hr.units) qC (qu (qb 0) qe) qK (qv _)) (qg (qJ 1 QZ.nd (jA qd)) (qg (J9 PassesOwn.never rfl (qP rfl m6 (qa (qu (qb 0) qe) qd) (h1:=by intro _ _ _ h;simpa [qc,qh] using h)) (qq (i:=2) (QZ.nd)) (ql (CB (NX (qb 1) (qa (ZZ ["_law_q","_law_p"] [none,some 2] rfl (qP rfl m6 (qa (qu (qb 0) qe) qd) (h1:=by intro _ _ _ h;simpa [qc,qh] using h)) (λ_ _ _=>(jgn 0)) (λ_ _ _=>zq) (λ_ _ _=>(qA (qa (qb 1) (qa (qb 0) qd)))) (by kernel_rfl) (by kernel_rfl)) qd))))) (ql (qp (qb 1))))) qG) (qg (jx (qkG (SF (qA (qa qe (qa qe qd))) (SF (qA (qa qe (qa qe qd))) (SF (qA (qa qe (qa qe qd))) (SF (qA (qa qe (qa (UG qe) qd))) (SF (RW (qb 0) (W1 qe) (W1 qe)) qoh))))) (qu (qb 0) qe)) (zr rfl (qo (qq (i:=3) (QZ.nd)) (qo (qq (i:=4) (QZ.nd)) zp)))) (ql (qp (ZZ ["_law_t","_law_down","_law_along"] [none,some 3,some 4] rfl (qP rfl m6 (qa (qu (qb 0) (UG qe)) qd) (h1:=by intro _ _ _ h;simpa [qc,qh] using h)) (λ_ _ _=>(jgn 0)) (λ_ _ _=>zq) (λ_ _ _=>(qA (qa (zB (qb 0) (qb 1)) (qa (zB (qb 0) (qb 2)) qd)))) (by kernel_rfl) (by kernel_rfl)))))))
abbrev jU:Stmt:=top 50
abbrev JQ:List Str:=["_law_dealing_here","_law_walk_here","_law_rows","_law_columns","_law_banks","_law_cells_here","_law_downs","_law_alongs","_law_found","_law_i"]
abbrev UD:List Str:=["_law_dealing_here","_law_walk_here"]
def zz:FnScope JQ UD (qj jU):=Hd.sc0
def LB (E:Hd.Fb K mg "_law_starts" jU UD f fd) (read:Rd sp 2 (Bk.UI S43 S48) JQ):Fn3 P w K mg base (k+1) "_law_starts" sp:=
 Hd.jfE E zz read λcdv A outer s H E hr=>(qg (jx (qf V43 hr rfl (qa (qb 0) qd)) (zr rfl (qo (qq (i:=2) (zz.nd)) (qo (qq (i:=3) (zz.nd)) (qo (qq (i:=4) (zz.nd)) zp))))) (qg (qJ 5 zz.nd (qf V48 hr rfl (qa (qb 1) qd))) (qg (EM (i:=6) (j:=7) rfl zz.nd rfl rfl (by decide) rfl rfl (qa (ZZ ["_law_p","_law_q"] [none,none] rfl (ZC (qb 5)) (λ_ _ _=>(zr rfl (qo (jgn 0) (qo (jgn 1) zp)))) (λ_ _ _=>zq) (λ_ _ _=>(qb 0)) (by kernel_rfl) (by kernel_rfl)) (qa (ZZ ["_law_p","_law_q"] [none,none] rfl (ZC (qb 5)) (λ_ _ _=>(zr rfl (qo (jgn 0) (qo (jgn 1) zp)))) (λ_ _ _=>zq) (λ_ _ _=>(qb 1)) (by kernel_rfl) (by kernel_rfl)) qd))) (qg (qJ 8 zz.nd (jA qd)) (qg (J9 PassesOwn.never rfl (UL rfl m6 (qa (UG (qy (WT rfl) RQ rfl m22 PyProof.Rows.boot_min (qa (qb 6) qd))) (qa (CY (qb 2) (qy (WO rfl) RO rfl m23 PyProof.Rows.boot_max (qa (qb 6) qd))) qd)) (h1:=by intro _ _ _ h;simpa [qc,qh] using h)) (qq (i:=9) (zz.nd)) (ql (CB (NX (qb 8) (qa (ZZ ["_law_j","_law_i"] [none,some 9] rfl (UL rfl m6 (qa (UG (qy (WT rfl) RQ rfl m22 PyProof.Rows.boot_min (qa (qb 7) qd))) (qa (CY (qb 3) (qy (WO rfl) RO rfl m23 PyProof.Rows.boot_max (qa (qb 7) qd))) qd)) (h1:=by intro _ _ _ h;simpa [qc,qh] using h)) (λ_ _ _=>(jgn 0)) (λ_ _ _=>zq) (λ_ _ _=>(qA (qa (qb 1) (qa (qb 0) qd)))) (by kernel_rfl) (by kernel_rfl)) qd))))) (ql (qp (qb 8))))))))
abbrev JB:Stmt:=top 51
abbrev U7:List Str:=["_law_dealing_here","_law_walk_here","_law_start"]
abbrev X9:List Str:=["_law_dealing_here","_law_walk_here","_law_start"]
def qaD:FnScope U7 X9 (qj JB):=Hd.sc0
def qa3 (E:Hd.Fb K mg "_law_from" JB X9 f fd) (read:Rd sp 3 (Bk.CQ S48 S46) U7):Fn3 P w K mg base (k+1) "_law_from" sp:=
 Hd.jfE E qaD read λcdv A outer s H E hr=>(ql (qp (ZZ ["_law_p","_law_q","_law_dealing_here","_law_start"] [none,none,some 0,some 2] rfl (ZC (qf V48 hr rfl (qa (qb 1) qd))) (λ_ _ _=>(zr rfl (qo (jgn 0) (qo (jgn 1) zp)))) (λ_ _ _=>zq) (λ_ _ _=>(qf V46 hr rfl (qa (qb 2) (qa (qz (qu (qb 3) qe) (qb 0)) (qa (qz (qu (qb 3) qe) (qb 1)) qd))))) (by kernel_rfl) (by kernel_rfl))))
abbrev ZK:Stmt:=top 52
abbrev K4:List Str:=["_law_found","_law_due"]
abbrev XW:List Str:=["_law_found","_law_due"]
def qbe:FnScope K4 XW (qj ZK):=Hd.sc0
def VO (E:Hd.Fb K mg "_law_same" ZK XW f fd) (read:Rd sp 2 (Bk.K9 S49) K4):Fn3 P w K mg base (k+1) "_law_same" sp:=
 Hd.jfE E qbe read λcdv A outer s H E hr=>(qg (zh (VP (qd8 (qb 1) rfl m0 rfl m19 PyProof.Rows.boot_list rfl m5 PyProof.Rows.boot_tuple)) (qg (zh (jpt (qch (qD (EH hr.units) J1 (VU (qb 0) rfl m0 rfl m19 PyProof.Rows.boot_list) (VU (qb 1) rfl m0 rfl m19 PyProof.Rows.boot_list) (qv _)) (KM (qD (EH hr.units) J1 (VU (qb 0) rfl m0 rfl m5 PyProof.Rows.boot_tuple) (VU (qb 1) rfl m0 rfl m5 PyProof.Rows.boot_tuple) (qv _))))) (ql (qp EZ)) qG) (ql (qp (j9 (jo (qT hr.units) qC (qy zm zR rfl m4 PySem.boot_len (qa (qb 0) qd)) (qy zm zR rfl m4 PySem.boot_len (qa (qb 1) qd)) (qv _)) (YF (qy (EI rfl) qex rfl m26 PyProof.Rows.boot_all (qa (ZZ ["_law_one","_law_other"] [none,none] rfl (qgU rfl m44 (qa (qb 0) (qa (qb 1) qd))) (λ_ _ _=>(zr rfl (qo (jgn 0) (qo (jgn 1) zp)))) (λ_ _ _=>zq) (λ_ _ _=>(qf V49 hr rfl (qa (qb 0) (qa (qb 1) qd)))) (by kernel_rfl) (by kernel_rfl)) qd))))))) qG) (qg (zh (jpt (qch (qD RA UP (qb 1) VT (qv _)) (KM (VP (qd8 (qb 1) rfl m0 rfl m50 PyProof.Rows.boot_str rfl m1 PyProof.Rows.boot_bool))))) (ql (qp (j9 (jo (qT hr.units) qC (qb 0) (qb 1) (qv _)) (j9 (jo (qT hr.units) qC (VU (qb 0) rfl m0 rfl m1 PyProof.Rows.boot_bool) (VU (qb 1) rfl m0 rfl m1 PyProof.Rows.boot_bool) (qv _)) (YF (jo (qT hr.units) qC (jo RA UP (qb 0) VT (qv _)) (jo RA UP (qb 1) VT (qv _)) (qv _))))))) qG) (ql (qp (j9 (VU (qb 0) rfl m0 rfl m2 PyProof.Rows.boot_int) (j9 (qhh (VU (qb 0) rfl m0 rfl m1 PyProof.Rows.boot_bool)) (YF (jo (qT hr.units) qC (qb 0) (qb 1) (qv _)))))))))
abbrev JA:Stmt:=top 53
abbrev UX:List Str:=["_law_dealing_here","_law_rows","_law_columns","_law_banks","_law_cells_here"]
abbrev XV:List Str:=["_law_dealing_here"]
def ZT:FnScope UX XV (qj JA):=Hd.sc0
def XT (S43:Sp3) (S46:Sp3):TS3:=(qw (qH (cb3 S43 (qc (v3 0) qh)) (qM 3 (qk (gn3 1) (qk (gn3 2) (qk (gn3 3) qN))))) (qw (qH (lc3 (zw (qc (v3 1) qh)) (gn3 0) tt3 (cb3 qF (qc (lc3 (zw (qc (v3 2) qh)) (gn3 0) tt3 (cb3 S46 (qc (v3 1) (qc (v3 2) (qc (v3 0) qh)))) [none,some 1,some 0]) qh)) [none,some 0,some 2]) (gn3 4)) (qB (q0 (qc (c3 (.str "table")) (qc (v3 3) (qc (cb3 qF (qc (v3 4) qh)) qh)))))))
def qaU (E:Hd.Fb K mg "_law_flat" JA XV f fd) (read:Rd sp 1 (XT S43 S46) UX):Fn3 P w K mg base (k+1) "_law_flat" sp:=
 Hd.jfE E ZT read λcdv A outer s H E hr=>(qg (jx (qf V43 hr rfl (qa (qb 0) qd)) (zr rfl (qo (qq (i:=1) (ZT.nd)) (qo (qq (i:=2) (ZT.nd)) (qo (qq (i:=3) (ZT.nd)) zp))))) (qg (JN 4 ["_law_i","_law_dealing_here","_law_columns"] [none,some 0,some 2] rfl ZT.nd (qP rfl m6 (qa (qb 1) qd) (h1:=by intro _ _ _ h;simpa [qc,qh] using h)) (λ_ _ _=>(jgn 0)) (λ_ _ _=>zq) (λ_ _ _=>(zk za jp rfl m5 PyProof.Rows.boot_tuple (qa (ZZ ["_law_j","_law_dealing_here","_law_i"] [none,some 1,some 0] rfl (qP rfl m6 (qa (qb 2) qd) (h1:=by intro _ _ _ h;simpa [qc,qh] using h)) (λ_ _ _=>(jgn 0)) (λ_ _ _=>zq) (λ_ _ _=>(qf V46 hr rfl (qa (qb 1) (qa (qb 2) (qa (qb 0) qd))))) (by kernel_rfl) (by kernel_rfl)) qd))) (by kernel_rfl) (by kernel_rfl) rfl rfl) (ql (qp (qA (qa qK (qa (qb 3) (qa (zk za jp rfl m5 PyProof.Rows.boot_tuple (qa (qb 4) qd)) qd))))))))
abbrev zC:Stmt:=top 54
abbrev jt:List Str:=["_law_dealing_here","_law_walk_here","_law_start","_law_banks","_law_words"]
abbrev QI:List Str:=["_law_dealing_here","_law_walk_here","_law_start","_law_banks"]
def JL:FnScope jt QI (qj zC):=Hd.sc0
def QJ (S28:Sp3) (S48:Sp3) (S51:Sp3) (S43:Sp3) (S49:Sp3):TS3:=(qw (qH (cb3 S28 (qc (v3 0) (qc (v3 1) (qc (v3 2) qh)))) (gn3 4)) (qw (qV (tb3 (o3 (qY true) (v3 4) (lc3 (JH (cb3 S48 (qc (v3 1) qh))) (qM 2 (qk (gn3 0) (qk (gn3 1) qN))) tt3 (q0 (qc (o3 zf (o3 ix3 (v3 2) (c3 (.int 0))) (v3 0)) (qc (o3 zf (o3 ix3 (v3 2) (c3 (.int 1))) (v3 1)) qh))) [none,none,some 2]))) (qB (c3 (.bl false))) qt) (qB (cb3 S49 (qc (cb3 S51 (qc (v3 0) (qc (v3 1) (qc (v3 2) qh)))) (qc (lc3 (zw (qc (o3 ix3 (cb3 S43 (qc (v3 0) qh)) (c3 (.int 2))) qh)) (gn3 0) tt3 (bm3 qlk (v3 1) (qc (v3 0) qh)) [none,some 3]) qh))))))
def WV (E:Hd.Fb K mg "_law_start_right" zC QI f fd) (read:Rd sp 4 (QJ S28 S48 S51 S43 S49) jt):Fn3 P w K mg base (k+1) "_law_start_right" sp:=
 Hd.jfE E JL read λcdv A outer s H E hr=>(qg (qJ 4 JL.nd (qf V28 hr rfl (qa (qb 0) (qa (qb 1) (qa (qb 2) qd))))) (qg (zh (qD (EH hr.units) J1 (qb 4) (ZZ ["_law_p","_law_q","_law_start"] [none,none,some 2] rfl (ZC (qf V48 hr rfl (qa (qb 1) qd))) (λ_ _ _=>(zr rfl (qo (jgn 0) (qo (jgn 1) zp)))) (λ_ _ _=>zq) (λ_ _ _=>(qA (qa (qz (qu (qb 2) qe) (qb 0)) (qa (qz (qu (qb 2) qe) (qb 1)) qd)))) (by kernel_rfl) (by kernel_rfl)) (qv _)) (ql (qp EZ)) qG) (ql (qp (qf V49 hr rfl (qa (qf V51 hr rfl (qa (qb 0) (qa (qb 1) (qa (qb 2) qd)))) (qa (ZZ ["_law_bank_here","_law_banks"] [none,some 3] rfl (qP rfl m6 (qa (qu (qf V43 hr rfl (qa (qb 0) qd)) qe) qd) (h1:=by intro _ _ _ h;simpa [qc,qh] using h)) (λ_ _ _=>(jgn 0)) (λ_ _ _=>zq) (λ_ _ _=>(qe5 (qb 1) (qa (qb 0) qd))) (by kernel_rfl) (by kernel_rfl)) qd)))))))
abbrev Q4:Stmt:=top 55
abbrev Z0:List Str:=["_law_dealing_here","_law_walk_here","_law_some","_law_due","_law_first","_law_start","_law_banks","_law_found"]
abbrev DK:List Str:=["_law_dealing_here","_law_walk_here"]
def zP:FnScope Z0 DK (qj Q4):=Hd.sc0
def DB (S52:Sp3) (S29:Sp3) (S53:Sp3) (S54:Sp3) (S55:Sp3) (S56:Sp3) (S57:Sp3):TS3:=(qw (qH (cb3 S52 (qc (v3 0) (qc (v3 1) qh))) (gn3 2)) (qw (qV (tb3 (o3 (qY true) (cb3 S29 (qc (v3 0) (qc (v3 1) qh))) (v3 2))) (qB (c3 (.bl false))) qt) (qw (j6 3 4 (qc (zX qh) (qc (c3 .non) qh))) (qw (RM (JH (v3 2)) (gn3 5) (qw (qH (cb3 S53 (qc (v3 0) (qc (v3 1) (qc (v3 5) qh)))) (gn3 6)) (qw (qV (JD (tb3 (cb3 S54 (qc (v3 0) (qc (v3 1) (qc (v3 5) (qc (v3 6) qh))))))) (qB (c3 (.bl false))) qt) (qV (tb3 (o3 (qY false) (qj5 (v3 6)) (cb3 jP (qc (v3 6) qh)))) (zt (bm3 JI (v3 3) (qc (v3 5) qh))) (qV (tb3 (o3 (JF false) (v3 4) (c3 .non))) (qH (v3 5) (gn3 4)) qt))))) (qw (qH (cb3 S55 (qc (v3 0) (qc (v3 1) qh))) (gn3 7)) (qw (qV (or3 (tb3 (o3 (qY true) (cb3 S56 (qc (v3 0) (qc (v3 1) qh))) (v3 3))) (tb3 (o3 (qY true) (o3 (JF false) (v3 7) (c3 .non)) (o3 (JF false) (v3 4) (c3 .non))))) (qB (c3 (.bl false))) qt) (qw (qV (tb3 (o3 (JF false) (v3 7) (c3 .non))) (qB (c3 (.bl true))) qt) (qw (qH (cb3 S53 (qc (v3 0) (qc (v3 1) (qc (v3 4) qh)))) (gn3 6)) (qB (qZ (o3 (qY false) (o3 ix3 (v3 7) (c3 (.int 0))) (v3 4)) (qZ (o3 (qY false) (o3 ix3 (v3 6) (o3 ix3 (v3 7) (c3 (.int 1)))) (o3 ix3 (v3 6) (o3 ix3 (v3 7) (c3 (.int 2))))) (o3 (qsf false) (cb3 S57 (qc (v3 0) (qc (v3 1) (qc (v3 7) qh)))) (c3 (.bl true))))))))))))))
def NT (E:Hd.Fb K mg "_law_right" Q4 DK f fd) (read:Rd sp 2 (DB S52 S29 S53 S54 S55 S56 S57) Z0):Fn3 P w K mg base (k+1) "_law_right" sp:=
 Hd.jfE E zP read λcdv A outer s H E hr=>(qg (qJ 2 zP.nd (qf V52 hr rfl (qa (qb 0) (qa (qb 1) qd)))) (qg (zh (qD (EH hr.units) J1 (qf V29 hr rfl (qa (qb 0) (qa (qb 1) qd))) (qb 2) (qv _)) (ql (qp EZ)) qG) (qg (EM (i:=3) (j:=4) rfl zP.nd rfl rfl (by decide) rfl rfl (qa (jA qd) (qa VT qd))) (qg (J9 PassesOwn.never rfl (ZC (qb 2)) (qq (i:=5) (zP.nd)) (qg (qJ 6 zP.nd (qf V53 hr rfl (qa (qb 0) (qa (qb 1) (qa (qb 5) qd))))) (qg (zh (C9 (VP (qf V54 hr rfl (qa (qb 0) (qa (qb 1) (qa (qb 5) (qa (qb 6) qd))))))) (ql (qp EZ)) qG) (ql (zh (qD (qT hr.units) qC (qee rfl rfl m4 rfl m58 (qb 6)) (qy zm zR rfl m4 PySem.boot_len (qa (qb 6) qd)) (qv _)) (ql (CB (WC (qb 3) (qa (qb 5) qd)))) (ql (zh (qD RA UP (qb 4) VT (qv _)) (ql (qJ 4 zP.nd (qb 5))) qG))))))) (qg (qJ 7 zP.nd (qf V55 hr rfl (qa (qb 0) (qa (qb 1) qd)))) (qg (zh (jpt (qch (qD (EH hr.units) J1 (qf V56 hr rfl (qa (qb 0) (qa (qb 1) qd))) (qb 3) (qv _)) (KM (qD (EH hr.units) J1 (jo RA UP (qb 7) VT (qv _)) (jo RA UP (qb 4) VT (qv _)) (qv _))))) (ql (qp EZ)) qG) (qg (zh (qD RA UP (qb 7) VT (qv _)) (ql (qp EZ)) qG) (qg (qJ 6 zP.nd (qf V53 hr rfl (qa (qb 0) (qa (qb 1) (qa (qb 4) qd))))) (ql (qp (j9 (jo (qT hr.units) qC (qu (qb 7) qe) (qb 4) (qv _)) (j9 (jo (qT hr.units) qC (qu (qb 6) (qu (qb 7) qe)) (qu (qb 6) (qu (qb 7) qe)) (qv _)) (YF (jo qmk qkm (qf V57 hr rfl (qa (qb 0) (qa (qb 1) (qa (qb 7) qd)))) EZ (qv _)))))))))))))))
abbrev ZR:Stmt:=top 56
abbrev YA:List Str:=["_law_left_here","_law_walk_here","_law_cells_here","_law_at"]
abbrev XD:List Str:=["_law_left_here","_law_walk_here"]
def DE:FnScope YA XD (qj ZR):=Hd.sc0
def CS (S21:Sp3) (S35:Sp3):TS3:=(qw (qH (cb3 S21 (qc (v3 1) qh)) (gn3 2)) (qw (qH (cb3 S35 (qc (v3 0) (qc (cb3 jP (qc (v3 2) qh)) qh))) (gn3 3)) (qB (if3 (tb3 (o3 (iB λi j=>decide (j<i)) (cb3 jP (qc (v3 2) qh)) (c3 (.int 1)))) (q0 (qc (c3 (.str "cells")) (qc (cb3 qF (qc (o3 zf (J3 (v3 2) np3 (sp3 (v3 3))) (J3 (v3 2) (sp3 (o3 zf (v3 3) (c3 (.int 1)))) np3)) qh)) qh))) (v3 1)))))
def qbn (E:Hd.Fb K mg "_law_less" ZR XD f fd) (read:Rd sp 2 (CS S21 S35) YA):Fn3 P w K mg base (k+1) "_law_less" sp:=
 Hd.jfE E DE read λcdv A outer s H E hr=>(qg (qJ 2 DE.nd (qf V21 hr rfl (qa (qb 1) qd))) (qg (qJ 3 DE.nd (qf V35 hr rfl (qa (qb 0) (qa (qy zm zR rfl m4 PySem.boot_len (qa (qb 2) qd)) qd)))) (ql (qp (qkN (qD qcj jO (qy zm zR rfl m4 PySem.boot_len (qa (qb 2) qd)) qe (qv _)) (qA (qa qK (qa (zk za jp rfl m5 PyProof.Rows.boot_tuple (qa (qz (RW (qb 2) qc3 (W1 (qb 3))) (RW (qb 2) (W1 (qz (qb 3) qe)) qc3)) qd)) qd))) (qb 1))))))
abbrev UM:Stmt:=top 57
abbrev qe4:List Str:=["_law_script","_law_k","_law_left_here","_law_dealing_here","_law_flat_here","_law_turn","_law_walk_here","_law_last","_law_less_here"]
abbrev qmx:List Str:=["_law_script"]
def WK:FnScope qe4 qmx (qj UM):=Hd.sc0
def qjX (S59:Sp3) (S60:Sp3) (S61:Sp3) (S62:Sp3) (S55:Sp3) (S49:Sp3) (S63:Sp3) (S56:Sp3) (S21:Sp3) (S64:Sp3):TS3:=(qw (RM (zw (qc (o3 zf (c3 (.int 1)) (cb3 VQ (qc (c3 (.int 4)) (qc (cb3 jP (qc (v3 0) qh)) qh)))) qh)) (gn3 1) (qw (qH (cb3 S59 (qc (v3 0) (qc (v3 1) qh))) (gn3 2)) (qw (qH (cb3 S60 (qc (v3 2) qh)) (gn3 3)) (qw (qH (cb3 S61 (qc (v3 3) qh)) (gn3 4)) (RM (zw (qc (c3 (.int 2)) qh)) (gn3 5) (qw (qH (cb3 S62 (qc (v3 2) qh)) (gn3 6)) (qw (qV (or3 (JD (tb3 (cb3 S63 (qc (v3 3) (qc (v3 6) qh))))) (JD (tb3 (cb3 S49 (qc (cb3 S55 (qc (v3 4) (qc (v3 6) qh))) (qc (cb3 S55 (qc (v3 3) (qc (v3 6) qh))) qh)))))) (qB (c3 (.bl false))) qt) (qw (qV (tb3 (o3 (qY true) (cb3 S56 (qc (v3 4) (qc (v3 6) qh))) (cb3 S56 (qc (v3 3) (qc (v3 6) qh))))) (qB (c3 (.bl false))) qt) (qw (qH (o3 ix3 (cb3 S21 (qc (v3 6) qh)) (u3 ZB (c3 (.int 1)))) (gn3 7)) (qV (tb3 (o3 (iB λi j=>decide (i<j)) (cb3 VR (qc (cb3 JS (qc (o3 ix3 (v3 7) (c3 (.int 0))) qh)) (qc (cb3 JS (qc (o3 ix3 (v3 7) (c3 (.int 1))) qh)) qh))) (c3 (.int 16)))) (qw (qH (cb3 S56 (qc (v3 3) (qc (cb3 S64 (qc (v3 2) (qc (v3 6) qh))) qh))) (gn3 8)) (qV (tb3 (o3 (qY true) (lc3 (JH (cb3 S56 (qc (v3 3) (qc (v3 6) qh)))) (gn3 0) (tb3 (o3 (qqk true) (v3 0) (v3 1))) (v3 0) [none,some 8]) (zX qh))) (qB (c3 (.bl false))) qt)) qt)))))))))) (qB (c3 (.bl true))))
def qnj (F:Fun K "law" "law" UM f fd) (read:Rd sp 1 (qjX S59 S60 S61 S62 S55 S49 S63 S56 S21 S64) qe4):FnOk P w K mg base CX0 (k+1) f fd qmx (lSp K sp):=
 qfi (t3:=(qjX S59 S60 S61 S62 S55 S49 S63 S56 S21 S64)) F WK (λcdv A outer s H E hr=>(qg (J9 PassesOwn.never rfl (qP rfl m6 (qa (qz qe (qy (qd6 rfl) qjq rfl m22 PyProof.Rows.boot_min (qa qe (qa (qy zm zR rfl m4 PySem.boot_len (qa (qb 0) qd)) qd)))) qd) (h1:=by intro _ _ _ h;simpa [qc,qh] using h)) (qq (i:=1) (WK.nd)) (qg (qJ 2 WK.nd (qf V59 hr rfl (qa (qb 0) (qa (qb 1) qd)))) (qg (qJ 3 WK.nd (qf V60 hr rfl (qa (qb 2) qd))) (qg (qJ 4 WK.nd (qf V61 hr rfl (qa (qb 3) qd))) (ql (J9 PassesOwn.never rfl (qP rfl m6 (qa qe qd) (h1:=by intro _ _ _ h;simpa [qc,qh] using h)) (qq (i:=5) (WK.nd)) (qg (qJ 6 WK.nd (qf V62 hr rfl (qa (qb 2) qd))) (qg (zh (jpt (qch (C9 (VP (qf V63 hr rfl (qa (qb 3) (qa (qb 6) qd))))) (KM (C9 (VP (qf V49 hr rfl (qa (qf V55 hr rfl (qa (qb 4) (qa (qb 6) qd))) (qa (qf V55 hr rfl (qa (qb 3) (qa (qb 6) qd))) qd)))))))) (ql (qp EZ)) qG) (qg (zh (qD (EH hr.units) J1 (qf V56 hr rfl (qa (qb 4) (qa (qb 6) qd))) (qf V56 hr rfl (qa (qb 3) (qa (qb 6) qd))) (qv _)) (ql (qp EZ)) qG) (qg (qJ 7 WK.nd (qu (qf V21 hr rfl (qa (qb 6) qd)) (UG qe))) (ql (zh (qD KD jO (qy (qcY rfl) qkW rfl m23 PyProof.Rows.boot_max (qa (qy RX MZ rfl m33 PyProof.Rows.boot_abs (qa (qu (qb 7) qe) qd)) (qa (qy RX MZ rfl m33 PyProof.Rows.boot_abs (qa (qu (qb 7) qe) qd)) qd))) qe (qv _)) (qg (qJ 8 WK.nd (qf V56 hr rfl (qa (qb 3) (qa (qf V64 hr rfl (qa (qb 2) (qa (qb 6) qd))) qd)))) (ql (zh (qD (EH hr.units) J1 (ZZ ["_law_start","_law_less_here"] [none,some 8] rfl (ZC (qf V56 hr rfl (qa (qb 3) (qa (qb 6) qd)))) (λ_ _ _=>(jgn 0)) (λ_ _ _=>qb4 (qD (NE hr.units) qeZ (qb 0) (qb 1) (by with_unfolding_all rfl))) (λ_ _ _=>(qb 0)) (by kernel_rfl) (by kernel_rfl)) (jA qd) (qv _)) (ql (qp EZ)) qG))) qG)))))))))))) (ql (qp EZ)))) read
end
end K91
namespace K91
open PySem L2 L3 Pu
def Y0:PuS (Bk.DQ):=(V2 (XC (qpn (λt=>je t "int") (bV 0)) (qot (qpn (λt=>je t "bool") (bV 0)))))
def zF:List PyData->Option PyData:=Pu.run Y0.f 1 1 1000000000 false
def N6:Rd (PSp zF false) 1 (Bk.DQ) VB:=zo Y0 VB 1 1000000000 false
def NV {x0:PyData}:zF [x0]=VW false (Y0.f 1000000000 [.sh x0]):=id rfl
def D8:PuS (Bk.SM (PSp zF false)):=(V2 (XC (qpn (λt=>je t "tuple") (bV 0)) (XC (bO (LH false) (qE qe1 (qi (bV 0) qW)) (j7 2)) (XC (qE (zj zF false) (qi (bO J4 (bV 0) (j7 0)) qW)) (qE (zj zF false) (qi (bO J4 (bV 0) (j7 1)) qW))))))
def jV:List PyData->Option PyData:=Pu.run D8.f 1 1 1000000000 false
def qct:Rd (PSp jV false) 1 (Bk.SM (PSp zF false)) YM:=zo D8 YM 1 1000000000 false
def qcq {x0:PyData}:jV [x0]=VW false (D8.f 1000000000 [.sh x0]):=id rfl
def zL:PuS (K91.QK (PSp zF false)):=(V2 (XC (qE (zj zF false) (qi (bV 0) qW)) (bCh (opB λi j=>decide (i<=j)) (opB λi j=>decide (i<j)) (j7 0) (bV 0) (bV 1))))
def zg:List PyData->Option PyData:=Pu.run zL.f 2 2 1000000000 false
def WN:Rd (PSp zg false) 2 (K91.QK (PSp zF false)) zH:=zo zL zH 2 1000000000 false
def WB {x0 x1:PyData}:zg [x0,x1]=VW false (zL.f 1000000000 [.sh x0,.sh x1]):=id rfl
def jI:PuS (K91.ES (PSp zg false)):=(JE (sIf (bOr (qf7 (bTb (qE (zj zg false) (qi (bV 1) (qi (qE qe1 (qi (bV 0) qW)) qW))))) (qf7 (bTb (qE (zj zg false) (qi (bV 2) (qi (qE qe1 (qi (bV 0) qW)) qW)))))) (V2 (bBl false)) VY) (V2 (XC (bO (opB λi j=>decide (i<j)) (bV 1) (bV 2)) (bO (LH false) (bO J4 (bV 0) (bV 1)) (bO J4 (bV 0) (bV 2))))))
def QG:List PyData->Option PyData:=Pu.run jI.f 3 3 1000000000 false
def NW:Rd (PSp QG false) 3 (K91.ES (PSp zg false)) QH:=zo jI QH 3 1000000000 false
def N5 {x0 x1 x2:PyData}:QG [x0,x1,x2]=VW false (jI.f 1000000000 [.sh x0,.sh x1,.sh x2]):=id rfl
def Z8:PuS (Bk.SX (PSp jV false) (Bk.zK 3)):=(JE (sIf (qf7 (bTb (qE (zj jV false) (qi (bV 1) qW)))) (V2 (bBl false)) VY) (JE (ME (qE (fSz 2) (qi (bV 0) qW)) (M1 3 (zW (gN 2) (zW (gN 3) (zW (gN 4) M3)))) [true] ⟨rfl⟩) (V2 (XC (bCh (opB λi j=>decide (i<=j)) (opB λi j=>decide (i<j)) (j7 0) (bO J4 (bV 1) (j7 0)) (bV 2)) (bCh (opB λi j=>decide (i<=j)) (opB λi j=>decide (i<j)) (j7 0) (bO J4 (bV 1) (j7 1)) (bV 3))))))
def YL:List PyData->Option PyData:=Pu.run Z8.f 2 5 1000000000 false
def qcg:Rd (PSp YL false) 2 (Bk.SX (PSp jV false) (Bk.zK 3)) UE:=zo Z8 UE 2 1000000000 false
def qcn {x0 x1:PyData}:YL [x0,x1]=VW false (Z8.f 1000000000 [.sh x0,.sh x1,.un,.un,.un]):=id rfl
def RV:PuS (Bk.LR (Bk.zK 3) (PSp Pv.zc true)):=(JE (ME (qE (fSz 2) (qi (bV 0) qW)) (M1 3 (zW (gN 2) (zW (gN 3) (zW (gN 4) M3)))) [true] ⟨rfl⟩) (JE (qad (qE (zj Pv.zc true) (qi (bV 1) qW)) 5 [false,true] ⟨rfl⟩) (JE (qad (bLc (qau (bV 5)) (M1 2 (zW (gN 0) (zW (gN 1) M3))) bTt (bV 0) [none,none] ⟨rfl⟩) 6 [false,false,false,false,false,true] ⟨rfl⟩) (JE (qad (bLc (qau (bV 5)) (M1 2 (zW (gN 0) (zW (gN 1) M3))) bTt (bV 1) [none,none] ⟨rfl⟩) 7 [false,false,false,false,false,true] ⟨rfl⟩) (V2 (qqD (MW (qi (qh6 (qE qeh (qi (bV 6) qW))) (qi (bO (opI (·-·)) (bV 2) (qE qeO (qi (bV 6) qW))) qW))) (gN 0) bTt (MW (qi (qh6 (qE qeh (qi (bV 3) qW))) (qi (bO (opI (·-·)) (bV 2) (qE qeO (qi (bV 3) qW))) qW))) (gN 1) bTt (M4 (qi (bV 0) (qi (bV 1) qW)) ⟨rfl⟩) [none,none,some 3,some 7] ⟨rfl⟩ ⟨rfl⟩ ⟨rfl⟩))))))
def jF:List PyData->Option PyData:=Pu.run RV.f 2 8 1000000000 true
def qel:Rd (PSp jF true) 2 (Bk.LR (Bk.zK 3) (PSp Pv.zc true)) RJ:=zo RV RJ 2 1000000000 true
def qdA {x0 x1:PyData}:jF [x0,x1]=VW true (RV.f 1000000000 [.sh x0,.sh x1,.un,.un,.un,.un,.un,.un]):=id rfl
def D7:PuS (Bk.SK (PSp Pv.zc true)):=(V2 (bLc (qau (qE (zj Pv.zc true) (qi (bV 0) qW))) (M1 2 (zW (gN 0) (zW (gN 1) M3))) bTt (M4 (qi (bO KC (bO J4 (bV 2) (j7 0)) (bV 0)) (qi (bO KC (bO J4 (bV 2) (j7 1)) (bV 1)) qW)) ⟨rfl⟩) [none,none,some 1] ⟨rfl⟩))
def j4:List PyData->Option PyData:=Pu.run D7.f 2 2 1000000000 true
def qcb:Rd (PSp j4 true) 2 (Bk.SK (PSp Pv.zc true)) WD:=zo D7 WD 2 1000000000 true
def qcc {x0 x1:PyData}:j4 [x0,x1]=VW true (D7.f 1000000000 [.sh x0,.sh x1]):=id rfl
def U9:PuS (Bk.XO (PSp j4 true) (PSp YL false) (PSp jV false)):=(V2 (XC (qE (zj jV false) (qi (bV 2) qW)) (qE qsP (qi (bLc (qau (qE (zj j4 true) (qi (bV 1) (qi (bV 2) qW)))) (gN 0) bTt (qE (zj YL false) (qi (bV 1) (qi (bV 0) qW))) [none,some 0] ⟨rfl⟩) qW))))
def ju:List PyData->Option PyData:=Pu.run U9.f 3 3 1000000000 false
def qaA:Rd (PSp ju false) 3 (Bk.XO (PSp j4 true) (PSp YL false) (PSp jV false)) U1:=zo U9 U1 3 1000000000 false
def qaM {x0 x1 x2:PyData}:ju [x0,x1,x2]=VW false (U9.f 1000000000 [.sh x0,.sh x1,.sh x2]):=id rfl
def EA:PuS (Bk.XJ (PSp ju false) (PSp j4 true)):=(JE (sIf (qf7 (bTb (qE (zj ju false) (qi (bV 0) (qi (bV 1) (qi (bV 2) qW)))))) qtl VY) (V2 (qE (zj j4 true) (qi (bV 1) (qi (bV 2) qW)))))
def jw:List PyData->Option PyData:=Pu.run EA.f 3 3 1000000000 true
def qaB:Rd (PSp jw true) 3 (Bk.XJ (PSp ju false) (PSp j4 true)) UU:=zo EA UU 3 1000000000 true
def qay {x0 x1 x2:PyData}:jw [x0,x1,x2]=VW true (EA.f 1000000000 [.sh x0,.sh x1,.sh x2]):=id rfl
def JK:PuS (Bk.V4 (PSp jw true) (Bk.YN 3)):=(V2 (bLc (qau (qE (zj jw true) (qi (bV 0) (qi (bV 1) (qi (bV 2) qW))))) (gN 0) bTt (qE (fBi 2) (qi (bV 1) (qi (bV 0) qW))) [none,some 0] ⟨rfl⟩))
def qL:List PyData->Option PyData:=Pu.run JK.f 3 3 1000000000 true
def LN:Rd (PSp qL true) 3 (Bk.V4 (PSp jw true) (Bk.YN 3)) QY:=zo JK QY 3 1000000000 true
def LL {x0 x1 x2:PyData}:qL [x0,x1,x2]=VW true (JK.f 1000000000 [.sh x0,.sh x1,.sh x2]):=id rfl
def LG:PuS (Bk.qbf (PSp jF true) (PSp qL true) (PSp Pv.qX false)):=(JE (qgA (qau (qE (zj jF true) (qi (bV 0) (qi (bV 1) qW)))) (gN 2) (JE (qad (qE (zj Pv.qX false) (qi (qE (zj qL true) (qi (bV 0) (qi (bV 1) (qi (bV 2) qW)))) qW)) 3 [true,true,true] ⟨rfl⟩) (sIf (bTb (bO (qbl true) (bV 3) qdC)) (V2 (M4 (qi (bV 2) (qi (bO J4 (bV 3) (j7 0)) (qi (bO J4 (bV 3) (j7 1)) qW))) ⟨rfl⟩)) VY)) [true,true] ⟨rfl⟩) (V2 qdC))
def J0:List PyData->Option PyData:=Pu.run LG.f 2 4 1000000000 false
def qgh:Rd (PSp J0 false) 2 (Bk.qbf (PSp jF true) (PSp qL true) (PSp Pv.qX false)) SB:=zo LG SB 2 1000000000 false
def qf9 {x0 x1:PyData}:J0 [x0,x1]=VW false (LG.f 1000000000 [.sh x0,.sh x1,.un,.un]):=id rfl
def jZ:PuS (K91.Y8 (PSp qL true) (PSp QG false) (PSp ju false)):=(JE (sIf (bOr (qf7 (bTb (qpn (λt=>je t "tuple") (bV 2)))) (bTb (bO (LH true) (qE qe1 (qi (bV 2) qW)) (j7 3)))) (V2 (bBl false)) VY) (JE (ME (bV 2) (M1 3 (zW (gN 3) (zW (gN 4) (zW (gN 5) M3)))) [false,false,true] ⟨rfl⟩) (V2 (XC (qE (zj ju false) (qi (bV 0) (qi (bV 1) (qi (bV 3) qW)))) (qE (zj QG false) (qi (qE (zj qL true) (qi (bV 0) (qi (bV 1) (qi (bV 3) qW)))) (qi (bV 4) (qi (bV 5) qW))))))))
def jv:List PyData->Option PyData:=Pu.run jZ.f 3 6 1000000000 false
def T8:Rd (PSp jv false) 3 (K91.Y8 (PSp qL true) (PSp QG false) (PSp ju false)) jT:=zo jZ jT 3 1000000000 false
def KG {x0 x1 x2:PyData}:jv [x0,x1,x2]=VW false (jZ.f 1000000000 [.sh x0,.sh x1,.sh x2,.un,.un,.un]):=id rfl
def MF:PuS (K91.qbb (Bk.zK 3) (PSp qL true)):=(JE (ME (qE (fSz 2) (qi (bV 0) qW)) (M1 3 (zW (gN 3) (zW (gN 4) (zW (gN 5) M3)))) [true] ⟨rfl⟩) (JE (qad (bLc (MW (qi (bV 5) qW)) (gN 0) bTt (j7 0) [none] ⟨rfl⟩) 6 [false,false,false,false,false,true] ⟨rfl⟩) (JE (qgA (qau (qE (zj qL true) (qi (bV 0) (qi (bV 1) (qi (bV 2) qW))))) (gN 7) (qnR (bV 7) (j7 1) 6) [true,true,true] ⟨rfl⟩) (qfo 6))))
def W4:List PyData->Option PyData:=Pu.run MF.f 3 8 1000000000 true
def qgb:Rd (PSp W4 true) 3 (K91.qbb (Bk.zK 3) (PSp qL true)) MC:=zo MF MC 3 1000000000 true
def qf2 {x0 x1 x2:PyData}:W4 [x0,x1,x2]=VW true (MF.f 1000000000 [.sh x0,.sh x1,.sh x2,.un,.un,.un,.un,.un]):=id rfl
def QQ:PuS (K91.JV (PSp jF true) (PSp qL true) (PSp Pv.qX false)):=(V2 (bLc (qau (qE (zj jF true) (qi (bV 0) (qi (bV 1) qW)))) (gN 0) (bTb (bO (qbl false) (qE (zj Pv.qX false) (qi (qE (zj qL true) (qi (bV 1) (qi (bV 2) (qi (bV 0) qW)))) qW)) qdC)) (bV 0) [none,some 0,some 1] ⟨rfl⟩))
def qR:List PyData->Option PyData:=Pu.run QQ.f 2 2 1000000000 true
def SD:Rd (PSp qR true) 2 (K91.JV (PSp jF true) (PSp qL true) (PSp Pv.qX false)) QS:=zo QQ QS 2 1000000000 true
def R9 {x0 x1:PyData}:qR [x0,x1]=VW true (QQ.f 1000000000 [.sh x0,.sh x1]):=id rfl
def jg:PuS (Bk.DH):=(JE (sIf (bTb (bO (LH false) (bO J4 (bV 0) (j7 0)) (qis "cells"))) (V2 (qE qqK (qi (bO J4 (bV 0) (j7 1)) qW))) VY) (JE (sIf (bTb (bO (LH false) (bO J4 (bV 0) (j7 0)) (qis "block"))) (JE (qad (qp9 qW ⟨rfl⟩) 1 [] ⟨rfl⟩) (JE (qgA (MW (qi (bO J4 (bV 0) (j7 1)) qW)) (gN 2) (qrH (bLc (MW (qi (bO J4 (bV 0) (j7 2)) qW)) (gN 0) bTt (M4 (qi (bV 1) (qi (bV 0) qW)) ⟨rfl⟩) [none,some 2] ⟨rfl⟩) 1 [true,false,true] ⟨rfl⟩) [true] ⟨rfl⟩) (qfo 1))) VY) (JE (ME (qp3 ["row","column","slant","back","step"] (qi (M4 (qi (j7 0) (qi (j7 1) qW)) ⟨rfl⟩) (qi (M4 (qi (j7 1) (qi (j7 0) qW)) ⟨rfl⟩) (qi (M4 (qi (j7 1) (qi (j7 1) qW)) ⟨rfl⟩) (qi (M4 (qi (j7 1) (qi (qh6 (j7 1)) qW)) ⟨rfl⟩) (qi (bSl (bV 0) (bSp (j7 1)) (bSp (j7 3))) qW))))) (bO J4 (bV 0) (j7 0))) (M1 2 (zW (gN 3) (zW (gN 4) M3))) [true] ⟨rfl⟩) (V2 (bLc (MW (qi (bO J4 (bV 0) (qh6 (j7 1))) qW)) (gN 0) bTt (M4 (qi (bO (opC JJ (·*·)) (bV 0) (bV 1)) (qi (bO (opC JJ (·*·)) (bV 0) (bV 2)) qW)) ⟨rfl⟩) [none,some 3,some 4] ⟨rfl⟩)))))
def zi:List PyData->Option PyData:=Pu.run jg.f 1 5 1000000000 true
def qac:Rd (PSp zi true) 1 (Bk.DH) VF:=zo jg VF 1 1000000000 true
def qal {x0:PyData}:zi [x0]=VW true (jg.f 1000000000 [.sh x0,.un,.un,.un,.un]):=id rfl
def JO:PuS (Bk.UI (Bk.zD 3) (PSp zi true)):=(JE (ME (qE (qqn 2) (qi (bV 0) qW)) (M1 3 (zW (gN 2) (zW (gN 3) (zW (gN 4) M3)))) [true] ⟨rfl⟩) (JE (qad (qE (zj zi true) (qi (bV 1) qW)) 5 [false,true] ⟨rfl⟩) (JE (qsT (qi (bLc (qau (bV 5)) (M1 2 (zW (gN 0) (zW (gN 1) M3))) bTt (bV 0) [none,none] ⟨rfl⟩) (qi (bLc (qau (bV 5)) (M1 2 (zW (gN 0) (zW (gN 1) M3))) bTt (bV 1) [none,none] ⟨rfl⟩) qW)) 6 7 [false,false,false,false,false,true] ⟨rfl⟩) (JE (qad (qp9 qW ⟨rfl⟩) 8 [] ⟨rfl⟩) (JE (qgA (MW (qi (qh6 (qE qeh (qi (bV 6) qW))) (qi (bO (opI (·-·)) (bV 2) (qE qeO (qi (bV 6) qW))) qW))) (gN 9) (qrH (bLc (MW (qi (qh6 (qE qeh (qi (bV 7) qW))) (qi (bO (opI (·-·)) (bV 3) (qE qeO (qi (bV 7) qW))) qW))) (gN 0) bTt (M4 (qi (bV 1) (qi (bV 0) qW)) ⟨rfl⟩) [none,some 9] ⟨rfl⟩) 8 [false,false,false,true,false,false,false,true,false,true] ⟨rfl⟩) [false,false,true,false,false,false,true] ⟨rfl⟩) (qfo 8))))))
def jK:List PyData->Option PyData:=Pu.run JO.f 2 10 1000000000 true
def LJ:Rd (PSp jK true) 2 (Bk.UI (Bk.zD 3) (PSp zi true)) JQ:=zo JO JQ 2 1000000000 true
def LS {x0 x1:PyData}:jK [x0,x1]=VW true (JO.f 1000000000 [.sh x0,.sh x1,.un,.un,.un,.un,.un,.un,.un,.un]):=id rfl
def UV:PuS (Bk.CQ (PSp zi true) (Bk.jJ 3)):=(V2 (bLc (qau (qE (zj zi true) (qi (bV 1) qW))) (M1 2 (zW (gN 0) (zW (gN 1) M3))) bTt (qE (qsu 2) (qi (bV 2) (qi (bO KC (bO J4 (bV 3) (j7 0)) (bV 0)) (qi (bO KC (bO J4 (bV 3) (j7 1)) (bV 1)) qW)))) [none,none,some 0,some 2] ⟨rfl⟩))
def QC:List PyData->Option PyData:=Pu.run UV.f 3 3 1000000000 true
def qaI:Rd (PSp QC true) 3 (Bk.CQ (PSp zi true) (Bk.jJ 3)) U7:=zo UV U7 3 1000000000 true
def qaz {x0 x1 x2:PyData}:QC [x0,x1,x2]=VW true (UV.f 1000000000 [.sh x0,.sh x1,.sh x2]):=id rfl
def U3:PuS (K91.XT (Bk.zD 3) (Bk.jJ 3)):=(JE (ME (qE (qqn 2) (qi (bV 0) qW)) (M1 3 (zW (gN 1) (zW (gN 2) (zW (gN 3) M3)))) [true] ⟨rfl⟩) (JE (qad (bLc (MW (qi (bV 1) qW)) (gN 0) bTt (qE qqF (qi (bLc (MW (qi (bV 2) qW)) (gN 0) bTt (qE (qsu 2) (qi (bV 1) (qi (bV 2) (qi (bV 0) qW)))) [none,some 1,some 0] ⟨rfl⟩) qW)) [none,some 0,some 2] ⟨rfl⟩) 4 [true,true,true] ⟨rfl⟩) (V2 (M4 (qi (qis "table") (qi (bV 3) (qi (qE qqF (qi (bV 4) qW)) qW))) ⟨rfl⟩))))
def ZI:List PyData->Option PyData:=Pu.run U3.f 1 5 1000000000 false
def qaG:Rd (PSp ZI false) 1 (K91.XT (Bk.zD 3) (Bk.jJ 3)) UX:=zo U3 UX 1 1000000000 false
def qaL {x0:PyData}:ZI [x0]=VW false (U3.f 1000000000 [.sh x0,.un,.un,.un,.un]):=id rfl
def js:PuS (K91.QJ (PSp jw true) (PSp zi true) (PSp W4 true) (Bk.zD 3) (Bk.jf 4)):=(JE (qad (qE (zj jw true) (qi (bV 0) (qi (bV 1) (qi (bV 2) qW)))) 4 [true,true,true] ⟨rfl⟩) (JE (sIf (bTb (bO (LH true) (bV 4) (bLc (qau (qE (zj zi true) (qi (bV 1) qW))) (M1 2 (zW (gN 0) (zW (gN 1) M3))) bTt (M4 (qi (bO KC (bO J4 (bV 2) (j7 0)) (bV 0)) (qi (bO KC (bO J4 (bV 2) (j7 1)) (bV 1)) qW)) ⟨rfl⟩) [none,none,some 2] ⟨rfl⟩))) (V2 (bBl false)) VY) (V2 (qE (qfZ 3) (qi (qE (zj W4 true) (qi (bV 0) (qi (bV 1) (qi (bV 2) qW)))) (qi (bLc (MW (qi (bO J4 (qE (qqn 2) (qi (bV 0) qW)) (j7 2)) qW)) (gN 0) bTt (qs3 (bV 1) (qi (bV 0) qW)) [none,some 3] ⟨rfl⟩) qW))))))
def zn:List PyData->Option PyData:=Pu.run js.f 4 5 1000000000 false
def WI:Rd (PSp zn false) 4 (K91.QJ (PSp jw true) (PSp zi true) (PSp W4 true) (Bk.zD 3) (Bk.jf 4)) jt:=zo js jt 4 1000000000 false
def WA {x0 x1 x2 x3:PyData}:zn [x0,x1,x2,x3]=VW false (js.f 1000000000 [.sh x0,.sh x1,.sh x2,.sh x3,.un]):=id rfl
def VL:PuS (K91.DB (PSp jK true) (PSp jF true) (PSp QC true) (PSp zn false) (PSp J0 false) (PSp qR true) (PSp jv false)):=(JE (qad (qE (zj jK true) (qi (bV 0) (qi (bV 1) qW))) 2 [true,true] ⟨rfl⟩) (JE (sIf (bTb (bO (LH true) (qE (zj jF true) (qi (bV 0) (qi (bV 1) qW))) (bV 2))) (V2 (bBl false)) VY) (JE (qls qdC 3 4) (JE (qgA (qau (bV 2)) (gN 5) (JE (qad (qE (zj QC true) (qi (bV 0) (qi (bV 1) (qi (bV 5) qW)))) 6 [true,true,false,false,false,true] ⟨rfl⟩) (JE (sIf (qf7 (bTb (qE (zj zn false) (qi (bV 0) (qi (bV 1) (qi (bV 5) (qi (bV 6) qW))))))) (V2 (bBl false)) VY) (sIf (bTb (bO (LH false) (ql3 (bV 6)) (qE qe1 (qi (bV 6) qW)))) (qs2 (bV 5) 3 [false,false,false,false,false,true] ⟨rfl⟩) (sIf (bTb (bO (qbl false) (bV 4) qdC)) (qad (bV 5) 4 [false,false,false,false,false,true] ⟨rfl⟩) VY)))) [false,false,true] ⟨rfl⟩) (JE (qad (qE (zj J0 false) (qi (bV 0) (qi (bV 1) qW))) 7 [true,true] ⟨rfl⟩) (JE (sIf (bOr (bTb (bO (LH true) (qE (zj qR true) (qi (bV 0) (qi (bV 1) qW))) (bV 3))) (bTb (bO (LH true) (bO (qbl false) (bV 7) qdC) (bO (qbl false) (bV 4) qdC)))) (V2 (bBl false)) VY) (JE (sIf (bTb (bO (qbl false) (bV 7) qdC)) (V2 (bBl true)) VY) (JE (qad (qE (zj QC true) (qi (bV 0) (qi (bV 1) (qi (bV 4) qW)))) 6 [true,true,false,false,true] ⟨rfl⟩) (V2 (XC (bO (LH false) (bO J4 (bV 7) (j7 0)) (bV 4)) (XC (bO (LH false) (bO J4 (bV 6) (bO J4 (bV 7) (j7 1))) (bO J4 (bV 6) (bO J4 (bV 7) (j7 2)))) (bO (qo7 false) (qE (zj jv false) (qi (bV 0) (qi (bV 1) (qi (bV 7) qW)))) (bBl true)))))))))))))
def QM:List PyData->Option PyData:=Pu.run VL.f 2 8 1000000000 false
def NG:Rd (PSp QM false) 2 (K91.DB (PSp jK true) (PSp jF true) (PSp QC true) (PSp zn false) (PSp J0 false) (PSp qR true) (PSp jv false)) Z0:=zo VL Z0 2 1000000000 false
def NZ {x0 x1:PyData}:QM [x0,x1]=VW false (VL.f 1000000000 [.sh x0,.sh x1,.un,.un,.un,.un,.un,.un]):=id rfl
def U5:PwS 0 (K91.CS (PSp Pv.zc true) Bk.qQ):=(qeg (qiL (eOf (qE (zj Pv.zc true) (qi (bV 1) qW))) 2 [false,true] ⟨rfl⟩ ⟨rfl⟩) (qeg (qiL (eDr qkQ (aOf (qi (qE qe1 (qi (bV 2) qW)) qW))) 3 [false,false,true] ⟨rfl⟩ ⟨rfl⟩) (qn6 (eOf (bIf (bTb (bO (opB λi j=>decide (j<i)) (qE qe1 (qi (bV 2) qW)) (j7 1))) (M4 (qi (qis "cells") (qi (qE qqF (qi (bO KC (bSl (bV 2) bNp (bSp (bV 3))) (bSl (bV 2) (bSp (bO KC (bV 3) (j7 1))) bNp)) qW)) qW)) ⟨rfl⟩) (bV 1))))))
def ZH:Wm:=qs5 U5 2 4 false
def qaC:Rd (DSp ZH.W false) 2 (K91.CS (PSp Pv.zc true) Bk.qQ) YA:=qjg U5 YA 2 false
def qaV {x0:PyData} {n:Nat} {Q:QD}:ZH.W [x0] n Q=(2=2/\U5.w [.un,.sh x0,.un,.un] n (qr1 false Q)):=id rfl
def qrG (zd2:Sp3) (zd3:Sp3) (ze8:Sp3) (zc1:Sp3) (ze2:Sp3) (ze1:Sp3) (zc2:Sp3) (zc0:Sp3) (zd5:Sp3):TS3:=(qw (qH (cb3 zd2 (qc (v3 2) qh)) (gn3 3)) (qw (qH (cb3 zd3 (qc (v3 3) qh)) (gn3 4)) (RM (zw (qc (c3 (.int 2)) qh)) (gn3 5) (qw (qH (cb3 ze8 (qc (v3 2) qh)) (gn3 6)) (qw (qV (or3 (JD (tb3 (cb3 ze1 (qc (v3 3) (qc (v3 6) qh))))) (JD (tb3 (cb3 ze2 (qc (cb3 zc1 (qc (v3 4) (qc (v3 6) qh))) (qc (cb3 zc1 (qc (v3 3) (qc (v3 6) qh))) qh)))))) (qB (c3 (.bl false))) qt) (qw (qV (tb3 (o3 (qY true) (cb3 zc2 (qc (v3 4) (qc (v3 6) qh))) (cb3 zc2 (qc (v3 3) (qc (v3 6) qh))))) (qB (c3 (.bl false))) qt) (qw (qH (o3 ix3 (cb3 zc0 (qc (v3 6) qh)) (u3 ZB (c3 (.int 1)))) (gn3 7)) (qV (tb3 (o3 (iB λi j=>decide (i<j)) (cb3 VR (qc (cb3 JS (qc (o3 ix3 (v3 7) (c3 (.int 0))) qh)) (qc (cb3 JS (qc (o3 ix3 (v3 7) (c3 (.int 1))) qh)) qh))) (c3 (.int 16)))) (qw (qH (cb3 zc2 (qc (v3 3) (qc (cb3 zd5 (qc (v3 2) (qc (v3 6) qh))) qh))) (gn3 8)) (qV (tb3 (o3 (qY true) (lc3 (JH (cb3 zc2 (qc (v3 3) (qc (v3 6) qh)))) (gn3 0) (tb3 (o3 (qqk true) (v3 0) (v3 1))) (v3 0) [none,some 8]) (zX qh))) (qB (c3 (.bl false))) qt)) qt))))))))
def MK:=((qeg (qiL (eDr qk1 (aOf qW)) 6 [] ⟨rfl⟩ ⟨rfl⟩) (qeg (wIf (cOf (bOr (qf7 (bTb (qE (zj QM false) (qi (bV 3) (qi (bV 6) qW))))) (qf7 (bTb (qE (qfZ 3) (qi (qE (zj J0 false) (qi (bV 4) (qi (bV 6) qW))) (qi (qE (zj J0 false) (qi (bV 3) (qi (bV 6) qW))) qW))))))) (qn6 (eOf (bBl false))) qdB) (qeg (wIf (cOf (bTb (bO (LH true) (qE (zj qR true) (qi (bV 4) (qi (bV 6) qW))) (qE (zj qR true) (qi (bV 3) (qi (bV 6) qW)))))) (qn6 (eOf (bBl false))) qdB) (qeg (qiL (eOf (bO J4 (qE (zj Pv.zc true) (qi (bV 6) qW)) (qh6 (j7 1)))) 7 [false,false,false,false,false,false,true] ⟨rfl⟩ ⟨rfl⟩) (wIf (cOf (bTb (bO (opB λi j=>decide (i<j)) (qE qs4 (qi (qE qrF (qi (bO J4 (bV 7) (j7 0)) qW)) (qi (qE qrF (qi (bO J4 (bV 7) (j7 1)) qW)) qW))) (j7 16)))) (qeg (qiL (qkK (zj qR true) (qjY (eOf (bV 3)) (qjY (eDr (dSp ZH false) (aOf (qi (bV 6) qW))) (aOf qW)))) 8 [false,false,false,true,false,false,true] ⟨rfl⟩ ⟨rfl⟩) (wIf (cOf (bTb (bO (LH true) (bLc (qau (qE (zj qR true) (qi (bV 3) (qi (bV 6) qW)))) (gN 0) (bTb (bO (qpJ true) (bV 0) (bV 1))) (bV 0) [none,some 8] ⟨rfl⟩) (qp9 qW ⟨rfl⟩)))) (qn6 (eOf (bBl false))) qdB)) qdB))))):PwS 2 _)
def qfT:PwS 2 (qrG Bk.QR (PSp ZI false) Bk.YO (PSp J0 false) (Bk.jf 4) (PSp QM false) (PSp qR true) (PSp Pv.zc true) (DSp ZH.W false)):=(qeg (qiL (eDr LZ (aOf qW)) 3 [] ⟨rfl⟩ ⟨rfl⟩) (qeg (qiL (eOf (qE (zj ZI false) (qi (bV 3) qW))) 4 [false,false,false,true] ⟨rfl⟩ ⟨rfl⟩) (qti (iOf (MW (qi (j7 2) qW))) (gN 5) MK [] ⟨rfl⟩ ⟨rfl⟩)))
def qoI (h:∀ k:Nat,k<=60->qfT.w [.un,.sh (.int k),.un,.un,.un,.un,.un,.un,.un] 0 okW):Rd K0 1 (K91.qjX Bk.YS Bk.QR (PSp ZI false) Bk.YO (PSp J0 false) (Bk.jf 4) (PSp QM false) (PSp qR true) (PSp Pv.zc true) (DSp ZH.W false)) qe4:=qfy qfT qe4 4 6 ⟨by decide,by decide⟩ rfl h
end K91
namespace K91
open PySem L2 L3 Bk
def qfJ {d:Nat} (h:d<=5):L2.atI [T.int 1,.int 2,.int 4,.int 8,.int 16,.int 32] (d:Int)=some (.int (2 ^ d)):=by
 have:d=0\/d=1\/d=2\/d=3\/d=4\/d=5:=by omega
 rcases this with rfl|rfl|rfl|rfl|rfl|rfl<;>rfl
def qam {s l1 l2:Str} {xs:List T} {R S:TS3} {d:Ends3} {τ:St3} {G:Gp} (hτ:τ[0]?=some (some (T.tup (.str s::xs)))):qw (qV (tb3 (o3 (in3 false) (o3 ix3 (v3 0) (c3 (.int 0))) (q0 (qc (c3 (.str l1)) (qc (c3 (.str l2)) qh))))) R qt) S d τ G=(if s=l1\/s=l2 then R { d with nx:=S d } τ G else S d τ G):=by
 have s2:[T.str l1,T.str l2].length<=sizeLine:=by simp [v8]
 simp only [qw,qV,tb3,o3,v3,hτ,c3,L3.ixT,qcI,q0,qc,qh,in3,qt];by_cases e1:s=l1
 ·subst e1;simp [zx,eqF,v8]
 ·have e1':¬ l1=s:=λz=>e1 z.symm;by_cases e2:s=l2
  ·subst e2;simp [zx,eqF,v8]
  ·have e2':¬ l2=s:=λz=>e2 z.symm;simp [zx,eqF,v8,e1,e2,e1',e2']
def DJ (n:Nat):∀ ts G q,zD (n+1) ts G q->ts.length=1/\CN (zD n) (RT q) (qm ["_law_dealing_here","_law_two","_law_one","_law_other"] ts) G:=by
 rintro ts G q ⟨d,rfl,hd,ok,h⟩;refine ⟨rfl,?_⟩;have h0:=h G Ex.refl;unfold CN;cases d with
 |skew r c b x y=>
  show qw _ _ _ [some (.tup [.str "skew",.int r,.int c,.int b,.int x,.int y]),none,none,none] G;rw [qam rfl,if_pos (.inl rfl)];simp [sl3,qB,J3,sp3,v3,c3,L3.ZE,HT.sIx];exact h0
 |rests r c b x=>
  show qw _ _ _ [some (.tup [.str "rests",.int r,.int c,.int b,.int x]),none,none,none] G;rw [qam rfl,if_pos (.inr rfl)];simp [sl3,qB,J3,sp3,v3,c3,L3.ZE,HT.sIx];exact h0
 |bits hh l ms=>
  obtain ⟨k1,k2,k3,_⟩:=ok;show qw _ _ _ [some (.tup [.str "bits",.int hh,.int l,.tup (ms.map T.int)]),none,none,none] G;rw [qam rfl,if_neg (by decide),zQ rfl,if_pos rfl];simp [qw,qH,gn3,qB,jy,qV,zt,V1,qt,v3,c3,o3,u3,ZB,L3.ixT,L3.ixR,zf,iI,iC,iB,qY,qS,JF,tb3,ED,or3,JD,qZ,EF,zY,if3,ch3,cb3,qc,qh,QP,tyT,je,q0,zX,J3,np3,sp3,qM,qk,qN,zG,JG,j6,qm,bm3,JI,YI,jP,JS,VQ,VR,JT,qF,zS,J6,EB,VX,ZE,HT.sIx,getL,in3,zx,eqF,gu,v8,x8,x6];intro p hp;have ix:∀ k:Nat,k<=5->L2.atI [T.int 1,.int 2,.int 4,.int 8,.int 16,.int 32] (k:Int)=some (.int (2 ^ k)):=λk hk=>qfJ hk;simp [qw,qH,gn3,qB,jy,qV,zt,V1,qt,v3,c3,o3,u3,ZB,L3.ixT,L3.ixR,zf,iI,iC,iB,qY,qS,JF,tb3,ED,or3,JD,qZ,EF,zY,if3,ch3,cb3,qc,qh,QP,tyT,je,q0,zX,J3,np3,sp3,qM,qk,qN,zG,JG,j6,qm,bm3,JI,YI,jP,JS,VQ,VR,JT,qF,zS,J6,EB,VX,ZE,HT.sIx,getL,in3,zx,eqF,gu,v8,x8,x6,qcI,qda,qdl,qlw,ix hh (by omega),ix l (by omega),ix ms.length (by omega)];exact h _ (QB hp)
 |table b cells=>
  have L:=Dl.lims ok;obtain ⟨k1,k2,k3,k4,c,k5,k6,k7⟩:=ok;cases cells with
  |nil=>simp at k3
  |cons row cells=>
   show qw _ _ _ [some (.tup [.str "table",.int b,.tup (qbF row::cells.map qbF)]),none,none,none] G;rw [qam rfl,if_neg (by decide),zQ rfl,if_neg (by decide),zQ rfl,if_pos rfl];simp [qbF,qcI,qda,qdl,qw,qH,gn3,qB,jy,qV,zt,V1,qt,v3,c3,o3,u3,ZB,L3.ixT,L3.ixR,zf,iI,iC,iB,qY,qS,JF,tb3,ED,or3,JD,qZ,EF,zY,if3,ch3,cb3,qc,qh,QP,tyT,je,q0,zX,J3,np3,sp3,qM,qk,qN,zG,JG,j6,qm,bm3,JI,YI,jP,JS,VQ,VR,JT,qF,zS,J6,EB,VX,ZE,HT.sIx,getL,in3,zx,eqF,gu,v8,x8,x6];simpa [RE,Dl.R,Dl.C,Dl.B] using h0
 |joined d e=>
  have Ld:=Dl.lims ok.1;have Le:=Dl.lims ok.2.1;have:1<=n:=by simp [Dl.dep] at hd;omega
  obtain ⟨m,rfl⟩:∃ m,n=m+1:=⟨n-1,by omega⟩
  show qw _ _ _ [some (.tup [.str "joined",d.t,e.t]),none,none,none] G;rw [qam rfl,if_neg (by decide),zQ rfl,if_neg (by decide),zQ rfl,if_neg (by decide)];refine zE λnx1 q1=>?_;simp only [j6,qc,qh,cb3,o3,v3,c3,L3.ixT,qda,qdl,x8];refine ⟨d,rfl,by simp [Dl.dep] at hd;omega,ok.1,λG1 E1=>?_⟩;refine ⟨e,rfl,by simp [Dl.dep] at hd;omega,ok.2.1,λG2 E2=>?_⟩;simp;rw [q1];have e1:=Le.r1;have e2:=Le.r2;have e3:=Le.c1;have e4:=Le.c2;have e5:=Le.b1;have e6:=Le.b2;simp [RE,lc3,qca,jR,qeq,TY,tt3,cap,qw,qH,gn3,qB,jy,qV,zt,V1,qt,v3,c3,o3,u3,ZB,L3.ixT,L3.ixR,zf,iI,iC,iB,qY,qS,JF,tb3,ED,or3,JD,qZ,EF,zY,if3,ch3,cb3,qc,qh,QP,tyT,je,q0,zX,J3,np3,sp3,qM,qk,qN,zG,JG,j6,qm,bm3,JI,YI,jP,JS,VQ,VR,JT,qF,zS,J6,EB,VX,L2.atI,ixN,ZE,HT.sIx,getL,in3,zx,eqF,gu,v8,x8,x6];refine ⟨cm (by omega) (by omega),cm (by omega) (by omega),cm (by omega) (by omega),λp hp=>?_⟩;exact h _ ((E1.trans E2).trans (QB hp))
end K91
namespace K91
open PySem L2 L3 Pu Pv
open Bk (Wk Dl Dr jS jM)
def s1:je "int" "int" = true:=rfl
def s2:je "int" "bool" = false:=rfl
def s3:je "tuple" "tuple" = true:=rfl
def t2:((1+1:Nat):Int)=2:=rfl
def qk9 {i:Int}:zF [.int i]=some (.bool true):=by
 rw [NV]
 try simp only [Pu.pwA,Y0,s1,s2]
def qoS {p:Int×Int}:jV [pD p]=some (.bool true):=by
 rw [qcq]
 try simp only [Pu.pwA,D8,pD,s3,t2,qk9]
def inT (d:Dl) (p:Int×Int):Prop:=Bk.Inn d p.1 p.2
def inW (d:Dl) (p:Int×Int):Bool:=(decide (0<=p.1)&&decide (p.1<d.R))&&(decide (0<=p.2)&&decide (p.2<d.C))
def qnX {d:Dl} {p:Int×Int} (h:inW d p=true):inT d p:=by
 simp only [inW,Bool.and_eq_true,decide_eq_true_eq] at h;exact ⟨h.1.1,h.1.2,h.2.1,h.2.2⟩
def qqb {d:Dl} {p:Int×Int} (h:inT d p):inW d p=true:=by
 obtain ⟨h1,h2,h3,h4⟩:=h;simp only [inW,Bool.and_eq_true,decide_eq_true_eq];exact ⟨⟨h1,h2⟩,h3,h4⟩
def qro {d:Dl} {p:Int×Int} (hp:d.dep<=2) (ok:d.Ok):YL [dlD d,pD p]=some (.bool (inW d p)):=by
 have sz:=qcu (n:=2) hp ok;have e:=qoS (p:=p);rw [qcn];simp only [pD] at e;unfold inW;by_cases h1:0<=p.1
 ·by_cases h2:p.1<d.R
  ·by_cases h3:0<=p.2
   ·try simp only [Pu.pwA,Z8,pD,e,qb9,sz,siz,h1,h2,h3,decide_true,Bool.true_and]
   ·try simp only [Pu.pwA,Z8,pD,e,qb9,sz,siz,h1,h2,h3,decide_true,decide_false,Bool.true_and,Bool.false_and]
  ·try simp only [Pu.pwA,Z8,pD,e,qb9,sz,siz,h1,h2,decide_true,decide_false,Bool.true_and,Bool.false_and]
 ·try simp only [Pu.pwA,Z8,pD,e,qb9,sz,siz,h1,decide_false,Bool.false_and]
def bk (d:Dl) (p:Int×Int):Int:=d.bank p.1 p.2
def sh (s:Int×Int) (cs:List (Int×Int)):List (Int×Int):=cs.map λp=>(s.1+p.1,s.2+p.2)
def qsL {w:Wk} {s:Int×Int} (ok:Big w):j4 [Wk.d w,pD s]=some (.list ((sh s w.pc).map pD)):=by
 have hl:=WF ok;rw [qcc]
 try simp only [Pu.pwA,D7,YH ok]
 rw [jN (ds:=w.pc.map pD) (fs:=(sh s w.pc).map pD)]
 ·try simp only [Pu.pwA]
 ·try simp only [Pu.pwA,YH ok]
 ·rw [sh,map_map];refine zJ λp hp=>?_
  try simp only [Pu.pwA,ZX,pD,Function.comp_def]
 ·simp [sh];omega
def isS (d:Dl) (w:Wk) (s:Int×Int):Bool:=(sh s w.pc).all (inW d)
def qo3 {d:Dl} {w:Wk} {s:Int×Int} (hp:d.dep<=2) (okd:d.Ok) (ok:Big w):ju [dlD d,Wk.d w,pD s]=some (.bool (isS d w s)):=by
 have hl:=WF ok;rw [qaM]
 try simp only [Pu.pwA,U9,qoS]
 rw [jN (ds:=(sh s w.pc).map pD) (fs:=((sh s w.pc).map (inW d)).map PyData.bool)]
 ·try simp only [Pu.pwA,qdz]
  rw [List.all_map];rfl
 ·try simp only [Pu.pwA,qsL ok]
 ·rw [map_map];refine zJ λq hq=>?_
  try simp only [Pu.pwA,ZX,qro hp okd,Function.comp_def]
 ·simp [sh];omega
def qgN {d:Dl} {w:Wk} {s:Int×Int} (h:isS d w s=true):∀ q∈sh s w.pc,inT d q:=λq hq=>qnX (List.all_eq_true.mp h q hq)
def qed {d:Dl} {w:Wk} {s:Int×Int} (h:∀ q∈sh s w.pc,inT d q):isS d w s=true:=List.all_eq_true.mpr λq hq=>qqb (h q hq)
def qsH {d:Dl} {w:Wk} {s:Int×Int} (hp:d.dep<=2) (okd:d.Ok) (ok:Big w) (h:∀ q∈sh s w.pc,inT d q):jw [dlD d,Wk.d w,pD s]=some (.list ((sh s w.pc).map pD)):=by
 rw [qay]
 try simp only [Pu.pwA,EA,qo3 hp okd ok,qed h,qsL ok]
def bks (d:Dl) (s:Int×Int) (cs:List (Int×Int)):List Int:=(sh s cs).map (bk d)
def qsE {d:Dl} {w:Wk} {s:Int×Int} (hp:d.dep<=2) (okd:d.Ok) (ok:Big w) (h:∀ q∈sh s w.pc,inT d q):qL [dlD d,Wk.d w,pD s]=some (.list ((bks d s w.pc).map PyData.int)):=by
 have hl:=WF ok;rw [LL]
 try simp only [Pu.pwA,JK]
 rw [jN (ds:=(sh s w.pc).map pD) (fs:=(bks d s w.pc).map PyData.int)]
 ·try simp only [Pu.pwA]
 ·try simp only [Pu.pwA,qsH hp okd ok h]
 ·rw [bks,map_map];refine zJ λq hq=>?_
  try simp only [Pu.pwA,ZX,qrq,pD,qsv (n:=2) hp okd (h q hq),bk,Function.comp_def]
 ·simp [bks,sh];omega
end K91
namespace K91
open PySem L2 L3 Pu Pv
open Bk (Wk Dl Dr jS jM EG lnD lnA faO Fst Un2 jX j3 UJ)
def qeK {i:Nat} {es ds:List PyData} {ρ:Rho} (h:slot ρ i=some ds) (hl:ds.length+es.length<=16777216):qql i (.list es) ρ=some (.nx (ρ.set i (.ow (ds++es)))):=by unfold qql;rw [h];simp only [Option.bind_some];exact zU hl
def qjJ {s:Str} {m:Int}:slD (.tuple [.str s,.int m]) (some 1) (some 3)=some (.tuple [.int m]):=qbk (by simp [HT.sIx])
def qkV {s:Str} {u v m:Int}:slD (.tuple [.str s,.int u,.int v,.int m]) (some 1) (some 3)=some (.tuple [.int u,.int v]):=qbk (by simp [HT.sIx])
def qrj {x y:PyData}:L2.atI [x,y] (-1)=some y:=rfl
def qr6 {x y z w:PyData}:L2.atI [x,y,z,w] (-1)=some w:=rfl
def qsp {w:Wk} (ok:Big w):zi [Wk.d w]=some (.list (w.pc.map pD)):=by
 rw [qal];cases w with
 |cells ps=>
  try simp only [Pu.pwA,jg,Wk.d,eq_self,Wk.pc]
 |block h v=>
  obtain ⟨h1,h2⟩:=ok
  try simp (disch:=omega) only [Pu.pwA,jg,Wk.d,eq_self,L3.EN,Wk.pc,qcw,Int.toNat_natCast]
  rw [Option.bind_assoc];refine XZ (Q:=λo=>VW true o=_) (zM 0 h) (λi ρ=>∃ s2 s3 s4,ρ=[.sh (Wk.d (.block h v)),.ow ((jM i v).map pD),s2,s3,s4]) ⟨_,_,_,rfl⟩ ?_ ?_
  ·rintro i x ρ hx ⟨s2,s3,s4,rfl⟩;obtain ⟨hi,rfl⟩:=VI hx
   try simp only [Pu.pwA,Wk.d]
   rw [jN (ds:=(zM 0 v).map PyData.int) (fs:=((List.range v).map λ(q:Nat)=>((i:Int),(q:Int))).map pD)]
   rotate_left
   ·try simp (disch:=omega) only [Pu.pwA,qcw,Int.toNat_natCast]
   ·unfold zM;rw [map_map,map_map];refine zJ λq hq=>?_
    try simp only [Pu.pwA,ZX,pD,Int.zero_add,Function.comp_def]
   ·simp;omega
   try simp only [Pu.pwA]
   rw [qeK (ds:=(jM i v).map pD) rfl (by
    have:=Nat.mul_le_mul (show i<=1000 by omega) h2;rw [length_map,Bk.UN,length_map,length_map,length_range];omega)]
   try simp only [Pu.pwA]
   rw [Bk.KL,List.map_append];exact ⟨_,_,_,rfl⟩
  ·rintro ρ ⟨s2,s3,s4,rfl⟩;rw [WM]
   try simp only [Pu.pwA]
 |step d a m=>
  obtain ⟨h1,h2,h3⟩:=ok;have e5:qfY ["row","column","slant","back","step"] [.tuple [.int 0,.int 1],.tuple [.int 1,.int 0],.tuple [.int 1,.int 1],.tuple [.int 1,.int (-1)],.tuple [.int d,.int a]] "step" = some (.tuple [.int d,.int a]):=rfl
  try simp only [Pu.pwA,jg,Wk.d,L3.WS,L3.WL,Wk.pc,qkV,e5]
  rw [jN (ds:=(zM 0 m).map PyData.int) (fs:=(jS d a m).map pD)]
  ·try simp only [Pu.pwA]
  ·try simp (disch:=omega) only [Pu.pwA,qr6,qcw,Int.toNat_natCast]
  ·unfold jS zM;rw [map_map,map_map];refine zJ λt ht=>?_;have:=mem_range.mp ht
   try simp (disch:=omega) only [Pu.pwA,ZX,pD,qdD,Int.zero_add,Function.comp_def]
  ·simp [jS];omega
 |line k m=>
  obtain ⟨h1,h2⟩:=ok;have key:∀ (d a:Int),(-1000<=d/\d<=1000)->(-1000<=a/\a<=1000)->∀ s:Str,Str.ofString "cells" ≠ s->Str.ofString "block" ≠ s->qfY ["row","column","slant","back","step"] [.tuple [.int 0,.int 1],.tuple [.int 1,.int 0],.tuple [.int 1,.int 1],.tuple [.int 1,.int (-1)],.tuple [.int (m:Int)]] s=some (.tuple [.int d,.int a])->VW true (jg.f 1000000000 [.sh (.tuple [.str s,.int (m:Int)]),.un,.un,.un,.un])=some (.list ((jS d a m).map pD)):=by
   intro d a hd ha s n1 n2 e5;have n1':¬ s=Str.ofString "cells" := λz=>n1 z.symm;have n2':¬ s=Str.ofString "block" := λz=>n2 z.symm
   try simp only [Pu.pwA,jg,n1',n2',qjJ,e5]
   rw [jN (ds:=(zM 0 m).map PyData.int) (fs:=(jS d a m).map pD)]
   ·try simp only [Pu.pwA]
   ·try simp (disch:=omega) only [Pu.pwA,qrj,qcw,Int.toNat_natCast]
   ·unfold jS zM;rw [map_map,map_map];refine zJ λt ht=>?_;have:=mem_range.mp ht
    try simp (disch:=omega) only [Pu.pwA,ZX,pD,qdD,Int.zero_add,Function.comp_def]
   ·simp [jS];omega
  have:(k=0\/k=1\/k=2\/k=3):=by omega
  rcases this with rfl|rfl|rfl|rfl
  ·exact key 0 1 (by omega) (by omega) "row" (by decide) (by decide) rfl
  ·exact key 1 0 (by omega) (by omega) "column" (by decide) (by decide) rfl
  ·exact key 1 1 (by omega) (by omega) "slant" (by decide) (by decide) rfl
  ·exact key 1 (-1) (by omega) (by omega) "back" (by decide) (by decide) rfl
def ql2 {i j:Nat} {m:List Bool} {x y:List PyData} {ρ:Rho}:qqx i j m [.list x,.list y] ρ=some (.nx (((dm m ρ).set i (.sh (.list x))).set j (.sh (.list y)))):=id rfl
def qsy {d:Dl} {w:Wk} (hp:d.dep<=2) (okd:d.Ok) (ok:Big w) (hc:Cb w.pc):jK [dlD d,Wk.d w]=some (.list ((stI d.R d.C w.pc).map pD)):=by
 have hl:=WF ok;have l:=Dl.lims okd;have:=l.r1;have:=l.r2;have:=l.c1;have:=l.c2;obtain ⟨⟨h1,h2,h3⟩,⟨h4,h5,h6⟩⟩:=hc.lim;rw [LS]
 try simp only [Pu.pwA,JO,qeH,qcu (n:=2) hp okd,siz,qsp ok]
 rw [jN (ds:=w.pc.map pD) (fs:=(dn w.pc).map PyData.int) rfl (by
  rw [dn,map_map];refine zJ λp hp=>?_
  try simp only [Pu.pwA,ZX,pD,Function.comp_def]) (by simp [dn];omega)]
 try simp only [Pu.pwA]
 rw [jN (ds:=w.pc.map pD) (fs:=(al w.pc).map PyData.int) rfl (by
  rw [al,map_map];refine zJ λp hp=>?_
  try simp only [Pu.pwA,ZX,pD,Function.comp_def]) (by simp [al];omega)]
 try simp only [Pu.pwA]
 have n1:dn w.pc≠[]:=by simp [dn,hc.ne]
 have n2:al w.pc≠[]:=by simp [al,hc.ne]
 try simp (disch:=omega) only [Pu.pwA,ql2,qfB n1,qfF n1,qjK]
 have row:∀ i:Int,(zM (-(mn (al w.pc))) (d.C-mx (al w.pc) - -(mn (al w.pc))).toNat).length<=4096:=λi=>by rw [WM];omega
 have rows:(zM (-(mn (dn w.pc))) (d.R-mx (dn w.pc) - -(mn (dn w.pc))).toNat).length<=4096:=by rw [WM];omega
 have fl:∀ i,(((zM (-(mn (dn w.pc))) (d.R-mx (dn w.pc) - -(mn (dn w.pc))).toNat).take i).flatMap λi=>(zM (-(mn (al w.pc))) (d.C-mx (al w.pc) - -(mn (al w.pc))).toNat).map λj=>(i,j)).length<=i*4096:=λi=>by
  rw [qbo];exact Nat.mul_le_mul (by rw [List.length_take];omega) (row 0)
 refine XZ (Q:=λo=>VW true o=_) (zM (-(mn (dn w.pc))) (d.R-mx (dn w.pc) - -(mn (dn w.pc))).toNat) (λi ρ=>∃ s9,ρ=[.sh (dlD d),.sh (Wk.d w),.sh (.int d.R),.sh (.int d.C),.sh (.int d.B),.sh (.list (w.pc.map pD)),.sh (.list ((dn w.pc).map PyData.int)),.sh (.list ((al w.pc).map PyData.int)),.ow ((((zM (-(mn (dn w.pc))) (d.R-mx (dn w.pc) - -(mn (dn w.pc))).toNat).take i).flatMap λi=>(zM (-(mn (al w.pc))) (d.C-mx (al w.pc) - -(mn (al w.pc))).toNat).map λj=>(i,j)).map pD),s9]) ⟨_,rfl⟩ ?_ ?_
 ·rintro i x ρ hx ⟨s9,rfl⟩;have hi:=(zb0 hx).1
  try simp only [Pu.pwA]
  rw [jN (ds:=(zM (-(mn (al w.pc))) (d.C-mx (al w.pc) - -(mn (al w.pc))).toNat).map PyData.int) (fs:=((zM (-(mn (al w.pc))) (d.C-mx (al w.pc) - -(mn (al w.pc))).toNat).map λj=>(x,j)).map pD)]
  rotate_left
  ·try simp (disch:=omega) only [Pu.pwA,qfB n2,qfF n2,qjK]
  ·rw [map_map];refine zJ λq hq=>?_
   try simp only [Pu.pwA,ZX,pD,Function.comp_def]
  ·rw [length_map,length_map];have:=row 0;omega
  try simp only [Pu.pwA]
  rw [qeK rfl (by
   rw [length_map,length_map,length_map];have a:=fl i;have b:=row 0;have:=Nat.mul_le_mul (show i<=4095 by omega) (u8 4096);omega)]
  try simp only [Pu.pwA]
  rw [List.take_add_one,hx,Option.toList_some,List.flatMap_append,List.map_append];exact ⟨.sh (.int x),by simp⟩
 ·rintro ρ ⟨s9,rfl⟩;rw [List.take_length]
  try simp only [Pu.pwA]
  rfl
def qqN {R C:Int} {cs:List (Int×Int)} {s:Int×Int} (h:s∈stI R C cs) {p:Int×Int} (hp:p∈cs):(0<=s.1+p.1/\s.1+p.1<R)/\(0<=s.2+p.2/\s.2+p.2<C):=by
 obtain ⟨i,hi,h⟩:=List.mem_flatMap.mp h;obtain ⟨j,hj,rfl⟩:=mem_map.mp h;have a:=qbs hi;have b:=qbs hj;have m1:=qcJ (show p.1∈dn cs from mem_map.mpr ⟨p,hp,rfl⟩);have m2:=qfn (show p.1∈dn cs from mem_map.mpr ⟨p,hp,rfl⟩);have m3:=qcJ (show p.2∈al cs from mem_map.mpr ⟨p,hp,rfl⟩);have m4:=qfn (show p.2∈al cs from mem_map.mpr ⟨p,hp,rfl⟩);simp only;omega
def N0 {d:Dl} {cs:List (Int×Int)} {s:Int×Int} (h:s∈stI d.R d.C cs):∀ q∈sh s cs,inT d q:=λq hq=>by
 obtain ⟨p,hp,rfl⟩:=mem_map.mp hq;obtain ⟨⟨h1,h2⟩,h3,h4⟩:=qqN h hp;exact ⟨h1,h2,h3,h4⟩
def MJ {t:Nat} {u:Int} (h:t<=16) (hu:-16<=u/\u<=16):-256<=(t:Int)*u/\(t:Int)*u<=256:=by
 have a:(t:Int)*u<=(t:Int)*16:=Int.mul_le_mul_of_nonneg_left hu.2 (Int.natCast_nonneg _);have b:(t:Int)*(-16)<=(t:Int)*u:=Int.mul_le_mul_of_nonneg_left hu.1 (Int.natCast_nonneg _);omega
def qqf {w:Wk} (ok:w.Ok):Cb w.pc:=by
 have h:=Bk.qeQ ok;refine ⟨λe=>by rw [e] at h;simp at h,λp hp=>?_⟩;cases w with
 |cells ps=>have:=ok.2.2.2 p hp;omega
 |block h v=>
  obtain ⟨i,hi,hq⟩:=List.mem_flatMap.mp hp;obtain ⟨j,hj,rfl⟩:=mem_map.mp hq;have:=mem_range.mp hi;have:=mem_range.mp hj;obtain ⟨_,_,h3,h4,_⟩:=ok;simp only;omega
 |step u v m=>
  obtain ⟨t,ht,rfl⟩:=mem_map.mp hp;have:=mem_range.mp ht;obtain ⟨h1,h2,h3,h4⟩:=ok;have b1:=MJ (t:=t) (u:=u) (by omega) h1;have b2:=MJ (t:=t) (u:=v) (by omega) h2;simp only;omega
 |line k m=>
  obtain ⟨t,ht,rfl⟩:=mem_map.mp hp;have:=mem_range.mp ht;obtain ⟨h1,h2,h3⟩:=ok;have b0:(-16<=Bk.lnD k/\Bk.lnD k<=16)/\(-16<=Bk.lnA k/\Bk.lnA k<=16):=by
   match k,h1 with
   |0,_=>decide
   |1,_=>decide
   |2,_=>decide
   |3,_=>decide
  have b1:=MJ (t:=t) (u:=Bk.lnD k) (by omega) b0.1;have b2:=MJ (t:=t) (u:=Bk.lnA k) (by omega) b0.2;simp only;omega
def qjM {n:Bool} {ps:List (Int×Int)}:eqD n (.list (ps.map pD)) (.list [])=some (.bool (if n then !decide (ps=[]) else decide (ps=[]))):=by
 have dp:∀ ps:List (Int×Int),qbx (ps.map pD)<=1:=λps=>by
  induction ps with
  |nil=>simp [qbx]
  |cons p ps ih=>simp only [map_cons,qbx,pD,dpt];omega
 have h:qcm (.list (ps.map pD)) (.list [])=none:=rfl;unfold eqD;rw [h];simp only;rw [zU (by have:=dp ps;simp only [dpt];omega)];cases ps<;>simp [jz,YQ]
def qsm {d:Dl} {w:Wk} (hd:d.dep<=2) (okd:d.Ok) (ok:Big w) (hc:Cb w.pc):jF [dlD d,Wk.d w]=some (.list ((stI d.R d.C w.pc).map pD)):=by
 have hl:=WF ok;have l:=Dl.lims okd;have:=l.r1;have:=l.r2;have:=l.c1;have:=l.c2;obtain ⟨⟨h1,h2,h3⟩,⟨h4,h5,h6⟩⟩:=hc.lim;rw [qdA]
 try simp only [Pu.pwA,RV,qb9,qcu (n:=2) hd okd,siz,YH ok]
 rw [jN (ds:=w.pc.map pD) (fs:=(dn w.pc).map PyData.int) rfl (by
  rw [dn,map_map];refine zJ λp hp=>?_
  try simp only [Pu.pwA,ZX,pD,Function.comp_def]) (by simp [dn];omega)]
 try simp only [Pu.pwA]
 rw [jN (ds:=w.pc.map pD) (fs:=(al w.pc).map PyData.int) rfl (by
  rw [al,map_map];refine zJ λp hp=>?_
  try simp only [Pu.pwA,ZX,pD,Function.comp_def]) (by simp [al];omega)]
 try simp only [Pu.pwA]
 have n1:dn w.pc≠[]:=by simp [dn,hc.ne]
 have n2:al w.pc≠[]:=by simp [al,hc.ne]
 rw [qev (ds:=(zM (-(mn (dn w.pc))) (d.R-mx (dn w.pc) - -(mn (dn w.pc))).toNat).map PyData.int) (fs:=(stI d.R d.C w.pc).map pD)]
 ·try simp only [Pu.pwA]
 ·try simp (disch:=omega) only [Pu.pwA,qfB n1,qfF n1,qjK]
 ·have:(stI d.R d.C w.pc).map pD=(zM (-(mn (dn w.pc))) (d.R-mx (dn w.pc) - -(mn (dn w.pc))).toNat).flatMap λi=>(zM (-(mn (al w.pc))) (d.C-mx (al w.pc) - -(mn (al w.pc))).toNat).map λj=>pD (i,j):=by
   simp only [Pv.stI,List.map_flatMap,map_map,Function.comp_def]
  rw [this];refine qby λi hi=>?_
  try simp (disch:=omega) only [Pu.pwA,qh8,qfB n2,qfF n2,qjK]
  rw [zJ (k:=λq=>pD (i,q)) λq hq=>?_]
  ·try simp only [Pu.pwA]
  ·try simp only [Pu.pwA,ZX,pD]
 ·rw [length_map];exact qaN hc l.r2 l.c2
def qsM {d:Dl} {w:Wk} {s:Int×Int} (hp:d.dep<=2) (okd:d.Ok) (ok:Big w) (h:∀ q∈sh s w.pc,inT d q):QC [dlD d,Wk.d w,pD s]=some (.list ((bks d s w.pc).map PyData.int)):=by
 have hl:=WF ok;rw [qaz]
 try simp only [Pu.pwA,UV]
 rw [jN (ds:=w.pc.map pD) (fs:=(bks d s w.pc).map PyData.int)]
 ·try simp only [Pu.pwA]
 ·try simp only [Pu.pwA,qsp ok]
 ·rw [bks,sh,map_map,map_map];refine zJ λp hp'=>?_;have:=qqe (n:=2) (i:=s.1+p.1) (j:=s.2+p.2) hp okd (h (s.1+p.1,s.2+p.2) (mem_map.mpr ⟨p,hp',rfl⟩))
  try simp only [Pu.pwA,ZX,pD,qgn,this,bk,Function.comp_def]
 ·simp [bks,sh];omega
def qqu {i e:Int}:zg [.int i,.int e]=some (.bool (decide (0<=i)&&decide (i<e))):=by
 rw [WB];by_cases z:0<=i
 ·try simp only [Pu.pwA,zL,qk9,z,decide_true,Bool.true_and]
 ·try simp only [Pu.pwA,zL,qk9,z,decide_false,Bool.false_and]
def alk (ns:List Int) (k l:Int):Bool:=decide (((0<=k/\k<l)/\l<(ns.length:Int))/\ns.getD k.toNat 0=ns.getD l.toNat 0)
def qfc {ns:List Int} {k:Int} (h0:0<=k) (h1:k<(ns.length:Int)):L2.atI (ns.map PyData.int) k=some (.int (ns.getD k.toNat 0)):=by
 obtain ⟨i,rfl⟩:=Int.eq_ofNat_of_zero_le h0;have hi:i<ns.length:=by omega
 rw [atN (by simpa using hi),getElem?_map,v9 hi,Int.toNat_natCast,getD_eq_getElem?_getD,v9 hi];rfl
def qtv {ns:List Int} {k l:Int}:QG [.list (ns.map PyData.int),.int k,.int l]=some (.bool (alk ns k l)):=by
 rw [N5];by_cases c1:0<=k/\k<(ns.length:Int)
 ·by_cases c2:0<=l/\l<(ns.length:Int)
  ·have e1:=qfc c1.1 c1.2;have e2:=qfc c2.1 c2.2;by_cases c:k<l
   ·have e3:alk ns k l=decide (ns.getD k.toNat 0=ns.getD l.toNat 0):=by
     unfold alk;congr 1;rw [eq_iff_iff];exact ⟨λh=>h.2,λh=>⟨by omega,h⟩⟩
    rw [e3]
    try simp only [Pu.pwA,jI,qqu,length_map,c1,c2,c,e1,e2,decide_true,Bool.true_and,Bool.and_self]
   ·have e3:alk ns k l=false:=by unfold alk;rw [decide_eq_false_iff_not];omega
    rw [e3]
    try simp only [Pu.pwA,jI,qqu,length_map,c1,c2,c,decide_true,decide_false,Bool.and_self]
  ·have e3:alk ns k l=false:=by unfold alk;rw [decide_eq_false_iff_not];omega
   have e4:(decide (0<=l)&&decide (l<(ns.length:Int)))=false:=by
    rw [← Bool.not_eq_true,Bool.and_eq_true,decide_eq_true_eq,decide_eq_true_eq];exact c2
   rw [e3]
   try simp only [Pu.pwA,jI,qqu,length_map,c1,e4,decide_true,Bool.and_self]
 ·have e3:alk ns k l=false:=by unfold alk;rw [decide_eq_false_iff_not];omega
  have e4:(decide (0<=k)&&decide (k<(ns.length:Int)))=false:=by
   rw [← Bool.not_eq_true,Bool.and_eq_true,decide_eq_true_eq,decide_eq_true_eq];exact c1
  rw [e3]
  try simp only [Pu.pwA,jI,qqu,length_map,e4]
def t3:((1+1+1:Nat):Int)=3:=rfl
def qtU {d:Dl} {w:Wk} {s:Int×Int} {k l:Int} (hp:d.dep<=2) (okd:d.Ok) (ok:Big w):jv [dlD d,Wk.d w,.tuple [pD s,.int k,.int l]]=some (.bool (isS d w s&&alk (bks d s w.pc) k l)):=by
 have ss:=qo3 (s:=s) hp okd ok;rw [KG];cases e:isS d w s with
 |false=>
  rw [e] at ss
  try simp only [Pu.pwA,jZ,s3,t3,ss,Bool.false_and]
 |true=>
  rw [e] at ss;have bf:=qsE hp okd ok (qgN e)
  try simp only [Pu.pwA,jZ,s3,t3,ss,bf,qtv,Bool.true_and]
end K91
namespace K91
open PySem L2 L3 Pu Pv
open Bk (Dl Wk faO)
def cln (d:Dl) (w:Wk) (s:Int×Int):Bool:=(faO (bks d s w.pc)).isSome
def clV (d:Dl) (w:Wk) (s:Int×Int):PyData:=match faO (bks d s w.pc) with|some (i,j)=>.tuple [pD s,.int i,.int j]|none=>.none
def clO (d:Dl) (w:Wk):PyData:=match (stI d.R d.C w.pc).find? (cln d w) with|some s=>clV d w s|none=>.none
def qjm {d:Dl} {w:Wk} {s:Int×Int} (hp:d.dep<=2) (okd:d.Ok) (ok:Big w) (hs:s∈stI d.R d.C w.pc):qL [dlD d,Wk.d w,pD s]=some (.list ((bks d s w.pc).map PyData.int))/\qX [.list ((bks d s w.pc).map PyData.int)]=some (faD (bks d s w.pc)):=
 ⟨qsE hp okd ok (N0 hs),qn1 (by have:=WF ok;simp [bks,sh];omega)⟩
def qq7 {d:Dl} {w:Wk} (hp:d.dep<=2) (okd:d.Ok) (ok:Big w) (hc:Cb w.pc):J0 [dlD d,Wk.d w]=some (clO d w):=by
 rw [qf9]
 try simp only [Pu.pwA,LG,qsm hp okd ok hc]
 have no:∀ s∈stI d.R d.C w.pc,cln d w s=false->qX [.list ((bks d s w.pc).map PyData.int)]=some .none:=λs hs e=>by
  rw [(qjm hp okd ok hs).2];unfold cln at e;unfold faD;cases z:faO (bks d s w.pc) with
  |none=>rfl
  |some _=>rw [z] at e;cases e
 cases f:(stI d.R d.C w.pc).find? (cln d w) with
 |none=>
  have al:=List.find?_eq_none.mp f;refine XZ (Q:=λo=>VW false o=some (clO d w)) (g:=pD) (stI d.R d.C w.pc) (λ_ ρ=>∃ s2 s3,ρ=[.sh (dlD d),.sh (Wk.d w),s2,s3]) ⟨_,_,rfl⟩ ?_ ?_
  ·rintro i s ρ hx ⟨s2,s3,rfl⟩;have hm:=za2 hx;have e1:=(qjm hp okd ok hm).1;have e2:=no s hm (by simpa using al s hm)
   try simp only [Pu.pwA,e1,e2]
   exact ⟨_,_,rfl⟩
  ·rintro ρ ⟨s2,s3,rfl⟩
   try simp only [Pu.pwA,clO,f]
 |some s0=>
  obtain ⟨hc0,as,bs,eq,al⟩:=List.find?_eq_some_iff_append.mp f;have hs0:s0∈stI d.R d.C w.pc:=by rw [eq];simp
  obtain ⟨⟨a,b⟩,fe⟩:=Option.isSome_iff_exists.mp hc0;have e1:=(qjm hp okd ok hs0).1;have e2:=(qjm hp okd ok hs0).2;have e3:faD (bks d s0 w.pc)=.tuple [.int a,.int b]:=by unfold faD;rw [fe]
  rw [e3] at e2;refine qek (Q:=λo=>VW false o=some (clO d w)) (g:=pD) (stI d.R d.C w.pc) as.length s0 (clO d w) false (by rw [eq];simp) (λ_ ρ=>∃ s2 s3,ρ=[.sh (dlD d),.sh (Wk.d w),s2,s3]) ⟨_,_,rfl⟩ ?_ ?_ ?_
  ·rintro i s ρ hi hx ⟨s2,s3,rfl⟩;have hm:=za2 hx;have ha:s∈as:=by
    rw [eq,List.getElem?_append_left hi] at hx;exact za2 hx
   have e1:=(qjm hp okd ok hm).1;have e2:=no s hm (by simpa using al s ha)
   try simp only [Pu.pwA,e1,e2]
   exact ⟨_,_,rfl⟩
  ·rintro ρ ⟨s2,s3,rfl⟩
   try simp only [Pu.pwA,e1,e2,clO,f,clV,fe]
  ·try simp only [Pu.pwA]
def csL (d:Dl) (w:Wk):List (Int×Int):=(stI d.R d.C w.pc).filter λs=>!cln d w s
def qqt {d:Dl} {w:Wk} (hp:d.dep<=2) (okd:d.Ok) (ok:Big w) (hc:Cb w.pc):qR [dlD d,Wk.d w]=some (.list ((csL d w).map pD)):=by
 have l:=Dl.lims okd;have sl:=qaN (R:=d.R) (C:=d.C) hc l.r2 l.c2;rw [R9]
 try simp only [Pu.pwA,QQ]
 rw [jN (ds:=(stI d.R d.C w.pc).map pD) (fs:=(csL d w).map pD)]
 ·try simp only [Pu.pwA]
 ·try simp only [Pu.pwA,qsm hp okd ok hc]
 ·refine KQ λs hs=>?_;obtain ⟨e1,e2⟩:=qjm hp okd ok hs;unfold cln;cases e:faO (bks d s w.pc) with
  |none=>
   have:faD (bks d s w.pc)=.none:=by unfold faD;rw [e]
   rw [this] at e2
   try simp only [Pu.pwA,ZX,e1,e2,Option.isSome_none]
  |some ij=>
   have:faD (bks d s w.pc)=.tuple [.int ij.1,.int ij.2]:=by unfold faD;rw [e]
   rw [this] at e2
   try simp only [Pu.pwA,ZX,e1,e2,Option.isSome_some]
 ·rw [length_map];exact za3 (List.length_filter_le _ _) sl
theorem qbB:∀ (d:Dl) {i j:Int},d.Ok->Bk.Inn d i j->0<=d.bank i j/\d.bank i j<d.B
 |.skew r c b x y,i,j,ok,_=>by
  have:=ok.2.2.2.2.1;exact ⟨Int.emod_nonneg _ (by omega),Int.emod_lt_of_pos _ (by omega)⟩
 |.rests r c b p,i,j,ok,_=>by
  have:=ok.2.2.2.2.1;exact ⟨Int.emod_nonneg _ (by omega),Int.emod_lt_of_pos _ (by omega)⟩
 |.bits h l ms,i,j,ok,_=>qbu _ ms
 |.table b cells,i,j,ok,h=>by
  obtain ⟨a1,a2,a3,a4,c,c1,c2,hr⟩:=ok;have hi:i.toNat<cells.length:=by have:=h.i1;have:=h.i2;simp only [Dl.R] at this;omega
  have hm:=za7 hi;obtain ⟨l1,hx⟩:=hr _ hm;have hj:j.toNat<(cells[i.toNat]).length:=by
   have h1:=h.j1;have h2:=h.j2;have e:(Dl.table b cells).C=c:=by
    have:cells≠[]:=by intro z;rw [z] at a3;simp at a3
    obtain ⟨r0,rs,rfl⟩:=List.exists_cons_of_ne_nil this;have:=(hr r0 (by simp)).1;simp [Dl.C,this]
   rw [e] at h2;omega
  simp only [Dl.bank,v9 hi,Option.getD_some,v9 hj,Dl.B];exact hx _ (za7 hj)
 |.joined d e,i,j,ok,h=>by
  have ld:=Dl.lims ok.1;have le:=Dl.lims ok.2.1;obtain ⟨h1,h2,h3,h4⟩:=h;simp only [Dl.R] at h2;simp only [Dl.C] at h4;have er:=le.r1;have ec:=le.c1;have q1:=qbB d (i:=i/e.R) (j:=j/e.C) ok.1 ⟨Int.ediv_nonneg h1 (by omega),Int.ediv_lt_of_lt_mul (by omega) h2,Int.ediv_nonneg h3 (by omega),Int.ediv_lt_of_lt_mul (by omega) h4⟩;have q2:=qbB e (i:=i%e.R) (j:=j%e.C) ok.2.1 ⟨Int.emod_nonneg _ (by omega),Int.emod_lt_of_pos _ (by omega),Int.emod_nonneg _ (by omega),Int.emod_lt_of_pos _ (by omega)⟩;have m1:=Int.mul_nonneg q1.1 (show 0<=e.B by omega);have m2:(d.bank (i/e.R) (j/e.C)+1)*e.B<=d.B*e.B:=Int.mul_le_mul_of_nonneg_right (by omega) (by omega);rw [Int.add_mul,Int.one_mul] at m2;simp only [Dl.bank,Dl.B];omega
def cnt (ns:List Int) (b:Int):Int:=((ns.filter λn=>decide (n=b)).length:Nat)
def qtQ {d:Dl} {w:Wk} {s:Int×Int} (hp:d.dep<=2) (okd:d.Ok) (ok:Big w) (hs:s∈stI d.R d.C w.pc):W4 [dlD d,Wk.d w,pD s]=some (.list ((zM 0 d.B.toNat).map λb=>.int (cnt (bks d s w.pc) b))):=by
 have lm:=Dl.lims okd;have rgB:∀ n∈bks d s w.pc,0<=n/\n<d.B:=λn hn=>by
  obtain ⟨q,hq,rfl⟩:=mem_map.mp hn;exact qbB d okd (N0 hs q hq)
 have lb:=lm.b1;have lb2:=lm.b2;rw [qf2]
 try simp only [Pu.pwA,MF,qb9,qcu (n:=2) hp okd,siz]
 rw [jN (ds:=(zM 0 d.B.toNat).map PyData.int) (fs:=(zM 0 d.B.toNat).map λ_=>.int 0) (by try simp (disch:=omega) only [Pu.pwA,qcw]) (zJ λb hb=>by try simp only [Pu.pwA,ZX]) (by simp [zM];omega)]
 try simp only [Pu.pwA,(qjm hp okd ok hs).1]
 refine XZ (Q:=λo=>VW true o=some (.list ((zM 0 d.B.toNat).map λb=>.int (cnt (bks d s w.pc) b)))) (g:=PyData.int) (bks d s w.pc) (λi ρ=>∃ s7,ρ=[.sh (dlD d),.sh (Wk.d w),.sh (pD s),.sh (.int d.R),.sh (.int d.C),.sh (.int d.B),.ow ((zM 0 d.B.toNat).map λb=>.int (cnt ((bks d s w.pc).take i) b)),s7]) ⟨_,rfl⟩ ?_ ?_
 ·rintro i n ρ hx ⟨s7,rfl⟩;have hn:=rgB n (za2 hx);have e1:(bks d s w.pc).take (i+1)=(bks d s w.pc).take i++[n]:=by rw [List.take_add_one,hx];rfl
  have ce:∀ b,cnt ((bks d s w.pc).take (i+1)) b=cnt ((bks d s w.pc).take i) b+if n=b then 1 else 0:=λb=>by
   rw [e1];unfold cnt;rw [List.filter_append,length_append];by_cases z:n=b<;>simp [z]
  generalize (bks d s w.pc).take i=ns at ce;obtain ⟨k,rfl⟩:=Int.eq_ofNat_of_zero_le hn.1;have kB:k<d.B.toNat:=by omega
  have ln:((zM 0 d.B.toNat).map λb=>PyData.int (cnt ns b)).length=d.B.toNat:=by simp [zM]
  have ix:ixN ((zM 0 d.B.toNat).map λb=>PyData.int (cnt ns b)).length (k:Int)=some k:=by
   unfold ixN;rw [if_pos (by omega),if_pos (by omega)];simp
  have gt:∀ (j:Nat) (f:Int->PyData),j<d.B.toNat->((zM 0 d.B.toNat).map f)[j]?=some (f (j:Int)):=λj f hj=>by
   unfold zM;rw [getElem?_map,getElem?_map,List.getElem?_range hj];simp
  have st:((zM 0 d.B.toNat).map λb=>PyData.int (cnt ns b)).set k (.int (cnt ns k+1))=(zM 0 d.B.toNat).map λb=>.int (cnt ((bks d s w.pc).take (i+1)) b):=by
   apply List.ext_getElem?;intro j;rw [getElem?_set,ln];by_cases hj:j<d.B.toNat
   ·rw [gt j _ hj,gt j _ hj,ce];by_cases z:k=j
    ·subst z;rw [if_pos rfl,if_pos hj,if_pos rfl]
    ·rw [if_neg z,if_neg (by omega)];simp
   ·rw [List.getElem?_eq_none (by simp [zM];omega),List.getElem?_eq_none (by simp [zM];omega)];split
    ·exfalso;omega
    ·rfl
  try simp only [Pu.pwA,qkz,qfv,ix,gt k _ kB]
  rw [st];exact ⟨_,rfl⟩
 ·rintro ρ ⟨s7,rfl⟩;rw [List.take_of_length_le (u8 _)]
  try simp only [Pu.pwA]
end K91
namespace K91
open PySem L2 L3 Pu Pv
open Bk (Wk Dl Dr faO Fst Un2 jX j3 UJ)
def qj3 {ns:List Int} {i j:Nat} (h:faO ns=some (i,j)):Fst ns i j:=by
 unfold Bk.faO at h;split at h
 ·rename_i c;have:=c.choose_spec;rw [Option.some.inj h] at this;exact this
 ·cases h
def qjj {ns:List Int} {i j:Nat} (F:Fst ns i j):alk ns i j=true:=by
 have h1:=F.ij;have h2:=F.jl;have h3:=F.eq;unfold alk;rw [decide_eq_true_eq];refine ⟨by omega,?_⟩;rw [Int.toNat_natCast,Int.toNat_natCast,getD_eq_getElem?_getD,getD_eq_getElem?_getD,h3]
def qsd {ns:List Int}:decide ((EJ ns:Int)=(ns.length:Int))=unB ns:=by
 rw [Bool.eq_iff_iff,decide_eq_true_eq,qeW,← Bk.qck];omega
def SO {n:Bool} {ps:List (Int×Int)}:eqD n (.list (ps.map pD)) (.list (ps.map pD))=some (.bool (if n then false else true)):=by
 have dp:∀ ps:List (Int×Int),qbx (ps.map pD)<=1:=λps=>by
  induction ps with
  |nil=>simp [qbx]
  |cons p ps ih=>simp only [map_cons,qbx,pD,dpt];omega
 have pe:∀ ps:List (Int×Int),YQ (ps.map pD) (ps.map pD)=some true:=λps=>by
  induction ps with
  |nil=>rfl
  |cons p ps ih=>simp [YQ,jz,pD,ih]
 have h:qcm (.list (ps.map pD)) (.list (ps.map pD))=none:=rfl;unfold eqD;rw [h];simp only;rw [zU (by have:=dp ps;simp only [dpt];omega)];simp [jz,pe]
def qq0 {ns:List Int}:decide (((EJ ns:Nat):Int)=((ns.length:Nat):Int))=!(faO ns).isSome:=by
 rw [qsd];unfold unB;cases faO ns<;>rfl
def TX (d:Dl):Dl:=.table d.B ((zM 0 d.R.toNat).map λi=>(zM 0 d.C.toNat).map λj=>d.bank i j)
def L9 {lo:Int} {n:Nat} {x:Int} (h:x∈zM lo n):lo<=x/\x<lo+n:=by
 unfold zM at h;obtain ⟨i,hi,rfl⟩:=mem_map.mp h;have:=mem_range.mp hi;omega
def qpi {d:Dl} (hp:d.dep<=2) (okd:d.Ok):ZI [dlD d]=some (dlD (TX d)):=by
 have lm:=Dl.lims okd;have r1:=lm.r1;have r2:=lm.r2;have c1:=lm.c1;have c2:=lm.c2;rw [qaL]
 try simp only [Pu.pwA,U3,qeH,qcu (n:=2) hp okd,siz]
 rw [jN (ds:=(zM 0 d.R.toNat).map PyData.int) (fs:=(zM 0 d.R.toNat).map λi=>qhk ((zM 0 d.C.toNat).map λj=>d.bank i j)) (by try simp (disch:=omega) only [Pu.pwA,qcw]) (zJ λi hi=>?_) (by simp [zM];omega)]
 ·try simp only [Pu.pwA]
  simp only [TX,dlD,map_map,Function.comp_def]
 ·have hi':=L9 hi
  try simp only [Pu.pwA,ZX]
  rw [jN (ds:=(zM 0 d.C.toNat).map PyData.int) (fs:=(zM 0 d.C.toNat).map λj=>.int (d.bank i j)) (by try simp (disch:=omega) only [Pu.pwA,qcw]) (zJ λj hj=>?_) (by simp [zM];omega)]
  ·try simp only [Pu.pwA,qhk,map_map,Function.comp_def]
  ·have hj':=L9 hj;have lb:=qqe (n:=2) hp okd (i:=i) (j:=j) ⟨by omega,by omega,by omega,by omega⟩
   try simp only [Pu.pwA,ZX,qgn,lb]
def qn0 {ns:List Int} {b:Int}:qmH (.list (ns.map PyData.int)) [.int b]=some (.int (cnt ns b)):=by
 simp only [qmH,D6,Option.map_some,cnt,List.count_eq_length_filter];rfl
def qrM {d:Dl} {w:Wk} {s:Int×Int} (hp:d.dep<=2) (okd:d.Ok) (ok:Big w) (hs:s∈stI d.R d.C w.pc):zn [dlD d,Wk.d w,pD s,.list ((bks d s w.pc).map PyData.int)]=some (.bool true):=by
 have lm:=Dl.lims okd;have b1:=lm.b1;have b2:=lm.b2;have pl:=WF ok;have wo:=qsH hp okd ok (N0 hs);have lo:=qtQ hp okd ok hs;rw [WA]
 try simp only [Pu.pwA,js,wo]
 rw [jN (ds:=w.pc.map pD) (fs:=(sh s w.pc).map pD) (by try simp only [Pu.pwA,qsp ok]) (by
  unfold sh;rw [map_map];exact zJ λp hpp=>by try simp only [Pu.pwA,ZX,pD,Function.comp_def]) (by simp [sh];omega)]
 try simp only [Pu.pwA,SO]
 rw [jN (ds:=(zM 0 d.B.toNat).map PyData.int) (fs:=(zM 0 d.B.toNat).map λb=>.int (cnt (bks d s w.pc) b)) (by try simp (disch:=omega) only [Pu.pwA,qeH,qcu (n:=2) hp okd,siz,qcw]) (zJ λb hb=>by try simp only [Pu.pwA,ZX,qn0]) (by simp [zM];omega)];have sm:=qeS (n:=3) (d:=.list ((zM 0 d.B.toNat).map λb=>.int (cnt (bks d s w.pc) b))) ⟨by simp [zM];omega,λx hx=>by
  obtain ⟨b,_,rfl⟩:=mem_map.mp hx
  trivial⟩
 try simp only [Pu.pwA,lo,sm]
def qar (d:Dl) (w:Wk) (xs:List (Int×Int)):PyData:=match xs.find? (cln d w) with|some s=>pD s|none=>.none
def qsB {p:Int×Int}:eqD false (pD p) (pD p)=some (.bool true):=by
 have h:qcm (pD p) (pD p)=none:=rfl;unfold eqD;rw [h];simp only;rw [zU (by simp [pD,dpt,qbx])];simp [jz,YQ,pD]
def qtJ {d:Dl} {w:Wk} (hp:d.dep<=2) (okd:d.Ok) (ok:Big w) (hc:Cb w.pc) (h64:w.pc.length<=64):QM [dlD d,Wk.d w]=some (.bool true):=by
 have l:=Dl.lims okd;have sl:=qaN (R:=d.R) (C:=d.C) hc l.r2 l.c2;have pl:=WF ok;rw [NZ]
 try simp only [Pu.pwA,VL,qsy hp okd ok hc,qsm hp okd ok hc,SO,qjl,qcO]
 refine XZ (Q:=λo=>VW false o=some (.bool true)) (g:=pD) (stI d.R d.C w.pc) (λi ρ=>∃ s5 s6 s7,ρ=[.sh (dlD d),.sh (Wk.d w),.sh (.list ((stI d.R d.C w.pc).map pD)),.ow ((((stI d.R d.C w.pc).take i).filter λs=>!cln d w s).map pD),.sh (qar d w ((stI d.R d.C w.pc).take i)),s5,s6,s7]) ⟨_,_,_,rfl⟩ ?_ ?_
 ·rintro i s ρ hx ⟨s5,s6,s7,rfl⟩;have hm:=za2 hx;have lf:=qsM hp okd ok (N0 hm);have ls:=qrM hp okd ok hm;have le:=qj0 (xs:=bks d s w.pc) (by simp [bks,sh];omega);have dc:decide (((EJ (bks d s w.pc):Nat):Int)=(((bks d s w.pc).length:Nat):Int))=!cln d w s:=qq0 (ns:=bks d s w.pc);have tk:(stI d.R d.C w.pc).take (i+1)=(stI d.R d.C w.pc).take i++[s]:=by rw [List.take_add_one,hx];rfl
  have ll:(((stI d.R d.C w.pc).take i).filter λs=>!cln d w s).length<=i:=by
   have:=List.length_filter_le (λs=>!cln d w s) ((stI d.R d.C w.pc).take i);rw [List.length_take] at this;omega
  have hi:=(zb0 hx).1;rw [tk,List.filter_append,List.map_append]
  try simp only [Pu.pwA,lf,ls,le,length_map,dc]
  cases e:cln d w s with
  |false=>
   have f1:qar d w ((stI d.R d.C w.pc).take i++[s])=qar d w ((stI d.R d.C w.pc).take i):=by
    unfold qar;rw [List.find?_append];simp [e]
   have f2:[s].filter (λs=>!cln d w s)=[s]:=by simp [e]
   rw [f1,f2,Bool.not_false,if_pos rfl];rw [qki (ds:=(((stI d.R d.C w.pc).take i).filter λs=>!cln d w s).map pD) rfl (by rw [length_map];omega)];exact ⟨_,_,_,rfl⟩
  |true=>
   have f2:[s].filter (λs=>!cln d w s)=[]:=by simp [e]
   rw [f2,Bool.not_true,if_neg v7];cases g:((stI d.R d.C w.pc).take i).find? (cln d w) with
   |none=>
    have f0:qar d w ((stI d.R d.C w.pc).take i)=.none:=by unfold qar;rw [g]
    have f1:qar d w ((stI d.R d.C w.pc).take i++[s])=pD s:=by
     unfold qar;rw [List.find?_append,g];simp [e]
    rw [f0,f1]
    try simp only [Pu.pwA]
    exact ⟨_,_,_,by rw [List.map_nil,List.append_nil]⟩
   |some t=>
    have f0:qar d w ((stI d.R d.C w.pc).take i)=pD t:=by unfold qar;rw [g]
    have f1:qar d w ((stI d.R d.C w.pc).take i++[s])=pD t:=by
     unfold qar;rw [List.find?_append,g];rfl
    have f3:qkJ false (pD t) .none=some (.bool false):=rfl;rw [f0,f1]
    try simp only [Pu.pwA,f3]
    exact ⟨_,_,_,by rw [List.map_nil,List.append_nil]⟩
 ·rintro ρ ⟨s5,s6,s7,rfl⟩;rw [List.take_of_length_le (u8 _)];have cs:=qqt hp okd ok hc;unfold csL at cs;have cl:=qq7 hp okd ok hc;unfold clO at cl;cases g:(stI d.R d.C w.pc).find? (cln d w) with
  |none=>
   have f0:qar d w (stI d.R d.C w.pc)=.none:=by unfold qar;rw [g]
   rw [g] at cl;simp only at cl;rw [f0]
   try simp only [Pu.pwA,cl,cs,SO]
  |some s=>
   have f0:qar d w (stI d.R d.C w.pc)=pD s:=by unfold qar;rw [g]
   rw [g] at cl;simp only at cl;have hs:s∈stI d.R d.C w.pc:=List.mem_of_find?_eq_some g;have hc0:cln d w s=true:=List.find?_some g;obtain ⟨⟨a,b⟩,fe⟩:=Option.isSome_iff_exists.mp hc0;have F:=qj3 fe;have cv:clV d w s=.tuple [pD s,.int (a:Int),.int (b:Int)]:=by unfold clV;rw [fe]
   rw [cv] at cl;have sc:=qtU (s:=s) (k:=(a:Int)) (l:=(b:Int)) hp okd ok;rw [qed (N0 hs),qjj F,Bool.true_and] at sc;have lf:=qsM hp okd ok (N0 hs);have h1:=F.ij;have h2:=F.jl;have h3:=F.eq;have A1:=qfc (ns:=bks d s w.pc) (k:=(a:Int)) (by omega) (by omega);have A2:=qfc (ns:=bks d s w.pc) (k:=(b:Int)) (by omega) (by omega);have ab:(bks d s w.pc).getD (a:Int).toNat 0=(bks d s w.pc).getD (b:Int).toNat 0:=by
    rw [Int.toNat_natCast,Int.toNat_natCast,getD_eq_getElem?_getD,getD_eq_getElem?_getD,h3]
   have f3:qkJ false (pD s) .none=some (.bool false):=rfl;rw [f0]
   try simp only [Pu.pwA,cl,cs,SO,f3,lf,A1,A2,ab,qsB,sc]
   rfl
end K91
namespace K91
open PySem L2 L3 Pu Pv
open Bk (Wk Dl Dr faO Fst Un2 jX j3 UJ jS jM)
theorem qbX {k l:Int}:∀ ps:List (Int×Int),qbG (.tuple [.int k,.int l]) (ps.map pD)=some (decide ((k,l)∈ps))
 |[]=>rfl
 |p::ps=>by
  have e:jz (pD p) (.tuple [.int k,.int l])=some (decide (p=(k,l))):=by
   obtain ⟨a,b⟩:=p;simp only [pD,jz,YQ];by_cases c1:a=k<;>by_cases c2:b=l<;>simp [c1,c2]
  rw [map_cons,qbG,e,qbX ps];simp only;congr 1;by_cases c:p=(k,l)
  ·subst c;simp
  ·have:¬ (k,l)=p:=λz=>c z.symm;by_cases c2:(k,l)∈ps<;>simp [c,c2,this]
def qpx {d:Dl} {w:Wk} {s:Int×Int} (hc:Cb w.pc) (h:isS d w s=true):s∈stI d.R d.C w.pc:=by
 have hin:=qgN h;have n1:dn w.pc≠[]:=by simp [dn,hc.ne]
 have n2:al w.pc≠[]:=by simp [al,hc.ne]
 have key:∀ p∈w.pc,(0<=s.1+p.1/\s.1+p.1<d.R)/\(0<=s.2+p.2/\s.2+p.2<d.C):=λp hp=>by
  obtain ⟨h1,h2,h3,h4⟩:=hin _ (mem_map.mpr ⟨p,hp,rfl⟩);exact ⟨⟨h1,h2⟩,h3,h4⟩
 obtain ⟨p1,m1,e1⟩:=mem_map.mp (KK n1);obtain ⟨p2,m2,e2⟩:=mem_map.mp (K7 n1);obtain ⟨p3,m3,e3⟩:=mem_map.mp (KK n2);obtain ⟨p4,m4,e4⟩:=mem_map.mp (K7 n2);have e1:p1.1=mn (dn w.pc):=e1;have e2:p2.1=mx (dn w.pc):=e2;have e3:p3.2=mn (al w.pc):=e3;have e4:p4.2=mx (al w.pc):=e4;have k1:=key p1 m1;have k2:=key p2 m2;have k3:=key p3 m3;have k4:=key p4 m4;unfold Pv.stI;refine List.mem_flatMap.mpr ⟨s.1,mem_map.mpr ⟨(s.1+mn (dn w.pc)).toNat,mem_range.mpr (by omega),by omega⟩,mem_map.mpr ⟨s.2,mem_map.mpr ⟨(s.2+mn (al w.pc)).toNat,mem_range.mpr (by omega),by omega⟩,rfl⟩⟩
def qf1 {α:Type} (xs:List α) (k:Nat):ZE xs none (some (k:Int))=xs.take k:=by
 unfold ZE;rw [HT.qcX,HT.qbE,List.drop_zero,Nat.sub_zero,List.take_eq_take_iff];omega
def qfb {α:Type} (xs:List α) (k:Nat):ZE xs (some (k:Int)) none=xs.drop k:=by
 unfold ZE;rw [HT.qcX,HT.qbE,List.take_of_length_le (by simp)];by_cases c:k<=xs.length
 ·rw [Nat.min_eq_left c]
 ·rw [Nat.min_eq_right (by omega),List.drop_of_length_le (u8 _),List.drop_of_length_le (by omega)]
def qll {p:Int×Int} {ps:List (Int×Int)}:qqq true (pD p) (.list (ps.map pD))=some (.bool (!decide (p∈ps))):=by
 obtain ⟨k,l⟩:=p;refine (zU λy hy=>?_).trans ?_
 ·obtain ⟨p,_,rfl⟩:=mem_map.mp hy;simp [pD,dpt,qbx]
 ·rw [show pD (k,l)=.tuple [.int k,.int l] from rfl,qbX];rfl
def qtS {w:Wk} (ok:w.Ok):w.pc.length<=16:=by
 cases w with
 |line k m=>simp [Wk.pc,jS];exact ok.2.2
 |block h v=>rw [Wk.pc,Bk.UN];exact ok.2.2.2.2
 |step d a m=>simp [Wk.pc,jS];exact ok.2.2.2
 |cells ps=>exact ok.2.1
def qfd {ns:List Int}:Un2 ns ns.length↔ns.Nodup:=by
 unfold Un2 List.Nodup;rw [List.pairwise_iff_getElem];constructor
 ·intro h i j hi hj hij e;exact h i j hi hij hj (by rw [v9 hi,v9 hj,e])
 ·intro h a b ha hab hb e;rw [v9 ha,v9 hb] at e;exact h a b ha hb hab (Option.some.inj e)
def qiJ {d:Dl} {w:Wk} {s:Int×Int}:cln d w s=false↔(bks d s w.pc).Nodup:=by
 rw [← qfd,← qeW];unfold cln unB;cases faO (bks d s w.pc)<;>simp
def qk6 {d:Dl} {w w':Wk} (hc':Cb w'.pc) (hs:w'.pc.Sublist w.pc) {s:Int×Int} (h:s∈csL d w):s∈csL d w':=by
 obtain ⟨h1,h2⟩:=List.mem_filter.mp h;have nd:(bks d s w.pc).Nodup:=qiJ.mp (by simpa using h2);have sb:(sh s w'.pc).Sublist (sh s w.pc):=hs.map _;refine List.mem_filter.mpr ⟨qpx hc' (qed λq hq=>N0 h1 q (sb.subset hq)),?_⟩;have:cln d w' s=false:=qiJ.mpr (nd.sublist (sb.map _));simp [this]
def W7 {d:Dl} (D:Dr d 16 16 32):(TX d).Ok/\(TX d).dep<=2/\(TX d).R=d.R/\(TX d).C=d.C:=by
 have lm:=Dl.lims D.ok;have r1:=lm.r1;have c1:=lm.c1;have b1:=lm.b1;have r2:=D.r2;have c2:=D.c2;have b2:=D.b2;have lr:((zM 0 d.R.toNat).map λi=>(zM 0 d.C.toNat).map λj=>d.bank i j).length=d.R.toNat:=by simp [zM]
 refine ⟨⟨b1,by omega,by omega,by omega,d.C.toNat,by omega,by omega,λrow hr=>?_⟩,by simp [TX,Dl.dep],?_,?_⟩
 ·obtain ⟨i,hi,rfl⟩:=mem_map.mp hr;have hi':=L9 hi;refine ⟨by simp [zM],λx hx=>?_⟩;obtain ⟨j,hj,rfl⟩:=mem_map.mp hx;have hj':=L9 hj;exact qbB d D.ok ⟨by omega,by omega,by omega,by omega⟩
 ·simp only [TX,Dl.R,lr];omega
 ·obtain ⟨n,hn⟩:∃ n,d.R.toNat=n+1:=⟨d.R.toNat-1,by omega⟩
  simp only [TX,Dl.C,hn,zM,List.range_succ_eq_map,map_cons];simp;omega
def qjB {d:Dl} {q:Int×Int} (h:inT d q):bk (TX d) q=bk d q:=by
 obtain ⟨h1,h2,h3,h4⟩:=h;unfold bk TX;simp only [Dl.bank,zM,getElem?_map];rw [List.getElem?_range (by omega)];simp only [Option.map_some,Option.getD_some,getElem?_map];rw [List.getElem?_range (by omega)];simp only [Option.map_some,Option.getD_some];congr 1<;>omega
def qbQ {d:Dl} {w:Wk} {s:Int×Int} (h:s∈stI d.R d.C w.pc):bks (TX d) s w.pc=bks d s w.pc:=by
 unfold bks;exact List.map_congr_left λq hq=>qjB (N0 h q hq)
def qkE {d:Dl} {w:Wk} (D:Dr d 16 16 32):clO (TX d) w=clO d w/\csL (TX d) w=csL d w:=by
 obtain ⟨_,_,e1,e2⟩:=W7 D;have ec:∀ s∈stI d.R d.C w.pc,cln (TX d) w s=cln d w s:=λs hs=>by unfold cln;rw [qbQ hs]
 have fe:∀ xs:List (Int×Int),(∀ s∈xs,s∈stI d.R d.C w.pc)->xs.find? (cln (TX d) w)=xs.find? (cln d w)/\xs.filter (λs=>!cln (TX d) w s)=xs.filter λs=>!cln d w s:=λxs=>by
  induction xs with
  |nil=>intro _;exact ⟨rfl,rfl⟩
  |cons x xs ih=>
   intro h;obtain ⟨i1,i2⟩:=ih λs hs=>h s (by simp [hs]);rw [List.find?_cons,List.find?_cons,List.filter_cons,List.filter_cons,ec x (h x (by simp)),i1,i2];exact ⟨rfl,rfl⟩
 obtain ⟨i1,i2⟩:=fe _ λs hs=>hs;refine ⟨?_,by unfold csL;rw [e1,e2,i2]⟩;unfold clO;rw [e1,e2,i1];cases f:(stI d.R d.C w.pc).find? (cln d w) with
 |none=>rfl
 |some s=>
  simp only;unfold clV;rw [qbQ (List.mem_of_find?_eq_some f)]
end K91
namespace K91
open PySem L2 L3 Pu Pv
open Bk (Wk Dl Dr faO RF)
def qtI {w:Wk} {n:Nat} {Q:QD} (ok:w.Ok) (hn:n<900000) (h:∀ w':Wk,Big w'->Cb w'.pc->w'.pc.Sublist w.pc->Q (Wk.d w') (n+1)):ZH.W [Wk.d w] n Q:=by
 obtain ⟨l1,l2⟩:=Bk.qeQ ok;have cb:=qqf ok;rw [qaV];refine ⟨rfl,?_⟩;unfold U5;refine qak λY1 h1=>?_
 try simp only [Pu.pwA,YH (qdN ok)]
 rw [h1];refine qak λY2 h2=>?_
 try simp only [Pu.pwA,length_map]
 refine ⟨by omega,by omega,λk k0 k1=>?_⟩;obtain ⟨k,rfl⟩:=Int.eq_ofNat_of_zero_le k0;rw [h2];have t1:slD (.list (w.pc.map pD)) none (some (k:Int))=some (.list ((w.pc.take k).map pD)):=by rw [qm9,qf1,List.map_take]
 have t2:slD (.list (w.pc.map pD)) (some ((k:Int)+1)) none=some (.list ((w.pc.drop (k+1)).map pD)):=by
  rw [qm9,show (k:Int)+1=((k+1:Nat):Int) by omega,qfb,List.map_drop]
 have t3:qlf (.list ((w.pc.take k).map pD)) (.list ((w.pc.drop (k+1)).map pD))=some (.list ((w.pc.eraseIdx k).map pD)):=by
  rw [qnO (by simp;omega),← List.map_append,List.eraseIdx_eq_take_drop_succ]
 have sb:=List.eraseIdx_sublist (l:=w.pc) (k:=k)
 try simp only [Pu.pwA,length_map,t1,t2,t3]
 by_cases c:(1:Int)<(w.pc.length:Nat)
 ·rw [decide_eq_true c,if_pos rfl];have le:(w.pc.eraseIdx k).length=w.pc.length-1:=List.length_eraseIdx_of_lt (by omega);refine ⟨_,rfl,n+1,u8 _,h (.cells (w.pc.eraseIdx k)) (show (w.pc.eraseIdx k).length<=1000 by omega) ⟨λz=>?_,λp hp=>cb.b p (sb.subset hp)⟩ sb⟩;have z:w.pc.eraseIdx k=[]:=z;rw [z] at le;simp at le;omega
 ·rw [za8 c,if_neg v7];exact ⟨_,rfl,n+1,u8 _,h w (qdN ok) cb (List.Sublist.refl _)⟩
def qfg {c:Prop} [Decidable c] {A B:Prop} (a:A) (b:B):if c then A else B:=by split<;>assumption
def qpZ:∀ k:Nat,k<=60->qfT.w [.un,.sh (.int k),.un,.un,.un,.un,.un,.un,.un] 0 okW:=by
 intro k hk;unfold qfT;refine qak λY1 h1=>?_
 try simp only [Pu.pwA]
 refine ⟨by omega,λd D dp=>?_⟩;rw [h1];refine qak λY2 h2=>?_
 try simp only [Pu.pwA,qpi dp D.ok]
 rw [h2];obtain ⟨okf,dpf,fr,fc⟩:=W7 D
 try simp (disch:=omega) only [Pu.pwA,qcw]
 refine qf3 (zM 0 (2:Int).toNat) MK.mn (λi ρ m=>m<=1000+100*i/\∃ s5 s6 s7 s8,ρ=[.un,.sh (.int k),.un,.sh (dlD d),.sh (dlD (TX d)),s5,s6,s7,s8]) ⟨by omega,_,_,_,_,rfl⟩ ?_ ?_
 ·rintro i x ρ m hx ⟨hm,s5,s6,s7,s8,rfl⟩;have hi:=(VI hx).1;refine ⟨_,rfl,?_⟩;unfold MK;refine qak λY3 h3=>?_
  try simp only [Pu.pwA]
  refine ⟨by omega,λw ok=>?_⟩;rw [h3];have big:=qdN ok;have cb:=qqf ok;have lr:=qtJ dp D.ok big cb (by have:=qtS ok;omega);obtain ⟨fc1,fc2⟩:=qkE (w:=w) D;have c1:=qq7 dp D.ok big cb;have c2:=qq7 dpf okf big cb;rw [fc1] at c2;have k1:=qqt dp D.ok big cb;have k2:=qqt dpf okf big cb;rw [fc2] at k2;have dpc:RF 3 (clO d w):=by
   unfold clO;split
   ·unfold clV;split
    ·refine ⟨by simp,λz hz=>?_⟩;simp only [mem_cons,not_mem_nil,or_false] at hz;rcases hz with rfl|rfl|rfl
     ·refine ⟨by simp,λz hz=>?_⟩;simp only [mem_cons,not_mem_nil,or_false] at hz;rcases hz with rfl|rfl<;>trivial
     ·trivial
     ·trivial
    ·trivial
   ·trivial
  have sm:=qeS (n:=3) dpc;refine qak λY4 h4=>?_
  try simp only [Pu.pwA,lr,c1,c2,sm,Bool.not_true]
  rw [h4];refine qak λY5 h5=>?_
  try simp only [Pu.pwA,k1,k2,SO]
  rw [h5];refine qak λY6 h6=>?_;obtain ⟨l1,l2⟩:=Bk.qeQ ok;obtain ⟨p,hp⟩:∃ p,L2.atI (w.pc.map pD) (-1)=some (pD p):=by
   have:=qpr (xs:=w.pc.map pD) (j:=1) (by omega) (by rw [length_map];omega);refine ⟨w.pc[w.pc.length-1]'(by omega),?_⟩;rw [show (-1:Int)=-((1:Nat):Int) from rfl,this,getElem?_map,length_map,v9 (by omega)];rfl
  try simp only [Pu.pwA,YH big,hp]
  rw [h6];have fin:∀ (ρ':Rho) (m':Nat),(∃ s5 s6 s7 s8,ρ'=[.un,.sh (.int k),.un,.sh (dlD d),.sh (dlD (TX d)),s5,s6,s7,s8])->m'<=m+100->m'<=1000+100*(i+1)/\∃ s5 s6 s7 s8,ρ'=[.un,.sh (.int k),.un,.sh (dlD d),.sh (dlD (TX d)),s5,s6,s7,s8]:=λρ' m' h1 h2=>⟨by omega,h1⟩
  try simp only [Pu.pwA,pD]
  refine qfg ?_ ⟨by omega,_,_,_,_,rfl⟩;refine qtI ok (by omega) λw' b' c' sb=>?_;have k':=qqt dp D.ok b' c';refine ⟨_,k',?_⟩;have lm:=Dl.lims D.ok;have em:(csL d w).filter (λs=>!decide (s∈csL d w'))=[]:=by
   rw [List.filter_eq_nil_iff];intro s hs;simp [qk6 c' sb hs]
  have as:qbg [false,false,false,true,false,false,true] true 8 (.list ((csL d w').map pD)) [.un,.sh (.int k),.un,.sh (dlD d),.sh (dlD (TX d)),.sh (.int x),.sh (Wk.d w),.sh (.tuple [.int p.1,.int p.2]),s8]=[.un,.sh (.int k),.un,.sh (dlD d),.sh (dlD (TX d)),.sh (.int x),.sh (Wk.d w),.sh (.tuple [.int p.1,.int p.2]),.ow ((csL d w').map pD)]:=rfl;rw [as,jN (ds:=(csL d w).map pD) (fs:=((csL d w).filter λs=>!decide (s∈csL d w')).map pD) (by try simp only [Pu.pwA,k1]) (KQ λs hs=>by
   try simp only [Pu.pwA,ZX,qll]
   cases decide (s∈csL d w')<;>try simp only [Pu.pwA,Bool.not_true,Bool.not_false]) (by rw [em];simp),em]
  have en:=qjM (n:=true) (ps:=[]);refine ⟨false,?_,by omega,_,_,_,_,rfl⟩
  try simp only [Pu.pwA,en,decide_true,Bool.not_true]
 ·rintro ρ m ⟨hm,s5,s6,s7,s8,rfl⟩
  try simp only [Pu.pwA]
end K91
namespace K91
open PySem L2 L3 Bk
abbrev qmZ : Env := { scope := PySem.Challenge.pw_bankwalk_k91_whole_walks_beside_all_star.main.scope,locals := mainNs,globals := mainNs,cells := [],code := .ref 13,frame := some 14 }
abbrev qc7 : List Stmt := PySem.W.behindTheImports PySem.Challenge.pw_bankwalk_k91_whole_walks_beside_all_star
abbrev MY:Code:=.body qc7 qmZ
abbrev qpK:List Frame:=[PySem.W.topFrame ⟨0,0,0,0⟩]
def zd:Obj:=Hd.oT []
def ji:Obj:=⟨.none,none,.fields #[],#[]⟩
def qqH:Obj:=Hd.oC [.str "<module>" 182,.str "<module>" 183,.str "/claim/cut.py" 184,.int (1) 0,.int (0) 0,.int (0) 0,.int (0) 0,.int (0) 0,.ref 11,.bool false,.int (181) 0,.ref 12,.none,.none,.none,.none,.int (185) 0,.int (1) 0,.str "/claim/cut.py" 186]
def qqp:Obj:=⟨.type "frame",none,.plain,#[some (.ref 13),some (.ref 3),some (.ref 3),none,some (.str "__main__" 164),none,some (.ref 0)]⟩
def qnh (P:Params):Heap:=⟨Array.mk [PySem.W.boot_o_0 P,PySem.W.boot_o_1 P,PySem.W.boot_o_2 P,PySem.W.boot_o_3 P,PySem.W.boot_o_4 P,PySem.W.boot_o_5 P,PySem.W.boot_o_6 P,PySem.W.boot_o_7 P,PySem.W.boot_o_8 P,PySem.W.boot_o_9 P,PySem.W.boot_o_10 P,zd,ji,qqH,qqp],{ }⟩
def qoU (P:Params):PySem.W.BT:=(Hd.nd (PySem.W.boot_o_0 P) (Hd.nd (PySem.W.boot_o_1 P) (Hd.nd (PySem.W.boot_o_3 P) (Hd.lf (PySem.W.boot_o_7 P)) (Hd.lf zd)) (Hd.nd (PySem.W.boot_o_5 P) (Hd.lf (PySem.W.boot_o_9 P)) (Hd.lf qqH))) (Hd.nd (PySem.W.boot_o_2 P) (Hd.nd (PySem.W.boot_o_4 P) (Hd.lf (PySem.W.boot_o_8 P)) (Hd.lf ji)) (Hd.nd (PySem.W.boot_o_6 P) (Hd.lf (PySem.W.boot_o_10 P)) (Hd.lf qqp))))
set_option maxRecDepth 100000 in
set_option maxHeartbeats 0 in
def qnE (w : World) (os : OsState) : PySem.W.topGo treeTable PySem.Challenge.pw_bankwalk_k91_whole_walks_beside_all_star w 11 (some (Value.ref 6)) 12 ⟨PySem.W.boot_heap w.params,Array.mk [],PySem.W.boot_drawn,PySem.W.boot_toks,os⟩ (PySem.W.topStub PySem.Challenge.pw_bankwalk_k91_whole_walks_beside_all_star) = some (⟨qnh w.params,#[],{ },187,os⟩,⟨denote treeTable MY,MY,⟨0,0,0,0⟩,qpK⟩) := by kernel_rfl
set_option maxRecDepth 100000 in
set_option maxHeartbeats 0 in
def qmN (w : World) (os : OsState) : PySem.W.segRun treeTable PySem.Challenge.pw_bankwalk_k91_whole_walks_beside_all_star w 11 (some (Value.ref 6)) 1 1 ⟨qnh w.params,#[],{ },187,os⟩ (PySem.W.blockOf qc7 qmZ MY ⟨0,0,0,0⟩ qpK) = some (.next,(⟨qoU w.params,15,{ },#[],{ },187,os⟩ : PySem.W.SharedT).abs,MY,⟨0,0,0,0⟩) := by kernel_rfl
def qto (P:Params):Obj:=Hd.oM P 28 "bankwalk.walks" 353 [(.str "is_number" 195,.ref 21),(.str "is_pair" 202,.ref 28),(.str "is_number_below" 210,.ref 35),(.str "first_alike" 219,.ref 42),(.str "are_alike" 228,.ref 49),(.str "BankError" 248,.ref 59),(.str "NoStart" 264,.ref 72),(.str "size_of" 280,.ref 81),(.str "number_of" 291,.ref 88),(.str "is_word" 302,.ref 95),(.str "odd_in_common" 312,.ref 102),(.str "bits_bank" 318,.ref 107),(.str "parted" 329,.ref 114),(.str "joined_bank" 343,.ref 121),(.str "bank_in" 352,.ref 128),(.str "STRIDES" 372,.ref 129),(.str "strung" 378,.ref 138),(.str "cells_of" 384,.ref 143),(.str "starts" 390,.ref 148)]
def qtL:Obj:=⟨.none,none,.fields #[.int (2) 0,.int (0) 0,.ref 20,.int (4) 0,.int (0) 0,.ref 27,.int (6) 0,.int (0) 0,.ref 34,.int (8) 0,.int (0) 0,.ref 41,.int (14) 0,.int (0) 0,.ref 48,.int (19) 0,.int (0) 0,.ref 55,.int (21) 0,.int (0) 0,.ref 68,.int (24) 0,.int (0) 0,.ref 80,.int (35) 0,.int (0) 0,.ref 87,.int (38) 0,.int (0) 0,.ref 94,.int (43) 0,.int (0) 0,.ref 101,.int (50) 0,.int (0) 0,.ref 106,.int (52) 0,.int (0) 0,.ref 113,.int (55) 0,.int (0) 0,.ref 120,.int (59) 0,.int (0) 0,.ref 127,.int (72) 0,.int (0) 0,.ref 137,.int (74) 0,.int (0) 0,.ref 142,.int (84) 0,.int (0) 0,.ref 147],#[]⟩
def qsG:Obj:=Hd.oN YM 192
def qs6:Obj:=Hd.oG "is_number" QU
def qrU:Obj:=Hd.oK "is_number" 189 2 1 181 15 16 .none (.ref 17) (.ref 18) 19 193 194
def qjn:Obj:=Hd.oF "is_number" QU zb4 (.ref 20)
def qpo:Obj:=Hd.oN YM 199
def qpc:Obj:=Hd.oG "is_pair" J8
def qje:Obj:=Hd.oK "is_pair" 196 4 1 181 22 23 .none (.ref 24) (.ref 25) 26 200 201
def qkD:Obj:=Hd.oF "is_pair" J8 zb4 (.ref 27)
def qnb:Obj:=Hd.oN zH 206
def qnk:Obj:=Hd.oG "is_number_below" zA
def qla:Obj:=Hd.oK "is_number_below" 203 6 2 181 29 30 .none (.ref 31) (.ref 32) 33 208 209
def qju:Obj:=Hd.oF "is_number_below" zA zb4 (.ref 34)
def qoA:Obj:=Hd.oN QH 214
def qoC:Obj:=Hd.oG "first_alike" jB
def qjA:Obj:=Hd.oK "first_alike" 211 8 1 181 36 37 .none (.ref 38) (.ref 39) 40 217 218
def qk8:Obj:=Hd.oF "first_alike" jB zb4 (.ref 41)
def qnl:Obj:=Hd.oN QH 223
def qpv:Obj:=Hd.oG "are_alike" Q5
def qi8:Obj:=Hd.oK "are_alike" 220 14 3 181 43 44 .none (.ref 45) (.ref 46) 47 226 227
def qj1:Obj:=Hd.oF "are_alike" Q5 zb4 (.ref 48)
def qnG:Obj:=Hd.oT [.type "ValueError"]
def qfL:Obj:=⟨.type "builtin_function_or_method",none,.fields #[.builtin "type.__prepare__",.type "type"],#[]⟩
def qoN (P:Params):Obj:=Hd.oD P 4 [(.str "__module__" 238,.str zb6 229),(.str "__qualname__" 240,.str "BankError" 239),(.str "__firstlineno__" 242,.int (19) 241),(.str "__static_attributes__" 243,.ref 57)]
def qlF:Obj:=Hd.oC [.str "BankError" 233,.str "BankError" 234,.str "/claim/cut.py" 235,.int (19) 0,.int (0) 0,.int (0) 0,.int (0) 0,.int (0) 0,.ref 53,.bool false,.int (181) 0,.ref 54,.none,.none,.none,.none,.int (236) 0,.int (19) 0,.str "/claim/cut.py" 237]
def qn2:Obj:=⟨.type "frame",none,.plain,#[some (.ref 55),some (.ref 3),some (.ref 52),none,some (.str zb6 229),none,some (.ref 0)]⟩
def qm7 (P:Params):Obj:=Hd.oD P 3 [(.str "__module__" 238,.str zb6 229),(.str "__firstlineno__" 242,.int (19) 241),(.str "__static_attributes__" 243,.ref 57),(.str "__weakref__" 245,.ref 60),(.str "__doc__" 246,.none)]
def qnm:Obj:=⟨.type "type",none,.cls ({ name:=Str.ofString "BankError",bases:=[Value.type "ValueError"],  mro:=    [Value.ref 59,Value.type "ValueError",Value.type "Exception",Value.type "BaseException",Value.type "object"],  ns:=58,qualname:=Str.ofString "BankError",subclasses:=[Value.ref 72] }),#[some (.ref 50),none,some (.str "BankError" 231),some (.str "BankError" 239),some (.builtin "ValueError.__new__"),some (.bool true)]⟩
def qpW:Obj:=⟨.type "getset_descriptor",none,.fields #[.str "__weakref__" 244,.ref 59,.builtin "ExceptionGroup.__weakref__",.none],#[]⟩
def qm6:Obj:=Hd.c6 59
def qoE:Obj:=Hd.c7 59
def qlD:Obj:=Hd.oT [.ref 59]
def qmA (P:Params):Obj:=Hd.c1 P zb6 229 "NoStart" 249 21 63
def qng:Obj:=Hd.c2 "NoStart" 249 21 63
def qmd:Obj:=Hd.c3 zb6 229 63
def qoj (P:Params):Obj:=Hd.c4 P zb6 229 249 21 63
def qlO:Obj:=Hd.c5 "NoStart" 59 249 63
def qms:Obj:=Hd.c6 72
def qoD:Obj:=Hd.c7 72
def qlX:Obj:=Hd.oN SZ 270
def qoK:Obj:=Hd.oG "size_of" YE
def qkI:Obj:=Hd.oK "size_of" 267 24 1 181 75 76 .none (.ref 77) (.ref 78) 79 278 279
def qi6:Obj:=Hd.oF "size_of" YE zb2 (.ref 80)
def qnd:Obj:=Hd.oN DL 284
def qlL:Obj:=Hd.oG "number_of" QV
def qi9:Obj:=Hd.oK "number_of" 281 35 2 181 82 83 .none (.ref 84) (.ref 85) 86 289 290
def qjQ:Obj:=Hd.oF "number_of" QV zb2 (.ref 87)
def qnU:Obj:=Hd.oN UE 295
def qp6:Obj:=Hd.oG "is_word" YJ
def qkC:Obj:=Hd.oK "is_word" 292 38 2 181 89 90 .none (.ref 91) (.ref 92) 93 300 301
def qk7:Obj:=Hd.oF "is_word" YJ zb2 (.ref 94)
def qqc:Obj:=Hd.oN ZJ 306
def qoa:Obj:=Hd.oG "odd_in_common" z9
def qlb:Obj:=Hd.oK "odd_in_common" 303 43 2 181 96 97 .none (.ref 98) (.ref 99) 100 310 311
def qja:Obj:=Hd.oF "odd_in_common" z9 zb2 (.ref 101)
def qpp:Obj:=Hd.oG "bits_bank" QX
def qj6:Obj:=Hd.oK "bits_bank" 313 50 2 181 103 104 .none .none .none 105 316 317
def qkS:Obj:=Hd.oF "bits_bank" QX zb2 (.ref 106)
def qm0:Obj:=Hd.oN MP 322
def qmz:Obj:=Hd.oG "parted" US
def qkv:Obj:=Hd.oK "parted" 319 52 3 181 108 109 .none (.ref 110) (.ref 111) 112 327 328
def qkZ:Obj:=Hd.oF "parted" US zb2 (.ref 113)
def qpF:Obj:=Hd.oN YX 333
def qlp:Obj:=Hd.oG "joined_bank" jE
def qkd:Obj:=Hd.oK "joined_bank" 330 55 3 181 115 116 .none (.ref 117) (.ref 118) 119 341 342
def qi5:Obj:=Hd.oF "joined_bank" jE zb2 (.ref 120)
def qmR:Obj:=Hd.oN S4 347
def qmK:Obj:=Hd.oG "bank_in" YB
def qkg:Obj:=Hd.oK "bank_in" 344 59 2 181 122 123 .none (.ref 124) (.ref 125) 126 350 351
def qjp:Obj:=Hd.oF "bank_in" YB zb2 (.ref 127)
def qji (P:Params):Obj:=Hd.oD P 4 [(.str "row" 355,.ref 130),(.str "column" 358,.ref 131),(.str "slant" 361,.ref 132),(.str "back" 364,.ref 133)]
def qjL:Obj:=Hd.oT [.int (0) 356,.int (1) 357]
def qjo:Obj:=Hd.oT [.int (1) 359,.int (0) 360]
def qkF:Obj:=Hd.oT [.int (1) 362,.int (1) 363]
def qkR:Obj:=Hd.oT [.int (1) 365,.int (-1) 367]
def qlS:Obj:=Hd.oG "strung" UR
def qkr:Obj:=Hd.oK "strung" 373 72 3 181 134 135 .none .none .none 136 376 377
def qkU:Obj:=Hd.oF "strung" UR zb5 (.ref 137)
def qlK:Obj:=Hd.oG "cells_of" JC
def qjP:Obj:=Hd.oK "cells_of" 379 74 1 181 139 140 .none .none .none 141 382 383
def qkA:Obj:=Hd.oF "cells_of" JC zb5 (.ref 142)
def qpl:Obj:=Hd.oG "starts" UB
def qjr:Obj:=Hd.oK "starts" 385 84 2 181 144 145 .none .none .none 146 388 389
def qkc:Obj:=Hd.oF "starts" UB zb5 (.ref 147)
def qnr (P:Params):PySem.W.BT:=(Hd.nd (PySem.W.boot_o_0 P) (Hd.nd (PySem.W.boot_o_1 P) (Hd.nd (qto P) (Hd.nd (PySem.W.boot_o_7 P) (Hd.nd zd (Hd.nd qnb (Hd.nd qlD (Hd.lf qkg) .nil) (Hd.lf qk7)) (Hd.nd qpv (Hd.nd qoK (Hd.lf qkA) .nil) (Hd.lf zd))) (Hd.nd ji (Hd.nd zd (Hd.nd (qoj P) (Hd.lf ji) .nil) (Hd.lf zd)) (Hd.nd qlF (Hd.lf qi9) (Hd.lf qlp)))) (Hd.nd zd (Hd.nd qs6 (Hd.nd qju (Hd.nd ji (Hd.lf qjo) .nil) (Hd.lf zd)) (Hd.nd qfL (Hd.nd ji (Hd.lf qjr) .nil) (Hd.lf zd))) (Hd.nd qje (Hd.nd zd (Hd.nd zd (Hd.lf zd) .nil) (Hd.lf qkS)) (Hd.nd qnm (Hd.lf qnU) (Hd.lf ji))))) (Hd.nd (PySem.W.boot_o_5 P) (Hd.nd (PySem.W.boot_o_9 P) (Hd.nd qsG (Hd.nd qnk (Hd.nd (qmA P) (Hd.lf (qji P)) .nil) (Hd.lf ji)) (Hd.nd qj1 (Hd.nd qi6 (Hd.lf ji) .nil) (Hd.lf qkv))) (Hd.nd zd (Hd.nd qjA (Hd.nd qms (Hd.lf qkr) .nil) (Hd.lf qpp)) (Hd.nd zd (Hd.lf zd) (Hd.lf qi5)))) (Hd.nd qqH (Hd.nd qjn (Hd.nd ji (Hd.nd qmd (Hd.lf qkR) .nil) (Hd.lf qlb)) (Hd.nd zd (Hd.lf zd) (Hd.lf qpF))) (Hd.nd zd (Hd.nd qnl (Hd.nd qlX (Hd.lf qlK) .nil) (Hd.lf ji)) (Hd.nd qm6 (Hd.lf qp6) (Hd.lf zd)))))) (Hd.nd (PySem.W.boot_o_2 P) (Hd.nd (PySem.W.boot_o_4 P) (Hd.nd (PySem.W.boot_o_8 P) (Hd.nd ji (Hd.nd zd (Hd.nd qfL (Hd.lf qjp) .nil) (Hd.lf zd)) (Hd.nd qi8 (Hd.nd qkI (Hd.lf zd) .nil) (Hd.lf qmz))) (Hd.nd qpo (Hd.nd qoC (Hd.nd qlO (Hd.lf qlS) .nil) (Hd.lf ji)) (Hd.nd qn2 (Hd.lf qjQ) (Hd.lf qkd)))) (Hd.nd qtL (Hd.nd qrU (Hd.nd zd (Hd.nd qng (Hd.lf qkF) .nil) (Hd.lf qoa)) (Hd.nd (qoN P) (Hd.nd qnd (Hd.lf qkc) .nil) (Hd.lf ji))) (Hd.nd qkD (Hd.nd ji (Hd.nd ji (Hd.lf ji) .nil) (Hd.lf zd)) (Hd.nd qpW (Hd.lf zd) (Hd.lf qmR))))) (Hd.nd (PySem.W.boot_o_6 P) (Hd.nd (PySem.W.boot_o_10 P) (Hd.nd zd (Hd.nd qla (Hd.nd zd (Hd.lf qjL) .nil) (Hd.lf qqc)) (Hd.nd qnG (Hd.nd zd (Hd.lf qpl) .nil) (Hd.lf qkZ))) (Hd.nd qpc (Hd.nd qk8 (Hd.nd qoD (Hd.lf qkU) .nil) (Hd.lf qj6)) (Hd.nd (qm7 P) (Hd.lf ji) (Hd.lf zd)))) (Hd.nd qqp (Hd.nd zd (Hd.nd qoA (Hd.nd zd (Hd.lf zd) .nil) (Hd.lf qja)) (Hd.nd ji (Hd.lf qlL) (Hd.lf zd))) (Hd.nd ji (Hd.nd zd (Hd.nd zd (Hd.lf qjP) .nil) (Hd.lf qm0)) (Hd.nd qoE (Hd.lf qkC) (Hd.lf qmK)))))))
abbrev qhX:List Stmt:=(qc7.drop 0).take 23
def qgr (os : OsState) (w : World) : Prop := PySem.W.segRunT treeTable PySem.Challenge.pw_bankwalk_k91_whole_walks_beside_all_star w 11 (some (Value.ref 6)) 1 1011 (⟨qoU w.params,15,{ },#[],{ },187,os⟩ : PySem.W.SharedT) (PySem.W.piecesOf qhX qmZ MY ⟨0,0,0,0⟩ qpK) = some (.next,(⟨qnr w.params,149,{ },#[],{ },391,os⟩ : PySem.W.SharedT),MY,⟨84,0,89,118⟩)
set_option maxRecDepth 100000 in
set_option maxHeartbeats 0 in
def qpE (w:World) (os:OsState):qgr os w:=
 PySem.W.byRow2 "special-get-raises" (P:=qgr os) (λw=>show _=_ by kernel_rfl) (λw=>show _=_ by kernel_rfl) w
def qmm (P:Params):Obj:=Hd.oM P 61 "law_bankwalk_k91_whole_walks_beside_all_star" 454 [(.str "is_number" 195,.ref 21),(.str "is_pair" 202,.ref 28),(.str "is_number_below" 210,.ref 35),(.str "first_alike" 219,.ref 42),(.str "are_alike" 228,.ref 49),(.str "BankError" 248,.ref 59),(.str "NoStart" 264,.ref 72),(.str "size_of" 280,.ref 81),(.str "number_of" 291,.ref 88),(.str "is_word" 302,.ref 95),(.str "odd_in_common" 312,.ref 102),(.str "bits_bank" 318,.ref 107),(.str "parted" 329,.ref 114),(.str "joined_bank" 343,.ref 121),(.str "bank_in" 352,.ref 128),(.str "STRIDES" 372,.ref 129),(.str "strung" 378,.ref 138),(.str "cells_of" 384,.ref 143),(.str "starts" 390,.ref 148),(.str "shifted" 396,.ref 153),(.str "is_start" 402,.ref 158),(.str "words_of" 411,.ref 165),(.str "banks_from" 419,.ref 170),(.str "clash" 429,.ref 177),(.str "shows_clash" 441,.ref 184),(.str "loads" 447,.ref 189),(.str "clear_starts" 453,.ref 194),(.str "_law_mix" 464,.ref 201),(.str "_law_left" 474,.ref 208),(.str "_law_pick" 483,.ref 215),(.str "_law_sides" 493,.ref 222),(.str "_law_gcd" 501,.ref 229),(.str "_law_skew" 512,.ref 236),(.str "_law_rests" 524,.ref 243),(.str "_law_bits" 530,.ref 248),(.str "_law_table" 536,.ref 253),(.str "_law_small" 542,.ref 258),(.str "_law_dealing" 552,.ref 265),(.str "_law_size" 558,.ref 270),(.str "_law_odd" 567,.ref 277),(.str "_law_bank" 573,.ref 282),(.str "_law_many" 580,.ref 289),(.str "_law_walk" 597,.ref 296),(.str "_law_cells" 603,.ref 301),(.str "_law_starts" 609,.ref 306),(.str "_law_from" 615,.ref 311),(.str "_law_same" 621,.ref 316),(.str "_law_flat" 627,.ref 321),(.str "_law_start_right" 633,.ref 326),(.str "_law_right" 647,.ref 333),(.str "_law_less" 657,.ref 340),(.str "law" 663,.ref 345)]
def qsA:Obj:=⟨.none,none,.fields #[.int (2) 0,.int (0) 0,.ref 20,.int (4) 0,.int (0) 0,.ref 27,.int (6) 0,.int (0) 0,.ref 34,.int (8) 0,.int (0) 0,.ref 41,.int (14) 0,.int (0) 0,.ref 48,.int (19) 0,.int (0) 0,.ref 55,.int (21) 0,.int (0) 0,.ref 68,.int (24) 0,.int (0) 0,.ref 80,.int (35) 0,.int (0) 0,.ref 87,.int (38) 0,.int (0) 0,.ref 94,.int (43) 0,.int (0) 0,.ref 101,.int (50) 0,.int (0) 0,.ref 106,.int (52) 0,.int (0) 0,.ref 113,.int (55) 0,.int (0) 0,.ref 120,.int (59) 0,.int (0) 0,.ref 127,.int (72) 0,.int (0) 0,.ref 137,.int (74) 0,.int (0) 0,.ref 142,.int (84) 0,.int (0) 0,.ref 147,.int (90) 0,.int (0) 0,.ref 152,.int (92) 0,.int (0) 0,.ref 157,.int (94) 0,.int (0) 0,.ref 164,.int (99) 0,.int (0) 0,.ref 169,.int (101) 0,.int (0) 0,.ref 176,.int (107) 0,.int (0) 0,.ref 183,.int (112) 0,.int (0) 0,.ref 188,.int (118) 0,.int (0) 0,.ref 193,.int (121) 0,.int (0) 0,.ref 200,.int (124) 0,.int (0) 0,.ref 207,.int (128) 0,.int (0) 0,.ref 214,.int (135) 0,.int (0) 0,.ref 221,.int (139) 0,.int (0) 0,.ref 228,.int (143) 0,.int (0) 0,.ref 235,.int (148) 0,.int (0) 0,.ref 242,.int (156) 0,.int (0) 0,.ref 247,.int (161) 0,.int (0) 0,.ref 252,.int (166) 0,.int (0) 0,.ref 257,.int (184) 0,.int (0) 0,.ref 264,.int (201) 0,.int (0) 0,.ref 269,.int (211) 0,.int (0) 0,.ref 276,.int (216) 0,.int (0) 0,.ref 281,.int (229) 0,.int (0) 0,.ref 288,.int (231) 0,.int (0) 0,.ref 295,.int (250) 0,.int (0) 0,.ref 300,.int (260) 0,.int (0) 0,.ref 305,.int (268) 0,.int (0) 0,.ref 310,.int (270) 0,.int (0) 0,.ref 315,.int (278) 0,.int (0) 0,.ref 320,.int (282) 0,.int (0) 0,.ref 325,.int (287) 0,.int (0) 0,.ref 332,.int (307) 0,.int (0) 0,.ref 339,.int (311) 0,.int (0) 0,.ref 344],#[]⟩
def qsw:Obj:=Hd.oG "shifted" YD
def qn7:Obj:=Hd.oK "shifted" 391 90 2 181 149 150 .none .none .none 151 394 395
def qov:Obj:=Hd.oF "shifted" YD zb5 (.ref 152)
def qq3:Obj:=Hd.oG "is_start" ZS
def qoX:Obj:=Hd.oK "is_start" 397 92 3 181 154 155 .none .none .none 156 400 401
def qo4:Obj:=Hd.oF "is_start" ZS zb5 (.ref 157)
def qri:Obj:=Hd.oN QY 406
def qry:Obj:=Hd.oG "words_of" ZV
def qhM:Obj:=Hd.oK "words_of" 403 94 3 181 159 160 .none (.ref 161) (.ref 162) 163 409 410
def qix:Obj:=Hd.oF "words_of" ZV zb5 (.ref 164)
def qlW:Obj:=Hd.oG "banks_from" j5
def qi1:Obj:=Hd.oK "banks_from" 414 99 3 181 166 167 .none .none .none 168 417 418
def qgH:Obj:=Hd.oF "banks_from" j5 zb3 (.ref 169)
def qm5:Obj:=Hd.oN SB 423
def qm2:Obj:=Hd.oG "clash" D9
def qhY:Obj:=Hd.oK "clash" 420 101 2 181 171 172 .none (.ref 173) (.ref 174) 175 427 428
def qgZ:Obj:=Hd.oF "clash" D9 zb3 (.ref 176)
def qoJ:Obj:=Hd.oN jT 433
def qo5:Obj:=Hd.oG "shows_clash" jC
def qiT:Obj:=Hd.oK "shows_clash" 430 107 3 181 178 179 .none (.ref 180) (.ref 181) 182 439 440
def qh1:Obj:=Hd.oF "shows_clash" jC zb3 (.ref 183)
def qlY:Obj:=Hd.oG "loads" WW
def qht:Obj:=Hd.oK "loads" 442 112 3 181 185 186 .none .none .none 187 445 446
def qhI:Obj:=Hd.oF "loads" WW zb3 (.ref 188)
def qmS:Obj:=Hd.oG "clear_starts" jm
def qgT:Obj:=Hd.oK "clear_starts" 448 118 2 181 190 191 .none .none .none 192 451 452
def qiR:Obj:=Hd.oF "clear_starts" jm zb3 (.ref 193)
def qpL:Obj:=Hd.oN TD 459
def qno:Obj:=Hd.oG "_law_mix" J7
def qhn:Obj:=Hd.oK "_law_mix" 456 121 2 181 195 196 .none (.ref 197) (.ref 198) 199 462 463
def qiA:Obj:=Hd.oF "_law_mix" J7 zb1 (.ref 200)
def qqh:Obj:=Hd.oN X0 468
def qlZ:Obj:=Hd.oG "_law_left" Z6
def qhu:Obj:=Hd.oK "_law_left" 465 124 2 181 202 203 .none (.ref 204) (.ref 205) 206 472 473
def qiu:Obj:=Hd.oF "_law_left" Z6 zb1 (.ref 207)
def qni:Obj:=Hd.oN XB 478
def qp7:Obj:=Hd.oG "_law_pick" Z3
def qgE:Obj:=Hd.oK "_law_pick" 475 128 2 181 209 210 .none (.ref 211) (.ref 212) 213 481 482
def qiG:Obj:=Hd.oF "_law_pick" Z3 zb1 (.ref 214)
def qm3:Obj:=Hd.oN DR 487
def qpa:Obj:=Hd.oG "_law_sides" Q0
def qgX:Obj:=Hd.oK "_law_sides" 484 135 1 181 216 217 .none (.ref 218) (.ref 219) 220 491 492
def qiQ:Obj:=Hd.oF "_law_sides" Q0 zb1 (.ref 221)
def qlq:Obj:=Hd.oN TK 497
def qnN:Obj:=Hd.oG "_law_gcd" YC
def qgV:Obj:=Hd.oK "_law_gcd" 494 139 2 181 223 224 .none (.ref 225) (.ref 226) 227 499 500
def qiv:Obj:=Hd.oF "_law_gcd" YC zb1 (.ref 228)
def qmr:Obj:=Hd.oN W9 505
def qpm:Obj:=Hd.oG "_law_skew" ZU
def qiw:Obj:=Hd.oK "_law_skew" 502 143 1 181 230 231 .none (.ref 232) (.ref 233) 234 510 511
def qgG:Obj:=Hd.oF "_law_skew" ZU zb1 (.ref 235)
def qoi:Obj:=Hd.oN DU 516
def qlx:Obj:=Hd.oG "_law_rests" Q7
def qie:Obj:=Hd.oK "_law_rests" 513 148 1 181 237 238 .none (.ref 239) (.ref 240) 241 522 523
def qh0:Obj:=Hd.oF "_law_rests" Q7 zb1 (.ref 242)
def qny:Obj:=Hd.oG "_law_bits" Z7
def qim:Obj:=Hd.oK "_law_bits" 525 156 2 181 244 245 .none .none .none 246 528 529
def qgJ:Obj:=Hd.oF "_law_bits" Z7 zb1 (.ref 247)
def qmn:Obj:=Hd.oG "_law_table" QW
def qin:Obj:=Hd.oK "_law_table" 531 161 1 181 249 250 .none .none .none 251 534 535
def qi0:Obj:=Hd.oF "_law_table" QW zb1 (.ref 252)
def qoZ:Obj:=Hd.oG "_law_small" Q8
def qgq:Obj:=Hd.oK "_law_small" 537 166 1 181 254 255 .none .none .none 256 540 541
def qhE:Obj:=Hd.oF "_law_small" Q8 zb1 (.ref 257)
def qnW:Obj:=Hd.oN YU 546
def qoV:Obj:=Hd.oG "_law_dealing" jD
def qib:Obj:=Hd.oK "_law_dealing" 543 184 1 181 259 260 .none (.ref 261) (.ref 262) 263 550 551
def qhl:Obj:=Hd.oF "_law_dealing" jD zb1 (.ref 264)
def qox:Obj:=Hd.oG "_law_size" ZP
def qhm:Obj:=Hd.oK "_law_size" 553 201 1 181 266 267 .none .none .none 268 556 557
def qgy:Obj:=Hd.oF "_law_size" ZP zb1 (.ref 269)
def qmM:Obj:=Hd.oN TN 562
def qqj:Obj:=Hd.oG "_law_odd" YK
def qid:Obj:=Hd.oK "_law_odd" 559 211 1 181 271 272 .none (.ref 273) (.ref 274) 275 565 566
def qhA:Obj:=Hd.oF "_law_odd" YK zb1 (.ref 276)
def qoy:Obj:=Hd.oG "_law_bank" ZQ
def qg7:Obj:=Hd.oK "_law_bank" 568 216 3 181 278 279 .none .none .none 280 571 572
def qiU:Obj:=Hd.oF "_law_bank" ZQ zb1 (.ref 281)
def qpy:Obj:=Hd.oN X7 577
def qqa:Obj:=Hd.oG "_law_many" Z4
def qhT:Obj:=Hd.oK "_law_many" 574 229 1 181 283 284 .none (.ref 285) (.ref 286) 287 578 579
def qiK:Obj:=Hd.oF "_law_many" Z4 zb1 (.ref 288)
def qp1:Obj:=Hd.oN CK 584
def qoF:Obj:=Hd.oG "_law_walk" Z9
def qh3:Obj:=Hd.oK "_law_walk" 581 231 1 181 290 291 .none (.ref 292) (.ref 293) 294 595 596
def qgl:Obj:=Hd.oF "_law_walk" Z9 zb1 (.ref 295)
def qob:Obj:=Hd.oG "_law_cells" Q1
def qii:Obj:=Hd.oK "_law_cells" 598 250 1 181 297 298 .none .none .none 299 601 602
def qhD:Obj:=Hd.oF "_law_cells" Q1 zb1 (.ref 300)
def qnS:Obj:=Hd.oG "_law_starts" jU
def qh2:Obj:=Hd.oK "_law_starts" 604 260 2 181 302 303 .none .none .none 304 607 608
def qgj:Obj:=Hd.oF "_law_starts" jU zb1 (.ref 305)
def qnq:Obj:=Hd.oG "_law_from" JB
def qhZ:Obj:=Hd.oK "_law_from" 610 268 3 181 307 308 .none .none .none 309 613 614
def qi3:Obj:=Hd.oF "_law_from" JB zb1 (.ref 310)
def qmO:Obj:=Hd.oG "_law_same" ZK
def qgR:Obj:=Hd.oK "_law_same" 616 270 2 181 312 313 .none .none .none 314 619 620
def qhq:Obj:=Hd.oF "_law_same" ZK zb1 (.ref 315)
def qpQ:Obj:=Hd.oG "_law_flat" JA
def qhV:Obj:=Hd.oK "_law_flat" 622 278 1 181 317 318 .none .none .none 319 625 626
def qhp:Obj:=Hd.oF "_law_flat" JA zb1 (.ref 320)
def qnI:Obj:=Hd.oG "_law_start_right" zC
def qgP:Obj:=Hd.oK "_law_start_right" 628 282 4 181 322 323 .none .none .none 324 631 632
def qhF:Obj:=Hd.oF "_law_start_right" zC zb1 (.ref 325)
def qlT:Obj:=Hd.oN Z0 637
def qpR:Obj:=Hd.oG "_law_right" Q4
def qiy:Obj:=Hd.oK "_law_right" 634 287 2 181 327 328 .none (.ref 329) (.ref 330) 331 645 646
def qiI:Obj:=Hd.oF "_law_right" Q4 zb1 (.ref 332)
def qn9:Obj:=Hd.oN YA 651
def qoH:Obj:=Hd.oG "_law_less" ZR
def qgD:Obj:=Hd.oK "_law_less" 648 307 2 181 334 335 .none (.ref 336) (.ref 337) 338 655 656
def qhz:Obj:=Hd.oF "_law_less" ZR zb1 (.ref 339)
def qpT:Obj:=Hd.oG "law" UM
def qho:Obj:=Hd.oK "law" 658 311 1 181 341 342 .none .none .none 343 661 662
def qgO:Obj:=Hd.oF "law" UM zb1 (.ref 344)
def qjz (P:Params):PySem.W.BT:=(Hd.nd (PySem.W.boot_o_0 P) (Hd.nd (PySem.W.boot_o_1 P) (Hd.nd (qmm P) (Hd.nd (PySem.W.boot_o_7 P) (Hd.nd zd (Hd.nd qnb (Hd.nd qlD (Hd.nd qkg (Hd.lf ji) .nil) (Hd.nd ji (Hd.lf qpQ) .nil)) (Hd.nd qk7 (Hd.nd zd (Hd.lf qqa) .nil) (Hd.lf zd))) (Hd.nd qpv (Hd.nd qoK (Hd.nd qkA (Hd.lf zd) .nil) (Hd.nd qhu (Hd.lf ji) .nil)) (Hd.nd zd (Hd.nd qm2 (Hd.lf ji) .nil) (Hd.lf qoi)))) (Hd.nd ji (Hd.nd zd (Hd.nd (qoj P) (Hd.nd ji (Hd.lf qoV) .nil) (Hd.nd qno (Hd.lf zd) .nil)) (Hd.nd zd (Hd.nd ji (Hd.lf qh3) .nil) (Hd.lf ji))) (Hd.nd qlF (Hd.nd qi9 (Hd.nd qsw (Hd.lf ji) .nil) (Hd.nd qiG (Hd.lf qpT) .nil)) (Hd.nd qlp (Hd.nd qiT (Hd.lf qi3) .nil) (Hd.lf qim))))) (Hd.nd zd (Hd.nd qs6 (Hd.nd qju (Hd.nd ji (Hd.nd qjo (Hd.lf zd) .nil) (Hd.nd zd (Hd.lf ji) .nil)) (Hd.nd zd (Hd.nd qry (Hd.lf ji) .nil) (Hd.lf qnN))) (Hd.nd qfL (Hd.nd ji (Hd.nd qjr (Hd.lf qqj) .nil) (Hd.nd qni (Hd.lf qgD) .nil)) (Hd.nd zd (Hd.nd ji (Hd.lf zd) .nil) (Hd.lf qh0)))) (Hd.nd qje (Hd.nd zd (Hd.nd zd (Hd.nd zd (Hd.lf ji) .nil) (Hd.nd ji (Hd.lf qpR) .nil)) (Hd.nd qkS (Hd.nd zd (Hd.lf qob) .nil) (Hd.lf qiw))) (Hd.nd qnm (Hd.nd qnU (Hd.nd ji (Hd.lf zd) .nil) (Hd.lf zd)) (Hd.nd ji (Hd.nd qlY (Hd.lf qgR) .nil) (Hd.lf qmn)))))) (Hd.nd (PySem.W.boot_o_5 P) (Hd.nd (PySem.W.boot_o_9 P) (Hd.nd qsG (Hd.nd qnk (Hd.nd (qmA P) (Hd.nd (qji P) (Hd.lf qgq) .nil) (Hd.nd qgT (Hd.lf qhp) .nil)) (Hd.nd ji (Hd.nd qri (Hd.lf qiK) .nil) (Hd.lf qlq))) (Hd.nd qj1 (Hd.nd qi6 (Hd.nd ji (Hd.lf qmM) .nil) (Hd.nd zd (Hd.lf zd) .nil)) (Hd.nd qkv (Hd.nd qgZ (Hd.lf qh2) .nil) (Hd.lf qlx)))) (Hd.nd zd (Hd.nd qjA (Hd.nd qms (Hd.nd qkr (Hd.lf qhl) .nil) (Hd.nd qiA (Hd.lf qlT) .nil)) (Hd.nd qpp (Hd.nd qi1 (Hd.lf zd) .nil) (Hd.lf zd))) (Hd.nd zd (Hd.nd zd (Hd.nd qov (Hd.lf qg7) .nil) (Hd.nd ji (Hd.lf qgO) .nil)) (Hd.nd qi5 (Hd.nd zd (Hd.lf ji) .nil) (Hd.lf zd))))) (Hd.nd qqH (Hd.nd qjn (Hd.nd ji (Hd.nd qmd (Hd.nd qkR (Hd.lf qnW) .nil) (Hd.nd qpL (Hd.lf qgP) .nil)) (Hd.nd qlb (Hd.nd qix (Hd.lf zd) .nil) (Hd.lf qiv))) (Hd.nd zd (Hd.nd zd (Hd.nd zd (Hd.lf qhA) .nil) (Hd.nd qp7 (Hd.lf zd) .nil)) (Hd.nd qpF (Hd.nd zd (Hd.lf qnq) .nil) (Hd.lf ji)))) (Hd.nd zd (Hd.nd qnl (Hd.nd qlX (Hd.nd qlK (Hd.lf qhm) .nil) (Hd.nd zd (Hd.lf qiI) .nil)) (Hd.nd ji (Hd.nd qm5 (Hd.lf qhD) .nil) (Hd.lf zd))) (Hd.nd qm6 (Hd.nd qp6 (Hd.nd qoX (Hd.lf qpy) .nil) (Hd.lf qgX)) (Hd.nd zd (Hd.nd qhI (Hd.lf zd) .nil) (Hd.lf qi0))))))) (Hd.nd (PySem.W.boot_o_2 P) (Hd.nd (PySem.W.boot_o_4 P) (Hd.nd (PySem.W.boot_o_8 P) (Hd.nd ji (Hd.nd zd (Hd.nd qfL (Hd.nd qjp (Hd.lf qoZ) .nil) (Hd.nd qmS (Hd.lf qhV) .nil)) (Hd.nd zd (Hd.nd ji (Hd.lf qhT) .nil) (Hd.lf ji))) (Hd.nd qi8 (Hd.nd qkI (Hd.nd zd (Hd.lf ji) .nil) (Hd.nd qiu (Hd.lf qn9) .nil)) (Hd.nd qmz (Hd.nd qhY (Hd.lf qnS) .nil) (Hd.lf zd)))) (Hd.nd qpo (Hd.nd qoC (Hd.nd qlO (Hd.nd qlS (Hd.lf qib) .nil) (Hd.nd qhn (Hd.lf ji) .nil)) (Hd.nd ji (Hd.nd qlW (Hd.lf qgl) .nil) (Hd.lf qmr))) (Hd.nd qn2 (Hd.nd qjQ (Hd.nd qn7 (Hd.lf qoy) .nil) (Hd.nd zd (Hd.lf qho) .nil)) (Hd.nd qkd (Hd.nd qh1 (Hd.lf zd) .nil) (Hd.lf qgJ))))) (Hd.nd qsA (Hd.nd qrU (Hd.nd zd (Hd.nd qng (Hd.nd qkF (Hd.lf ji) .nil) (Hd.nd ji (Hd.lf qnI) .nil)) (Hd.nd qoa (Hd.nd qhM (Hd.lf qp1) .nil) (Hd.lf qgV))) (Hd.nd (qoN P) (Hd.nd qnd (Hd.nd qkc (Hd.lf qid) .nil) (Hd.nd zd (Hd.lf qhz) .nil)) (Hd.nd ji (Hd.nd qoJ (Hd.lf ji) .nil) (Hd.lf zd)))) (Hd.nd qkD (Hd.nd ji (Hd.nd ji (Hd.nd ji (Hd.lf qox) .nil) (Hd.nd qqh (Hd.lf qiy) .nil)) (Hd.nd zd (Hd.nd ji (Hd.lf qii) .nil) (Hd.lf qgG))) (Hd.nd qpW (Hd.nd zd (Hd.nd qq3 (Hd.lf ji) .nil) (Hd.lf qpa)) (Hd.nd qmR (Hd.nd qht (Hd.lf qhq) .nil) (Hd.lf qin)))))) (Hd.nd (PySem.W.boot_o_6 P) (Hd.nd (PySem.W.boot_o_10 P) (Hd.nd zd (Hd.nd qla (Hd.nd zd (Hd.nd qjL (Hd.lf qhE) .nil) (Hd.nd qiR (Hd.lf zd) .nil)) (Hd.nd qqc (Hd.nd zd (Hd.lf zd) .nil) (Hd.lf zd))) (Hd.nd qnG (Hd.nd zd (Hd.nd qpl (Hd.lf zd) .nil) (Hd.nd ji (Hd.lf qoH) .nil)) (Hd.nd qkZ (Hd.nd zd (Hd.lf qgj) .nil) (Hd.lf qie)))) (Hd.nd qpc (Hd.nd qk8 (Hd.nd qoD (Hd.nd qkU (Hd.lf zd) .nil) (Hd.nd zd (Hd.lf zd) .nil)) (Hd.nd qj6 (Hd.nd qgH (Hd.lf ji) .nil) (Hd.lf qpm))) (Hd.nd (qm7 P) (Hd.nd ji (Hd.nd zd (Hd.lf qiU) .nil) (Hd.lf qm3)) (Hd.nd zd (Hd.nd ji (Hd.lf qmO) .nil) (Hd.lf ji))))) (Hd.nd qqp (Hd.nd zd (Hd.nd qoA (Hd.nd zd (Hd.nd zd (Hd.lf zd) .nil) (Hd.nd zd (Hd.lf qhF) .nil)) (Hd.nd qja (Hd.nd zd (Hd.lf qoF) .nil) (Hd.lf zd))) (Hd.nd ji (Hd.nd qlL (Hd.nd ji (Hd.lf zd) .nil) (Hd.nd qgE (Hd.lf ji) .nil)) (Hd.nd zd (Hd.nd qo5 (Hd.lf qhZ) .nil) (Hd.lf qny)))) (Hd.nd ji (Hd.nd zd (Hd.nd zd (Hd.nd qjP (Hd.lf qgy) .nil) (Hd.nd qlZ (Hd.lf zd) .nil)) (Hd.nd qm0 (Hd.nd zd (Hd.lf zd) .nil) (Hd.lf ji))) (Hd.nd qoE (Hd.nd qkC (Hd.nd qo4 (Hd.lf zd) .nil) (Hd.lf qiQ)) (Hd.nd qmK (Hd.nd zd (Hd.lf ji) .nil) (Hd.lf zd))))))))
abbrev qil:List Stmt:=(qc7.drop 23).take 35
set_option maxRecDepth 100000 in
set_option maxHeartbeats 0 in
def qoR (w : World) (os : OsState) : PySem.W.segRunT treeTable PySem.Challenge.pw_bankwalk_k91_whole_walks_beside_all_star w 11 (some (Value.ref 6)) 1 980 (⟨qnr w.params,149,{ },#[],{ },391,os⟩ : PySem.W.SharedT) (PySem.W.piecesOf qil qmZ MY ⟨84,0,89,118⟩ qpK) = some (.next,(⟨qjz w.params,346,{ },#[],{ },664,os⟩ : PySem.W.SharedT),MY,⟨311,0,327,15⟩) := by kernel_rfl
abbrev qjk (P:Params):Heap:=PySem.W.absHeap (qjz P) 346 { }
def Kf (P:Params):PySem.W.Frag:=[(3,qmm P),(20,qrU),(21,qjn),(27,qje),(28,qkD),(34,qla),(35,qju),(41,qjA),(42,qk8),(48,qi8),(49,qj1),(80,qkI),(81,qi6),(87,qi9),(88,qjQ),(94,qkC),(95,qk7),(101,qlb),(102,qja),(106,qj6),(107,qkS),(113,qkv),(114,qkZ),(120,qkd),(121,qi5),(127,qkg),(128,qjp),(129,qji P),(130,qjL),(131,qjo),(132,qkF),(133,qkR),(137,qkr),(138,qkU),(142,qjP),(143,qkA),(147,qjr),(148,qkc),(152,qn7),(153,qov),(157,qoX),(158,qo4),(164,qhM),(165,qix),(169,qi1),(170,qgH),(176,qhY),(177,qgZ),(183,qiT),(184,qh1),(188,qht),(189,qhI),(193,qgT),(194,qiR),(200,qhn),(201,qiA),(207,qhu),(208,qiu),(214,qgE),(215,qiG),(221,qgX),(222,qiQ),(228,qgV),(229,qiv),(235,qiw),(236,qgG),(242,qie),(243,qh0),(247,qim),(248,qgJ),(252,qin),(253,qi0),(257,qgq),(258,qhE),(264,qib),(265,qhl),(269,qhm),(270,qgy),(276,qid),(277,qhA),(281,qg7),(282,qiU),(288,qhT),(289,qiK),(295,qh3),(296,qgl),(300,qii),(301,qhD),(305,qh2),(306,qgj),(310,qhZ),(311,qi3),(315,qgR),(316,qhq),(320,qhV),(321,qhp),(325,qgP),(326,qhF),(332,qiy),(333,qiI),(339,qgD),(340,qhz),(344,qho),(345,qgO)]
def qlu {l:PySem.W.OpenLaw} {w:World} {h:Heap} {mg:Str->Option Value} {fa:Addr} (X:(Kf w.params).In h) (G:h.Ns mainGlobals mg) (hfa:mg "law" = some (.ref fa)) :
  ∃ fd:FuncData,(∀ (s:Shared) (v:Value),BindsTo s fd ⟨[v],[]⟩ [("_law_script",v)])/\∀ base:Heap,(Kf w.params).In base->base.Ns mainGlobals mg->FnOk l.prog w (Kf w.params) mg base CX0 12 fa fd ["_law_script"] (lSp (Kf w.params) K0):=by
 have e:=hfa.symm.trans (Hd.qme X G "law" (.ref 345) (by kernel_rfl));cases e;have E0:=Hd.e X G "is_number" QU ER 21 zb4 (.ref 20);have E1:=Hd.e X G "is_pair" J8 TU 28 zb4 (.ref 27);have E2:=Hd.e X G "is_number_below" zA QF 35 zb4 (.ref 34);have E3:=Hd.e X G "first_alike" jB VJ 42 zb4 (.ref 41);have E4:=Hd.e X G "are_alike" Q5 EU 49 zb4 (.ref 48);have E5:=Hd.e X G "size_of" YE S6 81 zb2 (.ref 80);have E6:=Hd.e X G "number_of" QV DO 88 zb2 (.ref 87);have E7:=Hd.e X G "is_word" YJ SY 95 zb2 (.ref 94);have E8:=Hd.e X G "odd_in_common" z9 ZW 102 zb2 (.ref 101);have E9:=Hd.e X G "bits_bank" QX DX 107 zb2 (.ref 106);have E10:=Hd.e X G "parted" US LY 114 zb2 (.ref 113);have E11:=Hd.e X G "joined_bank" jE Y7 121 zb2 (.ref 120);have E12:=Hd.e X G "bank_in" YB TB 128 zb2 (.ref 127);have E13:=Hd.e X G "strung" UR LF 138 zb5 (.ref 137);have E14:=Hd.e X G "cells_of" JC XF 143 zb5 (.ref 142);have E15:=Hd.e X G "starts" UB MD 148 zb5 (.ref 147);have E16:=Hd.e X G "shifted" YD SU 153 zb5 (.ref 152);have E17:=Hd.e X G "is_start" ZS CI 158 zb5 (.ref 157);have E18:=Hd.e X G "words_of" ZV W2 165 zb5 (.ref 164);have E19:=Hd.e X G "banks_from" j5 UQ 170 zb3 (.ref 169);have E20:=Hd.e X G "clash" D9 qbd 177 zb3 (.ref 176);have E21:=Hd.e X G "shows_clash" jC YR 184 zb3 (.ref 183);have E22:=Hd.e X G "loads" WW qbi 189 zb3 (.ref 188);have E23:=Hd.e X G "clear_starts" jm JU 194 zb3 (.ref 193);have E24:=Hd.e X G "_law_mix" J7 TF 201 zb1 (.ref 200);have E25:=Hd.e X G "_law_left" Z6 XR 208 zb1 (.ref 207);have E26:=Hd.e X G "_law_pick" Z3 CJ 215 zb1 (.ref 214);have E27:=Hd.e X G "_law_sides" Q0 DN 222 zb1 (.ref 221);have E28:=Hd.e X G "_law_gcd" YC SC 229 zb1 (.ref 228);have E29:=Hd.e X G "_law_skew" ZU XE 236 zb1 (.ref 235);have E30:=Hd.e X G "_law_rests" Q7 DA 243 zb1 (.ref 242);have E31:=Hd.e X G "_law_bits" Z7 CH 248 zb1 (.ref 247);have E32:=Hd.e X G "_law_table" QW DT 253 zb1 (.ref 252);have E33:=Hd.e X G "_law_small" Q8 ET 258 zb1 (.ref 257);have E34:=Hd.e X G "_law_dealing" jD VM 265 zb1 (.ref 264);have E35:=Hd.e X G "_law_size" ZP X6 270 zb1 (.ref 269);have E36:=Hd.e X G "_law_odd" YK SE 277 zb1 (.ref 276);have E37:=Hd.e X G "_law_bank" ZQ XS 282 zb1 (.ref 281);have E38:=Hd.e X G "_law_many" Z4 XX 289 zb1 (.ref 288);have E39:=Hd.e X G "_law_walk" Z9 CW 296 zb1 (.ref 295);have E40:=Hd.e X G "_law_cells" Q1 DY 301 zb1 (.ref 300);have E41:=Hd.e X G "_law_starts" jU UD 306 zb1 (.ref 305);have E42:=Hd.e X G "_law_from" JB X9 311 zb1 (.ref 310);have E43:=Hd.e X G "_law_same" ZK XW 316 zb1 (.ref 315);have E44:=Hd.e X G "_law_flat" JA XV 321 zb1 (.ref 320);have E45:=Hd.e X G "_law_start_right" zC QI 326 zb1 (.ref 325);have E46:=Hd.e X G "_law_right" Q4 DK 333 zb1 (.ref 332);have E47:=Hd.e X G "_law_less" ZR XD 340 zb1 (.ref 339);have F48:=Hd.qrQ (K:=Kf w.params) "law" UM 345 zb1 (.ref 344) (by kernel_rfl) (by kernel_rfl) (by kernel_rfl);have g0:=Hd.no X G "isinstance";have g1:=Hd.no X G "bool";have g2:=Hd.no X G "int";have g3:=Hd.no X G "len";have g4:=Hd.no X G "tuple";have g5:=Hd.no X G "range";have g6:=Hd.no X G "enumerate";have g7:=Hd.no X G "sum";have g8:=Hd.no X G "list";have g9:Tb (Kf w.params) mg w "STRIDES" WJ:=⟨129,_,4,Hd.qme X G "STRIDES" (.ref 129) (by kernel_rfl),(show (Kf w.params).lookup 129=some ⟨.type "dict",none,.dict #[⟨PyData.keyHash w.params "row",.str "row" 355,.ref 130⟩,⟨PyData.keyHash w.params "column",.str "column" 358,.ref 131⟩,⟨PyData.keyHash w.params "slant",.str "slant" 361,.ref 132⟩,⟨PyData.keyHash w.params "back",.str "back" 364,.ref 133⟩] 4,#[]⟩ by kernel_rfl),rfl,(.cons (v:=.ref 130) rfl (qbq (show (Kf w.params).lookup 130=some ⟨.type "tuple",none,.seq #[.int (0) 356,.int (1) 357] 0,#[]⟩ by kernel_rfl)) (.cons (v:=.ref 131) rfl (qbq (show (Kf w.params).lookup 131=some ⟨.type "tuple",none,.seq #[.int (1) 359,.int (0) 360] 0,#[]⟩ by kernel_rfl)) (.cons (v:=.ref 132) rfl (qbq (show (Kf w.params).lookup 132=some ⟨.type "tuple",none,.seq #[.int (1) 362,.int (1) 363] 0,#[]⟩ by kernel_rfl)) (.cons (v:=.ref 133) rfl (qbq (show (Kf w.params).lookup 133=some ⟨.type "tuple",none,.seq #[.int (1) 365,.int (-1) 367] 0,#[]⟩ by kernel_rfl)) .nil))))⟩
 have g10:=Hd.no X G "min";have g11:=Hd.no X G "max";have g12:=Hd.no X G "all";have g13:=Hd.no X G "abs";have g14:=Hd.no X G "zip";have g15:=Hd.no X G "str";have g16:=Hd.no X G "set";refine ⟨PySem.W.fnOf "law" "law" (Z1 UM) (jk UM) (qj UM) .none .none .none zb1 none (.ref 344) .none,λs v=>.of_eq rfl,λbase Xb _=>?_⟩;have O17:=NC (P:=l.prog) (w:=w) (base:=base) (k:=0) g0 g1 g2 E0 N6;have O18:=qcC g0 O17 g3 g4 E1 qct;have O19:=WH O17 E2 WN;have O20:=T4 (P:=l.prog) (w:=w) (base:=base) (k:=0) g3 g5 E3 Pv.T0;have O21:=M5 g3 O19 E4 NW;have O22:=RH (P:=l.prog) (w:=w) (base:=base) (k:=0)  E8 RI;have O23:=qan O22 g6 g7 E9 M6;have O24:=qdo (P:=l.prog) (w:=w) (base:=base) (k:=0)  E10 qeP;have O25:=qeF (P:=l.prog) (w:=w) (base:=base) (k:=0) g5 E13 Pv.qd0;have O26:=qa7 g5 O25 g8 g9 E14 Pv.qaT;have O27:=qcr O26 E16 qcb;have O28:=qci (P:=l.prog) (w:=w) (base:=base) (k:=0)  E24 qcK;have O29:=qaH (P:=l.prog) (w:=w) (base:=base) (k:=0) g3 g13 E25 qaP;have O30:=qa6 O28 E26 qaQ;have O31:=qah O30 E27 NJ;have O32:=qcA (P:=l.prog) (w:=w) (base:=base) (k:=0)  E28 qcM;have O33:=qaO (O30.mono (by decide)) O31 E29 qaE;have O34:=ND g5 (O30.mono (by decide)) O31 (O32.mono (by decide)) E30 N7;have O35:=qaR g4 g5 O30 E31 qaJ;have O36:=NK g4 g5 (O30.mono (by decide)) O31 E32 M9;have O37:=qap g4 g5 O30 (O32.mono (by decide)) E33 NB;have O38:=T9 (O30.mono (by decide)) O33 O34 (O35.mono (by decide)) O36 (O37.mono (by decide)) E34 TZ;have O39:=qcx (P:=l.prog) (w:=w) (base:=base) (k:=0) g5 E36 qcE;have O40:=qa4 O30 E38 qa0;have O41:=qa1 g2 g4 g5 (O30.mono (by decide)) O40 E39 qaY;have O42:=N4 (P:=l.prog) (w:=w) (base:=base) (k:=0) g5 g8 E40 qac;have O43:=qbn g3 g4 O26 O30 E47 qaC;have O44:=WY (P:=l.prog) (w:=w) (base:=base) E5.F E5.b E5.m;have O45:=XA g3 O44 E5 (W5 0);have O46:=XA g3 O45 E5 (W5 1);have O47:=XA g3 O46 E5 (W5 2);have O48:=qcG O47 (O18.mono (by decide)) E7 qcg;have O49:=qcV g5 O47 (O26.mono (by decide)) g10 g11 E15 qel;have O50:=qa9 (O18.mono (by decide)) (O27.mono (by decide)) O48 g12 E17 qaA;have O51:=qa8 (O27.mono (by decide)) O50 E18 qaB;have O52:=UF O45 E6 (V5 0);have O53:=UF O46 E6 (V5 1);have O54:=UF O47 E6 (V5 2);have O55:=WY (P:=l.prog) (w:=w) (base:=base) E12.F E12.b E12.m;have O56:=JY O45 O24 (O55.mono (by decide)) E11 (J2 0);have O57:=CV O52 O23 O56 E12 (XM 0);have O58:=JY (O46.mono (by decide)) (O24.mono (by decide)) O57 E11 (J2 1);have O59:=CV (O53.mono (by decide)) (O23.mono (by decide)) O58 E12 (XM 1);have O60:=JY (O47.mono (by decide)) (O24.mono (by decide)) O59 E11 (J2 2);have O61:=CV (O54.mono (by decide)) (O23.mono (by decide)) O60 E12 (XM 2);have O62:=MV O61 (O51.mono (by decide)) E19 LN;have O63:=qfV (O49.mono (by decide)) O62 (O20.mono (by decide)) E20 qgh;have O64:=KF g0 g3 g4 (O50.mono (by decide)) O62 (O21.mono (by decide)) E21 T8;have O65:=qfO g5 (O47.mono (by decide)) O62 E22 qgb;have O66:=SG (O49.mono (by decide)) O62 (O20.mono (by decide)) E23 SD;have O67:=WY (P:=l.prog) (w:=w) (base:=base) E35.F E35.b E35.m;have O68:=EO g3 g4 O67 g14 E35 (K91.DJ 0);have O69:=EO g3 g4 O68 g14 E35 (K91.DJ 1);have O70:=EO g3 g4 O69 g14 E35 (K91.DJ 2);have O71:=LB g5 g10 g11 O70 (O42.mono (by decide)) E41 LJ;have O72:=WY (P:=l.prog) (w:=w) (base:=base) E43.F E43.b E43.m;have O73:=VO g0 g1 g2 g3 g4 g8 g12 g14 O72 g15 E43 (VN 0);have O74:=VO g0 g1 g2 g3 g4 g8 g12 g14 O73 g15 E43 (VN 1);have O75:=VO g0 g1 g2 g3 g4 g8 g12 g14 O74 g15 E43 (VN 2);have O76:=VO g0 g1 g2 g3 g4 g8 g12 g14 O75 g15 E43 (VN 3);have O77:=WV g5 (O51.mono (by decide)) (O70.mono (by decide)) (O42.mono (by decide)) (O76.mono (by decide)) O65 E45 WI;have O78:=WY (P:=l.prog) (w:=w) (base:=base) E37.F E37.b E37.m;have O79:=DP g6 g7 O68 O39 (O78.mono (by decide)) E37 (EQ 0);have O80:=DP g6 g7 O69 (O39.mono (by decide)) O79 E37 (EQ 1);have O81:=DP g6 g7 O70 (O39.mono (by decide)) O80 E37 (EQ 2);have O82:=qa3 O81 (O42.mono (by decide)) E42 qaI;have O83:=qaU g4 g5 (O70.mono (by decide)) O81 E44 qaG;have O84:=NT g3 (O49.mono (by decide)) (O71.mono (by decide)) (O82.mono (by decide)) O77 (O63.mono (by decide)) (O66.mono (by decide)) (O64.mono (by decide)) g16 E46 NG;exact qnj (k:=11) g3 g5 (O26.mono (by decide)) g10 g11 g13 (O76.mono (by decide)) (O63.mono (by decide)) (O66.mono (by decide)) (O29.mono (by decide)) (O38.mono (by decide)) (O83.mono (by decide)) (O41.mono (by decide)) O84 (O43.mono (by decide)) F48 (qoI qpZ)
set_option maxRecDepth 100000 in
set_option maxHeartbeats 0 in
def qnP (w : World) (os : OsState) : PySem.W.topRun treeTable PySem.Challenge.pw_bankwalk_k91_whole_walks_beside_all_star w 11 (some (Value.ref 6)) 2 (⟨qjz w.params,346,{ },#[],{ },664,os⟩ : PySem.W.SharedT).abs (PySem.W.restOf [] qmZ MY ⟨311,0,327,15⟩ qpK) = some ⟨qjk w.params,#[],{ },664,os⟩ := by kernel_rfl
def qqO:(qhX++(qil++[]))=qc7:=by kernel_rfl
set_option maxRecDepth 100000 in
set_option maxHeartbeats 0 in
def qkn (w : World) (os : OsState) : PySem.W.topRun treeTable PySem.Challenge.pw_bankwalk_k91_whole_walks_beside_all_star w 11 (some (Value.ref 6)) (12 + (1 + (1011 + (980 + 2)))) ⟨PySem.W.boot_heap w.params,Array.mk [],PySem.W.boot_drawn,PySem.W.boot_toks,os⟩ (PySem.W.topStub PySem.Challenge.pw_bankwalk_k91_whole_walks_beside_all_star) = some ⟨qjk w.params,#[],{ },664,os⟩ := by
 have h:=(PySem.W.piece_app (PySem.W.segRun_of (qpE w os)) (PySem.W.piece_app (PySem.W.segRun_of (qoR w os)) (qnP w os)))
 rw [qqO] at h;exact PySem.W.go_top (qnE w os) (PySem.W.piece_block (qmN w os) h)
abbrev Q : Program := PySem.W.view PySem.Challenge.pw_bankwalk_k91_whole_walks_beside_all_star [1,2,3,4,5,7,8,10,11,12,13,14,15,16,17,19,20,21,22,23,24,25,27,28,29,30,31,33,34,35,36,37,38,39,40,41,42,43,44,45,46,47,48,49,50,51,52,53,54,55,56,57]
set_option maxRecDepth 100000 in
set_option maxHeartbeats 0 in
def left : PySem.W.LeftO PySem.Challenge.pw_bankwalk_k91_whole_walks_beside_all_star Q ["STRIDES"] (λs=>PySem.W.xlAt Q [] s&&PySem.W.recOk [] s) (λs=>([3,20,21,27,28,34,35,41,42,48,49,80,81,87,88,94,95,101,102,106,107,113,114,120,121,127,128,129,130,131,132,133,137,138,142,143,147,148,152,153,157,158,164,165,169,170,176,177,183,184,188,189,193,194,200,201,207,208,214,215,221,222,228,229,235,236,242,243,247,248,252,253,257,258,264,265,269,270,276,277,281,282,288,289,295,296,300,301,305,306,310,311,315,316,320,321,325,326,332,333,339,340,344,345]:List Addr).map s.heap.get?) (λw=>(Kf w.params).map λp=>some p.2) 4104:=
 PySem.W.LeftO.of_pieces (H₀:=PySem.W.boot_heap) (H₁:=qjk) (gs₀:=Array.mk []) (gs₁:=#[]) (d₀:=PySem.W.boot_drawn) (d₁:={ }) (k₀:=PySem.W.boot_toks) (k₁:=664) (m₀:=11) (ann:=some (Value.ref 6)) (M:=(12+(1+(1011+(980+2)))))
  (PySem.W.boot_open (by kernel_rfl) (by kernel_rfl) (λs=>by kernel_rfl)) (λw=>by kernel_rfl) qkn (by kernel_rfl) (λw=>by kernel_rfl)
end K91
open PySem PySem.W PyProof.Rows
set_option maxRecDepth 100000 in
set_option maxHeartbeats 0 in
theorem hdw1 : PySem.Challenge.rw_bankwalk_k91_whole_walks_beside_all_star.row.wellSaid = true := by kernel_rfl
set_option maxRecDepth 100000 in
set_option maxHeartbeats 0 in
theorem hdw2 : PySem.Challenge.rw_bankwalk_k91_whole_walks_beside_all_star.wellSaid = true := by
 unfold PySem.W.OpenLaw.wellSaid
 rw [hdw1]
 kernel_rfl
set_option maxRecDepth 100000 in
set_option maxHeartbeats 0 in
theorem PySem.Challenge.cw_bankwalk_k91_whole_walks_beside_all_star_holds : PySem.Challenge.rw_bankwalk_k91_whole_walks_beside_all_star.Holds :=
 Hd.head (l := PySem.Challenge.rw_bankwalk_k91_whole_walks_beside_all_star) (q := K91.Q) (loose := ["STRIDES"]) (K:=K91.Kf) (as:=[3,20,21,27,28,34,35,41,42,48,49,80,81,87,88,94,95,101,102,106,107,113,114,120,121,127,128,129,130,131,132,133,137,138,142,143,147,148,152,153,157,158,164,165,169,170,176,177,183,184,188,189,193,194,200,201,207,208,214,215,221,222,228,229,235,236,242,243,247,248,252,253,257,258,264,265,269,270,276,277,281,282,288,289,295,296,300,301,305,306,310,311,315,316,320,321,325,326,332,333,339,340,344,345]) (N:=4104) (k:=12) (x:="_law_script")
  (d:=⟨"law",L2.Z1 K91.UM,L2.jk K91.UM,L2.qj K91.UM,⟨311,0,327,15⟩⟩) (λ_=>by kernel_rfl) hdw2 K91.left (by kernel_rfl) (by kernel_rfl) (by kernel_rfl) (by kernel_rfl) (by kernel_rfl)
  ⟨rfl,rfl,rfl,rfl,rfl,by decide +kernel⟩ (by w_witness2) rfl (by kernel_rfl) ⟨rfl,by decide,by decide,rfl⟩ (λw=>by kernel_rfl) λw mg fa h KX G hmg=>K91.qlu KX G hmg
