import PyProof.Rows.All
import Wide.All
import OpenK.AllK
import Wide.FinOn
import Lean
import PyProof.EqAt
import PyProof.EqKinds
import PyProof.TupleCall
import PyProof.NeKinds
import KE.KRevSl
import PyProof.FactsAll.bool_2
import PyProof.Rows.EqBoolInt
import PyProof.Rows.IntBool
import PySem.Challenge.RW_bankwalk_k58_orders_refused
-- CHANGE: your row's module here,as the last of these rows
set_option Elab.async false
set_option genSizeOf false
set_option genInjectivity false
noncomputable section
abbrev Frg:=PySem.W.Frag
open List (getElem_cons_zero length_cons getElem?_cons_succ getElem_cons_succ getElem?_cons_zero length_nil set_cons_zero set_cons_succ length_map not_mem_nil mem_append_right map_cons mem_cons getElem?_set getElem?_map cons_append size_toArray getElem?_eq_getElem map_map mem_of_getElem? mem_map length_append getD_eq_getElem?_getD mem_range length_range)
def obb{α β:Type _}{o:Option α}{f:α->Option β}{b:β}(h:o.bind f=some b):∃a,o=some a/\f a=some b:=Option.bind_eq_some_iff.mp h
set_option linter.all false
set_option maxRecDepth 100000
namespace L2
open PySem PySem.Spec PyProof.Rows
abbrev Key:=Sum Int Str
def qeU:Key->Value->Bool
 |.inl k,v=>Value.isInt k v
 |.inr x,v=>Value.isStrOf x v
def qlG (w:World):Key->Int
 |.inl k=>hashInt k
 |.inr x=>hashStr w x
def qJ:∀ {k:Key} {v:Value},qeU k v=true->(∃ i t,k=Sum.inl i/\v=Value.int i t)\/(∃ x t,k=Sum.inr x/\v=Value.str x t)
 |.inl i,v,h=>by
  obtain ⟨t,e⟩:=Value.isInt_shape (k:=i) (v:=v) h;exact .inl ⟨i,t,rfl,e⟩
 |.inr x,v,h=>by
  obtain ⟨t,e⟩:=Value.isStrOf_shape (x:=x) (v:=v) h;exact .inr ⟨x,t,rfl,e⟩
def qht (a b:Int):decide ((Sum.inl a:Key)=Sum.inl b)=(a==b):=by
 by_cases e:a=b
 ·subst e;simp
 ·have h:¬ (Sum.inl a:Key)=Sum.inl b:=λq=>e (Sum.inl.inj q);rw [decide_eq_false h];exact (beq_eq_false_iff_ne.mpr e).symm
def qfC (a b:Str):decide ((Sum.inr a:Key)=Sum.inr b)=decide (a=b):=by
 by_cases e:a=b
 ·subst e;simp
 ·have h:¬ (Sum.inr a:Key)=Sum.inr b:=λq=>e (Sum.inr.inj q);rw [decide_eq_false h,decide_eq_false e]
def qhA (a:Int) (b:Str):decide ((Sum.inl a:Key)=Sum.inr b)=false:=decide_eq_false (λq=>nomatch q)
def qd1 (a:Str) (b:Int):decide ((Sum.inr a:Key)=Sum.inl b)=false:=decide_eq_false (λq=>nomatch q)
def RP (prog:Program) (w:World):PySem.KeyKind prog w Key where
 is:=qeU
 hash:=qlG w
 inj:=λv a b ha hb=>by
  rcases qJ ha with ⟨i,t,rfl,rfl⟩|⟨x,t,rfl,rfl⟩
  ·rcases qJ hb with ⟨j,u,rfl,e⟩|⟨y,u,rfl,e⟩
   ·injection e with e1 _;rw [e1]
   ·exact nomatch e
  ·rcases qJ hb with ⟨j,u,rfl,e⟩|⟨y,u,rfl,e⟩
   ·exact nomatch e
   ·injection e with e1 _;rw [e1]
 byValue:=λk v h=>by
  rcases qJ h with ⟨i,t,rfl,rfl⟩|⟨x,t,rfl,rfl⟩<;>rfl
 pyHash:=λhv h=>by
  rcases qJ hv with ⟨i,t,rfl,rfl⟩|⟨x,t,rfl,rfl⟩
  ·exact wpAny_pyHash_int h
  ·exact wpAny_pyHash_str h
 eqBool:=λhu hv h=>by
  rcases qJ hu with ⟨i,t,rfl,rfl⟩|⟨x,t,rfl,rfl⟩
  ·rcases qJ hv with ⟨j,u,rfl,rfl⟩|⟨y,u,rfl,rfl⟩
   ·rw [qht] at h;exact wpAny_eqBool_int h
   ·rw [qhA] at h;exact SeqAt.EqAt.int_str i t y u _ _ _ _ h
  ·rcases qJ hv with ⟨j,u,rfl,rfl⟩|⟨y,u,rfl,rfl⟩
   ·rw [qd1] at h;exact SeqAt.EqAt.str_int x t j u _ _ _ _ h
   ·rw [qfC] at h;exact wpAny_eqBool_str h
 «strs»:=λk x t v h=>by
  rcases qJ h with ⟨i,u,rfl,e⟩|⟨y,u,rfl,e⟩
  ·exact nomatch e
  ·injection e with e1 _;subst e1;cases v<;>rfl
set_option genInjectivity true in
inductive V where
 |non|bl (b:Bool)|int (i:Int)|str (x:Str)|byt (b:Array UInt8)|flt (b:UInt64)|ref (a:Addr)|ty (n:String)
 deriving DecidableEq
def zp:V->Value->Prop
 |.non,u=>u=Value.none
 |.bl b,u=>u=Value.bool b
 |.int i,u=>∃ t,u=Value.int i t
 |.str x,u=>∃ t,u=Value.str x t
 |.byt b,u=>∃ t,u=Value.bytes b t
 |.flt b,u=>∃ t,u=Value.float b t
 |.ref a,u=>u=Value.ref a
 |.ty n,u=>u=Value.type n
abbrev qF:List V->List Value->Prop:=Paired zp
def qF.length {xs:List V} {us:List Value} (r:qF xs us):xs.length=us.length:=Paired.length r
def qF.get:∀ {xs:List V} {us:List Value} {i:Nat} {x:V},qF xs us->xs[i]?=some x->∃ u,us[i]?=some u/\zp x u
 |_,_,_,_,.nil,e=>by simp at e
 |_,_,0,_,.cons r _,e=>by simp at e;subst e;exact ⟨_,rfl,r⟩
 |_,_,i+1,x,.cons _ t,e=>by
  obtain ⟨u,h1,h2⟩:=qF.get (i:=i) (x:=x) t (by simpa using e);exact ⟨u,by simpa using h1,h2⟩
def qF.set {x:V} {u:Value} (r:zp x u):∀ {xs:List V} {us:List Value} (i:Nat),qF xs us->qF (xs.set i x) (us.set i u)
 |_,_,_,.nil=>.nil
 |_,_,0,.cons _ t=>.cons r t
 |_,_,i+1,.cons q t=>.cons q (qF.set r i t)
def qF.append:∀ {xs ys:List V} {us ws:List Value},qF xs us->qF ys ws->qF (xs++ys) (us++ws)
 |_,_,_,_,.nil,s=>s
 |_,_,_,_,.cons r t,s=>.cons r (qF.append t s)
def qF.take:∀ {xs:List V} {us:List Value} (n:Nat),qF xs us->qF (xs.take n) (us.take n)
 |_,_,0,_=>.nil
 |_,_,_+1,.nil=>.nil
 |_,_,n+1,.cons r t=>.cons r (qF.take n t)
def qF.drop:∀ {xs:List V} {us:List Value} (n:Nat),qF xs us->qF (xs.drop n) (us.drop n)
 |_,_,0,r=>r
 |_,_,_+1,.nil=>.nil
 |_,_,n+1,.cons _ t=>qF.drop n t
def qlh:Option V->Option Value->Prop
 |some v,some u=>zp v u
 |none,none=>True
 |_,_=>False
def KV {κ:Type}:List (κ×V)->List (κ×Value)->Prop:=Paired λ(p:κ×V) (q:κ×Value)=>p.1=q.1/\zp p.2 q.2
def kV:Key->V
 |.inl i=>.int i
 |.inr x=>.str x
inductive HO where
 /-- a list -/
 |lst (xs:List V)
 /-- a tuple (never changes) -/
 |tup (xs:List V)
 /-- a dict whose keys are ints and texts;one whose keys are tuples of ints and texts (the empty one is both) -/
 |dK (kvs:List (Key×V))|dT (kvs:List (List Key×V))
 /-- a set of ints: its members,its size -/
 |set (S:Int->Bool) (n:Nat)
 /-- an instance of the class at C,its dict at dx,its attributes -/
 |ins (C dx:Addr) (fs:List (Str×V))
 /-- the dict of the instance at x -/
 |own (x:Addr)
 /-- the dict of an exception -/
 |xd (fs:List (Str×V))
 /-- a bound method,f of x -/
 |met (f x:Addr)
 /-- a range object lo,lo+1,.. below hi -/
 |rng (lo hi:Int)
 /-- a thing that is known to the object (the script;a dict while a loop walks it): read,never written while it is so -/
 |frz (o:Obj) (u:HO)
 /-- a code object's table -/
 |tbl (ps:Array Value)
 /-- any other thing,by what is true of its one object (a def of one's own: SetO a S n:=HO.ext λh=>..) -/
 |ext (φ:Heap->Prop)
abbrev Hp:=Addr->Option HO
def upd (H:Hp) (a:Addr) (o:HO):Hp:=λb=>if b=a then some o else H b
def qz {H:Hp} {a:Addr} {o:HO}:upd H a o a=some o:=by unfold upd;rw [if_pos rfl]
def qj {H:Hp} {a b:Addr} {o:HO} (h:b≠a):upd H a o b=H b:=by unfold upd;rw [if_neg h]
def qo {H:Hp} {a b:Addr} {o:HO} (h:H a=some o) (h':H b=none):a≠b:=by
 intro e;subst e;rw [h] at h';cases h'
def j6 (h:Heap) (a:Addr) (items:Array Value):Prop:=∃ o,h.get? a=some o/\o.cls=.type "tuple"/\∃ n,o.data=.seq items n/\o.dict=none
def j6.tup {h:Heap} {a:Addr} {items:Array Value} (x:j6 h a items):IsTup h a items:=let ⟨o,a,b,n,d,_⟩:=x;⟨o,a,b,n,d⟩
def j6.new (h:Heap) (items:Array Value):j6 (h.push { cls:=.type "tuple",data:=.seq items }) h.objs.size items:=⟨_,Heap.get?_push_size _ rfl,rfl,_,rfl,rfl⟩
section
variable (P:Program) (w:World)
def jc (H:Hp) (h:Heap) (a:Addr):HO->Prop
 |.lst xs=>xs.length<=sizeLine/\∃ (its:List Value) (n:Nat),qF xs its/\h.get? a=some { cls:=.type "list",data:=.seq its.toArray n }
 |.tup xs=>xs.length<=sizeLine/\∃ its:List Value,qF xs its/\j6 h a its.toArray
 |.dK kvs=>kvs.length<=sizeLine/\(a==sysModules)=false/\∃ vs,KV kvs vs/\h.DictOf (RP P w) a vs
 |.dT kvs=>kvs.length<=sizeLine/\(a==sysModules)=false/\∃ xs:List (List Key×Addr×Value),
   Paired (λ(p:List Key×V) (q:List Key×Addr×Value)=>p.1=q.1/\H q.2.1=some (.tup (p.1.map kV))/\zp p.2 q.2.2) kvs xs /\
   ∃ o es ep,h.get? a=some o/\o.ExactDict/\o.data=.dict es ep/\es.toList=xs.map (entryOfKey (tupleKind (RP P w)))/\(xs.map (·.1)).Nodup
 |.set S n=>h.SetOf (intKind P w) a S n
 |.ins C dx fs=>H dx=some (.own a)/\fs.length<=1000/\dx≠a/\h.get? a=some (PySem.W.instObj C dx) /\
   ∃ mA,h.Ns1 dx mA/\(∀ f,qlh (fs.lookup f) (mA f))/\PySem.Within mA (fs.map (·.1))
 |.own _=>∃ o,h.get? a=some o
 |.xd fs=>∃ mA,h.Ns1 a mA/\∀ f,qlh (fs.lookup f) (mA f)
 |.rng lo hi=>∃ t u v,h.get? a=some { cls:=.type "range",data:=.fields #[.int lo t,.int hi u,.int 1 v] }
 |.frz o u=>h.get? a=some o/\jc H h a u
 |.tbl ps=>h.get? a=some { cls:=.none,data:=.fields ps }
 |.met f x=>h.get? a=some (PySem.W.methodObj (.ref f) (.ref x))
 |.ext φ=>φ h/\(∃ o,h.get? a=some o)/\∀ h1 h2:Heap,φ h1->(∀ o,h1.get? a=some o->h2.get? a=some o)->φ h2
def HOk (H:Hp) (h:Heap):Prop:=∀ a o,H a=some o->jc P w H h a o
end
section
variable {P:Program} {w:World} {H H':Hp} {h h':Heap} {a:Addr} {o:HO}
def jc.lt (x:jc P w H h a o):a<h.objs.size:=by
 cases o with
 |lst xs=>obtain ⟨_,_,_,_,e⟩:=x;exact Heap.lt_size e
 |tup xs=>obtain ⟨_,_,_,p⟩:=x;exact p.tup.lt
 |dK kvs=>obtain ⟨_,_,_,_,o,_,_,e,_⟩:=x;exact Heap.lt_size e
 |dT kvs=>obtain ⟨_,_,_,_,o,_,_,e,_⟩:=x;exact Heap.lt_size e
 |set S n=>obtain ⟨o,_,_,_,e,_⟩:=x;exact Heap.lt_size e
 |ins C dx fs=>obtain ⟨_,_,_,e,_⟩:=x;exact Heap.lt_size e
 |own y=>obtain ⟨_,e⟩:=x;exact Heap.lt_size e
 |xd fs=>obtain ⟨_,⟨_,_,_,e,_⟩,_⟩:=x;exact Heap.lt_size e
 |rng lo hi=>obtain ⟨_,_,_,e⟩:=x;exact Heap.lt_size e
 |frz ob u=>obtain ⟨e,_⟩:=x;exact Heap.lt_size e
 |tbl ps=>exact Heap.lt_size (show h.get? a=some _ from x)
 |met f y=>exact Heap.lt_size (show h.get? a=some _ from x)
 |ext φ=>obtain ⟨_,⟨_,e⟩,_⟩:=x;exact Heap.lt_size e
def Paired.mapP {α β:Type} {F G:α->β->Prop}:∀ {l₁:List α} {l₂:List β},Paired F l₁ l₂->(∀ a b,F a b->G a b)->Paired G l₁ l₂
 |_,_,.nil,_=>.nil
 |_,_,.cons r t,f=>.cons (f _ _ r) (Paired.mapP t f)
def jc.stay (x:jc P w H h a o) (k:∀ b u,(b=a\/H b=some (.own a))->h.get? b=some u->h'.get? b=some u)
  (ho:∀ b,H b=some (.own a)->H' b=some (.own a)) (ht:∀ b xs,H b=some (.tup xs)->H' b=some (.tup xs)):jc P w H' h' a o:=by
 induction o with
 |lst xs=>obtain ⟨z,its,n,r,e⟩:=x;exact ⟨z,its,n,r,k _ _ (.inl rfl) e⟩
 |tup xs=>obtain ⟨z,its,r,ob,e,c⟩:=x;exact ⟨z,its,r,ob,k _ _ (.inl rfl) e,c⟩
 |dK kvs=>obtain ⟨z,y,vs,r,ob,es,ep,e,c⟩:=x;exact ⟨z,y,vs,r,ob,es,ep,k _ _ (.inl rfl) e,c⟩
 |dT kvs=>
  obtain ⟨z,y,xs,r,ob,es,ep,e,c⟩:=x;exact ⟨z,y,xs,Paired.mapP r λp q z=>⟨z.1,ht _ _ z.2.1,z.2.2⟩,ob,es,ep,k _ _ (.inl rfl) e,c⟩
 |set S n=>obtain ⟨ob,es,ep,t,e,c⟩:=x;exact ⟨ob,es,ep,t,k _ _ (.inl rfl) e,c⟩
 |ins C dx fs=>
  obtain ⟨d,z,ne,e,mA,⟨od,es,ep,e2,c⟩,r⟩:=x;exact ⟨ho _ d,z,ne,k _ _ (.inl rfl) e,mA,⟨od,es,ep,k _ _ (.inr d) e2,c⟩,r⟩
 |own y=>obtain ⟨ob,e⟩:=x;exact ⟨ob,k _ _ (.inl rfl) e⟩
 |xd fs=>obtain ⟨mA,⟨od,es,ep,e,c⟩,r⟩:=x;exact ⟨mA,⟨od,es,ep,k _ _ (.inl rfl) e,c⟩,r⟩
 |rng lo hi=>obtain ⟨t,u,v,e⟩:=x;exact ⟨t,u,v,k _ _ (.inl rfl) e⟩
 |frz ob u ih=>obtain ⟨e,q⟩:=x;exact ⟨k _ _ (.inl rfl) e,ih q⟩
 |tbl ps=>
  have e:h.get? a=some { cls:=.none,data:=.fields ps }:=x;show h'.get? a=some { cls:=.none,data:=.fields ps };exact k a _ (.inl rfl) e
 |met f y=>
  have e:h.get? a=some (PySem.W.methodObj (.ref f) (.ref y)):=x;show h'.get? a=some (PySem.W.methodObj (.ref f) (.ref y));exact k a _ (.inl rfl) e
 |ext φ=>obtain ⟨p,⟨o,e⟩,st⟩:=x;exact ⟨st _ _ p λo q=>k _ _ (.inl rfl) q,⟨o,k _ _ (.inl rfl) e⟩,st⟩
def HOk.lt (x:HOk P w H h) (e:H a=some o):a<h.objs.size:=(x a o e).lt
def HOk.fresh (x:HOk P w H h) (e:h.objs.size<=a):H a=none:=by
 cases q:H a with
 |none=>rfl
 |some u=>exact absurd (Nat.lt_of_lt_of_le (x.lt q) e) (Nat.lt_irrefl _)
def HOk.kept (x:HOk P w H h) (k:∀ b u,h.get? b=some u->h'.get? b=some u):HOk P w H h':=λa o e=>
 (x a o e).stay (λb u _ q=>k b u q) (λ_ q=>q) λ_ _ q=>q
def HOk.laid (x:HOk P w H h) (k:∀ b u,h.get? b=some u->h'.get? b=some u) (hp:h.objs.size<=a) (new:jc P w (upd H a o) h' a o):HOk P w (upd H a o) h':=λb u e=>by
 have hn:=x.fresh hp;by_cases hb:b=a
 ·subst hb;rw [qz] at e;cases e;exact new
 ·rw [qj hb] at e;exact (x b u e).stay (λc v _ q=>k c v q) (λc q=>by rw [qj (qo q hn)];exact q) λc xs q=>by rw [qj (qo q hn)];exact q
end
def Rd (H:Hp) (a:Addr) (u:HO):Prop:=H a=some u\/∃ o,H a=some (.frz o u)
def Rd.ok {P:Program} {w:World} {H:Hp} {h:Heap} {a:Addr} {u:HO} (r:Rd H a u) (x:HOk P w H h):jc P w H h a u:=by
 rcases r with r|⟨o,r⟩
 ·exact x a u r
 ·obtain ⟨_,q⟩:=x a _ r;exact q
def Mut:Option HO->Prop
 |some (.lst _)=>True
 |some (.dK _)=>True
 |some (.dT _)=>True
 |some (.set _ _)=>True
 |some (.ins _ _ _)=>True
 |some (.ext _)=>True
 |_=>False
section
variable {P:Program} {w:World} {H:Hp} {h h':Heap} {x e:Addr} {o':HO}
def HOk.write (ok:HOk P w H h) (mu:Mut (H x)) (he:e=x\/H e=some (.own x)) (k:∀ b u,b≠e->h.get? b=some u->h'.get? b=some u) (heo:∃ u,h'.get? e=some u)
  (new:jc P w (upd H x o') h' x o'):HOk P w (upd H x o') h':=λb u q=>by
 have nown:∀ c y,H c=some (.own y)->c≠x:=λc y r z=>by subst z;rw [r] at mu;exact mu
 have ntup:∀ c xs,H c=some (.tup xs)->c≠x:=λc xs r z=>by subst z;rw [r] at mu;exact mu
 by_cases hb:b=x
 ·subst hb;rw [qz] at q;cases q;exact new
 ·rw [qj hb] at q;by_cases hbe:b=e
  ·have q':H b=some (.own x):=by
    rcases he with z|z
    ·exact absurd (hbe.trans z) hb
    ·rw [hbe];exact z
   rw [q] at q';cases q';obtain ⟨v,hv⟩:=heo;exact ⟨v,by rw [hbe];exact hv⟩
  ·refine (ok b u q).stay (λc v hc r=>k c v ?_ r) (λc r=>by rw [qj (nown c b r)];exact r) λc xs r=>by rw [qj (ntup c xs r)];exact r
   rcases hc with rfl|hc
   ·exact hbe
   ·rintro rfl;rcases he with z|z
    ·exact nown c b hc z
    ·rw [hc] at z;cases z;exact hb rfl
end
structure Un (fs ex:List Addr) (H H':Hp) (h h':Heap):Prop where
 keep:∀ b o,h.get? b=some o->H b=none->b∉fs->b∉ex->h'.get? b=some o
 slot:∀ b o,h.get? b=some o->H b=none->b∈fs->b∉ex->∃ sl,h'.get? b=some { o with slots:=sl }
 free:∀ b o,h.get? b=some o->H b=none->b∉ex->H' b=none
 there:∀ b o,h.get? b=some o->b∉ex->∃ o',h'.get? b=some o'
 tups:∀ b xs,H b=some (.tup xs)->H' b=some (.tup xs)
 frzs:∀ b o u,H b=some (.frz o u)->H' b=some (.frz o u)
 tbls:∀ b ps,H b=some (.tbl ps)->∃ more,H' b=some (.tbl (ps++more))
section
variable {fs fs' ex ex':List Addr} {H H1 H2:Hp} {h h1 h2 h':Heap} {a x e:Addr} {o:HO}
def Un.any (u:Un fs ex H H1 h h1) {b:Addr} {ob:Obj} (q:h.get? b=some ob) (n:H b=none) (hx:b∉ex):∃ sl,h1.get? b=some { ob with slots:=sl }:=by
 by_cases hb:b∈fs
 ·exact u.slot b ob q n hb hx
 ·exact ⟨ob.slots,u.keep b ob q n hb hx⟩
def Un.kept (k:∀ b u,h.get? b=some u->h'.get? b=some u):Un fs ex H H h h':=
 ⟨λb ob q _ _ _=>k b ob q,λb ob q _ _ _=>⟨ob.slots,k b ob q⟩,λ_ _ _ n _=>n,λb ob q _=>⟨ob,k b ob q⟩,λ_ _ q=>q,λ_ _ _ q=>q,λ_ ps q=>⟨#[],by rw [q];simp⟩⟩
def Un.refl:Un fs ex H H h h:=Un.kept λ_ _ q=>q
def Un.laid (k:∀ b u,h.get? b=some u->h'.get? b=some u) (hp:h.objs.size<=a) (hn:H a=none):Un fs ex H (upd H a o) h h' where
 keep:=λb u q _ _ _=>k b u q
 slot:=λb u q _ _ _=>⟨u.slots,k b u q⟩
 free:=λb u q n _=>by rw [qj (Nat.ne_of_lt (Nat.lt_of_lt_of_le (Heap.lt_size q) hp))];exact n
 there:=λb u q _=>⟨u,k b u q⟩
 tups:=λb xs q=>by rw [qj (qo q hn)];exact q
 frzs:=λb u xs q=>by rw [qj (qo q hn)];exact q
 tbls:=λb ps q=>⟨#[],by rw [qj (qo q hn),q];simp⟩
def Un.write (mu:Mut (H x)) (he:e=x\/H e=some (.own x)) (k:∀ b u,b≠e->h.get? b=some u->h'.get? b=some u) (heo:∃ u,h'.get? e=some u):Un fs ex H (upd H x o) h h':=by
 have hx:∀ b,H b=none->b≠x:=λb n z=>by subst z;rw [n] at mu;exact mu
 have hb:∀ b,H b=none->b≠e:=λb n z=>by
  subst z;rcases he with r|r
  ·exact hx b n r
  ·rw [n] at r;cases r
 have hm:∀ b u,H b=some u->¬ Mut (some u)->b≠x:=λb u q nm z=>by subst z;rw [q] at mu;exact nm mu
 refine ⟨λb u q n _ _=>k b u (hb b n) q,λb u q n _ _=>⟨u.slots,k b u (hb b n) q⟩,λb u q n _=>by rw [qj (hx b n)];exact n,λb u q _=>?_,
  λb xs q=>by rw [qj (hm b _ q λz=>z)];exact q,λb u xs q=>by rw [qj (hm b _ q λz=>z)];exact q,λb ps q=>⟨#[],by rw [qj (hm b _ q λz=>z),q];simp⟩⟩
 by_cases hbe:b=e
 ·subst hbe;exact heo
 ·exact ⟨u,k b u hbe q⟩
end
def trk (h:Heap) (H:Hp):List Addr:=(List.range h.objs.size).filter λa=>(H a).isSome
def K7 (h:Heap) (H:Hp):Heap:=PySem.W.hideAll h (trk h H)
def SU (h:Heap) (H:Hp):(K7 h H).objs.size=h.objs.size:=PySem.W.hideAll_size _ _
def MJ {h:Heap} {H:Hp} {b:Addr} {o:Obj} (e:h.get? b=some o) (n:H b=none):(K7 h H).get? b=some o:=
 PySem.W.hideAll_get _ e λhm=>by
  have q:(H b).isSome=true:=(List.mem_filter.mp hm).2;rw [n] at q;simp at q
def qce {h:Heap} {H:Hp} {b:Addr} {o:Obj} (e:(K7 h H).get? b=some o):h.get? b=some o/\H b=none:=by
 have e':h.get? b=some o:=PySem.W.of_hideAll (trk h H) e;refine ⟨e',?_⟩;cases q:H b with
 |none=>rfl
 |some x=>
  have hm:b∈trk h H:=List.mem_filter.mpr ⟨mem_range.mpr (Heap.lt_size e'),by simp [q]⟩;have z:(K7 h H).get? b=none:=PySem.W.hideAll_none (trk h H) hm;rw [z] at e;cases e
def qb0 (g h:Heap) (L:Addr):List (Addr×Obj):=(List.range h.objs.size).filterMap λa=>if a=L\/(g.get? a).isSome=true then none else (h.get? a).map λo=>(a,o)
def QR (g h:Heap) (L d:Addr):List (Addr×Obj):=(qb0 g h L).filter λp=>decide (p.1≠d)
structure Mod (K:Frg) (mg:Str->Option Value) (base:Heap):Prop where
 kin:K.In base
 glob:base.Ns mainGlobals mg
 blt:∃ mb,base.Ns builtinsNs mb/\∀ x:Str,x≠"__name__" -> mb x=bootBuiltins x
 nolimit:base.NoLimit
structure Cx where
 prog:Program
 w:World
 K:PySem.W.Frag
 mg:Str->Option Value
 base:Heap
 A:Around
 N:List Str
 s₀:Shared
 H₀:Hp
 env:Env
 outer:List Env
 stack:List Env
 ex:List Addr
 fn:Str->Bool
 calm:Bool
 pn:List (Addr×Obj)
 xe:Value->Shared->Prop
def frs (l:List Env):List Addr:=l.filterMap (·.frame)
abbrev Cx.fs (X:Cx):List Addr:=frs X.outer
def Vis (sc:Scope) (x:Str):Prop:=sc.names.lookup x=some .local\/sc.names.lookup x=some .cell\/sc.names.lookup x=some .free
def Loc (sc:Scope) (x:Str):Prop:=sc.names.lookup x=some .local\/sc.names.lookup x=some .cell
def qlN (env:Env) (h:Heap) (m:Str->Option Value) (x:Str) (u:Value):Prop:=
 (env.kindOf x=some .local/\m x=some u)\/((env.kindOf x=some .cell\/env.kindOf x=some .free)/\∃ c,env.cells.lookup x=some c/\h.IsCell c (some u))
structure Cx.Ok (X:Cx):Prop where
 mod:Mod X.K X.mg X.base
 kind:X.env.scope.kind=.function
 glob:X.env.globals=mainGlobals
 blt:X.env.builtins=builtinsNs
 above:X.s₀.heap.objs.size<=X.env.locals
 inj:∀ x y c,X.env.cells.lookup x=some c->X.env.cells.lookup y=some c->x=y
 has:∀ x,(X.env.kindOf x=some .cell\/X.env.kindOf x=some .free)->∃ c,X.env.cells.lookup x=some c
 cab:∀ x c,X.fn x=true->X.env.cells.lookup x=some c->X.s₀.heap.objs.size<=c
 hd:X.calm=true->X.A.handled=none
 frames:X.A.frames=some X.stack
 stk:X.stack=X.outer\/(X.stack=X.env::X.outer/\X.env.frame=some X.env.locals)
 exf:∀ b∈X.ex,b≠X.env.locals/\∀ x c,X.env.cells.lookup x=some c->c≠b
 bs:∀ b o,X.base.get? b=some o->X.s₀.heap.get? b=some o/\X.H₀ b=none
 bsz:X.base.objs.size<=X.s₀.heap.objs.size
 noex:∀ b o,X.base.get? b=some o->b∉X.ex
 exfs:∀ b∈X.ex,b∉X.fs
 funs:X.s₀.heap.FunFrames X.base X.outer
 frf:∀ b∈X.fs,X.H₀ b=none
structure Inv (X:Cx) (pins:List (Addr×Obj)) (σ:List (Option V)) (H:Hp) (s:Shared):Prop where
 ok:X.Ok
 os:s.os=X.s₀.os
 bare:AllBare s.gens
 base:Un X.fs X.ex X.H₀ H X.s₀.heap s.heap
 loc:∃ m,s.heap.Ns X.env.locals m/\∀ (i:Nat) (x:Str) (v:V),X.N[i]?=some x->σ[i]?=some (some v)->Vis X.env.scope x->∃ u,zp v u/\qlN X.env s.heap m x u
 cell:∀ x c,X.env.cells.lookup x=some c->∃ v,s.heap.IsCell c v
 free:H X.env.locals=none
 freeC:∀ x c,X.env.cells.lookup x=some c->H c=none
 pin:∀ p∈X.pn++pins,s.heap.get? p.1=some p.2/\H p.1=none/\p.1≠X.env.locals/\p.1∉X.fs/\∀ v,p.2.data≠.cell v
 hok:HOk X.prog X.w H s.heap
 len:σ.length=X.N.length
section
variable {X:Cx} {pins:List (Addr×Obj)} {σ:List (Option V)} {H H':Hp} {s:Shared} {h':Heap}
def Cx.Ok.nofr (ok:X.Ok) {b:Addr} {o:Obj} (e:X.base.get? b=some o):b∉X.fs:=λhb=>by
 have:=(ok.funs.mem hb).1;rw [e] at this;cases this
def Inv.bs (I:Inv X pins σ H s):∀ b o,X.base.get? b=some o->s.heap.get? b=some o/\H b=none:=λb o e=>
 ⟨I.base.keep b o (I.ok.bs b o e).1 (I.ok.bs b o e).2 (I.ok.nofr e) (I.ok.noex b o e),I.base.free b o (I.ok.bs b o e).1 (I.ok.bs b o e).2 (I.ok.noex b o e)⟩
def Inv.bk (I:Inv X pins σ H s):∀ b o,X.base.get? b=some o->s.heap.get? b=some o:=λb o e=>(I.bs b o e).1
def Inv.mod (I:Inv X pins σ H s):Mod X.K X.mg X.base:=I.ok.mod
def Inv.kIn (I:Inv X pins σ H s):X.K.In s.heap:=I.ok.mod.kin.keeps I.bk
def Inv.nolimit (I:Inv X pins σ H s):s.heap.NoLimit:=I.ok.mod.nolimit.keeps I.bk
def Inv.fr (I:Inv X pins σ H s):∃ m,Fr X.base X.env.locals s.heap m:=
 let ⟨m,hn,_⟩:=I.loc
 ⟨m,hn,I.bk,Nat.le_trans I.ok.bsz I.ok.above⟩
def Inv.lt (I:Inv X pins σ H s):X.env.locals<s.heap.objs.size:=let ⟨_,hn,_⟩:=I.loc;hn.lt
def Inv.sz (I:Inv X pins σ H s):X.s₀.heap.objs.size<=s.heap.objs.size:=Nat.le_trans I.ok.above (Nat.le_of_lt I.lt)
def Inv.nofs (I:Inv X pins σ H s) {a:Addr} (h:s.heap.objs.size<=a):a∉X.fs:=λhb=>by
 obtain ⟨_,o,ho,_⟩:=I.ok.funs.mem hb;exact absurd (Nat.lt_of_lt_of_le (Heap.lt_size ho) (Nat.le_trans I.sz h)) (Nat.lt_irrefl _)
def Inv.cne (I:Inv X pins σ H s):∀ x c,X.env.cells.lookup x=some c->c≠X.env.locals:=λx c e z=>by
 obtain ⟨v,o,ho,hd⟩:=I.cell x c e;obtain ⟨m,⟨o',es,ep,ho',hd',_⟩,_⟩:=I.loc;rw [z,ho'] at ho;cases ho;rw [hd'] at hd;cases hd
def Inv.funs (I:Inv X pins σ H s):s.heap.FunFrames X.base X.outer:=by
 have all:∀ (l:List Env),(∀ b∈frs l,b∈X.fs)->X.s₀.heap.FunFrames X.base l->s.heap.FunFrames X.base l:=by
  intro l;induction l with
  |nil=>intro _ _;trivial
  |cons env r ih=>
   intro hs hl;obtain ⟨hk,⟨L,o,hf,hn,ho,hd⟩,hr⟩:=hl;have hL:L∈X.fs:=hs L (by unfold frs;rw [List.filterMap_cons,hf];exact List.mem_cons_self);obtain ⟨sl,e⟩:=I.base.slot L o ho (I.ok.frf L hL) hL λz=>I.ok.exfs L z hL;exact ⟨hk,⟨L,_,hf,hn,e,hd⟩,ih (λb hb=>hs b (by unfold frs;rw [List.filterMap_cons,hf];exact List.mem_cons_of_mem _ hb)) hr⟩
 exact all X.outer (λ_ hb=>hb) I.ok.funs
def Inv.stack (I:Inv X pins σ H s):s.heap.FunFrames X.base X.stack:=by
 rcases I.ok.stk with e|⟨e,hf⟩
 ·rw [e];exact I.funs
 ·rw [e];obtain ⟨m,hn,_⟩:=I.loc;refine .cons (by rw [I.ok.kind];decide) hf hn ?_ I.funs;exact Heap.get?_none_of_le (Nat.le_trans I.ok.bsz I.ok.above)
def Inv.stkSub (I:Inv X pins σ H s):∀ b∈frs X.stack,b∈X.env.locals::X.fs:=λb hb=>by
 rcases I.ok.stk with e|⟨e,hf⟩
 ·rw [e] at hb;exact List.mem_cons_of_mem _ hb
 ·rw [e] at hb;unfold frs at hb;rw [List.filterMap_cons,hf] at hb;exact hb
def Inv.stkFree (I:Inv X pins σ H s):∀ b∈frs X.stack,H b=none:=λb hb=>by
 rcases mem_cons.mp (I.stkSub b hb) with e|hb
 ·rw [e];exact I.free
 ·obtain ⟨_,o,ho,_⟩:=I.ok.funs.mem hb;exact I.base.free b o ho (I.ok.frf b hb) λz=>I.ok.exfs b z hb
def Inv.step {g':Array GenState} {t':Nat} {d':Drawn} {ch:List Addr} (I:Inv X pins σ H s)
  (hch:∀ b∈ch,(b∈X.ex\/X.s₀.heap.objs.size<=b)/\b≠X.env.locals/\(∀ x c,X.env.cells.lookup x=some c->c≠b)/\∀ p∈X.pn++pins,p.1≠b)
  (keep:∀ b o,b≠X.env.locals->b∉X.fs->b∉ch->s.heap.get? b=some o->H b=none->h'.get? b=some o)
  (slot:∀ b o,b≠X.env.locals->b∈X.fs->b∉ch->s.heap.get? b=some o->H b=none->∃ sl,h'.get? b=some { o with slots:=sl }) (free:∀ b o,b∉ch->s.heap.get? b=some o->H b=none->H' b=none)
  (there:∀ b o,b∉ch->s.heap.get? b=some o->∃ o',h'.get? b=some o')
  (tups:∀ b xs,H b=some (.tup xs)->H' b=some (.tup xs)) (frzs:∀ b o u,H b=some (.frz o u)->H' b=some (.frz o u)) (tbls:∀ b ps,H b=some (.tbl ps)->∃ more,H' b=some (.tbl (ps++more)))
  (ns:∀ m,s.heap.Ns X.env.locals m->h'.Ns X.env.locals m) (hok:HOk X.prog X.w H' h') (hg:AllBare g') :
  Inv X pins σ H' { s with heap:=h',gens:=g',drawn:=d',toks:=t' }:=by
 have neL:∀ b o,X.s₀.heap.get? b=some o->b≠X.env.locals:=λb o e=>Nat.ne_of_lt (Nat.lt_of_lt_of_le (Heap.lt_size e) I.ok.above);have neC:∀ b o,X.s₀.heap.get? b=some o->b∉X.ex->b∉ch:=λb o e hx hb=>by
  rcases (hch b hb).1 with z|z
  ·exact hx z
  ·exact absurd (Nat.lt_of_lt_of_le (Heap.lt_size e) z) (Nat.lt_irrefl _)
 have cellK:∀ x c,X.env.cells.lookup x=some c->∀ v,s.heap.IsCell c v->h'.IsCell c v:=λx c e v ⟨o,ho,hd⟩=>by
  have nch:c∉ch:=λz=>(hch c z).2.2.1 x c e rfl;by_cases hc:c∈X.fs
  ·obtain ⟨sl,q⟩:=slot c o (I.cne x c e) hc nch ho (I.freeC x c e);exact ⟨_,q,hd⟩
  ·exact ⟨o,keep c o (I.cne x c e) hc nch ho (I.freeC x c e),hd⟩
 refine ⟨I.ok,I.os,hg,⟨λb o e n hb hx=>?_,λb o e n hb hx=>?_,λb o e n hx=>?_,λb o e hx=>?_,λb xs e=>tups b xs (I.base.tups b xs e),λb o xs e=>frzs b o xs (I.base.frzs b o xs e),λb ps e=>?_⟩,?_,λx c e=>?_,?_,λx c e=>?_,λp hp=>?_,hok,I.len⟩
 ·exact keep b o (neL b o e) hb (neC b o e hx) (I.base.keep b o e n hb hx) (I.base.free b o e n hx)
 ·obtain ⟨sl,e1⟩:=I.base.slot b o e n hb hx;obtain ⟨sl',e2⟩:=slot b _ (neL b o e) hb (neC b o e hx) e1 (I.base.free b o e n hx);exact ⟨sl',e2⟩
 ·obtain ⟨o',e1⟩:=I.base.there b o e hx;exact free b o' (neC b o e hx) e1 (I.base.free b o e n hx)
 ·obtain ⟨o',e1⟩:=I.base.there b o e hx;exact there b o' (neC b o e hx) e1
 ·obtain ⟨m1,e1⟩:=I.base.tbls b ps e;obtain ⟨m2,e2⟩:=tbls b _ e1;exact ⟨m1++m2,by rw [e2,Array.append_assoc]⟩
 ·obtain ⟨m,hn,hl⟩:=I.loc;refine ⟨m,ns m hn,λi x v e1 e2 e3=>?_⟩;obtain ⟨u,r,l⟩:=hl i x v e1 e2 e3;refine ⟨u,r,?_⟩;rcases l with l|⟨k,c,e,z⟩
  ·exact .inl l
  ·exact .inr ⟨k,c,e,cellK x c e _ z⟩
 ·obtain ⟨v,z⟩:=I.cell x c e;exact ⟨v,cellK x c e v z⟩
 ·obtain ⟨m,⟨o,_,_,ho,_⟩,_⟩:=I.loc;exact free _ o (λz=>(hch _ z).2.1 rfl) ho I.free
 ·obtain ⟨v,o,ho,hd⟩:=I.cell x c e;exact free c o (λz=>(hch c z).2.2.1 x c e rfl) ho (I.freeC x c e)
 ·obtain ⟨e,n,ne,nf,d⟩:=I.pin p hp;have nch:p.1∉ch:=λz=>(hch p.1 z).2.2.2 p hp rfl;exact ⟨keep p.1 p.2 ne nf nch e n,free p.1 p.2 nch e n,ne,nf,d⟩
def Inv.un {t':Nat} (I:Inv X pins σ H s) (u:Un X.fs [] H H' s.heap h') (hok:HOk X.prog X.w H' h'):Inv X pins σ H' { s with heap:=h',toks:=t' }:=by
 obtain ⟨m,⟨o,es,ep,ho,r⟩,_⟩:=id I.loc;obtain ⟨sl,hL⟩:=u.any ho I.free (by simp);exact I.step (g':=s.gens) (d':=s.drawn) (ch:=[]) (λ_ z=>nomatch z) (λb o _ hb _ e n=>u.keep b o e n hb (by simp)) (λb o _ hb _ e n=>u.slot b o e n hb (by simp)) (λb o _ e n=>u.free b o e n (by simp)) (λb o _ e=>u.there b o e (by simp)) u.tups u.frzs u.tbls (λm' hm=>by
  obtain ⟨o',es',ep',ho',r'⟩:=hm;rw [ho] at ho';cases ho';exact ⟨_,es',ep',hL,r'⟩) hok I.bare
def Inv.call {g':Array GenState} {t':Nat} {d':Drawn} {ch:List Addr} (I:Inv X pins σ H s) (u:Un (frs X.stack) ch H H' s.heap h') (hok:HOk X.prog X.w H' h') (hg:AllBare g')
  (hch:∀ b∈ch,(b∈X.ex\/X.s₀.heap.objs.size<=b)/\b≠X.env.locals/\(∀ x c,X.env.cells.lookup x=some c->c≠b)/\∀ p∈X.pn++pins,p.1≠b) :
  Inv X pins σ H' { s with heap:=h',gens:=g',drawn:=d',toks:=t' }:=by
 obtain ⟨m,⟨o,es,ep,ho,r⟩,_⟩:=id I.loc;obtain ⟨sl,hL⟩:=u.any ho I.free λz=>(hch _ z).2.1 rfl;exact I.step (ch:=ch) hch (λb o hL hb hc e n=>u.keep b o e n (λz=>(mem_cons.mp (I.stkSub b z)).elim hL hb) hc) (λb o _ _ hc e n=>u.any e n hc) (λb o hc e n=>u.free b o e n hc) (λb o hc e=>u.there b o e hc) u.tups u.frzs u.tbls (λm' hm=>by
  obtain ⟨o',es',ep',ho',r'⟩:=hm;rw [ho] at ho';cases ho';exact ⟨_,es',ep',hL,r'⟩) hok hg
def Inv.turned {t':Nat} {it:Addr} (I:Inv X pins σ H s) (k:∀ b o,b≠it->s.heap.get? b=some o->h'.get? b=some o) (hn:H it=none) (hL:it≠X.env.locals)
  (h1:it∈X.ex\/X.s₀.heap.objs.size<=it) (h2:∀ x c,X.env.cells.lookup x=some c->c≠it) (h3:∀ p∈X.pn++pins,p.1≠it):Inv X pins σ H { s with heap:=h',toks:=t' }:=by
 have nit:∀ b u,H b=some u->b≠it:=λb u e z=>by rw [z,hn] at e;cases e
 refine I.step (g':=s.gens) (d':=s.drawn) (ch:=[it]) (λb hb=>?_) (λb o _ _ hc e _=>k b o (λz=>hc (by simp [z])) e) (λb o _ _ hc e _=>⟨o.slots,k b o (λz=>hc (by simp [z])) e⟩) (λ_ _ _ _ n=>n)
  (λb o hc e=>⟨o,k b o (λz=>hc (by simp [z])) e⟩) (λ_ _ e=>e) (λ_ _ _ e=>e) (λb ps e=>⟨#[],by rw [e];simp⟩) (λm hm=>?_) (λb u e=>?_) I.bare
 ·have e:b=it:=by simpa using hb
  subst e;exact ⟨h1,hL,h2,h3⟩
 ·obtain ⟨o,es,ep,ho,r⟩:=hm;exact ⟨o,es,ep,k _ o (Ne.symm hL) ho,r⟩
 ·refine (I.hok b u e).stay (λc v hc q=>k c v ?_ q) (λ_ q=>q) λ_ _ q=>q;rcases hc with z|z
  ·rw [z];exact nit b u e
  ·exact nit c _ z
def Inv.tok (I:Inv X pins σ H s) (t:Nat):Inv X pins σ H { s with toks:=t }:=I.un (h':=s.heap) (t':=t) Un.refl I.hok
def Inv.kept {t':Nat} (I:Inv X pins σ H s) (k:∀ b u,s.heap.get? b=some u->h'.get? b=some u):Inv X pins σ H { s with heap:=h',toks:=t' }:=I.un (Un.kept k) (I.hok.kept k)
def Inv.laid {a:Addr} {o:HO} {t':Nat} (I:Inv X pins σ H s) (k:∀ b u,s.heap.get? b=some u->h'.get? b=some u) (hp:s.heap.objs.size<=a) (new:jc X.prog X.w (upd H a o) h' a o) :
  Inv X pins σ (upd H a o) { s with heap:=h',toks:=t' }:=I.un (Un.laid k hp (I.hok.fresh hp)) (I.hok.laid k hp new)
def Inv.write {x e:Addr} {o:HO} {t':Nat} (I:Inv X pins σ H s) (mu:Mut (H x)) (he:e=x\/H e=some (.own x)) (k:∀ b u,b≠e->s.heap.get? b=some u->h'.get? b=some u) (heo:∃ u,h'.get? e=some u)
  (new:jc X.prog X.w (upd H x o) h' x o):Inv X pins σ (upd H x o) { s with heap:=h',toks:=t' }:=I.un (Un.write mu he k heo) (I.hok.write mu he k heo new)
def Inv.pins_of {pins':List (Addr×Obj)} (I:Inv X pins σ H s) (h:∀ p∈pins',s.heap.get? p.1=some p.2/\H p.1=none/\p.1≠X.env.locals/\p.1∉X.fs/\∀ v,p.2.data≠.cell v):Inv X pins' σ H s:=
 ⟨I.ok,I.os,I.bare,I.base,I.loc,I.cell,I.free,I.freeC,λp hp=>(List.mem_append.mp hp).elim (λz=>I.pin p (List.mem_append_left _ z)) (h p),I.hok,I.len⟩
def W8 {N:List Str} (hN:N.Nodup) {i j:Nat} {x:Str} (a:N[i]?=some x) (b:N[j]?=some x):i=j:=by
 obtain ⟨h1,e1⟩:=List.getElem?_eq_some_iff.mp a;obtain ⟨h2,e2⟩:=List.getElem?_eq_some_iff.mp b;exact (List.getElem_inj hN).mp (e1.trans e2.symm)
def UX {M:Model} {A:Around} {E:Value->Shared->Prop} {i:Nat} {x:Str} {v:V} {u:Value} {Q:Unit->Shared->Prop} (I:Inv X pins σ H s) (hN:X.N.Nodup) (hi:X.N[i]?=some x) (hx:Loc X.env.scope x) (r:zp v u)
  (h:∀ s',Inv X pins (σ.set i (some v)) H s'->(∃ a,Heap.SameBut a s.heap s'.heap/\(a=X.env.locals\/X.env.cells.lookup x=some a))->Q () s') (hf:X.fn x=true\/X.env.scope.names.lookup x=some .local:=by first|exact .inl rfl|exact .inr rfl|assumption):wpAny M A (storeName X.env x u) Q E s:=by
 obtain ⟨m,hn,hl⟩:=id I.loc;have hcls:(X.env.scope.kind==.class||(X.env.scope.kind==.module&&X.env.locals != X.env.globals))=false:=by rw [I.ok.kind];rfl
 have hiσ:i<σ.length:=by rw [I.len];exact (List.getElem?_eq_some_iff.mp hi).1
 have cne:=I.cne;have tracked:∀ {a:Addr} {h':Heap},(∃ o,s.heap.get? a=some o/\H a=none)->Heap.SameBut a s.heap h'->HOk X.prog X.w H h':=λ{a h'} ha hs b ob e=>by
  obtain ⟨_,_,hfree⟩:=ha;refine (I.hok b ob e).stay (λc w' hc q=>(hs.2 c ?_).trans q) (λ_ q=>q) λ_ _ q=>q;rintro rfl;rcases hc with rfl|hc
  ·rw [hfree] at e;cases e
  ·rw [hfree] at hc;cases hc
 rcases hx with hk|hk
 ·refine wpAny_storeName_local hk hn (λh' hn' hs=>?_) hcls;obtain ⟨oL,_,_,hoL,_⟩:=id hn;refine h _ ⟨I.ok,I.os,I.bare,⟨λb o e n hb hx=>?_,λb o e n hb hx=>?_,I.base.free,λb o e hx=>?_,I.base.tups,I.base.frzs,I.base.tbls⟩,⟨_,hn',λj y v' e1 e2 e3=>?_⟩,λy c e=>?_,I.free,I.freeC,λp hp=>?_,tracked ⟨oL,hoL,I.free⟩ hs,by simpa using I.len⟩ ⟨_,hs,.inl rfl⟩
  ·exact (hs.2 b (Nat.ne_of_lt (Nat.lt_of_lt_of_le (Heap.lt_size e) I.ok.above))).trans (I.base.keep b o e n hb hx)
  ·obtain ⟨sl,e1⟩:=I.base.slot b o e n hb hx;exact ⟨sl,(hs.2 b (Nat.ne_of_lt (Nat.lt_of_lt_of_le (Heap.lt_size e) I.ok.above))).trans e1⟩
  ·obtain ⟨o',e1⟩:=I.base.there b o e hx;exact ⟨o',(hs.2 b (Nat.ne_of_lt (Nat.lt_of_lt_of_le (Heap.lt_size e) I.ok.above))).trans e1⟩
  ·by_cases hj:j=i
   ·subst hj;rw [hi] at e1;cases e1;rw [List.getElem?_set_self hiσ] at e2;cases e2;exact ⟨u,r,.inl ⟨hk,by simp⟩⟩
   ·rw [List.getElem?_set_ne (Ne.symm hj)] at e2;obtain ⟨u',r',q⟩:=hl j y v' e1 e2 e3;refine ⟨u',r',?_⟩;rcases q with ⟨k,e⟩|⟨k,c,e,z⟩
    ·refine .inl ⟨k,?_⟩;have:y≠x:=λe=>hj (W8 hN e1 (e▸hi));simp [this,e]
    ·exact .inr ⟨k,c,e,z.sameBut hs (cne y c e)⟩
  ·obtain ⟨w',z⟩:=I.cell y c e;exact ⟨w',z.sameBut hs (cne y c e)⟩
  ·obtain ⟨e,n,ne,nf,d⟩:=I.pin p hp;exact ⟨(hs.2 p.1 ne).trans e,n,ne,nf,d⟩
 ·have hfn:X.fn x=true:=by
   rcases hf with z|z
   ·exact z
   ·rw [z] at hk;cases hk
  obtain ⟨c,hc⟩:=I.ok.has x (.inl hk);obtain ⟨w',z⟩:=I.cell x c hc;refine wpAny_storeName_cell I.ok.kind hk hc z (λh' hc' hs=>?_);obtain ⟨oc,hoc,hocd⟩:=id z;refine h { s with heap:=h' } ⟨I.ok,I.os,I.bare,⟨λb o e n hb hx=>?_,λb o e n hb hx=>?_,I.base.free,λb o e hx=>?_,I.base.tups,I.base.frzs,I.base.tbls⟩,⟨m,hn.sameBut hs (Ne.symm (cne x c hc)),λj y v' e1 e2 e3=>?_⟩,λy c' e=>?_,I.free,I.freeC,λp hp=>?_,tracked ⟨oc,hoc,I.freeC x c hc⟩ hs,by simpa using I.len⟩ ⟨c,hs,.inr hc⟩
  ·exact (hs.2 b (Nat.ne_of_lt (Nat.lt_of_lt_of_le (Heap.lt_size e) (I.ok.cab x c hfn hc)))).trans (I.base.keep b o e n hb hx)
  ·obtain ⟨sl,e1⟩:=I.base.slot b o e n hb hx;exact ⟨sl,(hs.2 b (Nat.ne_of_lt (Nat.lt_of_lt_of_le (Heap.lt_size e) (I.ok.cab x c hfn hc)))).trans e1⟩
  ·obtain ⟨o',e1⟩:=I.base.there b o e hx;exact ⟨o',(hs.2 b (Nat.ne_of_lt (Nat.lt_of_lt_of_le (Heap.lt_size e) (I.ok.cab x c hfn hc)))).trans e1⟩
  ·by_cases hj:j=i
   ·subst hj;rw [hi] at e1;cases e1;rw [List.getElem?_set_self hiσ] at e2;cases e2;exact ⟨u,r,.inr ⟨.inl hk,c,hc,hc'⟩⟩
   ·rw [List.getElem?_set_ne (Ne.symm hj)] at e2;obtain ⟨u',r',q⟩:=hl j y v' e1 e2 e3;refine ⟨u',r',?_⟩;rcases q with q|⟨k,c',e,z'⟩
    ·exact .inl q
    ·refine .inr ⟨k,c',e,z'.sameBut hs ?_⟩;rintro rfl;exact hj (W8 hN e1 (I.ok.inj _ _ _ e hc▸hi))
  ·by_cases hcc:c'=c
   ·subst hcc;exact ⟨_,hc'⟩
   ·obtain ⟨w2,z2⟩:=I.cell y c' e;exact ⟨w2,z2.sameBut hs hcc⟩
  ·obtain ⟨e,n,ne,nf,d⟩:=I.pin p hp;refine ⟨(hs.2 p.1 ?_).trans e,n,ne,nf,d⟩;intro q;rw [q,hoc] at e;have q':oc=p.2:=Option.some.inj e;exact d w' (by rw [← q'];exact hocd)
def ZI {M:Model} {A:Around} {E:Value->Shared->Prop} {i:Nat} {x:Str} {v:V} {u:Value} {Q:Unit->Shared->Prop} (I:Inv X pins σ H s) (hN:X.N.Nodup) (hi:X.N[i]?=some x) (hx:Loc X.env.scope x) (r:zp v u)
  (h:∀ s',Inv X pins (σ.set i (some v)) H s'->Q () s') (hf:X.fn x=true\/X.env.scope.names.lookup x=some .local:=by first|exact .inl rfl|exact .inr rfl|assumption):wpAny M A (storeName X.env x u) Q E s:=
 UX I hN hi hx r (λs' I' _=>h s' I') hf
def Inv.call' {s':Shared} {ch:List Addr} (I:Inv X pins σ H s) (ho:s'.os=s.os) (u:Un (frs X.stack) ch H H' s.heap s'.heap) (hok:HOk X.prog X.w H' s'.heap) (hg:AllBare s'.gens)
  (hch:∀ b∈ch,(b∈X.ex\/X.s₀.heap.objs.size<=b)/\b≠X.env.locals/\(∀ x c,X.env.cells.lookup x=some c->c≠b)/\∀ p∈X.pn++pins,p.1≠b):Inv X pins σ H' s':=by
 obtain ⟨h',g',d',t',o'⟩:=s';have e:o'=s.os:=ho;subst e;exact I.call (g':=g') (t':=t') (d':=d') u hok hg hch
end
abbrev XK:=Value->Option Addr->Hp->Prop
abbrev St:=List (Option V)
abbrev VK:=V->Hp->Prop
abbrev TE:=St->Hp->VK->Prop
abbrev TT:=St->Hp->(Bool->Hp->Prop)->Prop
abbrev TA:=St->Hp->(List V->Hp->Prop)->Prop
structure Ends where
 nx:St->Hp->Prop
 rt:VK
 bk:St->Hp->Prop:=λ_ _=>False
 ct:St->Hp->Prop:=λ_ _=>False
abbrev TS:=Ends->St->Hp->Prop
def EP (X:Cx) (pins:List (Addr×Obj)) (σ:St) (Q:VK) (u:Value) (s':Shared):Prop:=∃ v H',Inv X pins σ H' s'/\zp v u/\Q v H'
def TP (X:Cx) (pins:List (Addr×Obj)) (σ:St) (Q:Bool->Hp->Prop) (b:Bool) (s':Shared):Prop:=∃ H',Inv X pins σ H' s'/\Q b H'
def AP (X:Cx) (pins:List (Addr×Obj)) (σ:St) (Q:List V->Hp->Prop) (us:List Value) (s':Shared):Prop:=∃ vs H',Inv X pins σ H' s'/\qF vs us/\Q vs H'
def SP (X:Cx) (pins:List (Addr×Obj)) (D:Ends) (f:Flow) (s':Shared):Prop:=
 match f with
 |.next=>∃ σ' H',Inv X pins σ' H' s'/\D.nx σ' H'
 |.brk=>∃ σ' H',Inv X pins σ' H' s'/\D.bk σ' H'
 |.cont=>∃ σ' H',Inv X pins σ' H' s'/\D.ct σ' H'
 |.ret u=>∃ v σ' H',Inv X pins σ' H' s'/\zp v u/\D.rt v H'
def PE (X:Cx) (e:Expr) (t:TE):Prop:=
 ∀ (pins:List (Addr×Obj)) (s:Shared) (σ:St) (H:Hp) (Q:VK),Inv X pins σ H s->t σ H Q->wpAny (model X.prog X.w) X.A (eval e X.env) (EP X pins σ Q) X.xe s
def PT (X:Cx) (e:Expr) (t:TT):Prop:=
 ∀ (pins:List (Addr×Obj)) (s:Shared) (σ:St) (H:Hp) (Q:Bool->Hp->Prop),Inv X pins σ H s->t σ H Q->wpAny (model X.prog X.w) X.A (isTrue e X.env (eval e X.env)) (TP X pins σ Q) X.xe s
def PW (X:Cx) (e:Expr) (t:TT):Prop:=
 ∀ (whole:Sem Value) (pins:List (Addr×Obj)) (s:Shared) (σ:St) (H:Hp) (Q:Bool->Hp->Prop),Inv X pins σ H s->t σ H Q->wpAny (model X.prog X.w) X.A (isTrue e X.env whole) (TP X pins σ Q) X.xe s
def PW.pt {X:Cx} {e:Expr} {t:TT} (h:PW X e t):PT X e t:=h _
def PA (X:Cx) (es:List Expr) (t:TA):Prop:=
 ∀ (pos:Pos) (pins:List (Addr×Obj)) (s:Shared) (σ:St) (H:Hp) (Q:List V->Hp->Prop),Inv X pins σ H s->t σ H Q->wpAny (model X.prog X.w) X.A (spliced (backTo pos (starEach es X.env))) (AP X pins σ Q) X.xe s
def PS (X:Cx) (st:Stmt) (t:TS):Prop:=
 ∀ (pins:List (Addr×Obj)) (s:Shared) (σ:St) (H:Hp) (D:Ends),Inv X pins σ H s->t D σ H->wpAny (model X.prog X.w) X.A (exec st X.env) (SP X pins D) X.xe s
def PSs (X:Cx) (st:List Stmt) (t:TS):Prop:=
 ∀ (pins:List (Addr×Obj)) (s:Shared) (σ:St) (H:Hp) (D:Ends),Inv X pins σ H s->t D σ H->wpAny (model X.prog X.w) X.A (execs st X.env) (SP X pins D) X.xe s
def thn {α:Type} {t:Sem α} {Q Q':α->Shared->Prop} {M:Model} {A:Around} {E:Value->Shared->Prop} {s:Shared} (h:wpAny M A t Q E s) (hQ:∀ a s,Q a s->Q' a s):wpAny M A t Q' E s:=wpAny_mono h hQ λ_ _ x=>x
section
variable {X:Cx}
def qln (i:Nat):TE:=λσ H Q=>∃ v,σ[i]?=some (some v)/\Q v H
def tC (v:V):TE:=λ_ H Q=>Q v H
def qhm {i:Nat} {x:Str} {pos:Pos} (hN:X.N[i]?=some x) (hv:Vis X.env.scope x) (hd:(x==("__debug__" : Str))=false:=by decide) (hcd:(x==("__classdict__" : Str))=false:=by decide):PE X (.Name x pos) (qln i):=by
 intro pins s σ H Q I h;obtain ⟨v,e,h⟩:=h;obtain ⟨m,hn,hl⟩:=I.loc;obtain ⟨u,r,l⟩:=hl i x v hN e hv;have fin:EP X pins σ Q u s:=⟨v,H,I,r,h⟩
 rcases l with ⟨hk,hm⟩|⟨hk,c,hc,hcell⟩
 ·exact wpAny_Name (wpAny_loadName_local I.ok.kind hk hn hm fin) hd
 ·rcases hk with hk|hk
  ·exact wpAny_Name (wpAny_loadName_cell I.ok.kind hk hc hcell fin) hd
  ·exact wpAny_Name (wpAny_loadName_free I.ok.kind hk hc hcell fin hcd) hd
def qgk {i j pos}:PE X (.Constant (.int i) j pos) (tC (.int i)):=λ_ _ _ H _ I h=>wpAny_Constant_int ⟨.int i,H,I.tok _,⟨_,rfl⟩,h⟩
def qjo {b j pos}:PE X (.Constant (.bool b) j pos) (tC (.bl b)):=λ_ _ _ H _ I h=>Constant_bool ⟨.bl b,H,I,rfl,h⟩
def qfK {j pos}:PE X (.Constant .none j pos) (tC .non):=λ_ _ _ H _ I h=>Constant_none ⟨.non,H,I,rfl,h⟩
def qhC {x j pos}:PE X (.Constant (.str x) j pos) (tC (.str x)):=λ_ _ _ H _ I h=>Calls.Constant_str ⟨.str x,H,I.tok _,⟨_,rfl⟩,h⟩
def Gl (X:Cx) (x:Str):Prop:=X.env.kindOf x=some .globalImplicit
def YH {E:Value->Shared->Prop} {pins:List (Addr×Obj)} {s:Shared} {σ:St} {H:Hp} {x:Str} {u:Value} {pos:Pos} {Q:Value->Shared->Prop} (I:Inv X pins σ H s) (hg:Gl X x) (hm:X.mg x=some u) (h:Q u s)
  (hd:(x==("__debug__" : Str))=false:=by decide):wpAny (model X.prog X.w) X.A (eval (.Name x pos) X.env) Q E s:=
 Calls.Name_function_global I.ok.kind hg (Calls.loadGlobal_global (by rw [I.ok.glob];exact I.mod.glob.keeps I.bk) hm h) hd
def QP {E:Value->Shared->Prop} {pins:List (Addr×Obj)} {s:Shared} {σ:St} {H:Hp} {x:Str} {u:Value} {pos:Pos} {Q:Value->Shared->Prop} (I:Inv X pins σ H s) (hg:Gl X x) (hm:X.mg x=none) (hv:bootBuiltins x=some u) (h:Q u s)
  (hn:x≠"__name__" := by decide) (hd:(x==("__debug__" : Str))=false:=by decide):wpAny (model X.prog X.w) X.A (eval (.Name x pos) X.env) Q E s:=by
 obtain ⟨mb,h1,h2⟩:=I.mod.blt;exact Calls.Name_function_global I.ok.kind hg (Calls.loadGlobal_builtin (by rw [I.ok.glob];exact I.mod.glob.keeps I.bk) hm (by rw [I.ok.blt];exact h1.keeps I.bk) ((h2 x hn).trans hv) h) hd
def qbC {x:Str} {v:V} {u:Value} {pos:Pos} (hg:Gl X x) (hm:X.mg x=some u) (r:zp v u) (hd:(x==("__debug__" : Str))=false:=by decide):PE X (.Name x pos) (tC v):=
 λ_ _ _ H _ I h=>YH I hg hm ⟨v,H,I,r,h⟩ hd
def RE {x:Str} {v:V} {u:Value} {pos:Pos} (hg:Gl X x) (hm:X.mg x=none) (hv:bootBuiltins x=some u) (r:zp v u) (hn:x≠"__name__" := by decide) (hd:(x==("__debug__" : Str))=false:=by decide):PE X (.Name x pos) (tC v):=
 λ_ _ _ H _ I h=>QP I hg hm hv ⟨v,H,I,r,h⟩ hn hd
variable {a b:Expr} {ta tb:TE} {pos:Pos}
def tB (t:TE):TT:=λσ H Q=>t σ H λx H1=>∃ c,x=.bl c/\Q c H1
def qfw {e:Expr} {t:TE} (h:PE X e t) (he:∀ whole,isTrue e X.env whole=(do let v←whole;standAt e.pos;holding [v] (truthy v)):=by intro _;rfl):PT X e (tB t):=by
 intro pins s σ H Q I hw;refine isTrue_plain (thn (h pins s σ H _ I hw) λv s1 ⟨x,H1,I1,r1,q1⟩=>?_) (he _);obtain ⟨d,rfl,q⟩:=q1;cases r1;exact wpAny_truthy_bool ⟨H1,I1,q⟩
variable {tA tB':TT} {QR:List Expr}
def tOr (t u:TT):TT:=λσ H Q=>t σ H λc H1=>if c=true then Q true H1 else u σ H1 Q
def qlu (t:TT):TT:=λσ H Q=>t σ H λc H1=>Q (!c) H1
def qeF (ha:PT X a tA):PW X (.BoolOp .Or [a] pos) tA:=by
 intro wh pins s σ H Q I h;refine isTrue_or (thn (ha pins s σ H Q I h) λc s1 e=>?_);cases c with
 |false=>exact isTrue_or_nil e
 |true=>exact e
def qjR (ha:PT X a tA) (hb:PW X (.BoolOp .Or (b::QR) pos) tB'):PW X (.BoolOp .Or (a::b::QR) pos) (tOr tA tB'):=by
 intro wh pins s σ H Q I h;refine isTrue_or (thn (ha pins s σ H _ I h) λc s1 ⟨H1,I1,q1⟩=>?_);cases c with
 |true=>exact ⟨H1,I1,q1⟩
 |false=>exact hb wh pins s1 σ H1 Q I1 q1
def qfR (ha:PT X a tA):PT X (.UnaryOp .Not a pos) (qlu tA):=by
 intro pins s σ H Q I h;exact isTrue_not (ha pins s σ H (λc H1=>Q (!c) H1) I h)
def qjI (ta tb:TE):TE:=λσ H Q=>ta σ H λx H1=>∃ c,x=.bl c/\if c=true then tb σ H1 Q else Q (.bl false) H1
def qiO (ta:TE):TE:=λσ H Q=>ta σ H λx H1=>∃ c,x=.bl c/\Q (.bl (!c)) H1
def qdL {op} {t:TE} (h:PE X a t):PE X (.BoolOp op [a] pos) t:=λpins s σ H Q I hw=>BoolOp_one (h pins s σ H Q I hw)
def qdE (ha:PE X a ta) (hb:PE X (.BoolOp .And (b::QR) pos) tb):PE X (.BoolOp .And (a::b::QR) pos) (qjI ta tb):=by
 intro pins s σ H Q I h;refine BoolOp_and (thn (ha pins s σ H _ I h) λv s1 ⟨x,H1,I1,r1,q1⟩=>?_);obtain ⟨c,rfl,q1⟩:=q1;cases r1;refine wpAny_truthy_bool ?_;cases c with
 |true=>exact hb pins s1 σ H1 Q I1 q1
 |false=>exact ⟨.bl false,H1,I1,rfl,q1⟩
def qgF (ha:PE X a ta):PE X (.UnaryOp .Not a pos) (qiO ta):=by
 intro pins s σ H Q I h;refine UnaryOp_ (thn (ha pins s σ H _ I h) λv s1 ⟨x,H1,I1,r1,q1⟩=>?_);obtain ⟨c,rfl,q1⟩:=q1;cases r1;exact not_of (wpAny_truthy_bool ⟨.bl (!c),H1,I1,rfl,q1⟩)
def tIf (t:TT) (ta tb:TE):TE:=λσ H Q=>t σ H λc H1=>if c=true then ta σ H1 Q else tb σ H1 Q
def KR {c:Expr} (hc:PT X c tA) (ha:PE X a ta) (hb:PE X b tb):PE X (.IfExp c a b pos) (tIf tA ta tb):=by
 intro pins s σ H Q I h;refine wpAny_IfExp (thn (hc pins s σ H _ I h) λd s1 ⟨H1,I1,q1⟩=>?_);cases d with
 |true=>exact ha pins s1 σ H1 Q I1 q1
 |false=>exact hb pins s1 σ H1 Q I1 q1
end
def SqL (K:Frg) (H:Hp) (a:Addr) (xs:List V):Prop:=
 Rd H a (.lst xs) ∨
  ∃ (o:Obj) (its:Array Value) (n:Nat),K.lookup a=some o/\o.cls=.type "list"/\o.dict=none/\o.data=.seq its n/\its.size<=sizeLine/\qF xs its.toList
def SqT (K:Frg) (H:Hp) (a:Addr) (xs:List V):Prop:=
 Rd H a (.tup xs) ∨
  ∃ (o:Obj) (its:Array Value) (n:Nat),K.lookup a=some o/\o.cls=.type "tuple"/\o.data=.seq its n/\its.size<=sizeLine/\qF xs its.toList/\o.dict=none
def qlm:Value->Option V
 |.none=>some .non
 |.bool b=>some (.bl b)
 |.int i _=>some (.int i)
 |.str x _=>some (.str x)
 |.bytes b _=>some (.byt b)
 |.float b _=>some (.flt b)
 |.ref a=>some (.ref a)
 |.type n=>some (.ty n)
 |_=>none
def zp.abs {x:V} {u:Value} (r:zp x u):qlm u=some x:=by
 cases x with
 |non=>cases r;rfl
 |bl _=>cases r;rfl
 |int _=>obtain ⟨t,rfl⟩:=r;rfl
 |str _=>obtain ⟨t,rfl⟩:=r;rfl
 |byt _=>obtain ⟨t,rfl⟩:=r;rfl
 |flt _=>obtain ⟨t,rfl⟩:=r;rfl
 |ref _=>cases r;rfl
 |ty _=>cases r;rfl
def zp.inj {x y:V} {u:Value} (r:zp x u) (q:zp y u):x=y:=Option.some.inj (r.abs.symm.trans q.abs)
def qF.inj:∀ {xs ys:List V} {us:List Value},qF xs us->qF ys us->xs=ys
 |_,_,_,.nil,.nil=>rfl
 |_,_,_,.cons r t,.cons r' t'=>by rw [r.inj r',qF.inj t t']
section
variable {X:Cx} {pins:List (Addr×Obj)} {σ:St} {H:Hp} {s:Shared} {a:Addr} {xs ys:List V}
def SqL.of {K:Frg} (h:H a=some (.lst xs)):SqL K H a xs:=.inl (.inl h)
def SqT.of {K:Frg} (h:H a=some (.tup xs)):SqT K H a xs:=.inl (.inl h)
def Inv.list (I:Inv X pins σ H s) (h:SqL X.K H a xs):∃ its:List Value,qF xs its/\PlainL s.heap a its.toArray/\xs.length<=sizeLine:=by
 rcases h with h|⟨o,its,n,hk,hc,hd,hs,hz,r⟩
 ·obtain ⟨z,its,n,r,e⟩:=h.ok I.hok;exact ⟨its,r,⟨_,n,e,rfl,rfl,rfl⟩,z⟩
 ·refine ⟨its.toList,r,⟨o,n,I.kIn a o hk,hc,hd,by simpa using hs⟩,?_⟩;have e:=r.length;simp only [Array.length_toList] at e;omega
def Inv.tuple (I:Inv X pins σ H s) (h:SqT X.K H a xs):∃ its:List Value,qF xs its/\IsTup s.heap a its.toArray/\xs.length<=sizeLine:=by
 rcases h with h|⟨o,its,n,hk,hc,hs,hz,r,_⟩
 ·obtain ⟨z,its,r,p⟩:=h.ok I.hok;exact ⟨its,r,p.tup,z⟩
 ·refine ⟨its.toList,r,⟨o,I.kIn a o hk,hc,n,by simpa using hs⟩,?_⟩;have e:=r.length;simp only [Array.length_toList] at e;omega
def Inv.tupleN (I:Inv X pins σ H s) (h:SqT X.K H a xs):∃ its:List Value,qF xs its/\j6 s.heap a its.toArray/\xs.length<=sizeLine:=by
 rcases h with h|⟨o,its,n,hk,hc,hs,hz,r,dd⟩
 ·obtain ⟨z,its,r,p⟩:=h.ok I.hok;exact ⟨its,r,p,z⟩
 ·refine ⟨its.toList,r,⟨o,I.kIn a o hk,hc,n,by simpa using hs,dd⟩,?_⟩;have e:=r.length;simp only [Array.length_toList] at e;omega
def Inv.list_inj (I:Inv X pins σ H s) (h:SqL X.K H a xs) (h':SqL X.K H a ys):xs=ys:=by
 obtain ⟨its,r,⟨o,n,e,_,_,d⟩,_⟩:=I.list h;obtain ⟨its',r',⟨o',n',e',_,_,d'⟩,_⟩:=I.list h';rw [e] at e';cases e';rw [d] at d';injection d' with d1 _;have:its=its':=by simpa using congrArg Array.toList d1
 subst this;exact r.inj r'
def Inv.tuple_inj (I:Inv X pins σ H s) (h:SqT X.K H a xs) (h':SqT X.K H a ys):xs=ys:=by
 obtain ⟨its,r,⟨o,e,_,n,d⟩,_⟩:=I.tuple h;obtain ⟨its',r',⟨o',e',_,n',d'⟩,_⟩:=I.tuple h';rw [e] at e';cases e';rw [d] at d';injection d' with d1 _;have:its=its':=by simpa using congrArg Array.toList d1
 subst this;exact r.inj r'
end
abbrev Cx.wish (X:Cx) (E:Value->Shared->Prop):Cx:={ X with xe:=E }
abbrev Cx.nox (X:Cx):Cx:=X.wish λ_ _=>False
def Cx.Ok.wish {X:Cx} (ok:X.Ok) (E:Value->Shared->Prop):(X.wish E).Ok:=
 ⟨ok.mod,ok.kind,ok.glob,ok.blt,ok.above,ok.inj,ok.has,ok.cab,ok.hd,ok.frames,ok.stk,ok.exf,ok.bs,ok.bsz,ok.noex,ok.exfs,ok.funs,ok.frf⟩
def Cx.Ok.unwish {X:Cx} {E:Value->Shared->Prop} (ok:(X.wish E).Ok):X.Ok:=
 ⟨ok.mod,ok.kind,ok.glob,ok.blt,ok.above,ok.inj,ok.has,ok.cab,ok.hd,ok.frames,ok.stk,ok.exf,ok.bs,ok.bsz,ok.noex,ok.exfs,ok.funs,ok.frf⟩
section
variable {X:Cx} {pins:List (Addr×Obj)} {σ:St} {H:Hp} {s:Shared} {E:Value->Shared->Prop}
def Inv.wish (I:Inv X pins σ H s) (E:Value->Shared->Prop):Inv (X.wish E) pins σ H s:=⟨I.ok.wish E,I.os,I.bare,I.base,I.loc,I.cell,I.free,I.freeC,I.pin,I.hok,I.len⟩
def Inv.unwish (I:Inv (X.wish E) pins σ H s):Inv X pins σ H s:=⟨I.ok.unwish,I.os,I.bare,I.base,I.loc,I.cell,I.free,I.freeC,I.pin,I.hok,I.len⟩
def SP.unwish {D:Ends} {f:Flow} {s':Shared} (h:SP (X.wish E) pins D f s'):SP X pins D f s':=by
 cases f with
 |next=>obtain ⟨σ',H',I,q⟩:=h;exact ⟨σ',H',I.unwish,q⟩
 |brk=>obtain ⟨σ',H',I,q⟩:=h;exact ⟨σ',H',I.unwish,q⟩
 |cont=>obtain ⟨σ',H',I,q⟩:=h;exact ⟨σ',H',I.unwish,q⟩
 |ret u=>obtain ⟨v,σ',H',I,r,q⟩:=h;exact ⟨v,σ',H',I.unwish,r,q⟩
def PSs.nox {st:List Stmt} {t:TS} (h:PSs X.nox st t):PSs X st t:=λpins s σ H D I hw=>
 wpAny_mono (h pins s σ H D (I.wish _) hw) (λ_ _ q=>q.unwish) λ_ _ z=>False.elim z
end
section
variable {X:Cx} {st:Stmt} {QR:List Stmt} {t u:TS} {e:Expr} {te:TE} {pos:Pos}
def qjM:TS:=λD σ H=>D.nx σ H
def qly (t u:TS):TS:=λD σ H=>t { D with nx:=u D } σ H
def qcv:PSs X [] qjM:=λ_ _ σ H _ I h=>wpAny_execs_nil ⟨σ,H,I,h⟩
def LW (h1:PS X st t) (h2:PSs X QR u):PSs X (st::QR) (qly t u):=by
 intro pins s σ H D I h;refine wpAny_execs_cons (thn (h1 pins s σ H { D with nx:=u D } I h) λf s1 q=>?_);cases f with
 |next=>
  obtain ⟨σ',H',I',q⟩:=q;exact h2 pins s1 σ' H' D I' q
 |ret v=>exact q
 |brk=>exact q
 |cont=>exact q
def CQ (h1:PS X st t):PSs X [st] t:=by
 intro pins s σ H D I h;refine wpAny_execs_cons (thn (h1 pins s σ H D I h) λf s1 q=>?_);cases f with
 |next=>exact wpAny_execs_nil q
 |ret v=>exact q
 |brk=>exact q
 |cont=>exact q
def Inv.quiet {pins:List (Addr×Obj)} {σ:St} {H:Hp} {s:Shared} (I:Inv X pins σ H s):interactive X.env=false:=by simp [interactive,I.ok.kind]
def qjS (te:TE):TS:=λD σ H=>te σ H λ_ H1=>D.nx σ H1
def qbX (he:PE X e te) (hs:swapsWith e none pos.line X.env=pure false:=by rfl):PS X (.Expr e pos) (qjS te):=by
 intro pins s σ H D I h;exact wpAny_Expr_any (thn (he pins s σ H _ I h) λv s1 ⟨x,H1,I1,r1,q1⟩=>⟨σ,H1,I1,q1⟩) I.quiet hs
def qlB (te:TE):TS:=λD σ H=>te σ H D.rt
def qdP (he:PE X e te):PS X (.Return (some e) pos) (qlB te):=by
 intro pins s σ H D I h;exact wpAny_Return_some (thn (he pins s σ H _ I h) λv s1 ⟨x,H1,I1,r1,q1⟩=>⟨x,σ,H1,I1,r1,q1⟩)
def qlT (c:TT) (t u:TS):TS:=λD σ H=>c σ H λb H1=>if b=true then t D σ H1 else u D σ H1
def qiE {c:Expr} {a b:List Stmt} {tc:TT} (hc:PT X c tc) (ha:PSs X a t) (hb:PSs X b u):PS X (.If c a b pos) (qlT tc t u):=by
 intro pins s σ H D I h;refine wpAny_If (thn (hc pins s σ H _ I h) λd s1 ⟨H1,I1,q1⟩=>?_);cases d with
 |true=>exact ha pins s1 σ H1 D I1 q1
 |false=>exact hb pins s1 σ H1 D I1 q1
end
abbrev TG:=V->St->Hp->(St->Hp->Prop)->Prop
abbrev TGs:=List V->St->Hp->(St->Hp->Prop)->Prop
def PG (X:Cx) (target:Expr) (t:TG):Prop:=
 ∀ (pins:List (Addr×Obj)) (s:Shared) (σ:St) (H:Hp) (v:V) (u:Value) (Q:St->Hp->Prop),Inv X pins σ H s->zp v u->t v σ H Q ->
  wpAny (model X.prog X.w) X.A (assign target X.env u) (λ_ s'=>∃ σ' H',Inv X pins σ' H' s'/\Q σ' H') X.xe s
def PGs (X:Cx) (ts:List Expr) (t:TGs):Prop:=
 ∀ (pins:List (Addr×Obj)) (s:Shared) (σ:St) (H:Hp) (vs:List V) (us:List Value) (Q:St->Hp->Prop),Inv X pins σ H s->qF vs us->t vs σ H Q ->
  wpAny (model X.prog X.w) X.A (assignInOrder ((assignEach ts X.env).map (·.2)) us) (λ_ s'=>∃ σ' H',Inv X pins σ' H' s'/\Q σ' H') X.xe s
abbrev qjf:=V->V->V->Hp->(Hp->Prop)->Prop
def qli (X:Cx) (t:qjf):Prop:=
 ∀ (pins:List (Addr×Obj)) (s:Shared) (σ:St) (H:Hp) (o i v:V) (ov iv u:Value) (Q:Hp->Prop),Inv X pins σ H s->zp o ov->zp i iv->zp v u->t o i v H Q ->
  wpAny (model X.prog X.w) X.A (setItem ov iv u) (λ_ s'=>∃ H',Inv X pins σ H' s'/\Q H') X.xe s
section
variable {X:Cx} {pos:Pos}
def qc3 (i:Nat):TG:=λv σ H Q=>Q (σ.set i (some v)) H
def qcp {i:Nat} {x:Str} (hN:X.N.Nodup) (hi:X.N[i]?=some x) (hx:Loc X.env.scope x) (hf:X.fn x=true\/X.env.scope.names.lookup x=some .local:=by first|exact .inl rfl|exact .inr rfl|assumption):PG X (.Name x pos) (qc3 i):=by
 intro pins s σ H v u Q I r h;exact wpAny_assign_Name (ZI I hN hi hx r (λs' I'=>⟨_,H,I',h⟩) hf)
def qdf:TGs:=λvs σ H Q=>vs=[]/\Q σ H
def UA (t:TG) (u:TGs):TGs:=λvs σ H Q=>∃ v r,vs=v::r/\t v σ H λσ' H'=>u r σ' H' Q
def qb5:PGs X [] qdf:=by
 intro pins s σ H vs us Q I r h;obtain ⟨e,h⟩:=h;subst e;cases r;exact assignInOrder_nil ⟨σ,H,I,h⟩
def MB {e:Expr} {es:List Expr} {t:TG} {u:TGs} (h1:PG X e t) (h2:PGs X es u)
  (hs:(assignEach (e::es) X.env).map (·.2)=assign e X.env::(assignEach es X.env).map (·.2):=by rfl):PGs X (e::es) (UA t u):=by
 intro pins s σ H vs us Q I r h;obtain ⟨v,vr,e1,h⟩:=h;subst e1;cases r with
 |cons r rr=>
  rw [hs];refine assignInOrder_cons (thn (h1 pins s σ H _ _ _ I r h) λ_ s1 ⟨σ1,H1,I1,q1⟩=>?_);exact h2 pins s1 σ1 H1 _ _ Q I1 rr q1
def qdj (K:Frg) (n:Nat) (t:TGs):TG:=λv σ H Q=>∃ a xs,v=.ref a/\SqT K H a xs/\xs.length=n/\t xs σ H Q
def qgr {es:List Expr} {k:Nat} {t:TGs} {n:Nat} (hc:X.calm=true) (h:PGs X es t)
  (hn:(assignEach es X.env).length=n:=by rfl) (hst:(assignEach es X.env).findIdx? (·.1)=none:=by rfl):PG X (.Tuple es k pos) (qdj X.K n t):=by
 intro pins s σ H v u Q I r hw;obtain ⟨a,xs,e1,hq,hl,hw⟩:=hw;subst e1;cases r;obtain ⟨its,rv,ht,hz⟩:=I.tuple hq;refine assign_Tuple_tuple (I.ok.hd hc) ht (by simp [hn,← hl,rv.length]) hst λh' hx=>?_;have I1:Inv X pins σ H { s with heap:=h' }:=I.kept (t':=s.toks) λb o e=>hx b o (Nat.ne_of_lt (Heap.lt_size e)) e;exact h pins _ σ H xs _ Q I1 (by simpa using rv) hw
def qlv (to ti:TE) (t:qjf):TG:=λv σ H Q=>to σ H λo H1=>ti σ H1 λi H2=>t o i v H2 λH3=>Q σ H3
def qgD {o i:Expr} {to ti:TE} {t:qjf} (ho:PE X o to) (hi:PE X i ti) (hs:qli X t)
  (ha:∀ v,assign (.Subscript o i pos) X.env v=(do
   let ov←holding [v] (eval o X.env)
   let iv←holding [v,ov] (eval i X.env)
   standAt pos
   holding [v,ov,iv] (setItem ov iv v)
   release [v,ov,iv] []):=by intro _;rfl):PG X (.Subscript o i pos) (qlv to ti t):=by
 intro pins s σ H v u Q I r h;rw [ha];refine wpAny_bind (wpAny_holding (thn (ho pins s σ H _ I h) λov s1 ⟨x,H1,I1,r1,q1⟩=>?_));refine wpAny_bind (wpAny_holding (thn (hi pins s1 σ H1 _ I1 q1) λiv s2 ⟨y,H2,I2,r2,q2⟩=>?_));refine wpAny_bind (wpAny_standAt (wpAny_bind (wpAny_holding (thn (hs pins s2 σ H2 x y v ov iv u _ I2 r1 r2 r q2) λ_ s3 ⟨H3,I3,q3⟩=>?_))));exact wpAny_release ⟨σ,H3,I3,q3⟩
def qkB (te:TE) (g:TG):TS:=λD σ H=>te σ H λx H1=>g x σ H1 D.nx
def qdR {tg e:Expr} {te:TE} {g:TG} (he:PE X e te) (hg:PG X tg g) (hs:swapsWithSole [tg] e pos.line X.env=pure false:=by rfl) (hw:swappedStores [tg] e X.env=pure none:=by rfl)
  (h1:(assignEach [tg] X.env).map (·.2)=[assign tg X.env]:=by rfl):PS X (.Assign [tg] e pos) (qkB te g):=by
 intro pins s σ H D I h;refine wpAny_Assign_stores (thn (he pins s σ H _ I h) λv s1 ⟨x,H1,I1,r1,q1⟩=>?_) hs hw;rw [h1];exact thn (hg pins s1 σ H1 x v _ I1 r1 q1) λ_ s2 q=>q
def qaq {i:Nat} {x:Str} {e:Expr} {te:TE} {pos':Pos} (hN:X.N.Nodup) (hi:X.N[i]?=some x) (hx:Loc X.env.scope x) (he:PE X e te) (hs:swapsWith e (some (.Name x pos')) pos.line X.env=pure false:=by rfl) (hf:X.fn x=true\/X.env.scope.names.lookup x=some .local:=by first|exact .inl rfl|exact .inr rfl|assumption) :
  PS X (.Assign [.Name x pos'] e pos) (qkB te (qc3 i)):=by
 intro pins s σ H D I h;refine wpAny_Assign_Name (thn (he pins s σ H _ I h) λv s1 ⟨y,H1,I1,r1,q1⟩=>?_) hs;exact ZI I1 hN hi hx r1 (λs2 I2=>⟨_,H1,I2,q1⟩) hf
def qlX (i j:Nat) (ta:TA):TS:=λD σ H=>ta σ H λvs H1=>∃ v w,vs=[v,w]/\D.nx ((σ.set i (some v)).set j (some w)) H1
def qhB {i j:Nat} {x y:Str} {a b:Expr} {ta:TA} {px py pt:Pos} {kt k2 pt2} (hc:X.calm=true) (hN:X.N.Nodup) (hi:X.N[i]?=some x) (hj:X.N[j]?=some y) (hij:i≠j)
  (hx:X.env.scope.names.lookup x=some .local) (hy:X.env.scope.names.lookup y=some .local) (ha:PA X [a,b] ta)
  (hw:swappedStores [.Tuple [.Name x px,.Name y py] kt pt] (.Tuple [a,b] k2 pt2) X.env=pure (some [x,y]))
  (hs:swapsWithSole [.Tuple [.Name x px,.Name y py] kt pt] (.Tuple [a,b] k2 pt2) pos.line X.env=pure false:=by rfl) :
  PS X (.Assign [.Tuple [.Name x px,.Name y py] kt pt] (.Tuple [a,b] k2 pt2) pos) (qlX i j ta):=by
 intro pins s σ H D I h;rw [exec_Assign_arm];refine wpAny_bind (wpAny_standAt ?_);rw [hs];refine wpAny_bind (wpAny_pure ?_);rw [if_neg (by decide)];refine wpAny_bind (Tuple_ (thn (ha _ pins s σ H _ I h) λus s1 ⟨vs,H1,I1,r1,q1⟩=>?_));obtain ⟨v,w,e1,q1⟩:=q1;subst e1;obtain ⟨u1,u2,rfl,rv,rw'⟩:∃ u1 u2,us=[u1,u2]/\zp v u1/\zp w u2:=by
  cases r1 with
  |cons p q=>
   cases q with
   |cons p' q'=>
    cases q';exact ⟨_,_,rfl,p,p'⟩
 refine wpAny_newObj_type ?_ (by show 2<=sizeLine;decide);have I2:Inv X pins σ H1 { s1 with heap:=s1.heap.push { cls:=.type "tuple",data:=.seq [u1,u2].toArray } }:=I1.kept (t':=s1.toks) λb o e=>Heap.get?_push_of_some _ e;rw [hw];refine wpAny_bind (wpAny_pure ?_);show wpAny (model X.prog X.w) X.A (do rule "assign.swapped-stores";let items←unpackItems (.ref s1.heap.objs.size) 2 none;assignInOrder [λv=>bindName X.env y v,λv=>bindName X.env x v] items.reverse;pure Flow.next) _ _ _;refine wpAny_bind (wpAny_rule (wpAny_bind (unpackItems_tuple (items:=#[u1,u2]) (I.ok.hd hc) (IsTup.new s1.heap _) λh' hx'=>?_)));have I3:=I2.kept (h':=h') (t':=s1.toks) λb o e=>hx' b o (Nat.ne_of_lt (Heap.lt_size e)) e;show wpAny _ _ (assignInOrder [λv=>bindName X.env y v,λv=>bindName X.env x v] [u2,u1] >>= λ_=>pure Flow.next) _ _ _;refine wpAny_bind (assignInOrder_cons (wpAny_bindName (ZI I3 hN hj (.inl hy) rw' (λs2 I4=>?_) (.inr hy))));refine assignInOrder_cons (wpAny_bindName (ZI I4 hN hi (.inl hx) rv (λs3 I5=>assignInOrder_nil (wpAny_pure ?_)) (.inr hx)));rw [List.set_comm _ _ (Ne.symm hij)] at I5;exact ⟨_,H1,I5,q1⟩
end
section
variable {X:Cx} {pos:Pos}
def qdS (c:TT) (tb:TS):TS:=λD σ H=>∃ W:Nat->St->Hp->Prop,(∃ m,W m σ H)/\∀ m σ H,W m σ H ->
 c σ H λb H1=>if b=true then ∃ N:St->Hp->Prop,(∀ σ' H',N σ' H'->∃ m',m'<m/\W m' σ' H')/\tb { D with nx:=N,ct:=N,bk:=D.nx } σ H1 else D.nx σ H1
def LL {c:Expr} {body:List Stmt} {tc:TT} {tb:TS} (hp:PassesOwn (model X.prog X.w) X.A X.env X.xe) (hc:PT X c tc) (hb:PSs X body tb):PS X (.While c body [] pos) (qdS tc tb):=by
 intro pins s σ H D I h;obtain ⟨W,⟨m0,w0⟩,turn⟩:=h;refine wpAny_While (codeAny_whileLoop (λn s'=>∃ σ' H',Inv X pins σ' H' s'/\W n σ' H') ?_ m0 ⟨σ,H,I,w0⟩);rintro n s1 ⟨σ1,H1,I1,w1⟩;refine wpAny_passesOwn hp (thn (hc pins s1 σ1 H1 _ I1 (turn n σ1 H1 w1)) λb s2 ⟨H2,I2,q2⟩=>?_);cases b with
 |true=>
  obtain ⟨N,hN,q2⟩:=q2;rw [if_pos rfl];refine wpAny_passesOwn hp (thn (hb pins s2 σ1 H2 _ I2 q2) λf s3 q3=>?_);cases f with
  |next=>
   obtain ⟨σ3,H3,I3,n3⟩:=q3;obtain ⟨m',hm,w3⟩:=hN σ3 H3 n3;exact ⟨m',hm,σ3,H3,I3,w3⟩
  |cont=>
   obtain ⟨σ3,H3,I3,n3⟩:=q3;obtain ⟨m',hm,w3⟩:=hN σ3 H3 n3;exact ⟨m',hm,σ3,H3,I3,w3⟩
  |brk=>exact q3
  |ret v=>exact q3
 |false=>
  rw [if_neg Bool.false_ne_true];exact wpAny_execs_nil ⟨σ1,H2,I2,q2⟩
end
structure It where
 go:Nat->Hp->Prop
 yld:Nat->Hp->V->Hp->Prop
 stop:Nat->Hp->Prop
def WP (X:Cx) (pins:List (Addr×Obj)) (H:Hp) (b:Addr):Prop:=
 H b=none/\b≠X.env.locals/\b∉X.fs/\(b∈X.ex\/X.s₀.heap.objs.size<=b)/\(∀ x c,X.env.cells.lookup x=some c->c≠b)/\∀ p∈X.pn++pins,p.1≠b
def Inv.fpOk {X:Cx} {pins:List (Addr×Obj)} {σ:St} {H H':Hp} {s:Shared} {b:Addr} (I:Inv X pins σ H s) (hb:s.heap.objs.size<=b) (hn:H' b=none):WP X pins H' b:=by
 refine ⟨hn,Nat.ne_of_gt (Nat.lt_of_lt_of_le I.lt hb),I.nofs hb,.inr (Nat.le_trans I.sz hb),λx c e z=>?_,λp hp z=>?_⟩
 ·obtain ⟨v,q⟩:=I.cell x c e;exact absurd (Nat.lt_of_lt_of_le q.lt (by rw [z];exact hb)) (Nat.lt_irrefl _)
 ·exact absurd (Nat.lt_of_lt_of_le (Heap.lt_size (I.pin p hp).1) (by rw [z];exact hb)) (Nat.lt_irrefl _)
structure Turn (P:Program) (w:World) (K:Frg) (tg:Expr) (J:It) (fp:List Addr) (it:Addr) (tn:Nat->Heap->Prop):Prop where
 mem:it∈fp
 obj:∀ i h,tn i h->∀ b∈fp,∃ o,h.get? b=some o/\∀ v,o.data≠.cell v
 keep:∀ i h h',tn i h->(∀ b∈fp,∀ o,h.get? b=some o->h'.get? b=some o)->tn i h'
 item:∀ (X:Cx),X.prog=P->X.w=w->X.K=K->X.calm=true->∀ (i:Nat) (pins:List (Addr×Obj)) (s:Shared) (σ:St) (H:Hp) (E:Value->Shared->Prop),Inv X pins σ H s->(∀ b∈fp,WP X pins H b)->tn i s.heap->J.go i H ->
  wpAny (model P w) X.A (pyNext (.ref it)) (λr s1=>∃ u,r=some u /\
   wpAny (model P w) X.A (letOwnedTupleGo tg (.ref it) u) (λ_ s2=>∃ x H',Inv X pins σ H' s2/\zp x u/\J.yld i H x H'/\tn (i+1) s2.heap/\∀ b∈fp,H' b=none) E s1) E s
 done:∀ (X:Cx),X.prog=P->X.w=w->X.K=K->X.calm=true->∀ (i:Nat) (pins:List (Addr×Obj)) (s:Shared) (σ:St) (H:Hp) (E:Value->Shared->Prop),Inv X pins σ H s->(∀ b∈fp,WP X pins H b)->tn i s.heap->J.stop i H ->
  wpAny (model P w) X.A (pyNext (.ref it)) (λr s1=>r=none/\Inv X pins σ H s1) E s
 self:∀ (A:Around) (i:Nat) (s:Shared) (Q:Value->Shared->Prop) (E:Value->Shared->Prop),tn i s.heap->Q (.ref it) s->wpAny (model P w) A (pyIter (.ref it)) Q E s
abbrev TI:=St->Hp->(It->Hp->Prop)->Prop
def PIE (X:Cx) (pins:List (Addr×Obj)) (σ:St) (tg:Expr) (R:It->Hp->Prop) (itv:Value) (s2:Shared):Prop:=
 ∃ (it:Addr) (fp:List Addr) (tn:Nat->Heap->Prop) (J:It) (H':Hp),itv=.ref it/\Inv X pins σ H' s2/\Turn X.prog X.w X.K tg J fp it tn/\tn 0 s2.heap/\(∀ b∈fp,WP X pins H' b)/\R J H'
def PI (X:Cx) (tg iter:Expr) (wi:TI):Prop:=
 ∀ (pins:List (Addr×Obj)) (s:Shared) (σ:St) (H:Hp) (R:It->Hp->Prop),Inv X pins σ H s->wi σ H R ->
  wpAny (model X.prog X.w) X.A (eval iter X.env) (λv s1=>wpAny (model X.prog X.w) X.A (pyIter v) (PIE X pins σ tg R) X.xe s1) X.xe s
def L9 {M:Model} {A:Around} {E:Value->Shared->Prop} {s:Shared} {tg:Expr} {it:Addr} {u:Value} {o:Obj} {n:String} {vs:Array Value} {Q:Unit->Shared->Prop} (ho:s.heap.get? it=some o) (hc:o.cls=.type n) (hd:o.data=.fields vs)
    (hn:["enumerate","zip","dict_itemiterator","dict_reverseitemiterator","odict_iterator","itertools.zip_longest","itertools.pairwise"].contains n=false) (hQ:Q () s):wpAny M A (letOwnedTupleGo tg (.ref it) u) Q E s:=by
  unfold letOwnedTupleGo;cases tg<;>first
    |exact wpAny_pure hQ
    | (cases u<;>first
        |exact wpAny_pure hQ
        | (refine wpAny_bind (wpAny_load ho ?_)
           rw [hc,hd];show wpAny M A (if (["enumerate","zip","dict_itemiterator","dict_reverseitemiterator","odict_iterator","itertools.zip_longest","itertools.pairwise"].contains n&&vs[0]?==some (rawInt _))=true then _ else _) Q E s;rw [if_neg (by intro h;rw [hn,Bool.false_and] at h;cases h)];exact wpAny_pure hQ))
def Itl (K:Frg) (a:Addr):It:=
 ⟨λi H=>∃ xs x,SqL K H a xs/\xs[i]?=some x,λi H x H'=>H'=H/\∀ xs,SqL K H a xs->xs[i]?=some x,λi H=>∃ xs,SqL K H a xs/\xs.length<=i⟩
def Itt (K:Frg) (a:Addr):It:=
 ⟨λi H=>∃ xs x,SqT K H a xs/\xs[i]?=some x,λi H x H'=>H'=H/\∀ xs,SqT K H a xs->xs[i]?=some x,λi H=>∃ xs,SqT K H a xs/\xs.length<=i⟩
def Itr (lo:Int) (n:Nat):It:=⟨λi _=>i<n,λi H x H'=>H'=H/\x=.int (lo+i),λi _=>n<=i⟩
def S0 {P:Program} {w:World} {K:Frg} {tg:Expr} (a it:Addr):Turn P w K tg (Itl K a) [it] it (λi h=>h.IsListIter it a i) where
 mem:=by simp
 obj:=λi h st b hb=>by
  have e:b=it:=by simpa using hb
  subst e;obtain ⟨o,e,c,d⟩:=st;exact ⟨o,e,λv z=>by rw [d] at z;cases z⟩
 keep:=λi h h' st k=>st.at λo e=>k it (by simp) o e
 item:=by
  intro X hP hw hK hc i pins s σ H E I hf st hg;subst hP hw hK;obtain ⟨xs,x,hq,hx⟩:=hg;obtain ⟨its,rv,p,hz⟩:=I.list hq;obtain ⟨u,hu,ru⟩:=rv.get hx;obtain ⟨f0,f1,f2,f3,f4,f5⟩:=hf it (by simp);refine wpAny_pyNext_list_item st p.isList (x:=u) (by simpa using hu) λh' st' sb=>?_;have I1:Inv X pins σ H { s with heap:=h' }:=I.turned (t':=s.toks) (λb o hb e=>(sb.2 b hb).trans e) f0 f1 f3 f4 f5;obtain ⟨o,e,c,d⟩:=id st';exact ⟨u,rfl,L9 (s:={ s with heap:=h' }) e c d (by decide) ⟨x,H,I1,ru,⟨rfl,λys hy=>by rw [I.list_inj hy hq];exact hx⟩,st',λb hb=>(hf b hb).1⟩⟩
 done:=by
  intro X hP hw hK hc i pins s σ H E I hf st hg;subst hP hw hK;obtain ⟨xs,hq,hx⟩:=hg;obtain ⟨its,rv,p,hz⟩:=I.list hq;obtain ⟨f0,f1,f2,f3,f4,f5⟩:=hf it (by simp);have hl:=rv.length;exact wpAny_pyNext_list_end (I.ok.hd hc) st p.isList (by simp;omega) λh' eb=>⟨rfl,I.turned (t':=s.toks) (λb o hb e=>eb b o hb e) f0 f1 f3 f4 f5⟩
 self:=λ_ _ _ _ _ st h=>wpAny_pyIter_listiter st h
def XV {P:Program} {w:World} {K:Frg} {tg:Expr} (a it:Addr):Turn P w K tg (Itt K a) [it] it (λi h=>h.IsTupleIter it a i) where
 mem:=by simp
 obj:=λi h st b hb=>by
  have e:b=it:=by simpa using hb
  subst e;obtain ⟨o,e,c,d⟩:=st;exact ⟨o,e,λv z=>by rw [d] at z;cases z⟩
 keep:=λi h h' st k=>st.at λo e=>k it (by simp) o e
 item:=by
  intro X hP hw hK hc i pins s σ H E I hf st hg;subst hP hw hK;obtain ⟨xs,x,hq,hx⟩:=hg;obtain ⟨its,rv,p,hz⟩:=I.tuple hq;obtain ⟨u,hu,ru⟩:=rv.get hx;obtain ⟨f0,f1,f2,f3,f4,f5⟩:=hf it (by simp);refine wpAny_pyNext_tuple_item st (show s.heap.IsTuple a its.toArray from p) (x:=u) (by simpa using hu) λh' st' sb=>?_;have I1:Inv X pins σ H { s with heap:=h' }:=I.turned (t':=s.toks) (λb o hb e=>(sb.2 b hb).trans e) f0 f1 f3 f4 f5;obtain ⟨o,e,c,d⟩:=id st';exact ⟨u,rfl,L9 (s:={ s with heap:=h' }) e c d (by decide) ⟨x,H,I1,ru,⟨rfl,λys hy=>by rw [I.tuple_inj hy hq];exact hx⟩,st',λb hb=>(hf b hb).1⟩⟩
 done:=by
  intro X hP hw hK hc i pins s σ H E I hf st hg;subst hP hw hK;obtain ⟨xs,hq,hx⟩:=hg;obtain ⟨its,rv,p,hz⟩:=I.tuple hq;obtain ⟨f0,f1,f2,f3,f4,f5⟩:=hf it (by simp);have hl:=rv.length;exact wpAny_pyNext_tuple_end (I.ok.hd hc) st (show s.heap.IsTuple a its.toArray from p) (by simp;omega) λh' eb=>⟨rfl,I.turned (t':=s.toks) (λb o hb e=>eb b o hb e) f0 f1 f3 f4 f5⟩
 self:=λ_ _ _ _ _ st h=>wpAny_pyIter_tupleiter st h
def XS {P:Program} {w:World} {K:Frg} {tg:Expr} (it:Addr) (lo:Int) (n:Nat):Turn P w K tg (Itr lo n) [it] it (λi h=>IsRangeIter h it (lo+(i:Nat)*1) ((n:Int)-(i:Nat)) 1) where
 mem:=by simp
 obj:=λi h st b hb=>by
  have e:b=it:=by simpa using hb
  subst e;exact ⟨_,st,λv z=>by
   have z':Data.fields _=Data.cell v:=z;cases z'⟩
 keep:=λi h h' st k=>k it (by simp) _ st
 item:=by
  intro X hP hw hK hc i pins s σ H E I hf st hg;subst hP hw hK;obtain ⟨f0,f1,f2,f3,f4,f5⟩:=hf it (by simp);have W:=Walks.range (prog:=X.prog) (w:=X.w) (I.ok.hd hc) it lo 1 n;refine W.item i s _ _ hg st λv h' tk hv st' kk=>?_;obtain ⟨t,rfl⟩:=hv;have I1:Inv X pins σ H { s with heap:=h',toks:=tk }:=I.turned (λb o hb e=>kk b o (by simpa using hb) e) f0 f1 f3 f4 f5;refine ⟨_,rfl,L9 (s:={ s with heap:=h',toks:=tk }) (n:="range_iterator") st' rfl rfl (by decide) ⟨.int (lo+i),H,I1,⟨t,?_⟩,⟨rfl,rfl⟩,st',λb hb=>(hf b hb).1⟩⟩;rw [Int.mul_one]
 done:=by
  intro X hP hw hK hc i pins s σ H E I hf st hg;subst hP hw hK;obtain ⟨f0,f1,f2,f3,f4,f5⟩:=hf it (by simp);exact wpAny_pyNext_range_end (I.ok.hd hc) st (by have:n<=i:=hg;omega) λh' eb=>⟨rfl,I.turned (t':=s.toks) (λb o hb e=>eb b o hb e) f0 f1 f3 f4 f5⟩
 self:=λ_ _ _ _ _ st h=>wpAny_pyIter_rangeiter st h
section
variable {X:Cx} {tg:Expr}
def KT {pins:List (Addr×Obj)} {σ:St} {H:Hp} {s:Shared} {R:It->Hp->Prop} {E:Value->Shared->Prop} {lo hi:Int} {t u v:Tok} {tk:Nat} (I:Inv X pins σ H s) (h1:-(2 ^ 62)<=lo) (h2:lo<2 ^ 62) (h3:-(2 ^ 62)<=hi) (h4:hi<2 ^ 62)
  (q:R (Itr lo (hi-lo).toNat) H):wpAny (model X.prog X.w) X.A (pyIter (.ref s.heap.objs.size)) (PIE X pins σ tg R) E { s with heap:=s.heap.push { cls:=.type "range",data:=.fields #[.int lo t,.int hi u,.int 1 v] },toks:=tk }:=by
 refine wpAny_pyIter_range (IsRange.new ..) (small_one h1 h2 h3 h4) ?_;have I1:Inv X pins σ H { s with heap:=s.heap.push { cls:=.type "range",data:=.fields #[.int lo t,.int hi u,.int 1 v] },toks:=tk }:=I.kept λb o e=>Heap.get?_push_of_some _ e;refine ⟨(s.heap.push { cls:=.type "range",data:=.fields #[.int lo t,.int hi u,.int 1 v] }).objs.size,[(s.heap.push { cls:=.type "range",data:=.fields #[.int lo t,.int hi u,.int 1 v] }).objs.size],_,_,H,rfl,
  I1.kept (t':=tk) λb o e=>Heap.get?_push_of_some _ e,XS _ lo (hi-lo).toNat,?_,λb hb=>?_,q⟩
 ·have e1:lo+((0:Nat):Int)*1=lo:=by simp
  have e2:(((hi-lo).toNat:Nat):Int)-((0:Nat):Int)=Builtin.Range.rangeSize lo hi 1:=by rw [rangeSize_one];split<;>omega
  show IsRangeIter _ _ (lo+((0:Nat):Int)*1) ((((hi-lo).toNat:Nat):Int)-((0:Nat):Int)) 1;rw [e1,e2];exact Heap.get?_push_size _ rfl
 ·have e:b=(s.heap.push { cls:=.type "range",data:=.fields #[.int lo t,.int hi u,.int 1 v] }).objs.size:=by simpa using hb
  subst e;exact I1.fpOk (Nat.le_refl _) (I1.hok.fresh (Nat.le_refl _))
def qiX (ta:TA):TI:=λσ H R=>ta σ H λvs H1=>∃ j:Int,vs=[.int j]/\-(2 ^ 62)<=j/\j<2 ^ 62/\R (Itr 0 j.toNat) H1
def CN {a:Expr} {ta:TA} {p pos:Pos} (hg:Gl X "range") (hm:X.mg "range" = none) (ha:PA X [a] ta) (hs:starEach [a] X.env=[(false,eval a X.env)]:=by rfl):PI X tg (.Call (.Name "range" p) [a] [] pos) (qiX ta):=by
 intro pins s σ H R I h;refine Call_ (QP I hg hm boot_range (PyProof.Rows.callWith_type1 (thn (ha pos pins s σ H _ I h) λus s1 ⟨vs,H1,I1,r1,q1⟩=>?_) hs rfl));obtain ⟨j,e,q1,q2,q⟩:=q1;subst e;cases r1 with
 |cons r rr=>
  cases rr;obtain ⟨t,rfl⟩:=r;exact call_range_1 (KT I1 (by omega) (by omega) q1 q2 (by simpa using q))
def qlr (wi:TI) (g:TG) (tb:TS):TS:=λD σ H=>wi σ H λJ H1=>∃ W:Nat->Nat->St->Hp->Prop,(∃ m,W 0 m σ H1)/\∀ i m σ H,W i m σ H ->
 (J.stop i H/\D.nx σ H)\/(J.go i H/\∃ N:St->Hp->Prop,(∀ σ' H',N σ' H'->∃ m',m'<m/\W (i+1) m' σ' H')/\∀ x H',J.yld i H x H'->g x σ H' λσ2 H2=>tb { D with nx:=N,ct:=N,bk:=D.nx } σ2 H2)
def VE (fp:List Addr) (h:Heap):List (Addr×Obj):=fp.filterMap λb=>(h.get? b).map λo=>(b,o)
def zO {fp:List Addr} {h:Heap} {b:Addr} {o:Obj} (hb:b∈fp) (e:h.get? b=some o):(b,o)∈VE fp h:=List.mem_filterMap.mpr ⟨b,hb,by rw [e];rfl⟩
def CJ {fp:List Addr} {h:Heap} {p:Addr×Obj} (hp:p∈VE fp h):p.1∈fp/\h.get? p.1=some p.2:=by
 obtain ⟨b,hb,e⟩:=List.mem_filterMap.mp hp;cases q:h.get? b with
 |none=>rw [q] at e;cases e
 |some o=>
  rw [q] at e;have e':(b,o)=p:=Option.some.inj e;subst e';exact ⟨hb,q⟩
def Inv.pinned {pins:List (Addr×Obj)} {σ:St} {H:Hp} {s:Shared} {fp:List Addr} (I:Inv X pins σ H s) (hf:∀ b∈fp,WP X pins H b) (ho:∀ b∈fp,∃ o,s.heap.get? b=some o/\∀ v,o.data≠.cell v):Inv X (pins++VE fp s.heap) σ H s:=
 I.pins_of λp hp=>(List.mem_append.mp hp).elim (λz=>I.pin p (mem_append_right _ z)) λz=>by
  obtain ⟨hb,e⟩:=CJ z;obtain ⟨f0,f1,f2,_⟩:=hf p.1 hb;obtain ⟨o,e',d⟩:=ho p.1 hb;rw [e] at e';cases e';exact ⟨e,f0,f1,f2,d⟩
def Inv.unpinned {pins pl:List (Addr×Obj)} {σ:St} {H:Hp} {s:Shared} (I:Inv X (pins++pl) σ H s):Inv X pins σ H s:=I.pins_of λp hp=>I.pin p (mem_append_right _ (List.mem_append_left _ hp))
def qgi {iter:Expr} {body:List Stmt} {wi:TI} {g:TG} {tb:TS} {pos:Pos} (hp:PassesOwn (model X.prog X.w) X.A X.env X.xe) (hc:X.calm=true) (hi:PI X tg iter wi) (hg:PG X tg g) (hb:PSs X body tb)
  (hs:∀ x,foldedSetIterable iter X.env x=pure x:=by intro _;rfl):PS X (.For tg iter body [] pos) (qlr wi g tb):=by
 intro pins s σ H D I h;refine wpAny_For (thn (hi pins s σ H _ I h) λv s1 h1=>thn h1 λitv s2 h2=>?_) hs;obtain ⟨it,fp,tn,J,H2,e,I2,T,st2,f2,W,⟨m0,w0⟩,turn⟩:=h2;subst e
 -- what stays true of the iterator's objects through the loop
 have stat:∀ {H':Hp},(∀ b∈fp,H' b=none)->∀ b∈fp,WP X pins H' b:=λhn b hb=>⟨hn b hb,(f2 b hb).2⟩
 refine codeAny_forLoop_any (λn s'=>∃ i σ' H',Inv X pins σ' H' s'/\tn i s'.heap/\(∀ b∈fp,H' b=none)/\W i n σ' H') ?_ m0 ⟨0,σ,H2,I2,st2,λb hb=>(f2 b hb).1,w0⟩;rintro n s3 ⟨i,σ3,H3,I3,st3,fr3,w3⟩;rcases turn i n σ3 H3 w3 with ⟨stop,qn⟩|⟨go,N,hN,step⟩
 ·refine wpAny_passesOwn hp (thn (T.done X rfl rfl rfl hc i pins s3 σ3 H3 X.xe I3 (stat fr3) st3 stop) λr s4 ⟨hr,I4⟩=>?_);subst hr;exact wpAny_execs_nil ⟨σ3,H3,I4,qn⟩
 ·refine wpAny_passesOwn hp (thn (T.item X rfl rfl rfl hc i pins s3 σ3 H3 X.xe I3 (stat fr3) st3 go) λr s4 ⟨u,hr,h4⟩=>?_);subst hr;refine wpAny_passesOwn hp (thn h4 λ_ s5 ⟨x,H5,I5,r5,y5,st5,fr5⟩=>?_);have I5':=I5.pinned (stat fr5) (T.obj _ _ st5);refine wpAny_passesOwn hp (thn (hg _ s5 σ3 H5 x u _ I5' r5 (step x H5 y5)) λ_ s6 ⟨σ6,H6,I6,q6⟩=>?_);refine wpAny_passesOwn hp (thn (hb _ s6 σ6 H6 _ I6 q6) λf s7 q7=>?_);have again:∀ {σ7:St} {H7:Hp},Inv X (pins++VE fp s5.heap) σ7 H7 s7->N σ7 H7->∃ m,m<n/\∃ i σ' H',Inv X pins σ' H' s7/\tn i s7.heap/\(∀ b∈fp,H' b=none)/\W i m σ' H':=λ{σ7 H7} I7 n7=>by
   obtain ⟨m',hm,w7⟩:=hN σ7 H7 n7;refine ⟨m',hm,i+1,σ7,H7,I7.unpinned,T.keep _ _ _ st5 λb hb o e=>(I7.pin (b,o) (mem_append_right _ (mem_append_right _ (zO hb e)))).1,λb hb=>?_,w7⟩;obtain ⟨o,e,d⟩:=T.obj _ _ st5 b hb;exact (I7.pin (b,o) (mem_append_right _ (mem_append_right _ (zO hb e)))).2.1
  cases f with
  |next=>obtain ⟨σ7,H7,I7,n7⟩:=q7;exact again I7 n7
  |cont=>obtain ⟨σ7,H7,I7,n7⟩:=q7;exact again I7 n7
  |brk=>obtain ⟨σ7,H7,I7,q7⟩:=q7;exact ⟨σ7,H7,I7.unpinned,q7⟩
  |ret v=>obtain ⟨x7,σ7,H7,I7,r7,q7⟩:=q7;exact ⟨x7,σ7,H7,I7.unpinned,r7,q7⟩
end
abbrev R2:=V->V->Hp->VK->Prop
def OpR (X:Cx) (f:Value->Value->Sem Value) (r:R2):Prop:=
 ∀ (pins:List (Addr×Obj)) (s:Shared) (σ:St) (H:Hp) (x y:V) (v u:Value) (Q:VK),Inv X pins σ H s->zp x v->zp y u->r x y H Q ->
  wpAny (model X.prog X.w) X.A (f v u) (EP X pins σ Q) X.xe s
def UnR (X:Cx) (f:Value->Sem Value) (r:V->Hp->VK->Prop):Prop:=
 ∀ (pins:List (Addr×Obj)) (s:Shared) (σ:St) (H:Hp) (x:V) (v:Value) (Q:VK),Inv X pins σ H s->zp x v->r x H Q ->
  wpAny (model X.prog X.w) X.A (f v) (EP X pins σ Q) X.xe s
def QN (X:Cx) (f:Value) (r:List V->Hp->VK->Prop):Prop:=
 ∀ (pins:List (Addr×Obj)) (s:Shared) (σ:St) (H:Hp) (xs:List V) (us:List Value) (Q:VK),Inv X pins σ H s->qF xs us->r xs H Q ->
  wpAny (model X.prog X.w) X.A (call f us) (EP X pins σ Q) X.xe s
def tOp (r:R2) (ta tb:TE):TE:=λσ H Q=>ta σ H λx H1=>tb σ H1 λy H2=>r x y H2 Q
def tUn (r:V->Hp->VK->Prop) (ta:TE):TE:=λσ H Q=>ta σ H λx H1=>r x H1 Q
def rI (C:Int->Int->Prop) (g:Int->Int->V):R2:=λx y H Q=>∃ i j,x=.int i/\y=.int j/\C i j/\Q (g i j) H
def rI0 (g:Int->Int->V):R2:=λx y H Q=>∃ i j,x=.int i/\y=.int j/\Q (g i j) H
def rU (g:Int->V):V->Hp->VK->Prop:=λx H Q=>∃ i,x=.int i/\Q (g i) H
section
variable {X:Cx} {a b c:Expr} {ta tb tc:TE} {pos:Pos}
def qiu (ha:PE X a ta) (hb:PE X b tb) {pins:List (Addr×Obj)} {s:Shared} {σ:St} {H:Hp} {R:V->V->Hp->Prop} (I:Inv X pins σ H s)
  (h:ta σ H λx H1=>tb σ H1 λy H2=>R x y H2) {Q:Value->Shared->Prop} {f:Value->Value->Sem Value}
  (hf:∀ v u s2 x y H2,Inv X pins σ H2 s2->zp x v->zp y u->R x y H2->wpAny (model X.prog X.w) X.A (f v u) Q X.xe s2) :
  wpAny (model X.prog X.w) X.A (eval a X.env) (λv s₁=>wpAny (model X.prog X.w) X.A (eval b X.env) (λu s₂=>wpAny (model X.prog X.w) X.A (f v u) Q X.xe s₂) X.xe s₁) X.xe s:=by
 refine thn (ha pins s σ H _ I h) λv s1 ⟨x,H1,I1,r1,q1⟩=>?_;refine thn (hb pins s1 σ H1 _ I1 q1) λu s2 ⟨y,H2,I2,r2,q2⟩=>?_;exact hf v u s2 x y H2 I2 r1 r2 q2
def qiA {op:Operator} {r:R2} (ho:OpR X (binaryOp op) r) (ha:PE X a ta) (hb:PE X b tb):PE X (.BinOp a op b pos) (tOp r ta tb):=by
 intro pins s σ H Q I h;exact wpAny_BinOp (qiu ha hb I h λv u s2 x y H2 I2 rx ry q=>ho pins s2 σ H2 x y v u Q I2 rx ry q)
def qii {op:UnaryOp} {r:V->Hp->VK->Prop} (ho:UnR X (unaryOp op) r) (ha:PE X a ta):PE X (.UnaryOp op a pos) (tUn r ta):=by
 intro pins s σ H Q I h;exact UnaryOp_ (thn (ha pins s σ H _ I h) λv s1 ⟨x,H1,I1,r1,q1⟩=>ho pins s1 σ H1 x v Q I1 r1 q1)
def opI {f:Value->Value->Sem Value} {C:Int->Int->Prop} {g:Int->Int->Int}
  (rule:∀ (i j:Int) (t u:Tok) (s:Shared) (Q:Value->Shared->Prop) (E:Value->Shared->Prop),C i j->Q (.int (g i j) s.toks) { s with toks:=s.toks+1 }->wpAny (model X.prog X.w) X.A (f (.int i t) (.int j u)) Q E s) :
  OpR X f (rI C λi j=>.int (g i j)):=by
 intro pins s σ H x y v u Q I rx ry h;obtain ⟨i,j,rfl,rfl,hc,q⟩:=h;obtain ⟨t,rfl⟩:=rx;obtain ⟨t',rfl⟩:=ry;exact rule i j t t' s _ _ hc ⟨.int (g i j),H,I.tok _,⟨_,rfl⟩,q⟩
def qkt {f:Value->Value->Sem Value} {g:Int->Int->Int}
  (rule:∀ (i j:Int) (t u:Tok) (s:Shared) (Q:Value->Shared->Prop) (E:Value->Shared->Prop),Q (.int (g i j) s.toks) { s with toks:=s.toks+1 }->wpAny (model X.prog X.w) X.A (f (.int i t) (.int j u)) Q E s) :
  OpR X f (rI0 λi j=>.int (g i j)):=by
 intro pins s σ H x y v u Q I rx ry h;obtain ⟨i,j,rfl,rfl,q⟩:=h;obtain ⟨t,rfl⟩:=rx;obtain ⟨t',rfl⟩:=ry;exact rule i j t t' s _ _ ⟨.int (g i j),H,I.tok _,⟨_,rfl⟩,q⟩
def qjU {f:Value->Value->Sem Value} {g:Int->Int->Bool}
  (rule:∀ (i j:Int) (t u:Tok) (s:Shared) (Q:Value->Shared->Prop) (E:Value->Shared->Prop),Q (.bool (g i j)) s->wpAny (model X.prog X.w) X.A (f (.int i t) (.int j u)) Q E s) :
  OpR X f (rI0 λi j=>.bl (g i j)):=by
 intro pins s σ H x y v u Q I rx ry h;obtain ⟨i,j,rfl,rfl,q⟩:=h;obtain ⟨t,rfl⟩:=rx;obtain ⟨t',rfl⟩:=ry;exact rule i j t t' s _ _ ⟨.bl (g i j),H,I,rfl,q⟩
def EB (i j:Int):Prop:=0<j/\j<1073741824
def qf4 (i j:Int):Prop:=0<=j/\j<=1000000/\i.natAbs<2 ^ 64
def UP (i j:Int):Prop:=(-(2 ^ 64)<i/\i<2 ^ 64)\/(-(2 ^ 64)<j/\j<2 ^ 64)
def UP.ok {i j:Int} (h:UP i j):IntMulOk i j:=by
 rcases h with ⟨h1,h2⟩|⟨h1,h2⟩
 ·exact .of_left (intBits_le_64 h1 h2)
 ·exact .of_right (intBits_le_64 h1 h2)
def NV:OpR X (binaryOp .Add) (rI0 λi j=>.int (i+j)):=qkt λ_ _ _ _ _ _ _ q=>add_int q
def qhF:OpR X (binaryOp .Sub) (rI0 λi j=>.int (i-j)):=qkt λ_ _ _ _ _ _ _ q=>sub_int q
def qdu:OpR X (binaryOp .Mult) (rI UP λi j=>.int (i*j)):=opI λ_ _ _ _ _ _ _ hc q=>mul_int q hc.ok
def qcj:OpR X (binaryOp .FloorDiv) (rI EB λi j=>.int (i/j)):=opI λi j _ _ _ _ _ hc q=>by
 have h1:(0:Int)<j:=hc.1;have h2:j<1073741824:=hc.2;exact floordiv_int (by omega) (by rw [Int.fdiv_eq_ediv_of_nonneg i (by omega)];exact q) (.inl (PyProof.noPylong_small (by omega)))
def qe5:OpR X (binaryOp .Mod) (rI (λ_ j=>0<j) λi j=>.int (i%j)):=opI λi j _ _ _ _ _ hc q=>by
 have h1:(0:Int)<j:=hc;exact mod_int' (by omega) (by rw [Int.fmod_eq_emod_of_nonneg i (by omega)];exact q)
def qg4:OpR X (binaryOp .Pow) (rI qf4 λi j=>.int (i ^ j.toNat)):=opI λ_ _ _ _ _ _ _ hc q=>pow_int_small hc.1 hc.2.1 hc.2.2 q
def qdW:OpR X (binaryOp .BitXor) (rI0 λi j=>.int (Builtin.bitXor i j)):=qkt λ_ _ _ _ _ _ _ q=>xor_int q
def unI {f:Value->Sem Value} {g:Int->Int}
  (rule:∀ (i:Int) (t:Tok) (s:Shared) (Q:Value->Shared->Prop) (E:Value->Shared->Prop),Q (.int (g i) s.toks) { s with toks:=s.toks+1 }->wpAny (model X.prog X.w) X.A (f (.int i t)) Q E s) :
  UnR X f (rU λi=>.int (g i)):=by
 intro pins s σ H x v Q I rx h;obtain ⟨i,rfl,q⟩:=h;obtain ⟨t,rfl⟩:=rx;exact rule i t s _ _ ⟨.int (g i),H,I.tok _,⟨_,rfl⟩,q⟩
def qeC:UnR X (unaryOp .USub) (rU λi=>.int (-i)):=unI λ_ _ _ _ _ q=>neg_int q
end
def qjY:V->V->Bool
 |.non,.non=>true|.non,.int _=>true|.int _,.non=>true|.non,.bl _=>true|.bl _,.non=>true|.non,.str _=>true|.str _,.non=>true
 |.int _,.int _=>true|.bl _,.bl _=>true|.str _,.str _=>true|.byt _,.byt _=>true
 |.int _,.str _=>true|.str _,.int _=>true|.bl _,.str _=>true|.str _,.bl _=>true
 |_,_=>false
def rEq:R2:=λx y H Q=>qjY x y=true/\Q (.bl (decide (x=y))) H
def rNe:R2:=λx y H Q=>qjY x y=true/\Q (.bl (!decide (x=y))) H
def KJ {i j:Int}:decide (V.int i=V.int j)=(i==j):=by
 rw [Bool.eq_iff_iff];simp
def NE {i j:Bool}:decide (V.bl i=V.bl j)=(i==j):=by
 rw [Bool.eq_iff_iff];simp
def RY {i j:Str}:decide (V.str i=V.str j)=(i==j):=by
 rw [Bool.eq_iff_iff];simp
def TX {i j:Array UInt8}:decide (V.byt i=V.byt j)=(i.toList==j.toList):=by
 rw [Bool.eq_iff_iff];cases i;cases j;simp
section
variable {X:Cx} {a b c:Expr} {ta tb tc:TE} {pos:Pos}
def qw {pins:List (Addr×Obj)} {σ:St} {H:Hp} {s:Shared} {Q:VK} {k k':Bool} (I:Inv X pins σ H s) (q:Q (.bl k) H) (e:k=k'):EP X pins σ Q (.bool k') s:=by
 subst e;exact ⟨.bl k,H,I,rfl,q⟩
def qjJ:OpR X (compareOp .Eq) rEq:=by
 intro pins s σ H x y v u Q I rx ry h;obtain ⟨hs,q⟩:=h;cases x with
 |non=>
  cases rx;cases y with
  |non=>cases ry;exact PySem.EqNone.eq_none_none (qw I q (by simp))
  |bl j=>cases ry;exact PySem.EqNone.eq_none_bool (qw I q (by simp))
  |int j=>obtain ⟨t',rfl⟩:=ry;exact PySem.EqNone.eq_none_int (qw I q (by simp))
  |str j=>obtain ⟨t',rfl⟩:=ry;exact PySem.EqNone.eq_none_str (qw I q (by simp))
  |_=>exact absurd (show false=true from hs) Bool.false_ne_true
 |bl i=>
  cases rx;cases y with
  |non=>cases ry;exact PySem.EqNone.eq_bool_none (qw I q (by simp))
  |bl j=>cases ry;exact eq_bool (qw I q NE)
  |str j=>obtain ⟨t',rfl⟩:=ry;exact PySem.EqMixed.eq_bool_str (qw I q (by simp))
  |_=>exact absurd (show false=true from hs) Bool.false_ne_true
 |int i=>
  obtain ⟨t,rfl⟩:=rx;cases y with
  |non=>cases ry;exact PySem.EqNone.eq_int_none (qw I q (by simp))
  |int j=>obtain ⟨t',rfl⟩:=ry;exact eq_int (qw I q KJ)
  |str j=>obtain ⟨t',rfl⟩:=ry;exact PySem.EqMixed.eq_int_str (qw I q (by simp))
  |_=>exact absurd (show false=true from hs) Bool.false_ne_true
 |str i=>
  obtain ⟨t,rfl⟩:=rx;cases y with
  |non=>cases ry;exact PySem.EqNone.eq_str_none (qw I q (by simp))
  |bl j=>cases ry;exact PySem.EqMixed.eq_str_bool (qw I q (by simp))
  |int j=>obtain ⟨t',rfl⟩:=ry;exact PySem.EqMixed.eq_str_int (qw I q (by simp))
  |str j=>obtain ⟨t',rfl⟩:=ry;exact eq_str (qw I q RY)
  |_=>exact absurd (show false=true from hs) Bool.false_ne_true
 |byt i=>
  obtain ⟨t,rfl⟩:=rx;cases y with
  |byt j=>obtain ⟨t',rfl⟩:=ry;exact PySem.W.eq_bytes (qw I q TX)
  |_=>exact absurd (show false=true from hs) Bool.false_ne_true
 |_=>cases y<;>exact absurd (show false=true from hs) Bool.false_ne_true
def qix:OpR X (compareOp .NotEq) rNe:=by
 intro pins s σ H x y v u Q I rx ry h;obtain ⟨hs,q⟩:=h;cases x with
 |non=>
  cases rx;cases y with
  |non=>cases ry;exact PySem.EqNone.ne_none_none (qw I q (by simp))
  |bl j=>cases ry;exact PySem.EqNone.ne_none_bool (qw I q (by simp))
  |int j=>obtain ⟨t',rfl⟩:=ry;exact PySem.EqNone.ne_none_int (qw I q (by simp))
  |str j=>obtain ⟨t',rfl⟩:=ry;exact PySem.EqNone.ne_none_str (qw I q (by simp))
  |_=>exact absurd (show false=true from hs) Bool.false_ne_true
 |bl i=>
  cases rx;cases y with
  |non=>cases ry;exact PySem.EqNone.ne_bool_none (qw I q (by simp))
  |bl j=>cases ry;exact ne_bool (qw I q (congrArg not NE))
  |str j=>obtain ⟨t',rfl⟩:=ry;exact PySem.EqMixed.ne_bool_str (qw I q (by simp))
  |_=>exact absurd (show false=true from hs) Bool.false_ne_true
 |int i=>
  obtain ⟨t,rfl⟩:=rx;cases y with
  |non=>cases ry;exact PySem.EqNone.ne_int_none (qw I q (by simp))
  |int j=>obtain ⟨t',rfl⟩:=ry;exact ne_int (qw I q (congrArg not KJ))
  |str j=>obtain ⟨t',rfl⟩:=ry;exact PySem.EqMixed.ne_int_str (qw I q (by simp))
  |_=>exact absurd (show false=true from hs) Bool.false_ne_true
 |str i=>
  obtain ⟨t,rfl⟩:=rx;cases y with
  |non=>cases ry;exact PySem.EqNone.ne_str_none (qw I q (by simp))
  |bl j=>cases ry;exact PySem.EqMixed.ne_str_bool (qw I q (by simp))
  |int j=>obtain ⟨t',rfl⟩:=ry;exact PySem.EqMixed.ne_str_int (qw I q (by simp))
  |str j=>obtain ⟨t',rfl⟩:=ry;exact ne_str (qw I q (congrArg not RY))
  |_=>exact absurd (show false=true from hs) Bool.false_ne_true
 |byt i=>
  obtain ⟨t,rfl⟩:=rx;cases y with
  |byt j=>obtain ⟨t',rfl⟩:=ry;exact PySem.W.ne_bytes (qw I q (congrArg not TX))
  |_=>exact absurd (show false=true from hs) Bool.false_ne_true
 |_=>cases y<;>exact absurd (show false=true from hs) Bool.false_ne_true
def qbT:OpR X (compareOp .Lt) (rI0 λi j=>.bl (decide (i<j))):=qjU λ_ _ _ _ _ _ _ q=>lt_int q
def qil:OpR X (compareOp .Gt) (rI0 λi j=>.bl (decide (j<i))):=qjU λ_ _ _ _ _ _ _ q=>gt_int q
def qki:OpR X (compareOp .GtE) (rI0 λi j=>.bl (decide (j<=i))):=qjU λ_ _ _ _ _ _ _ q=>ge_int q
def qbp:OpR X (compareOp .Is) (λx y H Q=>y=.non/\Q (.bl (decide (x=.non))) H):=by
 intro pins s σ H x y v u Q I rx ry h;obtain ⟨rfl,q⟩:=h;cases ry;refine is_none_gen (qw I q ?_);cases x<;>first
  | (cases rx;rfl)
  | (obtain ⟨t,rfl⟩:=rx;rfl)
def OpR.or {f:Value->Value->Sem Value} {r r':R2} (h:OpR X f r) (h':OpR X f r'):OpR X f (λx y H Q=>r x y H Q\/r' x y H Q):=by
 intro pins s σ H x y v u Q I rx ry q;rcases q with q|q
 ·exact h pins s σ H x y v u Q I rx ry q
 ·exact h' pins s σ H x y v u Q I rx ry q
def qX (b:Expr) {op:CmpOp} (h:op≠.In:=by decide) (h2:op≠.NotIn:=by decide):behindInMarks op b=false:=by
 have e1:(op==CmpOp.In)=false:=by cases op<;>first|rfl|exact absurd rfl h
 have e2:(op==CmpOp.NotIn)=false:=by cases op<;>first|rfl|exact absurd rfl h2
 cases b<;>simp [behindInMarks,e1,e2]
def qbu {op:CmpOp} {r:R2} (ho:OpR X (compareOp op) r) (ha:PE X a ta) (hb:PE X b tb) (hm:behindInMarks op b=false):PE X (.Compare a [op] [b] pos) (tOp r ta tb):=by
 intro pins s σ H Q I h;exact wpAny_Compare1 (qiu ha hb I h λv u s2 x y H2 I2 rx ry q=>ho pins s2 σ H2 x y v u Q I2 rx ry q) hm
def qfT (t:TE):TT:=λσ H Q=>t σ H λx H'=>∃ k,x=.bl k/\Q k H'
def qb1 {op:CmpOp} {r:R2} (ho:OpR X (compareOp op) r) (ha:PE X a ta) (hb:PE X b tb) (hm:behindInMarks op b=false):PT X (.Compare a [op] [b] pos) (qfT (tOp r ta tb)):=by
 intro pins s σ H Q I h;refine wpAny_isTrue_Compare1 (thn (ha pins s σ H _ I h) λv s1 ⟨x,H1,I1,r1,q1⟩=>thn (hb pins s1 σ H1 _ I1 q1) λu s2 ⟨y,H2,I2,r2,q2⟩=>
  thn (ho pins s2 σ H2 x y v u _ I2 r1 r2 q2) λc s3 ⟨z,H3,I3,r3,k,e,q3⟩=>?_) hm
 subst e;cases r3;exact wpAny_truthy_bool ⟨H3,I3,q3⟩
def E9:(sizeLine:Nat)<2 ^ 63:=by rw [sizeLine_eq];decide
def EQ {x:V} {us:List Value} (r:qF [x] us):∃ u,us=[u]/\zp x u:=by
 cases r with
 |cons r1 r2=>cases r2;exact ⟨_,rfl,r1⟩
def S6 {x y:V} {us:List Value} (r:qF [x,y] us):∃ u w',us=[u,w']/\zp x u/\zp y w':=by
 cases r with
 |cons r1 r2=>
  cases r2 with
  |cons r3 r4=>cases r4;exact ⟨_,_,rfl,r1,r3⟩
def WN:QN X (.builtin "abs") (λxs H Q=>∃ i,xs=[.int i]/\Q (.int (if i<0 then -i else i)) H):=by
 intro pins s σ H xs us Q I r h;obtain ⟨i,rfl,q⟩:=h;obtain ⟨u,rfl,t,rfl⟩:=EQ r;exact call_abs_int λu tk=>⟨.int (if i<0 then -i else i),H,I.tok _,⟨_,rfl⟩,q⟩
def T9 (hc:X.calm=true):QN X (.builtin "min") (λxs H Q=>∃ i j,xs=[.int i,.int j]/\Q (.int (if j<i then j else i)) H):=by
 intro pins s σ H xs us Q I r h;obtain ⟨i,j,rfl,q⟩:=h;obtain ⟨u,w',rfl,⟨t,rfl⟩,⟨t',rfl⟩⟩:=S6 r;refine min_two_ints (I.ok.hd hc) λh' tk k=>⟨_,H,I.kept k,?_,q⟩
 by_cases hj:j<i
 ·rw [if_pos hj,if_pos hj];exact ⟨_,rfl⟩
 ·rw [if_neg hj,if_neg hj];exact ⟨_,rfl⟩
def qkJ (K:Frg) (x:V) (H:Hp) (n:Nat):Prop:=
 match x with
 |.str y=>y.length<=sizeLine/\n=y.length
 |.byt y=>y.size<=sizeLine/\n=y.size
 |.ref p=>(∃ xs,SqL K H p xs/\n=xs.length)\/∃ xs,SqT K H p xs/\n=xs.length
 |_=>False
def qA:QN X (.builtin "len") (λxs H Q=>∃ x n,xs=[x]/\qkJ X.K x H n/\Q (.int n) H):=by
 intro pins s σ H xs us Q I r h;obtain ⟨x,n,rfl,e,q⟩:=h;obtain ⟨u,rfl,rx⟩:=EQ r;have hl:=E9;have hs:sizeLine=16777216:=sizeLine_eq;cases x with
 |str y=>
  obtain ⟨t,rfl⟩:=rx;obtain ⟨hy,e'⟩:y.length<=sizeLine/\n=y.length:=e;subst e';exact len_str (by omega) ⟨.int _,H,I.tok _,⟨_,rfl⟩,q⟩
 |byt y=>
  obtain ⟨t,rfl⟩:=rx;obtain ⟨hy,e'⟩:y.size<=sizeLine/\n=y.size:=e;subst e';exact PySem.W.len_bytes (by omega) ⟨.int _,H,I.tok _,⟨_,rfl⟩,q⟩
 |ref p=>
  cases rx;have e':(∃ xs,SqL X.K H p xs/\n=xs.length)\/∃ xs,SqT X.K H p xs/\n=xs.length:=e;rcases e' with ⟨xs,hx,e'⟩|⟨xs,hx,e'⟩
  ·subst e';obtain ⟨its,r',pl,hz⟩:=I.list hx;have hlen:=r'.length;exact Calls.call_len_list pl.isList (by simp only [size_toArray];omega) ⟨.int xs.length,H,I.tok _,⟨_,by simp only [size_toArray];rw [hlen]⟩,q⟩
  ·subst e';obtain ⟨its,r',pl,hz⟩:=I.tuple hx;have hlen:=r'.length;exact len_tuple pl (by simp only [size_toArray];omega) ⟨.int xs.length,H,I.tok _,⟨_,by simp only [size_toArray];rw [hlen]⟩,q⟩
 |_=>exact (show False from e).elim
end
section
variable {prog:Program} {w:World} {A:Around} {E:Value->Shared->Prop} {s:Shared} {K:Frg} {x dx C f:Addr} {mA:Str->Option Value} {name:Str} {v:Value}
end
section
variable {P:Program} {w:World} {H H':Hp} {h h':Heap} {a C dx:Addr} {fs fs':List (Str×V)}
end
section
variable {X:Cx} {pins:List (Addr×Obj)} {σ:St} {H:Hp} {s:Shared} {a C dx:Addr} {fs:List (Str×V)} {f:Str} {v:V} {A:Around} {E:Value->Shared->Prop}
end
section
variable {X:Cx} {o e value:Expr} {f:Str} {pos pos' tpos:Pos} {ta tv:TE}
end
section
variable {X:Cx} {pins:List (Addr×Obj)} {σ:St} {H:Hp} {s:Shared} {A:Around} {E:Value->Shared->Prop} {Q:Value->Shared->Prop} {c:Value} {b:Bool}
end
structure Room (k:Nat) (A:Around):Prop where
 hd:A.handled=none
 dp:A.depth+3*k+5<recursionLimit
 un:A.units+16*k+200<cLine
 gd:A.guards=some []
def Room.mono {j k:Nat} {A:Around} (r:Room k A) (h:j<=k):Room j A:=⟨r.hd,by have:=r.dp;omega,by have:=r.un;omega,r.gd⟩
def Room.deeper {k:Nat} {A:Around} (r:Room (k+1) A) (env:Env):Room k (A.deeper env):=
 ⟨r.hd,by have:=r.dp;show A.depth+1+3*k+5<_;omega,by have:=r.un;show A.units+3+16*k+200<_;omega,r.gd⟩
def Room.in1 {k:Nat} {A:Around} (r:Room (k+1) A):Room k A.in1:=
 ⟨r.hd,by have:=r.dp;show A.depth+3*k+5<_;omega,by have:=r.un;show A.units+1+16*k+200<_;omega,r.gd⟩
def Room.depth {k:Nat} {A:Around} (r:Room k A):A.depth<recursionLimit:=by have:=r.dp;omega
def Room.units {k:Nat} {A:Around} (r:Room k A):A.units+64<cLine:=by have:=r.un;omega
def qlz:TA:=λ_ H Q=>Q [] H
def qkg (ta:TE) (tr:TA):TA:=λσ H Q=>ta σ H λx H1=>tr σ H1 λxs H2=>Q (x::xs) H2
section
variable {X:Cx} {e:Expr} {es:List Expr} {te:TE} {t:TA} {pos:Pos}
def EO:PA X [] qlz:=λ_ _ _ _ H Q I h=>Calls.spliced_nil ⟨[],H,I,.nil,h⟩
def j3 (ha:PE X e te) (hr:PA X es t) (hs:starEach (e::es) X.env=(false,eval e X.env)::starEach es X.env:=by rfl):PA X (e::es) (qkg te t):=by
 intro pos pins s σ H Q I h;rw [hs];show wpAny _ _ (spliced ((false,eval e X.env)::backTo pos (starEach es X.env))) _ _ s;refine Calls.spliced_cons (thn (ha pins s σ H _ I h) λu s1 ⟨x,H1,I1,r1,q1⟩=>?_);exact thn (hr pos pins s1 σ H1 _ I1 q1) λus s2 ⟨xs,H2,I2,r2,q2⟩=>⟨x::xs,H2,I2,.cons r1 r2,q2⟩
def qlL (t:TA):TE:=λσ H Q=>t σ H λxs H1=>xs.length<=sizeLine/\∀ p,H1 p=none->Q (.ref p) (upd H1 p (.tup xs))
def qls (t:TA):TE:=λσ H Q=>t σ H λxs H1=>xs.length<=sizeLine/\∀ p,H1 p=none->Q (.ref p) (upd H1 p (.lst xs))
def qbc {x1} (h:PA X es t):PE X (.Tuple es x1 pos) (qlL t):=by
 intro pins s σ H Q I hq;refine wpAny_Tuple_spliced (thn (h pos pins s σ H _ I hq) λus s1 ⟨xs,H1,I1,r,z,q⟩=>⟨by rw [← r.length];exact z,?_⟩);have hf:H1 s1.heap.objs.size=none:=I1.hok.fresh (Nat.le_refl _);refine ⟨.ref s1.heap.objs.size,upd H1 s1.heap.objs.size (.tup xs),I1.laid (t':=s1.toks) (λb u e=>Heap.get?_push_of_some _ e) (Nat.le_refl _) ?_,rfl,q _ hf⟩;exact ⟨z,us,r,⟨_,Heap.get?_push_size _ rfl,rfl,_,rfl,rfl⟩⟩
def qd9 (h:PA X es t):PE X (.List es pos) (qls t):=by
 intro pins s σ H Q I hq;refine wpAny_List_spliced (thn (h pos pins s σ H _ I hq) λus s1 ⟨xs,H1,I1,r,z,q⟩=>⟨by rw [← r.length];exact z,?_⟩);have hf:H1 s1.heap.objs.size=none:=I1.hok.fresh (Nat.le_refl _);refine ⟨.ref s1.heap.objs.size,upd H1 s1.heap.objs.size (.lst xs),I1.laid (t':=s1.toks) (λb u e=>Heap.get?_push_of_some _ e) (Nat.le_refl _) ?_,rfl,q _ hf⟩;exact ⟨z,us,0,r,Heap.get?_push_size _ rfl⟩
end
abbrev Sp:=List V->Hp->VK->XK->Prop
abbrev CXT:=List Env->Hp->Shared->XK->Value->Shared->Prop
structure Env0 (P:Program) (w:World) (K:Frg) (mg:Str->Option Value) (base:Heap) (A:Around) (outer:List Env) (s:Shared) (H:Hp):Prop where
 frames:A.frames=some outer
 mod:Mod K mg base
 bs:∀ b o,base.get? b=some o->s.heap.get? b=some o/\H b=none
 bsz:base.objs.size<=s.heap.objs.size
 funs:s.heap.FunFrames base outer
 frf:∀ b∈frs outer,H b=none
 hok:HOk P w H s.heap
 bare:AllBare s.gens
def CE (outer:List Env) (P:Program) (w:World) (H:Hp) (s:Shared) (Q:VK) (u:Value) (s':Shared):Prop:=
 ∃ v H',s'.os=s.os/\AllBare s'.gens/\Un (frs outer) [] H H' s.heap s'.heap/\HOk P w H' s'.heap/\zp v u/\Q v H'
def CR (CX:CXT) (outer:List Env) (P:Program) (w:World) (H:Hp) (s:Shared) (Q:VK) (E:XK) (r:Result) (s':Shared):Prop:=
 match r with
 |.ok (.ret u)=>CE outer P w H s Q u s'
 |.ok _=>False
 |.error e=>CX outer H s E e s'
structure FnOk (P:Program) (w:World) (K:Frg) (mg:Str->Option Value) (base:Heap) (CX:CXT) (k:Nat) (f:Addr) (fd:FuncData) (ps:List Str) (sp:Sp):Prop where
 len:∀ vs H Q E,sp vs H Q E->vs.length=ps.length
 run:∀ (A:Around) (outer:List Env) (s:Shared) (H:Hp) (args:Args) (us:List Value) (vs:List V) (Q:VK) (E:XK),Room k A->Env0 P w K mg base A outer s H->BindsTo s fd args (ps.zip us)->qF vs us->sp vs H Q E ->
  codeAny (model P w) A (.call (.ref f) args) (CR CX outer P w H s Q E) s
def FnOk.mono {P:Program} {w:World} {K:Frg} {mg:Str->Option Value} {base:Heap} {CX:CXT} {j k:Nat} {f:Addr} {fd:FuncData} {ps:List Str} {sp:Sp} (F:FnOk P w K mg base CX j f fd ps sp) (h:j<=k) :
  FnOk P w K mg base CX k f fd ps sp:=⟨F.len,λA outer s H args us vs Q E hr=>F.run A outer s H args us vs Q E (hr.mono h)⟩
def FnOk.imp {P:Program} {w:World} {K:Frg} {mg:Str->Option Value} {base:Heap} {CX:CXT} {k:Nat} {f:Addr} {fd:FuncData} {ps:List Str} {sp sp':Sp} (F:FnOk P w K mg base CX k f fd ps sp)
  (h:∀ vs H Q E,sp' vs H Q E->sp vs H Q E):FnOk P w K mg base CX k f fd ps sp':=
 ⟨λvs H Q E q=>F.len vs H Q E (h _ _ _ _ q),λA outer s H args us vs Q E hr he hb hv hs=>F.run A outer s H args us vs Q E hr he hb hv (h _ _ _ _ hs)⟩
def Env0.in1 {P:Program} {w:World} {K:Frg} {mg:Str->Option Value} {base:Heap} {A:Around} {outer:List Env} {s:Shared} {H:Hp} (e:Env0 P w K mg base A outer s H) :
  Env0 P w K mg base A.in1 outer s H:=⟨e.frames,e.mod,e.bs,e.bsz,e.funs,e.frf,e.hok,e.bare⟩
section
variable {X:Cx} {pins:List (Addr×Obj)} {σ:St} {H:Hp} {s s':Shared}
def Inv.env0 (I:Inv X pins σ H s):Env0 X.prog X.w X.K X.mg X.base X.A X.stack s H:=
 ⟨I.ok.frames,I.ok.mod,I.bs,Nat.le_trans I.ok.bsz I.sz,I.stack,I.stkFree,I.hok,I.bare⟩
def Inv.after {Q:VK} {u:Value} (I:Inv X pins σ H s) (h:CE X.stack X.prog X.w H s Q u s'):EP X pins σ Q u s':=by
 obtain ⟨v,H',os,bare,un,hok,r,q⟩:=h;obtain ⟨hh,g,d,t,os'⟩:=s';obtain rfl:os'=s.os:=os;exact ⟨v,H',I.call (h':=hh) (g':=g) (d':=d) (t':=t) (ch:=[]) un hok bare (λb z=>absurd z (by simp)),r,q⟩
end
def qj8 (sp:Sp) (dvs:List V) (E:XK) (t:TA):TE:=λσ H Q=>t σ H λvs H1=>sp (vs++dvs) H1 Q E
def zz (K:Frg) (fd:FuncData) (ps:List Str) (ds:List Value):Prop:=
 ∀ (s:Shared) (us:List Value),K.In s.heap->(us++ds).length=ps.length->BindsTo s fd ⟨us,[]⟩ (ps.zip (us++ds))
def zz.all {K:Frg} {fd:FuncData} {ps:List Str} (h:∀ us:List Value,us.length=ps.length->bindArgs fd ⟨us,[]⟩=pure (ps.zip us)):zz K fd ps []:=λs us _ hl=>by
 rw [List.append_nil] at hl ⊢;exact .of_eq (h us hl)
def T6 (CX:CXT) (X:Cx) (E:XK):Prop:=∀ (pins:List (Addr×Obj)) (σ:St) (H:Hp) (s:Shared) (e:Value) (s':Shared),Inv X pins σ H s->CX X.stack H s E e s'->X.xe e s'
section
variable {X:Cx} {CX:CXT} {k:Nat} {f C:Addr} {fd:FuncData} {ps:List Str} {sp:Sp} {dvs:List V} {ds:List Value} {E:XK} {x m:Str} {p pos apos:Pos} {e o:Expr} {es:List Expr} {ta:TE} {t:TA}
def qf5 {pins:List (Addr×Obj)} {σ:St} {H:Hp} {s:Shared} {Q:VK} {us:List Value} {vs:List V} (F:FnOk X.prog X.w X.K X.mg X.base CX k f fd ps sp) (hr:Room k X.A) (hb:zz X.K fd ps ds) (hd:qF dvs ds) (hx:T6 CX X E)
  (I:Inv X pins σ H s) (r:qF vs us) (h:sp (vs++dvs) H Q E):wpAny (model X.prog X.w) X.A (call (.ref f) us) (EP X pins σ Q) X.xe s:=by
 have r2:qF (vs++dvs) (us++ds):=r.append hd;have hl:(us++ds).length=ps.length:=by rw [← r2.length];exact F.len _ _ _ _ h
 refine wpAny_call (codeAny_mono (F.run X.A X.stack s H ⟨us,[]⟩ (us++ds) (vs++dvs) Q E hr I.env0 (hb s us I.kIn hl) r2 h) λr s' hq=>?_);cases r with
 |error e=>exact hx pins σ H s e s' I hq
 |ok fl=>
  cases fl with
  |ret u=>exact I.after hq
  |next=>exact False.elim hq
  |brk=>exact False.elim hq
  |cont=>exact False.elim hq
def qbK (F:FnOk X.prog X.w X.K X.mg X.base CX k f fd ps sp) (hr:Room k X.A) (hg:Gl X x) (hm:X.mg x=some (.ref f)) (hk:PySem.W.keepIn X.K (.ref f)=true) (hb:zz X.K fd ps ds) (hd:qF dvs ds) (hx:T6 CX X E)
  (ha:PA X (e::es) t) (hdb:(x==("__debug__" : Str))=false:=by decide) (he:starEach (e::es) X.env=(false,eval e X.env)::starEach es X.env:=by rfl) (hpl:(backTo pos (starEach es X.env)).any (·.1)=false:=by rfl) :
  PE X (.Call (.Name x p) (e::es) [] pos) (qj8 sp dvs E t):=by
 intro pins s σ H Q I h;refine wpAny_Call_Name_kw (YH I hg hm ?_ hdb);refine PySem.W.callWith_K (h₀:=X.base) I.ok.mod.kin hk (thn (ha pos pins s σ H _ I h) λus s1 ⟨vs,H1,I1,r,q⟩=>⟨I1.kIn,?_⟩) he hpl;exact qf5 F hr hb hd hx I1 r q
end
section
variable {X:Cx} {CX:CXT} {k:Nat} {f C:Addr} {fd:FuncData} {ps ks:List Str} {sp:Sp} {E:XK} {x m:Str} {p pos apos kpos:Pos} {e o:Expr} {es:List Expr} {kws:List Keyword} {te ta:TE} {t tk:TA} {nm:Option Str}
variable {g:List Value->List Value->List Value} {gV:List V->List V->List V}
end
structure FnScope (N P:List Str) (sc:Scope):Prop where
 kind:sc.kind=.function
 co:sc.isCoroutine=false
 gen:sc.isGenerator=false
 nd:N.Nodup
 pre:N.take P.length=P
 par:∀ x∈P,sc.names.lookup x=some .local\/sc.names.lookup x=some .cell
 nofree:∀ y∈sc.names,y.2≠.free
def EZ {kindOf:Str->Option NameKind} {x:Str}:∀ {binds:List (Str×Value)} {m:Str->Option Value},(∀ v,(x,v)∉binds)->bindL kindOf binds m x=m x
 |[],_,_=>rfl
 | (n,v)::r,m,h=>by
  unfold bindL;rw [EZ λw hw=>h w (List.mem_cons_of_mem _ hw)];split
  ·have:x≠n:=by rintro rfl;exact h v List.mem_cons_self
   simp [this]
  ·rfl
def EL {kindOf:Str->Option NameKind} {x:Str}:∀ {binds:List (Str×Value)} {m:Str->Option Value},(∀ v,(x,v)∉binds)->bindC kindOf binds m x=m x
 |[],_,_=>rfl
 | (n,v)::r,m,h=>by
  unfold bindC;rw [EL λw hw=>h w (List.mem_cons_of_mem _ hw)];split
  ·rfl
  ·have:x≠n:=by rintro rfl;exact h v List.mem_cons_self
   simp [this]
def EC {kindOf:Str->Option NameKind} {x:Str} {v:Value}:∀ {P:List Str} {vs:List Value} {i:Nat} {m:Str->Option Value},P.Nodup->P[i]?=some x->vs[i]?=some v->kindOf x=some .local ->
  bindL kindOf (P.zip vs) m x=some v
 |[],_,_,_,_,h,_,_=>by simp at h
 |_::_,[],_,_,_,_,h,_=>by simp at h
 |p::P,w::vs,0,m,nd,h1,h2,hk=>by
  simp at h1 h2;subst h1;subst h2;show bindL kindOf ((p,w)::P.zip vs) m p=_;unfold bindL;rw [EZ λv hv=>(List.nodup_cons.mp nd).1 (List.of_mem_zip hv).1,if_pos hk];simp
 |p::P,w::vs,i+1,m,nd,h1,h2,hk=>by
  show bindL kindOf ((p,w)::P.zip vs) m x=_;unfold bindL;exact EC (i:=i) (List.nodup_cons.mp nd).2 (by simpa using h1) (by simpa using h2) hk
def E4 {kindOf:Str->Option NameKind} {x:Str} {v:Value}:∀ {P:List Str} {vs:List Value} {i:Nat} {m:Str->Option Value},P.Nodup->P[i]?=some x->vs[i]?=some v->kindOf x≠some .local ->
  bindC kindOf (P.zip vs) m x=some v
 |[],_,_,_,_,h,_,_=>by simp at h
 |_::_,[],_,_,_,_,h,_=>by simp at h
 |p::P,w::vs,0,m,nd,h1,h2,hk=>by
  simp at h1 h2;subst h1;subst h2;show bindC kindOf ((p,w)::P.zip vs) m p=_;unfold bindC;rw [EL λv hv=>(List.nodup_cons.mp nd).1 (List.of_mem_zip hv).1,if_neg hk];simp
 |p::P,w::vs,i+1,m,nd,h1,h2,hk=>by
  show bindC kindOf ((p,w)::P.zip vs) m x=_;unfold bindC;exact E4 (i:=i) (List.nodup_cons.mp nd).2 (by simpa using h1) (by simpa using h2) hk
def J2 (N:List Str) (vs:List V):St:=vs.map some++List.replicate (N.length-vs.length) none
def JC (CX:CXT) (P:Program) (w:World) (K:Frg) (mg:Str->Option Value) (base:Heap) (N:List Str) (qual:Str) (scope:Scope) (f:Addr) (cd:Value) (A:Around) (outer:List Env) (s:Shared) (H:Hp) (E:XK):Cx where
 prog:=P
 w:=w
 K:=K
 mg:=mg
 base:=base
 A:=A.deeper (envOfC qual scope s.heap.objs.size f cd)
 N:=N
 s₀:=s
 H₀:=H
 env:=envOfC qual scope s.heap.objs.size f cd
 outer:=outer
 stack:=envOfC qual scope s.heap.objs.size f cd::outer
 ex:=[]
 calm:=true
 fn:=λ_=>true
 pn:=[]
 xe:=λe s'=>wpAny (model P w) (A.deeper (envOfC qual scope s.heap.objs.size f cd)) (leaving (envOfC qual scope s.heap.objs.size f cd) e) (λ_ s''=>CX outer H s E e s'') (λe' s''=>CX outer H s E e' s'') s'
def WS {sc:Scope} {n:Nat} {x:Str} (h:sc.names.lookup x=some .cell):∃ c,(cellsFrom n sc.names []).lookup x=some c:=by
 have q:=PySem.W.cellsFrom_some sc.names n [] (.inl h);exact Option.isSome_iff_exists.mp q
def KL {CX:CXT} {P:Program} {w:World} {K:Frg} {mg:Str->Option Value} {base:Heap} {N ps:List Str} {qual:Str} {scope:Scope} {f:Addr} {cd:Value} {A:Around} {outer:List Env} {s s1:Shared} {H:Hp} {E:XK} {us:List Value} {vs:List V}
  (S:FnScope N ps scope) (hd:A.handled=none) (e0:Env0 P w K mg base A outer s H) (hl:vs.length=ps.length) (r:qF vs us)
  (x:InCallC s s.heap.objs.size (bindL (envOfC qual scope s.heap.objs.size f cd).kindOf (ps.zip us) λ_=>none) (cellsFrom (s.heap.objs.size+1) scope.names []) (bindC (envOfC qual scope s.heap.objs.size f cd).kindOf (ps.zip us) λ_=>none) s1) :
  Inv (JC CX P w K mg base N qual scope f cd A outer s H E) [] (J2 N vs) H s1:=by
 have hpl:ps.length<=N.length:=by have:=congrArg List.length S.pre;rw [List.length_take] at this;omega
 obtain ⟨h1,tk,rfl,hk⟩:=x.done;have noA:∀ b:Addr,b∉(JC CX P w K mg base N qual scope f cd A outer s H E).ex:=λb z=>absurd (show b∈([]:List Addr) from z) (by simp);refine ⟨⟨e0.mod,S.kind,rfl,rfl,Nat.le_refl _,λy z c h1 h2=>?_,λy hy=>?_,λy c _ h=>?_,λ_=>hd,Around.frames_deeper e0.frames,.inr ⟨rfl,rfl⟩,λb z=>absurd z (noA b),e0.bs,e0.bsz,λb _ _=>noA b,λb z=>absurd z (noA b),e0.funs,e0.frf⟩,
  rfl,e0.bare,Un.kept hk,⟨_,x.toInCall.ns,λi y v h1 h2 h3=>?_⟩,λy c h=>⟨_,x.cell y c h⟩,e0.hok.fresh (Nat.le_refl _),λy c h=>?_,λp hp=>absurd (show p∈([]:List (Addr×Obj)) from hp) (by simp),e0.hok.kept hk,?_⟩
 ·exact name_of_addr x.apart (PySem.mem_of_lookup h1) (PySem.mem_of_lookup h2)
 ·have hy:scope.names.lookup y=some .cell\/scope.names.lookup y=some .free:=hy;rcases hy with hy|hy
  ·exact WS hy
  ·exact absurd rfl (S.nofree _ (PySem.mem_of_lookup hy))
 ·exact Nat.le_of_lt (x.above y c (PySem.mem_of_lookup h))
 ·have hi:i<vs.length:=by
   unfold J2 at h2;by_cases hi:i<vs.length
   ·exact hi
   ·rw [List.getElem?_append_right (by simpa using hi)] at h2;rw [List.getElem?_replicate] at h2;split at h2<;>cases h2
  have ha:vs[i]?=some v:=by
   unfold J2 at h2;rw [List.getElem?_append_left (by simpa using hi),getElem?_map] at h2;cases e:vs[i]? with
   |none=>rw [e] at h2;cases h2
   |some a=>rw [e] at h2;cases h2;rfl
  obtain ⟨u,hu,rv⟩:=r.get ha;have hp:ps[i]?=some y:=by
   rw [← S.pre,List.getElem?_take_of_lt (by omega)];exact h1
  have ndP:ps.Nodup:=by rw [← S.pre];exact S.nd.sublist (List.take_sublist _ _)
  refine ⟨u,rv,?_⟩;rcases S.par y (mem_of_getElem? hp) with k|k
  ·exact .inl ⟨k,EC ndP hp hu k⟩
  ·obtain ⟨c,e⟩:=WS (n:=s.heap.objs.size+1) k;refine .inr ⟨.inl k,c,e,?_⟩;have q:=x.cell y c e;rw [E4 ndP hp hu (by show scope.names.lookup y≠_;rw [k];decide)] at q;exact q
 ·exact e0.hok.fresh (Nat.le_of_lt (x.above y c (PySem.mem_of_lookup h)))
 ·unfold J2;show _=N.length;rw [length_append,length_map,List.length_replicate];omega
def qgR {CX:CXT} {P:Program} {w:World} {K:Frg} {mg:Str->Option Value} {base:Heap} {k:Nat} {f:Addr} {name qual:Str} {params:Arguments} {body:List Stmt} {scope:Scope} {dV kV doc pm cdv ct oc:Value} {an od:Option Addr}
  {osl:Array (Option Value)} {N ps:List Str} {sp:Sp} (lk:K.lookup f=some ⟨oc,od,.func (PySem.W.fnOf name qual params body scope dV kV doc pm an cdv ct),osl⟩) (hcd:PySem.W.codeIn K cdv qual=true) (S:FnScope N ps scope)
  (len:∀ vs H Q E,sp vs H Q E->vs.length=ps.length)
  (hbody:∀ (A:Around) (outer:List Env) (s:Shared) (H:Hp) (vs:List V) (Q:VK) (E:XK),Room k (A.deeper (envOfC qual scope s.heap.objs.size f cdv))->sp vs H Q E ->
   ∃ t,PSs (JC CX P w K mg base N qual scope f cdv A outer s H E) body t/\t { nx:=λ_ H'=>Q .non H',rt:=Q } (J2 N vs) H) :
  FnOk P w K mg base CX (k+1) f (PySem.W.fnOf name qual params body scope dV kV doc pm an cdv ct) ps sp:=by
 refine ⟨len,λA outer s H args us vs Q E hr e0 hb r hsp=>?_⟩;have hl:=len _ _ _ _ hsp;have KX:K.In s.heap:=e0.mod.kin.keeps λb o e=>(e0.bs b o e).1;have lim:s.heap.NoLimit:=e0.mod.nolimit.keeps λb o e=>(e0.bs b o e).1;have hkind:∀ y∈ps.zip us,scope.names.lookup y.1=some .local\/(scope.names.lookup y.1=some .cell/\((cellsFrom (s.heap.objs.size+1) scope.names []).lookup y.1).isSome=true):=λ⟨n,v⟩ hy=>by
  rcases S.par n (List.of_mem_zip hy).1 with q|q
  ·exact .inl q
  ·exact .inr ⟨q,PySem.W.cellsFrom_some _ _ _ (.inl q)⟩
 refine codeAny_call_function hr.depth (KX _ _ lk) rfl S.co S.gen rfl (PySem.W.codeRec_of KX hcd) (hb _ _ _ _ ?_);refine wpAny_newFunctionEnv_cells S.kind hkind λenv he s1 x=>?_;subst he;refine ⟨lim.keeps x.toInCall.keep,codeAny_func ?_⟩;obtain ⟨t,ht,hq⟩:=hbody A outer s H vs Q E (hr.deeper _) hsp;have I:Inv (JC CX P w K mg base N qual scope f cdv A outer s H E) [] (J2 N vs) H s1:=KL S hr.hd e0 hl r x;refine wpAny_mono (ht [] s1 (J2 N vs) H _ I hq) (λfl s' hs=>?_) λe s' hs=>hs;have fin:∀ {σ':St} {H':Hp} {v:V} {u:Value},Inv (JC CX P w K mg base N qual scope f cdv A outer s H E) [] σ' H' s'->zp v u->Q v H'->CE outer P w H s Q u s':=
  λ{σ' H' v u} J rv q=>⟨v,H',J.os,J.bare,J.base,J.hok,rv,q⟩
 cases fl with
 |ret u=>
  obtain ⟨v,σ',H',J,rv,q⟩:=hs;exact fin J rv q
 |next=>
  obtain ⟨σ',H',J,q⟩:=hs;exact fin (v:=V.non) (u:=Value.none) J rfl q
 |brk=>
  obtain ⟨_,_,_,q⟩:=hs;exact False.elim q
 |cont=>
  obtain ⟨_,_,_,q⟩:=hs;exact False.elim q
section
variable {X:Cx} {x:Str} {p pos:Pos} {e:Expr} {es:List Expr} {t:TA} {id T:String} {r:List V->Hp->VK->Prop}
def tCB (r:List V->Hp->VK->Prop) (t:TA):TE:=λσ H Q=>t σ H λvs H1=>r vs H1 Q
def JI (hc:QN X (.builtin id) r) (hg:Gl X x) (hm:X.mg x=none) (hv:bootBuiltins x=some (.builtin id)) (ha:PA X (e::es) t) (hn:x≠"__name__" := by decide) (hdb:(x==("__debug__" : Str))=false:=by decide)
  (he:starEach (e::es) X.env=(false,eval e X.env)::starEach es X.env:=by rfl) (hpl:(backTo pos (starEach es X.env)).any (·.1)=false:=by rfl):PE X (.Call (.Name x p) (e::es) [] pos) (tCB r t):=by
 intro pins s σ H Q I h;refine wpAny_Call_Name_kw (QP I hg hm hv ?_ hn hdb);exact PyProof.Rows.callWith_builtin1 (thn (ha pos pins s σ H _ I h) λus s1 ⟨vs,H1,I1,r1,q1⟩=>hc pins s1 σ H1 vs us Q I1 r1 q1) he hpl
def RR (hc:QN X (.type T) r) (hg:Gl X x) (hm:X.mg x=none) (hv:bootBuiltins x=some (.type T)) (ha:PA X (e::es) t) (hn:x≠"__name__" := by decide) (hdb:(x==("__debug__" : Str))=false:=by decide)
  (he:starEach (e::es) X.env=(false,eval e X.env)::starEach es X.env:=by rfl) (hpl:(backTo pos (starEach es X.env)).any (·.1)=false:=by rfl):PE X (.Call (.Name x p) (e::es) [] pos) (tCB r t):=by
 intro pins s σ H Q I h;refine wpAny_Call_Name_kw (QP I hg hm hv ?_ hn hdb);exact PyProof.Rows.callWith_type1 (thn (ha pos pins s σ H _ I h) λus s1 ⟨vs,H1,I1,r1,q1⟩=>hc pins s1 σ H1 vs us Q I1 r1 q1) he hpl
end
end L2
namespace HT
open PySem PyProof.Rows
section
open PySem.SeqAt
open PySem.MeetsSeq PySem.MeetsSeq2 PySem.MeetsSeq3
end
section
variable {prog:Program} {w:World} {A:Around} {E:Value->Shared->Prop} {s:Shared}
def qcB {t b:Addr} {vs ws:List Value} {Q:Value->Shared->Prop} (ht:IsTup s.heap t vs.toArray) (hb:IsTup s.heap b ws.toArray) (hv:vs≠[])
  (h1:ws=[]->Q (.ref t) s) (h2:ws≠[]->Q (.ref s.heap.objs.size) { s with heap:=s.heap.push { cls:=.type "tuple",data:=.seq (vs++ws).toArray } })
  (hsz:vs.length+ws.length<=sizeLine):wpAny (model prog w) A (binaryOp .Add (.ref t) (.ref b)) Q E s:=by
 obtain ⟨⟨cls,dd,data,sl⟩,ho,hc,n,hd⟩:=id ht;obtain ⟨⟨cls2,dd2,data2,sl2⟩,ho2,hc2,n2,hd2⟩:=id hb;simp only at hc hd hc2 hd2;subst hc hd hc2 hd2;have e:vs.toArray++ws.toArray=(vs++ws).toArray:=by simp
 by_cases hw:ws=[]
 ·exact concat_meets ⟨_,ho,rfl⟩ ⟨_,ho2,rfl⟩ noFill_tuple_add seq_tuple_add PySem.F.slot_tuple_add PySem.F.entry_tuple_add (PySem.F.args_tuple_add_2 _ _)
   (tuple_addW1 t b vs.toArray ws.toArray n n2 dd dd2 sl sl2 (by simpa using hv) (by simp [hw])) ⟨ho,ho2,h1 hw⟩
 ·refine concat_meets ⟨_,ho,rfl⟩ ⟨_,ho2,rfl⟩ noFill_tuple_add seq_tuple_add PySem.F.slot_tuple_add PySem.F.entry_tuple_add (PySem.F.args_tuple_add_2 _ _)
   (tuple_addW2 t b vs.toArray ws.toArray n n2 dd dd2 sl sl2 (by simpa using hv) (by simpa using hw) (by rw [size_toArray,size_toArray];exact hsz)) ⟨ho,ho2,?_⟩
  rw [e];exact h2 hw
def sIx (n d:Nat):Option Int->Nat
 |none=>d
 |some v=>if v<0 then (v+(n:Int)).toNat else min v.toNat n
def XC (n d:Nat):sIx n d none=d:=rfl
def KA (n d k:Nat):sIx n d (some (k:Int))=min k n:=by
 show (if (k:Int)<0 then ((k:Int)+(n:Int)).toNat else min (k:Int).toNat n)=min k n;rw [if_neg (by omega),Int.toNat_natCast]
def qgI (n d:Nat) (hd:d<=n) (o:Option Int):sIx n d o<=n:=by
 cases o with
 |none=>exact hd
 |some v=>
  show (if v<0 then (v+(n:Int)).toNat else min v.toNat n)<=n;by_cases hv:v<0
  ·rw [if_pos hv];omega
  ·rw [if_neg hv];exact Nat.min_le_right _ _
def RQ (v:Int) (n d:Nat):(if v<0 then max (v+(n:Int)) 0 else min v (n:Int))=((sIx n d (some v):Nat):Int):=by
 show (if v<0 then max (v+(n:Int)) 0 else min v (n:Int))=(((if v<0 then (v+(n:Int)).toNat else min v.toNat n):Nat):Int);by_cases hv:v<0
 ·simp only [if_pos hv];omega
 ·simp only [if_neg hv];omega
def X5 (lo hi:Option Int) (n:Nat):Builtin.Slice.sliceAdjust lo hi 1 (n:Int)=(((sIx n 0 lo:Nat):Int),((sIx n n hi:Nat):Int)):=by
 have h1:¬ ((1:Int)<0):=by omega
 unfold Builtin.Slice.sliceAdjust;simp only [h1,if_false];refine Prod.ext ?_ ?_
 ·cases lo with
  |none=>rfl
  |some v=>exact RQ v n 0
 ·cases hi with
  |none=>rfl
  |some v=>exact RQ v n n
def X9 (i j:Nat):Builtin.Slice.slicePlaces (i:Int) (j:Int) 1=j-i:=by
 unfold Builtin.Slice.slicePlaces;have h1:(1:Int) > 0:=by omega
 simp only [h1,if_true,Int.ediv_one];split<;>omega
def VR {v:Value} {o:Option Int} {Q:Option Int->Shared->Prop} (p:IsPart v o) (h:Q o s):wpAny (model prog w) A (Builtin.Slice.slicePartIndex v) Q E s:=by
 cases p with
 |none=>exact slicePart_none h
 |int i t=>exact slicePart_int h
def jR {sl:Addr} {vl vu:Value} {lo hi:Option Int} {n:Nat} {Q:Int×Int×Nat->Shared->Prop} (hs:s.heap.IsSliceOf sl vl vu .none) (pl:IsPart vl lo) (pu:IsPart vu hi)
  (h:Q (((sIx n 0 lo:Nat):Int),1,sIx n n hi-sIx n 0 lo) s):wpAny (model prog w) A (Builtin.Slice.sliceApplied (.ref sl) (pure (n:Int))) Q E s:=by
 obtain ⟨os,hos,hcs,hds⟩:=id hs;unfold Builtin.Slice.sliceApplied Builtin.Slice.sliceFields;refine wpAny_bind (wpAny_bind (wpAny_field hos hds (x:=vl) rfl (wpAny_bind (wpAny_field hos hds (x:=vu) rfl (wpAny_bind (wpAny_field hos hds (x:=.none) rfl (wpAny_pure ?_)))))));refine wpAny_bind (slicePart_none ?_);show wpAny _ _ (if ((1:Int)==0)=true then _ else _) _ _ s;rw [if_neg (by decide)];refine wpAny_bind (VR pl (wpAny_bind (VR pu (wpAny_bind (wpAny_pure ?_)))));show wpAny _ _ (match Builtin.Slice.sliceAdjust lo hi 1 (n:Int) with|(lo,hi)=>pure (lo,(1:Int),Builtin.Slice.slicePlaces lo hi 1)) _ _ s;rw [X5 lo hi n];show wpAny _ _ (pure (((sIx n 0 lo:Nat):Int),(1:Int),Builtin.Slice.slicePlaces ((sIx n 0 lo:Nat):Int) ((sIx n n hi:Nat):Int) 1)) _ _ s;rw [X9];exact wpAny_pure h
def MG (xs:Array Value) (i k:Nat):((List.range k).filterMap λ(m:Nat)=>xs[((i:Int)+(m:Int)*1).toNat]?).toArray=((xs.toList.drop i).take k).toArray:=by
 have e:(λ(m:Nat)=>xs[((i:Int)+(m:Int)*1).toNat]?)=λm=>xs[i+m]?:=by
  funext m;have:((i:Int)+(m:Int)*1).toNat=i+m:=by omega
  rw [this]
 rw [e];have:=pick_run xs i k;rw [List.filterMap_map] at this;have e2:((λx=>xs[x]?)∘λx=>i+x)=λm=>xs[i+m]?:=rfl;rw [e2] at this;rw [this]
def Z0 {t sl:Addr} {items:Array Value} {vl vu:Value} {lo hi:Option Int} {Q:Value->Shared->Prop} (ht:IsTup s.heap t items) (hs:s.heap.IsSliceOf sl vl vu .none) (pl:IsPart vl lo) (pu:IsPart vu hi)
  (hw:¬ (sIx items.size 0 lo=0/\sIx items.size items.size hi=items.size))
  (h:Q (.ref s.heap.objs.size) { s with heap:=s.heap.push { cls:=.type "tuple",data:=.seq ((items.toList.drop (sIx items.size 0 lo)).take (sIx items.size items.size hi-sIx items.size 0 lo)).toArray } })
  (hsz:items.size<=sizeLine):wpAny (model prog w) A (getItem (.ref t) (.ref sl)) Q E s:=by
 have htake:sizeOk (.seq ((items.toList.drop (sIx items.size 0 lo)).take (sIx items.size items.size hi-sIx items.size 0 lo)).toArray):=by
  show ((items.toList.drop (sIx items.size 0 lo)).take (sIx items.size items.size hi-sIx items.size 0 lo)).toArray.size<=sizeLine;rw [size_toArray,List.length_take,List.length_drop,Array.length_toList];omega
 have hj:sIx items.size items.size hi<=items.size:=qgI _ _ (Nat.le_refl _) hi;obtain ⟨os,hos,hcs,hds⟩:=id hs;have hTs:s.TypeIs (.ref sl) "slice" := ⟨os,hos,hcs⟩
 unfold getItem
 try with_reducible refine wpAny_holding ?_
 first|refine wpAny_bind (wpAny_pure ?_)|skip
 refine wpAny_bind (wpAny_sequenceKey ht.typeIs (by decide) ?_);refine wpAny_bind (wpAny_callSpecial?_slot (name:=Str.ofString "__getitem__") ht.typeIs PyProof.Rows.slot_tuple_getitem
  (wpAny_call_entry PyProof.Rows.slot_tuple_getitem ht.typeIs entry_tuple_getitem ?_ (args_tuple_getitem _ _)))
 show wpAny _ _ (Builtin.Tuple.tupleItemsOf (.ref t) >>= _) _ _ s;refine wpAny_bind (tupleItemsOf_ ht ?_);refine wpAny_bind (wpAny_typeOf hTs ?_);rw [if_pos (by decide)];refine wpAny_bind (jR hs pl pu ?_);have hno:¬ ((((sIx items.size 0 lo:Nat):Int)==0&&(1:Int)==1&&(sIx items.size items.size hi-sIx items.size 0 lo)==items.size)=true):=by
  intro q;rw [Bool.and_eq_true,Bool.and_eq_true] at q;have q1:((sIx items.size 0 lo:Nat):Int)=0:=eq_of_beq q.1.1;have q2:sIx items.size items.size hi-sIx items.size 0 lo=items.size:=eq_of_beq q.2;exact hw ⟨by omega,by omega⟩
 show wpAny _ _ (if (((sIx items.size 0 lo:Nat):Int)==0&&(1:Int)==1&&(sIx items.size items.size hi-sIx items.size 0 lo)==items.size)=true then _ else _) _ _ s;rw [if_neg hno,MG]
 first
  |exact wpAny_bind (m:=Builtin.Tuple.tupleExact _) (wpAny_newObj_type (wpAny_pure ⟨_,rfl,wpAny_pure h⟩) htake)
  |exact wpAny_bind (m:=Builtin.Tuple.tupleExact _) (wpAny_newObj_type (wpAny_bind (wpAny_pure (wpAny_pure ⟨_,rfl,wpAny_pure h⟩))) htake)
  |exact wpAny_bind (wpAny_bind (m:=Builtin.Tuple.tupleExact _) (wpAny_newObj_type (wpAny_pure (wpAny_pure ⟨_,rfl,wpAny_pure h⟩)) htake))
  |exact wpAny_bind (wpAny_bind (m:=Builtin.Tuple.tupleExact _) (wpAny_newObj_type (wpAny_pure ⟨_,rfl,wpAny_pure h⟩) htake))
end
end HT
namespace L2
open PySem PySem.Spec PyProof.Rows
abbrev TO:=St->Hp->(Option Int->Hp->Prop)->Prop
def PO (X:Cx) (e:Option Expr) (t:TO):Prop:=
 ∀ (pins:List (Addr×Obj)) (s:Shared) (σ:St) (H:Hp) (Q:Option Int->Hp->Prop),Inv X pins σ H s->t σ H Q ->
  wpAny (model X.prog X.w) X.A (evalPart e X.env) (λu s'=>∃ o H',Inv X pins σ H' s'/\IsPart u o/\Q o H') X.xe s
def qbF:TO:=λ_ H Q=>Q none H
def qjB (t:TE):TO:=λσ H Q=>t σ H λx H1=>∃ i,x=.int i/\Q (some i) H1
section
variable {X:Cx} {e:Expr} {te:TE} {lo hi:Option Expr} {tl th:TO} {pos p2:Pos}
def qbM:PO X none qbF:=by
 intro pins s σ H Q I h;rw [evalPart_none];exact wpAny_pure ⟨none,H,I,.none,h⟩
def qbR (h:PE X e te):PO X (some e) (qjB te):=by
 intro pins s σ H Q I hw;rw [evalPart_some];refine thn (h pins s σ H _ I hw) λu s1 ⟨x,H1,I1,r1,q1⟩=>?_;obtain ⟨i,rfl,q⟩:=q1;obtain ⟨t,rfl⟩:=r1;exact ⟨some i,H1,I1,.int i t,q⟩
def SlR (X:Cx) (r:V->Option Int->Option Int->Hp->VK->Prop):Prop:=
 ∀ (pins:List (Addr×Obj)) (s:Shared) (σ:St) (H:Hp) (x:V) (v vl vu:Value) (lo hi:Option Int) (sl:Addr) (Q:VK),Inv X pins σ H s->zp x v->s.heap.IsSliceOf sl vl vu .none->IsPart vl lo->IsPart vu hi->r x lo hi H Q ->
  ∃ T id,typeLookup (.type T) "__getitem__" = pure (some (.builtin id))/\s.TypeIs v T/\wpAny (model X.prog X.w) X.A (getItem v (.ref sl)) (EP X pins σ Q) X.xe s
def SlR.or {r r':V->Option Int->Option Int->Hp->VK->Prop} (h:SlR X r) (h':SlR X r'):SlR X (λx lo hi H Q=>r x lo hi H Q\/r' x lo hi H Q):=by
 intro pins s σ H x v vl vu lo hi sl Q I rx hs pl pu q;rcases q with q|q
 ·exact h pins s σ H x v vl vu lo hi sl Q I rx hs pl pu q
 ·exact h' pins s σ H x v vl vu lo hi sl Q I rx hs pl pu q
def tSl (r:V->Option Int->Option Int->Hp->VK->Prop) (te:TE) (tl th:TO):TE:=λσ H Q=>te σ H λx H1=>tl σ H1 λl H2=>th σ H2 λu H3=>r x l u H3 Q
def LF {r:V->Option Int->Option Int->Hp->VK->Prop} (hr:SlR X r) (he:PE X e te) (hl:PO X lo tl) (hu:PO X hi th):PE X (.Subscript e (.Slice lo hi none p2) pos) (tSl r te tl th):=by
 intro pins s σ H Q I h;refine Subscript_ (thn (he pins s σ H _ I h) λv s1 ⟨x,H1,I1,r1,q1⟩=>?_);refine wpAny_Slice (thn (hl pins s1 σ H1 _ I1 q1) λvl s2 ⟨l,H2,I2,pl,q2⟩=>thn (hu pins s2 σ H2 _ I2 q2) λvu s3 ⟨u,H3,I3,pu,q3⟩=>?_);rw [evalPart_none];refine wpAny_pure ?_;have I4:Inv X pins σ H3 { s3 with heap:=s3.heap.push { cls:=.type "slice",data:=.fields #[vl,vu,.none] } }:=I3.kept (t':=s3.toks) λb ob q=>Heap.get?_push_of_some _ q;obtain ⟨T,id,hT,ht,hg⟩:=hr pins { s3 with heap:=s3.heap.push { cls:=.type "slice",data:=.fields #[vl,vu,.none] } } σ H3 x v vl vu l u s3.heap.objs.size Q I4 r1 (Heap.IsSliceOf.new ..) pl pu q3;show wpAny (model X.prog X.w) X.A (subscriptTail e (.Slice lo hi none p2) v (.ref s3.heap.objs.size)) (EP X pins σ Q) X.xe { s3 with heap:=s3.heap.push { cls:=.type "slice",data:=.fields #[vl,vu,.none] } };exact tail_any (ops:=[.ref s3.heap.objs.size,v]) ht hT hg (by with_unfolding_all rfl)
def N0 (xs:List V) (lo hi:Option Int):List V:=(xs.drop (HT.sIx xs.length 0 lo)).take (HT.sIx xs.length xs.length hi-HT.sIx xs.length 0 lo)
def JW (xs:List V) (lo hi:Option Int):(N0 xs lo hi).length<=xs.length:=by
 unfold N0;rw [List.length_take,List.length_drop];omega
def qlF (K:Frg):V->Option Int->Option Int->Hp->VK->Prop:=λx lo hi H Q=>∃ a xs,x=.ref a/\SqT K H a xs /\
 ¬ (HT.sIx xs.length 0 lo=0/\HT.sIx xs.length xs.length hi=xs.length)/\∀ p,H p=none->Q (.ref p) (upd H p (.tup (N0 xs lo hi)))
def qhG:SlR X (qlF X.K):=by
 intro pins s σ H x v vl vu lo hi sl Q I rx hs pl pu h;obtain ⟨a,xs,rfl,hx,hw,q⟩:=h;cases rx;obtain ⟨its,r,ht,hz⟩:=I.tuple hx;have hlen:its.toArray.size=xs.length:=by rw [size_toArray];exact r.length.symm
 refine ⟨"tuple",_,PyProof.Rows.slot_tuple_getitem.lookup,ht.typeIs,?_⟩;refine HT.Z0 ht hs pl pu (by rw [hlen];exact hw) ?_ (by rw [hlen];exact hz);rw [hlen];refine ⟨.ref s.heap.objs.size,_,I.laid (t':=s.toks) (o:=.tup (N0 xs lo hi)) (λb ob q=>Heap.get?_push_of_some _ q) (Nat.le_refl _) ?_,rfl,q _ (I.hok.fresh (Nat.le_refl _))⟩;exact ⟨Nat.le_trans (JW xs lo hi) hz,_,(r.drop (HT.sIx xs.length 0 lo)).take (HT.sIx xs.length xs.length hi-HT.sIx xs.length 0 lo),j6.new _ _⟩
def qcI (K:Frg):R2:=λx y H Q=>∃ a b xs ys,x=.ref a/\y=.ref b/\SqT K H a xs/\SqT K H b ys/\xs≠[]/\xs.length+ys.length<=sizeLine /\
 (ys=[]->Q (.ref a) H)/\(ys≠[]->∀ p,H p=none->Q (.ref p) (upd H p (.tup (xs++ys))))
def qF.nil_iff {xs:List V} {us:List Value} (r:qF xs us):us=[]↔xs=[]:=by
 cases r with
 |nil=>simp
 |cons _ _=>simp
def SL:OpR X (binaryOp .Add) (qcI X.K):=by
 intro pins s σ H x y v u Q I rx ry h;obtain ⟨a,b,xs,ys,rfl,rfl,ha,hb,hx,hz,q1,q2⟩:=h;cases rx;cases ry;obtain ⟨its,r1,p1,_⟩:=I.tuple ha;obtain ⟨its2,r2,p2,_⟩:=I.tuple hb;refine HT.qcB p1 p2 (λz=>hx (r1.nil_iff.mp z)) (λz=>⟨.ref a,H,I,rfl,q1 (r2.nil_iff.mp z)⟩) (λz=>?_) (by rw [← r1.length,← r2.length];exact hz);refine ⟨.ref s.heap.objs.size,_,I.laid (t':=s.toks) (o:=.tup (xs++ys)) (λb ob q=>Heap.get?_push_of_some _ q) (Nat.le_refl _) ?_,rfl,q2 (λw=>z (r2.nil_iff.mpr w)) _ (I.hok.fresh (Nat.le_refl _))⟩;exact ⟨by rw [length_append];exact hz,_,r1.append r2,j6.new _ _⟩
end
def ixN (n:Nat) (i:Int):Option Nat:=if 0<=i then (if i<n then some i.toNat else none) else if -(n:Int)<=i then some (i+n).toNat else none
def atI {α:Type} (xs:List α) (i:Int):Option α:=(ixN xs.length i).bind λj=>xs[j]?
def CU {n:Nat} {i:Int} {j:Nat} (h:ixN n i=some j):seqIndex? i n=some j/\j<n/\-(n:Int)<=i/\i<n:=by
 unfold ixN at h;by_cases h0:0<=i
 ·rw [if_pos h0] at h;by_cases h1:i<n
  ·rw [if_pos h1] at h;have e:i.toNat=j:=Option.some.inj h;exact ⟨by rw [seqIndex_of h0 h1,e],by omega,by omega,h1⟩
  ·rw [if_neg h1] at h;cases h
 ·rw [if_neg h0] at h;by_cases h1:-(n:Int)<=i
  ·rw [if_pos h1] at h;have e:(i+n).toNat=j:=Option.some.inj h;exact ⟨by rw [seqIndex_neg (by omega) h1,e],by omega,h1,by omega⟩
  ·rw [if_neg h1] at h;cases h
def D8 {α:Type} {xs:List α} {i:Int} {v:α} (h:atI xs i=some v):∃ j,seqIndex? i xs.length=some j/\xs[j]?=some v/\j<xs.length/\-(xs.length:Int)<=i/\i<xs.length:=by
 unfold atI at h;cases e:ixN xs.length i with
 |none=>rw [e] at h;cases h
 |some j=>
  rw [e] at h;obtain ⟨h1,h2,h3,h4⟩:=CU e;exact ⟨j,h1,h,h2,h3,h4⟩
def DW (b:Expr):Prop:=∀ o i,subscripted b false o i=operate [o,i] (getItem o i)
def IxR (X:Cx) (r:R2):Prop:=
 ∀ (value slice:Expr) (pins:List (Addr×Obj)) (s:Shared) (σ:St) (H:Hp) (x y:V) (v u:Value) (Q:VK),Inv X pins σ H s->zp x v->zp y u->r x y H Q ->
  subscripted slice false v u=operate [v,u] (getItem v u)->wpAny (model X.prog X.w) X.A (subscriptTail value slice v u) (EP X pins σ Q) X.xe s
def MtR (X:Cx) (id:String) (r:V->List V->Hp->VK->Prop):Prop:=
 ∀ (pins:List (Addr×Obj)) (s:Shared) (σ:St) (H:Hp) (x:V) (xs:List V) (v:Value) (us:List Value) (Q:VK),Inv X pins σ H s->zp x v->qF xs us->r x xs H Q ->
  wpAny (model X.prog X.w) X.A (call (.builtin id) (v::us)) (EP X pins σ Q) X.xe s
section
variable {X:Cx} {a b:Expr} {ta tb:TE} {pos:Pos}
def IxR.or {r r':R2} (h:IxR X r) (h':IxR X r'):IxR X (λx y H Q=>r x y H Q\/r' x y H Q):=by
 intro value slice pins s σ H x y v u Q I rx ry q hs;rcases q with q|q
 ·exact h value slice pins s σ H x y v u Q I rx ry q hs
 ·exact h' value slice pins s σ H x y v u Q I rx ry q hs
def qio {r:R2} (hr:IxR X r) (ha:PE X a ta) (hb:PE X b tb) (hs:DW b):PE X (.Subscript a b pos) (tOp r ta tb):=by
 intro pins s σ H Q I h;exact Subscript_ (qiu ha hb I h λv u s2 x y H2 I2 rx ry q=>hr a b pins s2 σ H2 x y v u Q I2 rx ry q (hs _ _))
def qkL (K:Frg):R2:=λx y H Q=>∃ p xs i v,x=.ref p/\y=.int i/\SqL K H p xs/\atI xs i=some v/\Q v H
def qll (K:Frg):R2:=λx y H Q=>∃ p xs i v,x=.ref p/\y=.int i/\SqT K H p xs/\atI xs i=some v/\Q v H
def qk9:R2:=λx y H Q=>∃ z i c,x=.str z/\y=.int i/\z.length<=sizeLine/\atI z.cps.toList i=some c/\Q (.str ⟨#[c]⟩) H
def qc7:IxR X (qkL X.K):=by
 intro value slice pins s σ H x y v u Q I rx ry h hs;obtain ⟨p,xs,i,z,rfl,rfl,hq,he,q⟩:=h;cases rx;obtain ⟨t,rfl⟩:=ry;obtain ⟨its,r,pl,hz⟩:=I.list hq;obtain ⟨j,h1,h2,h3,h4,h5⟩:=D8 he;obtain ⟨w,ew,rw'⟩:=r.get h2;have hl:=r.length;have hn:=E9;have fin:EP X pins σ Q w s:=⟨z,H,I,rw',q⟩
 by_cases h0:0<=i
 ·have hj:i.toNat=j:=by
   rw [seqIndex_of h0 h5] at h1;exact Option.some.inj h1
  exact item_listR pl.isList h0 (by omega) (by rw [hj];simpa using ew) fin hs
 ·have hj:(i+(its.toArray.size:Int)).toNat=j:=by
   rw [seqIndex_neg (by omega) h4] at h1;rw [size_toArray,← hl];exact Option.some.inj h1
  exact subscriptTail_builtinR (x:=w) pl.isList.typeIs slot_list_getitem.lookup
   (wpAny_getItem_list_neg (Q:=λr s'=>r=w/\EP X pins σ Q r s') pl.isList (by omega) (by rw [size_toArray]<;>omega) (by omega) (by rw [hj];simpa using ew) ⟨rfl,fin⟩) hs
def qef:IxR X (qll X.K):=by
 intro value slice pins s σ H x y v u Q I rx ry h hs;obtain ⟨p,xs,i,z,rfl,rfl,hq,he,q⟩:=h;cases rx;obtain ⟨t,rfl⟩:=ry;obtain ⟨its,r,pl,hz⟩:=I.tuple hq;obtain ⟨j,h1,h2,h3,h4,h5⟩:=D8 he;obtain ⟨w,ew,rw'⟩:=r.get h2;have hl:=r.length;have hn:=E9;have fin:EP X pins σ Q w s:=⟨z,H,I,rw',q⟩
 exact subscriptTail_builtinR (x:=w) pl.typeIs slot_tuple_getitem.lookup
  (getItem_tuple (j:=j) (Q:=λr s'=>r=w/\EP X pins σ Q r s') pl (by omega) (by omega) (by rw [size_toArray,← hl];exact h1) (by simpa using ew) ⟨rfl,fin⟩) hs
def qhQ:IxR X qk9:=by
 intro value slice pins s σ H x y v u Q I rx ry h hs;obtain ⟨z,i,c,rfl,rfl,hz,he,q⟩:=h;obtain ⟨t,rfl⟩:=rx;obtain ⟨t',rfl⟩:=ry;obtain ⟨j,h1,h2,h3,h4,h5⟩:=D8 he;have hl:z.cps.toList.length=z.length:=by simp [Str.length]
 rw [hl] at h1 h4 h5;have hn:=E9;exact tail_any (typeIs_str s z t) slot_str_getitem.lookup (getItem_str (c:=c) (by
  have e1:decide (i < -(2 ^ 63:Int))=false:=decide_eq_false (by omega);have e2:decide (i ≥ 2 ^ 63)=false:=decide_eq_false (by omega);rw [e1,e2,Bool.or_false]) (by rw [h1];simpa using h2) ⟨.str ⟨#[c]⟩,H,I.tok _,⟨_,rfl⟩,q⟩) hs
def rIx (K:Frg):R2:=λx y H Q=>qkL K x y H Q\/qll K x y H Q\/qk9 x y H Q
def qe6:IxR X (rIx X.K):=qc7.or (qef.or qhQ)
def CF (its:List Value) (n j:Nat) (u:Value):Obj.mapSeq (·.setIfInBounds j u) { cls:=.type "list",data:=.seq its.toArray n }={ cls:=.type "list",data:=.seq (its.set j u).toArray n }:=by
 simp [Obj.mapSeq]
def Inv.lst {pins:List (Addr×Obj)} {σ:St} {H:Hp} {s:Shared} {p:Addr} {xs:List V} (I:Inv X pins σ H s) (h:H p=some (.lst xs)) :
  ∃ (its:List Value) (n:Nat),qF xs its/\s.heap.get? p=some { cls:=.type "list",data:=.seq its.toArray n }/\xs.length<=sizeLine:=by
 obtain ⟨z,its,n,r,e⟩:=I.hok p _ h;exact ⟨its,n,r,e,z⟩
def Inv.lstUpd {pins:List (Addr×Obj)} {σ:St} {H:Hp} {s:Shared} {p:Addr} {xs ys:List V} {its its':List Value} {n n':Nat} {f:Obj->Obj} (I:Inv X pins σ H s) (h:H p=some (.lst xs))
  (ho:s.heap.get? p=some { cls:=.type "list",data:=.seq its.toArray n }) (hf:f { cls:=.type "list",data:=.seq its.toArray n }={ cls:=.type "list",data:=.seq its'.toArray n' }) (r:qF ys its') (hz:ys.length<=sizeLine) (t:Nat) :
  Inv X pins σ (upd H p (.lst ys)) { s with heap:=s.heap.update p f,toks:=t }:=by
 have e:(s.heap.update p f).get? p=some { cls:=.type "list",data:=.seq its'.toArray n' }:=by
  rw [Heap.get?_update_self f ho (by rw [hf]<;>rfl),hf]
 refine I.write (x:=p) (e:=p) (by rw [h];trivial) (.inl rfl) (λb u hb q=>(Heap.get?_update_other _ _ (Ne.symm hb)).trans q) ⟨_,e⟩ ?_;exact ⟨hz,its',n',r,e⟩
def qi7:V->V->V->Hp->(Hp->Prop)->Prop:=λo i v H Q=>∃ p xs k j,o=.ref p/\i=.int k/\H p=some (.lst xs)/\ixN xs.length k=some j/\Q (upd H p (.lst (xs.set j v)))
def MF:qli X qi7:=by
 intro pins s σ H o i v ov iv u Q I ro ri rv h;obtain ⟨p,xs,k,j,rfl,rfl,hp,hj,q⟩:=h;cases ro;obtain ⟨t,rfl⟩:=ri;obtain ⟨its,n,r,ho,hz⟩:=I.lst hp;obtain ⟨h1,h2,h3,h4⟩:=CU hj;have hl:=r.length;have hn:=E9;have I':Inv X pins σ (upd H p (.lst (xs.set j v))) { s with heap:=s.heap.update p (Obj.mapSeq (·.setIfInBounds j u)) }:=
  I.lstUpd hp ho (CF its n j u) (r.set rv j) (by rw [List.length_set];exact hz) s.toks
 by_cases h0:0<=k
 ·have hk:k.toNat=j:=by
   rw [seqIndex_of h0 h4] at h1;exact Option.some.inj h1
  exact PySem.W.ki_setAt ho h0 (by omega) (by rw [size_toArray,← hl];exact h4) (by rw [hk];exact ⟨_,I',q⟩)
 ·have hk:(k+(its.toArray.size:Int)).toNat=j:=by
   rw [seqIndex_neg (by omega) h3] at h1;rw [size_toArray,← hl];exact Option.some.inj h1
  exact PySem.W.ki_setBack ho (by omega) (by rw [size_toArray,← hl];exact h3) (by omega) (by rw [hk];exact ⟨_,I',q⟩)
def EG (lo hi:Option Int) (n:Nat):(sliceBounds lo hi none n).1=((HT.sIx n 0 lo:Nat):Int)/\(sliceBounds lo hi none n).2.1=((HT.sIx n n hi:Nat):Int)/\(sliceBounds lo hi none n).2.2=1:=by
 refine ⟨?_,?_,rfl⟩
 ·cases lo with
  |none=>simp [sliceBounds,HT.sIx]
  |some i=>
   simp only [sliceBounds,HT.sIx,Option.getD_none,show (1:Int) > 0 by decide,if_true];by_cases h:i<0
   ·simp only [h,if_true]<;>omega
   ·simp only [h,if_false]<;>omega
 ·cases hi with
  |none=>simp [sliceBounds,HT.sIx]
  |some i=>
   simp only [sliceBounds,HT.sIx,Option.getD_none,show (1:Int) > 0 by decide,if_true];by_cases h:i<0
   ·simp only [h,if_true]<;>omega
   ·simp only [h,if_false]<;>omega
def V3 (its:List Value) (lo hi:Option Int):slicePick its.toArray lo hi none=((its.drop (HT.sIx its.length 0 lo)).take (HT.sIx its.length its.length hi-HT.sIx its.length 0 lo)).toArray:=by
 obtain ⟨h1,h2,h3⟩:=EG lo hi its.toArray.size;unfold slicePick;rw [h1,h2,h3];simp only [sliceRange_one,pick_run,size_toArray]<;>rfl
def qlV (K:Frg):V->Option Int->Option Int->Hp->VK->Prop:=λx lo hi H Q=>∃ a xs,x=.ref a/\SqL K H a xs/\∀ p,H p=none->Q (.ref p) (upd H p (.lst (N0 xs lo hi)))
def qcn:SlR X (qlV X.K):=by
 intro pins s σ H x v vl vu lo hi sl Q I rx hs pl pu h;obtain ⟨a,xs,rfl,hx,q⟩:=h;cases rx;obtain ⟨its,r,ht,hz⟩:=I.list hx;have hlen:=r.length;refine ⟨"list",_,slot_list_getitem.lookup,ht.isList.typeIs,?_⟩;refine wpAny_getItem_list_slice ht.isList hs pl pu .none (by simp) ?_ (by rw [size_toArray]<;>omega);rw [V3,← hlen];refine ⟨.ref s.heap.objs.size,_,I.laid (t':=s.toks) (o:=.lst (N0 xs lo hi)) (λb ob q=>Heap.get?_push_of_some _ q) (Nat.le_refl _) ?_,rfl,q _ (I.hok.fresh (Nat.le_refl _))⟩;exact ⟨Nat.le_trans (JW xs lo hi) hz,_,0,(r.drop (HT.sIx xs.length 0 lo)).take (HT.sIx xs.length xs.length hi-HT.sIx xs.length 0 lo),Heap.get?_push_size _ rfl⟩
def YQ:V->Bool
 |.non=>true
 |.bl _=>true
 |.int _=>true
 |.str _=>true
 |_=>false
def eqV:V->V->Bool
 |.non,.non=>true
 |.bl a,.bl b=>a==b
 |.bl a,.int b=>(if a then 1 else 0)==b
 |.int a,.bl b=>a==(if b then 1 else 0)
 |.int a,.int b=>a==b
 |.str a,.str b=>a==b
 |_,_=>false
def qee {A:Around} {s:Shared} {y x:V} {u v:Value} (ry:zp y u) (rx:zp x v) (fy:YQ y=true) (fx:YQ x=true):SeqAt.EqAt A s u v (eqV y x):=by
 cases y with
 |non=>
  cases ry;cases x with
  |non=>cases rx;exact SeqAt.EqAt.same _
  |bl b=>cases rx;exact SeqAt.EqAt.none_bool b
  |int b=>obtain ⟨t,rfl⟩:=rx;exact SeqAt.EqAt.none_int b t
  |str b=>obtain ⟨t,rfl⟩:=rx;exact SeqAt.EqAt.none_str b t
  |_=>exact absurd (show false=true from fx) Bool.false_ne_true
 |bl a=>
  cases ry;cases x with
  |non=>cases rx;exact SeqAt.EqAt.bool_none a
  |bl b=>cases rx;exact SeqAt.EqAt.bool_bool a b
  |int b=>obtain ⟨t,rfl⟩:=rx;exact SeqAt.EqAt.bool_int a b t
  |str b=>obtain ⟨t,rfl⟩:=rx;exact SeqAt.EqAt.bool_str a b t
  |_=>exact absurd (show false=true from fx) Bool.false_ne_true
 |int a=>
  obtain ⟨t',rfl⟩:=ry;cases x with
  |non=>cases rx;exact SeqAt.EqAt.int_none a t'
  |bl b=>cases rx;exact SeqAt.EqAt.int_bool a t' b
  |int b=>obtain ⟨t,rfl⟩:=rx;exact SeqAt.EqAt.int_int a t' b t
  |str b=>obtain ⟨t,rfl⟩:=rx;exact SeqAt.EqAt.int_str a t' b t
  |_=>exact absurd (show false=true from fx) Bool.false_ne_true
 |str a=>
  obtain ⟨t',rfl⟩:=ry;cases x with
  |non=>cases rx;exact SeqAt.EqAt.str_none a t'
  |bl b=>cases rx;exact SeqAt.EqAt.str_bool a t' b
  |int b=>obtain ⟨t,rfl⟩:=rx;exact SeqAt.EqAt.str_int a t' b t
  |str b=>obtain ⟨t,rfl⟩:=rx;exact SeqAt.EqAt.str_str a t' b t
  |_=>exact absurd (show false=true from fx) Bool.false_ne_true
 |_=>exact absurd (show false=true from fy) Bool.false_ne_true
def eqU (x:V) (u:Value):Bool:=match u with
 |.none=>eqV .non x
 |.bool b=>eqV (.bl b) x
 |.int i _=>eqV (.int i) x
 |.str z _=>eqV (.str z) x
 |_=>false
def qaQ {x y:V} {u:Value} (r:zp y u) (f:YQ y=true):eqU x u=eqV y x:=by
 cases y with
 |non=>cases r;rfl
 |bl b=>cases r;rfl
 |int i=>obtain ⟨t,rfl⟩:=r;rfl
 |str z=>obtain ⟨t,rfl⟩:=r;rfl
 |_=>exact absurd (show false=true from f) Bool.false_ne_true
def WG {x:V}:∀ {xs:List V} {us:List Value},qF xs us->xs.all YQ=true->us.any (eqU x)=xs.any λy=>eqV y x
 |_,_,.nil,_=>rfl
 |y::xs,u::us,.cons r t,f=>by
  rw [List.all_cons,Bool.and_eq_true] at f;rw [List.any_cons,List.any_cons,qaQ r f.1,WG t f.2]
def V0 {A:Around} {s:Shared} {x:V} {v:Value} (rx:zp x v) (fx:YQ x=true):∀ {xs:List V} {us:List Value},qF xs us->xs.all YQ=true->∀ u∈us,SeqAt.EqAt A s u v (eqU x u)
 |_,_,.nil,_=>λu hu=>by cases hu
 |y::xs,u::us,.cons r t,f=>λu' hu=>by
  rw [List.all_cons,Bool.and_eq_true] at f;rcases mem_cons.mp hu with rfl|hu
  ·rw [qaQ r f.1];exact qee r rx f.1 fx
  ·exact V0 rx fx t f.2 u' hu
def inV (x:V) (xs:List V):Bool:=xs.any λy=>eqV y x
def rIn (K:Frg) (neg:Bool):R2:=λx y H Q=>∃ p xs,y=.ref p/\(SqL K H p xs\/SqT K H p xs)/\YQ x=true/\xs.all YQ=true/\Q (.bl (if neg then !inV x xs else inV x xs)) H
def Z8:OpR X (compareOp .NotIn) (rIn X.K true):=by
 intro pins s σ H x y v u Q I rx ry h;obtain ⟨p,xs,rfl,hq,fx,fs,q⟩:=h;cases ry;rcases hq with hq|hq
 ·obtain ⟨its,r,pl,hz⟩:=I.list hq;refine SeqAt.notIn_listAt (eqU x) pl.isList (λw hw=>V0 rx fx r fs w (by simpa using hw)) ⟨.bl _,H,I,rfl,?_⟩;rw [show its.toArray.any (eqU x)=its.any (eqU x) by simp,WG r fs];exact q
 ·obtain ⟨its,r,pl,hz⟩:=I.tuple hq;refine SeqAt.notIn_tupleAt (eqU x) pl (λw hw=>V0 rx fx r fs w (by simpa using hw)) ⟨.bl _,H,I,rfl,?_⟩;rw [show its.toArray.any (eqU x)=its.any (eqU x) by simp,WG r fs];exact q
def JA:QN X (.type "list") (λxs H Q=>∃ p ys,xs=[.ref p]/\(SqL X.K H p ys\/SqT X.K H p ys)/\∀ l,H l=none->Q (.ref l) (upd H l (.lst ys))):=by
 intro pins s σ H xs us Q I r h;obtain ⟨p,ys,rfl,hq,q⟩:=h;obtain ⟨u,rfl,rx⟩:=EQ r;cases rx;have fin:∀ (its:List Value),qF ys its->ys.length<=sizeLine->∀ (h':Heap) (c':Nat),(∀ b o',s.heap.get? b=some o'->h'.get? b=some o') ->
   h'.get? s.heap.objs.size=some { cls:=.type "list",dict:=none,data:=.seq its.toArray c',slots:=#[] }->EP X pins σ Q (.ref s.heap.objs.size) { s with heap:=h' }:=λits r' hz h' c' kp e=>
  ⟨.ref s.heap.objs.size,_,I.laid (t':=s.toks) kp (Nat.le_refl _) (show jc X.prog X.w _ h' _ (.lst ys) from ⟨hz,its,c',r',e⟩),rfl,q _ (I.hok.fresh (Nat.le_refl _))⟩
 rcases hq with hq|hq
 ·obtain ⟨its,r',pl,hz⟩:=I.list hq;have hlen:=r'.length;obtain ⟨o,ho,hc,n,hd⟩:=pl.isList;exact call_list_seq p (.inl rfl) ho hc hd (λh' c' kp e=>fin its r' hz h' c' kp e) (by simp only [size_toArray]<;>omega)
 ·obtain ⟨its,r',pl,hz⟩:=I.tuple hq;have hlen:=r'.length;obtain ⟨o,ho,hc,n,hd⟩:=pl;exact call_list_seq p (.inr rfl) ho hc hd (λh' c' kp e=>fin its r' hz h' c' kp e) (by simp only [size_toArray]<;>omega)
def qR:QN X (.type "tuple") (λxs H Q=>∃ p ys,xs=[.ref p]/\((SqL X.K H p ys/\∀ l,H l=none->Q (.ref l) (upd H l (.tup ys)))\/(SqT X.K H p ys/\Q (.ref p) H))):=by
 intro pins s σ H xs us Q I r h;obtain ⟨p,ys,rfl,h⟩:=h;obtain ⟨u,rfl,rx⟩:=EQ r;cases rx;rcases h with ⟨hq,q⟩|⟨hq,q⟩
 ·obtain ⟨its,r',pl,hz⟩:=I.list hq;have hlen:=r'.length;refine call_tuple_list pl.isList (λh' kp=>?_) (by simp only [size_toArray]<;>omega);have I1:Inv X pins σ H { s with heap:=h' }:=I.kept (t':=s.toks) kp;have I2:Inv X pins σ (upd H h'.objs.size (.tup ys)) { s with heap:=h'.push { cls:=.type "tuple",data:=.seq its.toArray } }:=
   I1.laid (t':=s.toks) (λb o e=>Heap.get?_push_of_some _ e) (Nat.le_refl _) (show jc X.prog X.w _ _ _ (.tup ys) from ⟨hz,its,r',j6.new _ _⟩)
  exact ⟨.ref h'.objs.size,_,I2,rfl,q _ (I1.hok.fresh (Nat.le_refl _))⟩
 ·obtain ⟨its,r',pl,hz⟩:=I.tuple hq;exact call_tuple_same pl ⟨.ref p,H,I,rfl,q⟩
def tyV (K:Frg) (T:String) (x:V) (H:Hp):Prop:=match x with
 |.str _=>T="str"
 |.int _=>T="int"
 |.ref p=>(T="list"/\∃ xs,SqL K H p xs)\/(T="tuple"/\∃ o,K.lookup p=some o/\o.cls=.type "tuple"/\o.dict=none) ∨
   (T="dict"/\((∃ kvs,H p=some (.dK kvs))\/∃ kvs,H p=some (.dT kvs)))\/(T="set"/\∃ S n,H p=some (.set S n))
 |_=>False
def qfh {pins:List (Addr×Obj)} {σ:St} {H:Hp} {s:Shared} {T:String} {x:V} {v:Value} (I:Inv X pins σ H s) (r:zp x v) (ty:tyV X.K T x H) :
  s.TypeIs v T/\∀ a,v=.ref a->∃ ob,s.heap.get? a=some ob/\ob.dict=none:=by
 cases x with
 |str z=>
  obtain ⟨t,rfl⟩:=r;cases (show T="str" from ty);exact ⟨typeIs_str s z t,λ_ e=>nomatch e⟩
 |int i=>
  obtain ⟨t,rfl⟩:=r;cases (show T="int" from ty);exact ⟨typeIs_int s i t,λ_ e=>nomatch e⟩
 |ref p=>
  cases r;rcases ty with ⟨rfl,xs,hq⟩|⟨rfl,o,hk,hc,hd⟩|⟨rfl,hk⟩|⟨rfl,S,n,hk⟩
  ·obtain ⟨its,_,pl,_⟩:=I.list hq;refine ⟨pl.isList.typeIs,λa e=>?_⟩;cases e;obtain ⟨o,n,e,c,hd,_⟩:=pl;exact ⟨o,e,hd⟩
  ·refine ⟨⟨o,I.kIn p o hk,hc⟩,λa e=>?_⟩;cases e;exact ⟨o,I.kIn _ o hk,hd⟩
  ·have z:∃ o,s.heap.get? p=some o/\o.ExactDict:=by
    rcases hk with ⟨kvs,hk⟩|⟨kvs,hk⟩
    ·obtain ⟨_,_,_,_,o,_,_,e,ex,_⟩:=I.hok p _ hk;exact ⟨o,e,ex⟩
    ·obtain ⟨_,_,_,_,o,_,_,e,ex,_⟩:=I.hok p _ hk;exact ⟨o,e,ex⟩
   obtain ⟨o,e,ex⟩:=z;refine ⟨⟨o,e,ex.1⟩,λa e2=>?_⟩;cases e2;exact ⟨o,e,ex.2.1⟩
  ·obtain ⟨o,_,_,_,e,ex,_⟩:=I.hok p _ hk;refine ⟨⟨o,e,ex.1⟩,λa e2=>?_⟩;cases e2;exact ⟨o,e,ex.2.1⟩
 |_=>exact False.elim ty
def tBM (K:Frg) (T:String) (r:V->List V->Hp->VK->Prop) (to:TE) (t:TA):TE:=λσ H Q=>to σ H λx H1=>tyV K T x H1/\t σ H1 λxs H2=>r x xs H2 Q
variable {o e:Expr} {es:List Expr} {to:TE} {t:TA} {name:Str} {apos cpos:Pos} {T id:String} {r:V->List V->Hp->VK->Prop}
def qkc (pa:PlainAttrs T) (slot:Slot T name id) (hty:typeOf (.builtin id)=pure (.type "method_descriptor")) (hm:MtR X id r) (ho:PE X o to) (ha:PA X (e::es) t)
  (hbase:attributeBase o name X.env (eval o X.env)=eval o X.env:=by rfl)
  (hfew:((backTo cpos (starEach (e::es) X.env)).all (λx=>!x.1)&&(backToKw cpos (keywordEach [] X.env)).all (λx=>x.1.isSome)
   && decide ((e::es).length+([]:List Keyword).length+(if ([]:List Keyword).isEmpty then 0 else 1)<30))=true:=by rfl)
  (hline:(apos.endLine==cpos.line)=true:=by rfl) (hs:starEach (e::es) X.env=(false,eval e X.env)::starEach es X.env:=by rfl) (hplain:(backTo cpos (starEach es X.env)).any (·.1)=false:=by rfl) :
  PE X (.Call (.Attribute o name apos) (e::es) [] cpos) (tBM X.K T r to t):=by
 intro pins s σ H Q I h;refine wpAny_Call_method_late hbase hfew hline rfl (thn (ho pins s σ H _ I h) λv s1 ⟨x,H1,I1,r1,ty,q1⟩=>?_);obtain ⟨h1,h2⟩:=qfh I1 r1 ty;refine ⟨T,id,pa,slot,hty,h1,h2,?_⟩;have hA:=ha cpos pins s1 σ H1 _ I1 q1;rw [hs] at hA ⊢;refine Calls.callWith_builtin (by show (false||(backTo cpos (starEach es X.env)).any (·.1))=false;rw [hplain]<;>rfl) (Calls.evalArgs_plain ?_);exact thn hA λus s2 ⟨vs,H2,I2,r2,q2⟩=>hm pins s2 σ H2 x vs v us Q I2 r1 r2 q2
end
def MtM (X:Cx) (id:String) (r:V->List V->Hp->VK->Prop):Prop:=
 ∀ (pins:List (Addr×Obj)) (s:Shared) (σ:St) (H:Hp) (x:V) (xs:List V) (v:Value) (us:List Value) (Q:VK),Inv X pins σ H s->zp x v->qF xs us->r x xs H Q ->
  wpAny (model X.prog X.w) X.A (call (.builtin id) (v::us)) (EP X pins σ Q) X.xe s
def qF.one:∀ {x:V} {us:List Value},qF [x] us->∃ u,us=[u]/\zp x u
 |_,_,.cons r .nil=>⟨_,rfl,r⟩
def qF.two:∀ {x y:V} {us:List Value},qF [x,y] us->∃ u v,us=[u,v]/\zp x u/\zp y v
 |_,_,_,.cons r (.cons q .nil)=>⟨_,_,rfl,r,q⟩
def qF.eraseIdx:∀ {xs:List V} {us:List Value} (i:Nat),qF xs us->qF (xs.eraseIdx i) (us.eraseIdx i)
 |_,_,_,.nil=>.nil
 |_,_,0,.cons _ t=>t
 |_,_,i+1,.cons r t=>.cons r (qF.eraseIdx i t)
def qF.reverse {xs:List V} {us:List Value} (h:qF xs us):qF xs.reverse us.reverse:=by
 induction h with
 |nil=>exact .nil
 |cons r t ih=>rw [List.reverse_cons,List.reverse_cons];exact qF.append ih (.cons r .nil)
section
variable {X:Cx} {pins:List (Addr×Obj)} {σ:St} {H:Hp} {s:Shared} {l b:Addr} {xs ys zs:List V}
def Inv.lset {its its':List Value} {n:Nat} {f:Array Value->Array Value} {t':Nat} (I:Inv X pins σ H s) (hH:H l=some (.lst xs))
  (e:s.heap.get? l=some { cls:=.type "list",data:=.seq its.toArray n }) (hf:f its.toArray=its'.toArray) (hv:qF ys its') (hz:ys.length<=sizeLine) :
  Inv X pins σ (upd H l (.lst ys)) { s with heap:=s.heap.update l (Obj.mapSeq f),toks:=t' }:=by
 have q:=PySem.IsL.update e f;rw [hf] at q;refine I.write (x:=l) (e:=l) (by rw [hH];exact trivial) (.inl rfl) (λb' u hb hu=>(Heap.get?_update_other s.heap (Obj.mapSeq f) (Ne.symm hb)).trans hu) ⟨_,q⟩ ?_;exact ⟨hz,its',_,hv,q⟩
def Inv.lnew {its:List Value} {t':Nat} (I:Inv X pins σ H s) (hv:qF ys its) (hz:ys.length<=sizeLine) :
  Inv X pins σ (upd H s.heap.objs.size (.lst ys)) { s with heap:=s.heap.push { cls:=.type "list",data:=.seq its.toArray },toks:=t' }:=
 I.laid (λ_ _ q=>Heap.get?_push_of_some _ q) (Nat.le_refl _) ⟨hz,its,0,hv,Heap.get?_push_size _ rfl⟩
def Inv.fresh (I:Inv X pins σ H s):H s.heap.objs.size=none:=I.hok.fresh (Nat.le_refl _)
def Inv.lstM (I:Inv X pins σ H s) (hH:H l=some (.lst xs)):xs.length<=sizeLine/\∃ (its:List Value) (n:Nat),qF xs its/\xs.length=its.length/\s.heap.get? l=some { cls:=.type "list",data:=.seq its.toArray n }:=by
 obtain ⟨z,its,n,r,e⟩:=I.hok l _ hH;exact ⟨z,its,n,r,r.length,e⟩
end
section
variable {X:Cx}
def SV:V->List V->Hp->VK->Prop:=λx vs H Q=>∃ l xs y,x=.ref l/\vs=[y]/\H l=some (.lst xs)/\xs.length<sizeLine/\Q .non (upd H l (.lst (xs++[y])))
def JR:MtM X "list.append" SV:=by
 intro pins s σ H x vs v us Q I rx rv h;obtain ⟨l,xs,y,rfl,rfl,hH,hz,q⟩:=h;cases rx;obtain ⟨u,rfl,ru⟩:=rv.one;obtain ⟨z,its,n,r,hl,e⟩:=I.lstM hH;refine call_meets F.slot_list_append ⟨_,e,rfl⟩ F.entry_list_append (F.args_list_append_2 _ _) (PySem.list_append l its.toArray n u (by rw [size_toArray];omega)) ⟨e,?_⟩;refine ⟨.non,_,I.lset (its':=its++[u]) hH e (by simp) (r.append (.cons ru .nil)) ?_,rfl,q⟩;rw [length_append,List.length_singleton];omega
def qiQ:R2:=λx y H Q=>∃ l b xs zs,x=.ref l/\y=.ref b/\H l=some (.lst xs)/\H b=some (.lst zs)/\xs.length+zs.length<=sizeLine/\∀ p,H p=none->Q (.ref p) (upd H p (.lst (xs++zs)))
def M4:OpR X (binaryOp .Add) qiQ:=by
 intro pins s σ H x y v u Q I rx ry h;obtain ⟨l,b,xs,zs,rfl,rfl,hH,hB,hz,q⟩:=h;cases rx;cases ry;obtain ⟨z,its,n,r,hl,e⟩:=I.lstM hH;obtain ⟨z2,its2,n2,r2,hl2,e2⟩:=I.lstM hB;refine PySem.P.add_list e e2 ?_ (by rw [size_toArray,size_toArray];omega);have ea:its.toArray++its2.toArray=(its++its2).toArray:=by simp
 rw [ea];exact ⟨.ref _,_,I.lnew (t':=s.toks) (r.append r2) (by rw [length_append];omega),rfl,q _ I.fresh⟩
end
section
variable {prog:Program} {w:World} {A:Around} {E:Value->Shared->Prop} {s:Shared}
end
section
variable {X:Cx}
end
end L2
namespace Att
open PySem PySem.W PySem.Calls PyProof.Rows
def JS {P:Params} {h:Heap}:∀ (ns:List Int) (vs:List Value),WellAll P h vs (ns.map WData.int)->IntsAre vs ns:=by
 intro ns;induction ns with
 |nil=>
  intro vs w;rw [List.map_nil] at w;cases w;exact .nil
 |cons n ns ih=>
  intro vs w;rw [map_cons] at w;cases w with
  |cons a b=>
   cases a;exact .cons _ _ (ih _ b)
def SF {l:OpenLaw} {n:Nat} (hn:l.most=some n) {P:Params} {h:Heap} {args:List WData} {vals:List Value}
  (hpre:l.row.toRowW.claim.pre args=true) (hwl:WellAll P h vals args) :
  ∃ a vs ns,vals=[Value.ref a]/\args=[WData.list (ns.map WData.int)]/\h.get? a=some { cls:=.type "list",data:=.seq vs.toArray }/\IntsAre vs ns/\ns.length<=n:=by
 have hsh:WShape.hasAll [] args [.list .int]=true:=(pre_splitW hpre).1;have hc:l.pre.holds [] { args:=args }=true:=(pre_splitW hpre).2;obtain ⟨d,r,rfl,h1,h2⟩:=hasAllW_cons hsh;obtain rfl:=hasAllW_nil h2;obtain ⟨xs,rfl,h3⟩:=hasW_list h1;obtain ⟨ns,rfl⟩:=items_int h3;have hlen:ns.length<=n:=by
  unfold OpenLaw.pre at hc;have h4:(WTm.not (.lt (.lit (.int (n:Int))) (.len (.arg 0)))).holds [] { args:=[.list (ns.map .int)] }=true:=by
   have h4:=(holds_andW hc).1;rw [hn] at h4;exact h4
  have h5:=condW_of h4 (w_not (w_lt w_lit (w_len_list (w_arg rfl))));rw [length_map] at h5;refine Nat.le_of_not_lt λq=>?_;have q':(n:Int)<((ns.length:Nat):Int):=by omega
  first
   | (rw [decide_eq_true q'] at h5;exact absurd h5 (by decide))
   | (simp at h5;omega)
 cases hwl with
 |cons w1 w2=>
  cases w2;cases w1 with
  |list ho hall=>exact ⟨_,_,ns,rfl,rfl,ho,JS ns _ hall,hlen⟩
def KG (l:OpenLaw) (args:List WData):l.row.toRowW.claim.post args (.bool true) args=true:=
 postW_of (r:=l.row.toRowW) (X:=(true==true))
  (show WShape.has [] (.bool true) .bool=true by first|rfl|decide|simp [WShape.has,WShape.arms,WShape.armsAll])
  (show (WTm.eq .res (.lit (.bool true))).value [] { args:=args,res:=some (.bool true),after:=args }=some (.bool (true==true)) from w_eq_bool (w_res rfl) w_lit) rfl
def DN {l:OpenLaw} {n:Nat} {q:Program} {loose:List Str} {XP:(Str->Option Value)->Heap->Prop} {YP:World->Heap->Prop} {d:DefRec}
  (hn:l.most=some n) (hdf:d.params.defaults=[])
  (call:∀ (w:World) (s₀ s₁:Shared) (mg mb:Str->Option Value) (fa:Addr) (o:Obj) (pm cd doc:Value) (a:Addr) (vs:List Value) (ns:List Int),
   Ground q loose [] XP w s₀ mg mb s₁.heap->YP w s₁.heap ->
   s₁.heap.get? fa=some o->o.data=.func (docDef d.name d.params d.body d.scope pm cd doc)->s₁.heap.CodeRec cd d.name->mg d.name=some (.ref fa) ->
   s₁.heap.get? a=some { cls:=.type "list",data:=.seq vs.toArray }->IntsAre vs ns->ns.length<=n->s₁.gens=#[] ->
   codeAny (model l.prog w) callerA (.call (.ref fa) ⟨[.ref a],[]⟩) (λr s'=>r=.ok (.ret (.bool true))/\OldK s₁.heap s'.heap/\s'.os=s₁.os/\AllBare s'.gens) s₁) :
  WalkO q loose XP YP l.row.toRowW d [] (λf vs=>PySem.call f vs):=by
 intro w s₀ s₁ mg mb G Y fa o pm cd doc dV kV ho hd hcd hD hmg hg args vals as hpre hlay hrd hwl hlo;obtain rfl:dV=.none:=Dflts.none hD hdf;obtain rfl:kV=.none:=Dflts.noKw hD;obtain ⟨a,vs,ns,rfl,rfl,hobj,hints,hlen⟩:=SF hn hpre hwl;refine enter_call (codeAny_mono (call w s₀ s₁ mg mb fa o pm cd doc a vs ns G Y ho (fd_plain hd) hcd hmg hobj hints hlen hg) λr s' hq=>?_);obtain ⟨rfl,h2,h3,h4⟩:=hq;exact ⟨.inl ⟨.bool true,.bool true,[],rfl,λ_=>rfl,.bool true,KG l _,λ_=>⟨List.Pairwise.nil,λ_ hm=>(nomatch hm)⟩⟩,h2,h3,h4⟩
section
variable {prog:Program} {w:World} {A:Around} {E:Value->Shared->Prop} {s:Shared} {K:Frag}
end
end Att
namespace L2
open PySem PySem.Spec PyProof.Rows
def U1:∀ {vs:List Value} {ns:List Int},IntsAre vs ns->qF (ns.map V.int) vs
 |_,_,.nil=>.nil
 |_,_,.cons n t h=>.cons ⟨t,rfl⟩ (U1 h)
def qh4 (H:Hp):Prop:=∀ b,H b=none\/∃ o xs,H b=some (.frz o (.lst xs))
def K3 {P:Program} {w:World} {K:Frg} {mg mb:Str->Option Value} {CX:CXT} {k:Nat} {fa a:Addr} {fd:FuncData} {x:Str} {sp:Sp} {s₁:Shared} {vs:List Value} {ns:List Int}
  (KX:K.In s₁.heap) (hns:s₁.heap.Ns mainGlobals mg) (hb:s₁.heap.Ns builtinsNs mb) (hbb:∀ x:Str,x≠"__name__" -> mb x=bootBuiltins x) (hlim:s₁.heap.NoLimit) (hg:s₁.gens=#[])
  (ha:s₁.heap.get? a=some { cls:=.type "list",data:=.seq vs.toArray }) (hi:IntsAre vs ns) (hl:ns.length<=sizeLine) (hr:Room k callerA)
  (F:∀ base:Heap,K.In base->base.Ns mainGlobals mg->FnOk P w K mg base CX k fa fd [x] sp) (hbind:∀ (s:Shared) (u:Value),BindsTo s fd ⟨[u],[]⟩ [(x,u)])
  (hsp:∀ H:Hp,qh4 H->SqL K H a (ns.map V.int)->sp [.ref a] H (λv _=>v=.bl true) λ_ _ _=>False)
  (hCX:∀ H e s',CX [] H s₁ (λ_ _ _=>False) e s'->False) :
  codeAny (model P w) callerA (.call (.ref fa) ⟨[.ref a],[]⟩) (λr s'=>r=.ok (.ret (.bool true))/\OldK s₁.heap s'.heap/\s'.os=s₁.os/\AllBare s'.gens) s₁:=by
 have rv:=U1 hi;have lenV:=hi.length
 -- from an abstract heap in which nothing but the script may be tracked
 have core:∀ H:Hp,qh4 H->SqL K H a (ns.map V.int)->HOk P w H s₁.heap->(∀ b,H b≠none->b=a)->(H a≠none->K.lookup a=none) ->
   codeAny (model P w) callerA (.call (.ref fa) ⟨[.ref a],[]⟩) (λr s'=>r=.ok (.ret (.bool true))/\OldK s₁.heap s'.heap/\s'.os=s₁.os/\AllBare s'.gens) s₁:=by
  intro H hO hS hok hA hK;have base_of:∀ {b:Addr} {o:Obj},s₁.heap.get? b=some o->H b=none->(K7 s₁.heap H).get? b=some o:=λe n=>MJ e n;have noA:∀ {b:Addr} {o:Obj} {es:Array DictEntry} {ep:Nat},s₁.heap.get? b=some o->o.data=.dict es ep->H b=none:=λ{b o es ep} e d=>by
   cases q:H b with
   |none=>rfl
   |some u=>
    have e':b=a:=hA b (by rw [q];simp);subst e';rw [ha] at e;cases e;have d':Data.seq vs.toArray _=Data.dict es ep:=d;cases d'
  have nsK:∀ {b:Addr} {m:Str->Option Value},s₁.heap.Ns b m->(K7 s₁.heap H).Ns b m:=λ{b m} ⟨o,es,ep,e,d,r⟩=>⟨o,es,ep,base_of e (noA e d),d,r⟩
  have hKb:K.In (K7 s₁.heap H):=λb o e=>base_of (KX b o e) (by
   cases q:H b with
   |none=>rfl
   |some u=>
    have e':b=a:=hA b (by rw [q];simp);subst e';rw [hK (by rw [q];simp)] at e;cases e)
  have hM:Mod K mg (K7 s₁.heap H):=⟨hKb,nsK hns,⟨mb,nsK hb,hbb⟩,let ⟨mc,h1,h2⟩:=hlim;⟨mc,nsK h1,h2⟩⟩
  have e0:Env0 P w K mg (K7 s₁.heap H) callerA [] s₁ H:=⟨rfl,hM,λb o e=>qce e,Nat.le_of_eq (SU _ _),trivial,λb hb=>absurd (show b∈([]:List Addr) from hb) (by simp),hok,.of_eq hg⟩
  refine codeAny_mono ((F _ hKb (nsK hns)).run callerA [] s₁ H ⟨[.ref a],[]⟩ [.ref a] [.ref a] _ _ hr e0 (hbind s₁ (.ref a)) (.cons rfl .nil) (hsp H hO hS)) λr s' h=>?_;cases r with
  |error e=>exact (hCX H e s' h).elim
  |ok fl=>
   cases fl with
   |next=>exact False.elim h
   |brk=>exact False.elim h
   |cont=>exact False.elim h
   |ret u=>
    obtain ⟨v,H',os,bare,un,hok',r',q⟩:=h;have q':v=.bl true:=q;subst q';obtain rfl:u=Value.bool true:=r';refine ⟨rfl,OldK.of_keep λb o e=>?_,os,bare⟩;cases q:H b with
    |none=>exact un.keep b o e q (by intro z;exact absurd (show b∈([]:List Addr) from z) (by simp)) (by simp)
    |some u=>
     rcases hO b with z|⟨ob,xs,z⟩
     ·rw [q] at z;cases z
     ·have z2:=un.frzs b ob _ z;obtain ⟨e1,_⟩:=hok b _ z;obtain ⟨e2,_⟩:=hok' b _ z2;rw [e] at e1;cases e1;exact e2
 cases hk:K.lookup a with
 |some o=>
  -- the script is one of the module's own objects
  have e:=KX a o hk;rw [ha] at e;cases e;refine core (λ_=>none) (λ_=>.inl rfl) (.inr ⟨_,vs.toArray,_,hk,rfl,rfl,rfl,by rw [size_toArray,lenV];exact hl,by simpa using rv⟩) (λb u z=>by have z':(none:Option HO)=some u:=z;cases z') (λb z=>absurd rfl z) λz=>absurd rfl z
 |none=>
  refine core (λb=>if b=a then some (.frz { cls:=.type "list",data:=.seq vs.toArray } (.lst (ns.map V.int))) else none) (λb=>?_) (.inl (.inr ⟨{ cls:=.type "list",data:=.seq vs.toArray },if_pos rfl⟩)) (λb u z=>?_) (λb z=>?_) λ_=>hk
  ·by_cases hb:b=a
   ·exact .inr ⟨_,_,if_pos hb⟩
   ·exact .inl (if_neg hb)
  ·by_cases hb:b=a
   ·have z':=(if_pos hb).symm.trans z;cases z';subst hb;exact ⟨ha,by rw [length_map];exact hl,vs,_,rv,ha⟩
   ·have z':=(if_neg hb).symm.trans z;cases z'
  ·by_cases hb:b=a
   ·exact hb
   ·exact absurd (if_neg hb) z
def qcf {l:PySem.W.OpenLaw} {n k:Nat} {q:Program} {loose:List Str} {XP:(Str->Option Value)->Heap->Prop} {YP:World->Heap->Prop} {d:DefRec} {K:Params->PySem.W.Frag} {CX:World->CXT} {sp:World->Sp} {x:Str}
  (hn:l.most=some n) (hn2:n<=sizeLine) (hdf:d.params.defaults=[]) (hr:Room k callerA)
  (hY:∀ (w:World) (h:Heap),YP w h->(K w.params).In h)
  (F:∀ (w:World) (mg:Str->Option Value) (fa:Addr) (h:Heap),(K w.params).In h->h.Ns mainGlobals mg->mg d.name=some (.ref fa) ->
   ∃ fd:FuncData,(∀ (s:Shared) (u:Value),BindsTo s fd ⟨[u],[]⟩ [(x,u)]) /\
    ∀ base:Heap,(K w.params).In base->base.Ns mainGlobals mg->FnOk l.prog w (K w.params) mg base (CX w) k fa fd [x] (sp w))
  (hsp:∀ (w:World) (H:Hp) (a:Addr) (ns:List Int),ns.length<=n->qh4 H->SqL (K w.params) H a (ns.map V.int)->sp w [.ref a] H (λv _=>v=.bl true) λ_ _ _=>False)
  (hCX:∀ (w:World) (H:Hp) (s:Shared) (e:Value) (s':Shared),CX w [] H s (λ_ _ _=>False) e s'->False) :
  PySem.W.WalkO q loose XP YP l.row.toRowW d [] (λf vs=>PySem.call f vs):=by
 refine Att.DN hn hdf λw s₀ s₁ mg mb fa o pm cd doc a vs ns G Y ho hd hcd hmg hobj hints hlen hg=>?_;have KX:=hY w _ Y;obtain ⟨fd,hb,hF⟩:=F w mg fa _ KX G.T.g hmg;exact K3 KX G.T.g G.T.b G.T.builtins G.T.nolimit hg hobj hints (Nat.le_trans hlen hn2) hr hF hb (λH hO hS=>hsp w H a ns hlen hO hS) λH e s'=>hCX w H s₁ e s'
def zq (s:Stmt):Arguments:=match s with
 |.FunctionDef _ a _ _ _ _ _ _ _ _=>a
 |_=>{ posonlyargs:=[],args:=[],vararg:=none,kwonlyargs:=[],kw_defaults:=[],kwarg:=none,defaults:=[] }
def qH (s:Stmt):List Stmt:=match s with
 |.FunctionDef _ _ b _ _ _ _ _ _ _=>b
 |_=>[]
def qf (s:Stmt):Scope:=match s with
 |.FunctionDef _ _ _ _ _ _ sc _ _ _=>sc
 |_=>{ kind:=.function,names:=[],isGenerator:=false,isCoroutine:=false }
abbrev CX0:CXT:=λ_ _ _ _ _ _=>False
abbrev E0:XK:=λ_ _ _=>False
def qjF {X:Cx}:T6 CX0 X E0:=λ_ _ _ _ _ _ _ h=>h.elim
structure Fun (K:Frg) (x qual:Str) (st:Stmt) (f:Addr) (fd:FuncData):Prop where
 ex:∃ (oc:Value) (od:Option Addr) (kV doc pm:Value) (an:Option Addr) (cdv ct:Value) (osl:Array (Option Value)),
  fd=PySem.W.fnOf x qual (zq st) (qH st) (qf st) .none kV doc pm an cdv ct/\K.lookup f=some ⟨oc,od,.func fd,osl⟩/\PySem.W.codeIn K cdv qual=true
 kp:PySem.W.keepIn K (.ref f)=true
section
variable {P:Program} {w:World} {K:Frg} {mg:Str->Option Value} {base:Heap}
def Fun.ok {x qual:Str} {st:Stmt} {f:Addr} {fd:FuncData} {N ps:List Str} {k:Nat} {sp:Sp} (F:Fun K x qual st f fd) (S:FnScope N ps (qf st)) (len:∀ vs H Q E,sp vs H Q E->vs.length=ps.length)
  (hbody:∀ (cdv:Value) (A:Around) (outer:List Env) (s:Shared) (H:Hp) (vs:List V) (Q:VK) (E:XK),Room k (A.deeper (envOfC qual (qf st) s.heap.objs.size f cdv))->sp vs H Q E ->
   ∃ t,PSs (JC CX0 P w K mg base N qual (qf st) f cdv A outer s H E).nox (qH st) t/\t { nx:=λ_ H'=>Q .non H',rt:=Q } (J2 N vs) H):FnOk P w K mg base CX0 (k+1) f fd ps sp:=by
 obtain ⟨oc,od,kV,doc,pm,an,cdv,ct,osl,rfl,lk,hcd⟩:=F.ex;refine qgR lk hcd S len λA outer s H vs Q E hr hsp=>?_;obtain ⟨t,h,q⟩:=hbody cdv A outer s H vs Q E hr hsp;exact ⟨t,h.nox,q⟩
def Fun.binds {x qual:Str} {st:Stmt} {f:Addr} {fd:FuncData} {ps:List Str} (F:Fun K x qual st f fd)
  (h:∀ (kV doc pm:Value) (an:Option Addr) (cdv ct:Value) (us:List Value),us.length=ps.length->bindArgs (PySem.W.fnOf x qual (zq st) (qH st) (qf st) .none kV doc pm an cdv ct) ⟨us,[]⟩=pure (ps.zip us)):zz K fd ps []:=by
 obtain ⟨oc,od,kV,doc,pm,an,cdv,ct,osl,rfl,lk,hcd⟩:=F.ex;exact .all (h kV doc pm an cdv ct)
def qfd {x qual:Str} {st:Stmt} {f:Addr} {oc:Value} {od an:Option Addr} {osl:Array (Option Value)} {kV doc pm cdv ct:Value} (l:K.lookup f=some ⟨oc,od,.func (PySem.W.fnOf x qual (zq st) (qH st) (qf st) .none kV doc pm an cdv ct),osl⟩)
  (c:PySem.W.codeIn K cdv qual=true) (k:PySem.W.keepIn K (.ref f)=true):Fun K x qual st f (PySem.W.fnOf x qual (zq st) (qH st) (qf st) .none kV doc pm an cdv ct):=⟨⟨oc,od,kV,doc,pm,an,cdv,ct,osl,rfl,l,c⟩,k⟩
end
section
variable {X:Cx}
end
def qkR {A B:Prop} (h:B):if false=true then A else B:=by
 rw [if_neg Bool.false_ne_true];exact h
def qla {A B:Prop} (h:A):if true=true then A else B:=by
 rw [if_pos rfl];exact h
end L2
set_option maxHeartbeats 4000000
namespace L3
open PySem PySem.Spec PyProof.Rows L2
set_option genInjectivity true in
inductive T where
 |non|bl (b:Bool)|int (i:Int)|str (x:Str)|tup (xs:List T)|ref (a:Addr)
inductive O where
 |lst (xs:List T)
 |frz (xs:List T)
 |dct (kvs:List (Int×T))
 |exn (C:Addr)
 |tab (ks:List Str) (xs:List T)
abbrev Gp:=Addr->Option O
def gu (G:Gp) (a:Addr) (o:O):Gp:=λb=>if b=a then some o else G b
def qC {G:Gp} {a:Addr} {o:O}:gu G a o a=some o:=by unfold gu;rw [if_pos rfl]
def je {G:Gp} {a b:Addr} {o:O} (h:b≠a):gu G a o b=G b:=by unfold gu;rw [if_neg h]
mutual
inductive Rp (K:Frg) (H:Hp):T->V->Prop
 |non:Rp K H .non .non
 |bl (b:Bool):Rp K H (.bl b) (.bl b)
 |int (i:Int):Rp K H (.int i) (.int i)
 |str (x:Str):Rp K H (.str x) (.str x)
 |ref (a:Addr):Rp K H (.ref a) (.ref a)
 |tup {xs:List T} {a:Addr} {vs:List V}:SqT K H a vs->Rps K H xs vs->Rp K H (.tup xs) (.ref a)
inductive Rps (K:Frg) (H:Hp):List T->List V->Prop
 |nil:Rps K H [] []
 |cons {x:T} {v:V} {xs:List T} {vs:List V}:Rp K H x v->Rps K H xs vs->Rps K H (x::xs) (v::vs)
end
def IsX (a C:Addr) (h:Heap):Prop:=∃ o vs,h.get? a=some o/\o.cls=.ref C/\o.data=.fields vs
def OR (K:Frg) (H:Hp) (a:Addr):O->Prop
 |.lst xs=>∃ vs,H a=some (.lst vs)/\Rps K H xs vs
 |.frz xs=>∃ vs,(∃ o,H a=some (.frz o (.lst vs)))/\Rps K H xs vs
 |.dct kvs=>∃ vs,H a=some (.dK ((kvs.map λp=>(Sum.inl p.1:Key)).zip vs))/\Rps K H (kvs.map λp=>p.2) vs
 |.exn C=>H a=some (.ext (IsX a C))
 |.tab ks xs=>∃ vs,H a=some (.dK ((ks.map λk=>(Sum.inr k:Key)).zip vs))/\Rps K H xs vs
def HR (K:Frg) (G:Gp) (H:Hp):Prop:=∀ a o,G a=some o->OR K H a o
def Kp (G:Gp) (H:Hp) (G':Gp) (H':Hp):Prop:=∀ a o,H a=some o->G a=none->H' a=some o/\G' a=none
def Kp.refl {G:Gp} {H:Hp}:Kp G H G H:=λ_ _ h g=>⟨h,g⟩
def Kp.trans {G G1 G2:Gp} {H H1 H2:Hp} (a:Kp G H G1 H1) (b:Kp G1 H1 G2 H2):Kp G H G2 H2:=λx o h g=>
 let ⟨h1,g1⟩:=a x o h g;b x o h1 g1
section
variable {K:Frg} {G G':Gp} {H H':Hp}
def HR.noneT (hr:HR K G H) {a:Addr} {vs:List V} (h:Rd H a (.tup vs)):G a=none:=by
 cases e:G a with
 |none=>rfl
 |some o=>
  have q:=hr a o e;cases o with
  |lst xs=>
   obtain ⟨us,q1,_⟩:=q;rcases h with h|⟨ob,h⟩<;>(rw [q1] at h;cases h)
  |frz xs=>
   obtain ⟨us,⟨o1,q1⟩,_⟩:=q;rcases h with h|⟨ob,h⟩<;>(rw [q1] at h;cases h)
  |dct kvs=>
   obtain ⟨us,q1,_⟩:=q;rcases h with h|⟨ob,h⟩<;>(rw [q1] at h;cases h)
  |exn C=>
   have q1:H a=some (.ext (IsX a C)):=q;rcases h with h|⟨ob,h⟩<;>(rw [q1] at h;cases h)
  |tab ks xs=>
   obtain ⟨us,q1,_⟩:=q;rcases h with h|⟨ob,h⟩<;>(rw [q1] at h;cases h)
def JJ (hr:HR K G H) (k:Kp G H G' H') {a:Addr} {vs:List V} (h:SqT K H a vs):SqT K H' a vs:=by
 rcases h with h|h
 ·have g:=hr.noneT h;rcases h with h|⟨o,h⟩
  ·exact .inl (.inl (k a _ h g).1)
  ·exact .inl (.inr ⟨o,(k a _ h g).1⟩)
 ·exact .inr h
mutual
def Rp.keep (hr:HR K G H) (k:Kp G H G' H'):∀ {x:T} {v:V},Rp K H x v->Rp K H' x v
 |_,_,.non=>.non
 |_,_,.bl b=>.bl b
 |_,_,.int i=>.int i
 |_,_,.str x=>.str x
 |_,_,.ref a=>.ref a
 |_,_,.tup h hs=>.tup (JJ hr k h) (Rps.keep hr k hs)
def Rps.keep (hr:HR K G H) (k:Kp G H G' H'):∀ {x:List T} {v:List V},Rps K H x v->Rps K H' x v
 |_,_,.nil=>.nil
 |_,_,.cons a b=>.cons (Rp.keep hr k a) (Rps.keep hr k b)
end
def Rps.length:∀ {xs:List T} {vs:List V},Rps K H xs vs->xs.length=vs.length
 |_,_,.nil=>rfl
 |_,_,.cons _ b=>by simp [Rps.length b]
def Rps.get:∀ {xs:List T} {vs:List V} {i:Nat} {x:T},Rps K H xs vs->xs[i]?=some x->∃ v,vs[i]?=some v/\Rp K H x v
 |_,_,_,_,.nil,e=>by simp at e
 |_,_,0,_,.cons r _,e=>by simp at e;subst e;exact ⟨_,rfl,r⟩
 |_,_,i+1,x,.cons _ t,e=>by
  obtain ⟨u,h1,h2⟩:=Rps.get (i:=i) (x:=x) t (by simpa using e);exact ⟨u,by simpa using h1,h2⟩
def Rps.append:∀ {xs ys:List T} {vs us:List V},Rps K H xs vs->Rps K H ys us->Rps K H (xs++ys) (vs++us)
 |_,_,_,_,.nil,s=>s
 |_,_,_,_,.cons r t,s=>.cons r (Rps.append t s)
def Rps.take:∀ {xs:List T} {vs:List V} (n:Nat),Rps K H xs vs->Rps K H (xs.take n) (vs.take n)
 |_,_,0,_=>.nil
 |_,_,_+1,.nil=>.nil
 |_,_,n+1,.cons r t=>.cons r (Rps.take n t)
def Rps.drop:∀ {xs:List T} {vs:List V} (n:Nat),Rps K H xs vs->Rps K H (xs.drop n) (vs.drop n)
 |_,_,0,r=>r
 |_,_,_+1,.nil=>.nil
 |_,_,n+1,.cons _ t=>Rps.drop n t
def Rps.set {x:T} {v:V} (r:Rp K H x v):∀ {xs:List T} {vs:List V} (i:Nat),Rps K H xs vs->Rps K H (xs.set i x) (vs.set i v)
 |_,_,_,.nil=>.nil
 |_,_,0,.cons _ t=>.cons r t
 |_,_,i+1,.cons q t=>.cons q (Rps.set r i t)
def Rps.ints:∀ (ns:List Int),Rps K H (ns.map T.int) (ns.map V.int)
 |[]=>.nil
 |n::r=>.cons (.int n) (Rps.ints r)
def Rps.reverse {xs:List T} {vs:List V} (h:Rps K H xs vs):Rps K H xs.reverse vs.reverse:=by
 induction xs generalizing vs with
 |nil=>cases h;exact .nil
 |cons x r ih=>
  cases h with
  |cons a b=>
   rw [List.reverse_cons,List.reverse_cons];exact (ih b).append (.cons a .nil)
def Kp.laid {p:Addr} {ho:HO} (hp:H p=none):Kp G H G (upd H p ho):=λa o h g=>⟨by rw [qj (qo h hp)];exact h,g⟩
def HR.free (hr:HR K G H) {p:Addr} (hp:H p=none):G p=none:=by
 cases e:G p with
 |none=>rfl
 |some o=>
  have q:=hr p o e;cases o with
  |lst xs=>obtain ⟨us,q1,_⟩:=q;rw [hp] at q1;cases q1
  |frz xs=>obtain ⟨us,⟨o1,q1⟩,_⟩:=q;rw [hp] at q1;cases q1
  |dct kvs=>obtain ⟨us,q1,_⟩:=q;rw [hp] at q1;cases q1
  |exn C=>have q1:H p=some (.ext (IsX p C)):=q;rw [hp] at q1;cases q1
  |tab ks xs=>obtain ⟨us,q1,_⟩:=q;rw [hp] at q1;cases q1
def OR.keep (hr:HR K G H) (k:Kp G H G' H') {a:Addr} {o:O} (h:OR K H a o) (e:∀ u,H a=some u->H' a=some u):OR K H' a o:=by
 cases o with
 |lst xs=>obtain ⟨vs,h1,h2⟩:=h;exact ⟨vs,e _ h1,h2.keep hr k⟩
 |frz xs=>obtain ⟨vs,⟨o,h1⟩,h2⟩:=h;exact ⟨vs,⟨o,e _ h1⟩,h2.keep hr k⟩
 |dct kvs=>obtain ⟨vs,h1,h2⟩:=h;exact ⟨vs,e _ h1,h2.keep hr k⟩
 |exn C=>exact e _ h
 |tab ks xs=>obtain ⟨vs,h1,h2⟩:=h;exact ⟨vs,e _ h1,h2.keep hr k⟩
def HR.laid (hr:HR K G H) {p:Addr} {ho:HO} (hp:H p=none):HR K G (upd H p ho):=λa o e=>
 (hr a o e).keep hr (Kp.laid hp) λu h=>by rw [qj (qo h hp)];exact h
def Kp.newL {p:Addr} {ho:HO} {o':O} (hp:H p=none):Kp G H (gu G p o') (upd H p ho):=λa o h g=>
 ⟨by rw [qj (qo h hp)];exact h,by rw [je (qo h hp)];exact g⟩
def HR.newL (hr:HR K G H) {p:Addr} {xs:List T} {vs:List V} (hp:H p=none) (r:Rps K H xs vs):HR K (gu G p (.lst xs)) (upd H p (.lst vs)):=λa o e=>by
 by_cases ha:a=p
 ·subst ha;rw [qC] at e;cases e;exact ⟨vs,qz,r.keep hr (Kp.laid hp)⟩
 ·rw [je ha] at e;exact (hr a o e).keep hr (Kp.laid hp) λu h=>by rw [qj ha];exact h
def Kp.wr {p:Addr} {ho:HO} {o o':O} (g:G p=some o):Kp G H (gu G p o') (upd H p ho):=λa ob h ga=>by
 have ha:a≠p:=by intro e;subst e;rw [g] at ga;cases ga
 exact ⟨by rw [qj ha];exact h,by rw [je ha];exact ga⟩
def HR.wr (hr:HR K G H) {p:Addr} {ys xs:List T} {vs:List V} (g:G p=some (.lst ys)) (r:Rps K H xs vs):HR K (gu G p (.lst xs)) (upd H p (.lst vs)):=λa o e=>by
 have k:Kp G H (gu G p (.lst xs)) (upd H p (.lst vs)):=Kp.wr g;by_cases ha:a=p
 ·subst ha;rw [qC] at e;cases e;exact ⟨vs,qz,r.keep hr k⟩
 ·rw [je ha] at e;exact (hr a o e).keep hr k λu h=>by rw [qj ha];exact h
end
abbrev St3:=List (Option T)
structure Rel (K:Frg) (τ:St3) (G:Gp) (σ:L2.St) (H:Hp):Prop where
 hp:HR K G H
 len:τ.length=σ.length
 st:∀ (i:Nat) (t:T),τ[i]?=some (some t)->∃ v,σ[i]?=some (some v)/\Rp K H t v
def Rel.next {K:Frg} {τ:St3} {G G':Gp} {σ:L2.St} {H H':Hp} (r:Rel K τ G σ H) (hr:HR K G' H') (k:Kp G H G' H'):Rel K τ G' σ H':=
 ⟨hr,r.len,λi t e=>let ⟨v,h1,h2⟩:=r.st i t e;⟨v,h1,h2.keep r.hp k⟩⟩
def Rel.set {K:Frg} {τ:St3} {G:Gp} {σ:L2.St} {H:Hp} {t:T} {v:V} (r:Rel K τ G σ H) (i:Nat) (h:Rp K H t v):Rel K (τ.set i (some t)) G (σ.set i (some v)) H:=by
 refine ⟨r.hp,by simp [r.len],λj u e=>?_⟩;by_cases hij:i=j
 ·subst hij;rw [List.getElem?_set_self'] at e;have hl:i<τ.length:=by
   cases q:τ[i]? with
   |none=>rw [q] at e;cases e
   |some z=>exact (List.getElem?_eq_some_iff.mp q).1
  rw [getElem?_eq_getElem hl] at e;have e':t=u:=by simpa using e
  subst e';exact ⟨v,by rw [List.getElem?_set_self (by rw [← r.len];exact hl)],h⟩
 ·rw [List.getElem?_set_ne hij] at e;obtain ⟨w,h1,h2⟩:=r.st j u e;exact ⟨w,by rw [List.getElem?_set_ne hij];exact h1,h2⟩
abbrev Q3:=T->Gp->Prop
abbrev TE3:=St3->Gp->Q3->Prop
abbrev TT3:=St3->Gp->(Bool->Gp->Prop)->Prop
abbrev TA3:=St3->Gp->(List T->Gp->Prop)->Prop
def Aft (K:Frg) (G:Gp) (H:Hp) (q:Q3) (Q:VK):Prop:=∀ x G',q x G'->∀ v H',Rp K H' x v->HR K G' H'->Kp G H G' H'->Q v H'
def qie (K:Frg) (G:Gp) (H:Hp) (q:Bool->Gp->Prop) (Q:Bool->Hp->Prop):Prop:=∀ x G',q x G'->∀ H',HR K G' H'->Kp G H G' H'->Q x H'
def qlH (K:Frg) (G:Gp) (H:Hp) (q:List T->Gp->Prop) (Q:List V->Hp->Prop):Prop:=∀ x G',q x G'->∀ v H',Rps K H' x v->HR K G' H'->Kp G H G' H'->Q v H'
def lE (K:Frg) (t:TE3):TE:=λσ H Q=>∃ τ G q,Rel K τ G σ H/\t τ G q/\Aft K G H q Q
def lT (K:Frg) (t:TT3):TT:=λσ H Q=>∃ τ G q,Rel K τ G σ H/\t τ G q/\qie K G H q Q
def lA (K:Frg) (t:TA3):TA:=λσ H Q=>∃ τ G q,Rel K τ G σ H/\t τ G q/\qlH K G H q Q
abbrev E3 (X:Cx) (e:Expr) (t:TE3):Prop:=PE X e (lE X.K t)
abbrev C3 (X:Cx) (e:Expr) (t:TT3):Prop:=PT X e (lT X.K t)
abbrev W3 (X:Cx) (e:Expr) (t:TT3):Prop:=PW X e (lT X.K t)
abbrev A3 (X:Cx) (es:List Expr) (t:TA3):Prop:=PA X es (lA X.K t)
def Aft.back {K:Frg} {G G1:Gp} {H H1:Hp} {q:Q3} {Q:VK} (a:Aft K G H q Q) (k:Kp G H G1 H1):Aft K G1 H1 q Q:=λx G' h v H' r hr k'=>a x G' h v H' r hr (k.trans k')
def qie.back {K:Frg} {G G1:Gp} {H H1:Hp} {q:Bool->Gp->Prop} {Q:Bool->Hp->Prop} (a:qie K G H q Q) (k:Kp G H G1 H1):qie K G1 H1 q Q:=λx G' h H' hr k'=>a x G' h H' hr (k.trans k')
def JH {X:Cx} {e:Expr} {t t':TE} (h:PE X e t) (w:∀ σ H Q,t' σ H Q->t σ H Q):PE X e t':=λpins s σ H Q I q=>h pins s σ H Q I (w σ H Q q)
def qjq {X:Cx} {e:Expr} {t t':TT} (h:PT X e t) (w:∀ σ H Q,t' σ H Q->t σ H Q):PT X e t':=λpins s σ H Q I q=>h pins s σ H Q I (w σ H Q q)
def qlS {X:Cx} {e:Expr} {t t':TT} (h:PW X e t) (w:∀ σ H Q,t' σ H Q->t σ H Q):PW X e t':=λwh pins s σ H Q I q=>h wh pins s σ H Q I (w σ H Q q)
def qje {X:Cx} {e:List Expr} {t t':TA} (h:PA X e t) (w:∀ σ H Q,t' σ H Q->t σ H Q):PA X e t':=λpos pins s σ H Q I q=>h pos pins s σ H Q I (w σ H Q q)
def qN {K:Frg} {ta:TE3} {τ:St3} {G:Gp} {σ:L2.St} {H:Hp} {q:Q3} {Q:VK} (r:Rel K τ G σ H) (h:ta τ G q)
  (n:∀ x G1,q x G1->∀ v H1,Rp K H1 x v->HR K G1 H1->Kp G H G1 H1->Rel K τ G1 σ H1->Q v H1):lE K ta σ H Q:=
 ⟨τ,G,q,r,h,λx G1 hq v H1 rx hr k=>n x G1 hq v H1 rx hr k (r.next hr k)⟩
def UV {K:Frg} {ta:TT3} {τ:St3} {G:Gp} {σ:L2.St} {H:Hp} {q:Bool->Gp->Prop} {Q:Bool->Hp->Prop} (r:Rel K τ G σ H) (h:ta τ G q)
  (n:∀ x G1,q x G1->∀ H1,HR K G1 H1->Kp G H G1 H1->Rel K τ G1 σ H1->Q x H1):lT K ta σ H Q:=
 ⟨τ,G,q,r,h,λx G1 hq H1 hr k=>n x G1 hq H1 hr k (r.next hr k)⟩
def jo {K:Frg} {ta:TA3} {τ:St3} {G:Gp} {σ:L2.St} {H:Hp} {q:List T->Gp->Prop} {Q:List V->Hp->Prop} (r:Rel K τ G σ H) (h:ta τ G q)
  (n:∀ x G1,q x G1->∀ v H1,Rps K H1 x v->HR K G1 H1->Kp G H G1 H1->Rel K τ G1 σ H1->Q v H1):lA K ta σ H Q:=
 ⟨τ,G,q,r,h,λx G1 hq v H1 rx hr k=>n x G1 hq v H1 rx hr k (r.next hr k)⟩
section
variable {X:Cx} {a b c:Expr} {ta tb tc:TE3} {pos:Pos}
def v3 (i:Nat):TE3:=λτ G q=>match τ[i]? with|some (some t)=>q t G|_=>False
def qj3 (i:Nat) {x:Str} {pos:Pos} (hN:X.N[i]?=some x:=by rfl) (hv:Vis X.env.scope x:=by first|exact Or.inl rfl|exact Or.inr (Or.inl rfl)|exact Or.inr (Or.inr rfl)) (hd:(x==("__debug__" : Str))=false:=by decide)
  (hcd:(x==("__classdict__" : Str))=false:=by decide):E3 X (.Name x pos) (v3 i):=by
 refine JH (qhm (i:=i) hN hv hd hcd) λσ H Q ⟨τ,G,q,r,h,af⟩=>?_;unfold v3 at h;split at h
 ·rename_i t e;obtain ⟨v,e2,rv⟩:=r.st i t e;exact ⟨v,e2,af t G h v H rv r.hp Kp.refl⟩
 ·exact h.elim
def c3 (t:T):TE3:=λ_ G q=>q t G
def e_c {t:T} {v:V} {e:Expr} (h:PE X e (tC v)) (hr:∀ H,Rp X.K H t v):E3 X e (c3 t):=JH h λσ H Q ⟨τ,G,q,r,h,af⟩=>af t G h v H (hr H) r.hp Kp.refl
def qkE {i:Int} {j pos}:E3 X (.Constant (.int i) j pos) (c3 (.int i)):=e_c qgk λ_=>.int i
def qlC {b:Bool} {j pos}:E3 X (.Constant (.bool b) j pos) (c3 (.bl b)):=e_c qjo λ_=>.bl b
def qiK {j pos}:E3 X (.Constant .none j pos) (c3 .non):=e_c qfK λ_=>.non
def qjC {x:Str} {j pos}:E3 X (.Constant (.str x) j pos) (c3 (.str x)):=e_c qhC λ_=>.str x
def n3:TE3:=λ_ _ _=>False
abbrev R3:=T->T->Gp->Q3->Prop
def EK (K:Frg) (r3:R3) (r:R2):Prop:=∀ x y v u G H q Q,HR K G H->Rp K H x v->Rp K H y u->r3 x y G q->Aft K G H q Q->r v u H Q
def o3 (r:R3) (ta tb:TE3):TE3:=λτ G q=>ta τ G λx G1=>tb τ G1 λy G2=>r x y G2 q
def LS {K:Frg} {r3:R3} {r:R2} (hr:EK K r3 r) {σ:L2.St} {H:Hp} {Q:VK} (h:lE K (o3 r3 ta tb) σ H Q):tOp r (lE K ta) (lE K tb) σ H Q:=by
 obtain ⟨τ,G,q,rl,h,af⟩:=h;refine qN rl h λx G1 h1 v H1 rx hr1 k1 rl1=>qN rl1 h1 λy G2 h2 u H2 ry hr2 k2 rl2=>?_;exact hr x y v u G2 H2 q Q hr2 (rx.keep hr1 k2) ry h2 (af.back (k1.trans k2))
def qaV {op:Operator} {r3:R3} {r:R2} (ho:OpR X (binaryOp op) r) (hr:EK X.K r3 r) (ha:E3 X a ta) (hb:E3 X b tb):E3 X (.BinOp a op b pos) (o3 r3 ta tb):=
 JH (qiA ho ha hb) λ_ _ _ h=>LS hr h
def qjm {op:CmpOp} {r3:R3} {r:R2} (ho:OpR X (compareOp op) r) (hr:EK X.K r3 r) (ha:E3 X a ta) (hb:E3 X b tb) (hm:behindInMarks op b=false):E3 X (.Compare a [op] [b] pos) (o3 r3 ta tb):=
 JH (qbu ho ha hb hm) λ_ _ _ h=>LS hr h
def tb3 (t:TE3):TT3:=λτ G q=>t τ G λx G'=>match x with|.bl k=>q k G'|_=>False
def qhy {K:Frg} {t:TE3} {t2:TE} (hw:∀ σ H Q,lE K t σ H Q->t2 σ H Q) {σ:L2.St} {H:Hp} {Q:Bool->Hp->Prop} (h:lT K (tb3 t) σ H Q):qfT t2 σ H Q:=by
 obtain ⟨τ,G,q,rl,h,af⟩:=h;refine hw _ _ _ (qN rl h λx G1 h1 v H1 rx hr1 k1 rl1=>?_);cases x with
 |bl k=>cases rx;exact ⟨k,rfl,af k G1 h1 H1 hr1 k1⟩
 |_=>exact h1.elim
def qjg {op:CmpOp} {r3:R3} {r:R2} (ho:OpR X (compareOp op) r) (hr:EK X.K r3 r) (ha:E3 X a ta) (hb:E3 X b tb) (hm:behindInMarks op b=false):C3 X (.Compare a [op] [b] pos) (tb3 (o3 r3 ta tb)):=
 qjq (qb1 ho ha hb hm) λ_ _ _ h=>qhy (λ_ _ _=>LS hr) h
def qld (K:Frg) (r3:T->Gp->Q3->Prop) (r:V->Hp->VK->Prop):Prop:=∀ x v G H q Q,HR K G H->Rp K H x v->r3 x G q->Aft K G H q Q->r v H Q
def u3 (r:T->Gp->Q3->Prop) (ta:TE3):TE3:=λτ G q=>ta τ G λx G1=>r x G1 q
def qlD {op:UnaryOp} {r3:T->Gp->Q3->Prop} {r:V->Hp->VK->Prop} (ho:UnR X (unaryOp op) r) (hr:qld X.K r3 r) (ha:E3 X a ta):E3 X (.UnaryOp op a pos) (u3 r3 ta):=
 JH (qii ho ha) λ_ _ _ ⟨τ,G,q,rl,h,af⟩=>qN rl h λx G1 h1 v H1 rx hr1 k1 rl1=>hr x v G1 H1 q _ hr1 rx h1 (af.back k1)
def qdl:T->Gp->Q3->Prop:=λx G q=>match x with|.int i=>q (.int (-i)) G|_=>False
def qbZ {K:Frg}:qld K qdl (rU λi=>.int (-i)):=λx v G H q Q hr rx h af=>by
 cases x with
 |int i=>cases rx;exact ⟨i,rfl,af _ G h _ H (.int _) hr Kp.refl⟩
 |_=>exact h.elim
def iI (f:Int->Int->Int):R3:=λx y G q=>match x,y with|.int i,.int j=>q (.int (f i j)) G|_,_=>False
def iC (C:Int->Int->Prop) (f:Int->Int->Int):R3:=λx y G q=>match x,y with|.int i,.int j=>C i j/\q (.int (f i j)) G|_,_=>False
def iB (f:Int->Int->Bool):R3:=λx y G q=>match x,y with|.int i,.int j=>q (.bl (f i j)) G|_,_=>False
def qas {K:Frg} {f:Int->Int->Int}:EK K (iI f) (rI0 λi j=>.int (f i j)):=λx y v u G H q Q hr rx ry h af=>by
 cases x<;>try exact h.elim
 cases y<;>try exact h.elim
 cases rx;cases ry;exact ⟨_,_,rfl,rfl,af _ G h _ H (.int _) hr Kp.refl⟩
def W2 {K:Frg} {C:Int->Int->Prop} {f:Int->Int->Int}:EK K (iC C f) (rI C λi j=>.int (f i j)):=λx y v u G H q Q hr rx ry h af=>by
 cases x<;>try exact h.elim
 cases y<;>try exact h.elim
 cases rx;cases ry;exact ⟨_,_,rfl,rfl,h.1,af _ G h.2 _ H (.int _) hr Kp.refl⟩
def EF {K:Frg} {f:Int->Int->Bool}:EK K (iB f) (rI0 λi j=>.bl (f i j)):=λx y v u G H q Q hr rx ry h af=>by
 cases x<;>try exact h.elim
 cases y<;>try exact h.elim
 cases rx;cases ry;exact ⟨_,_,rfl,rfl,af _ G h _ H (.bl _) hr Kp.refl⟩
def qkj (ha:E3 X a ta) (hb:E3 X b tb):E3 X (.BinOp a .Sub b pos) (o3 (iI (·-·)) ta tb):=qaV qhF qas ha hb
def qkd (ha:E3 X a ta) (hb:E3 X b tb):E3 X (.BinOp a .Mult b pos) (o3 (iC UP (·*·)) ta tb):=qaV qdu W2 ha hb
def qiI (ha:E3 X a ta) (hb:E3 X b tb):E3 X (.BinOp a .Mod b pos) (o3 (iC (λ_ j=>0<j) (·%·)) ta tb):=qaV qe5 W2 ha hb
def qjx (ha:E3 X a ta) (hb:E3 X b tb):E3 X (.BinOp a .FloorDiv b pos) (o3 (iC EB (·/·)) ta tb):=qaV qcj W2 ha hb
def qi8 (ha:E3 X a ta) (hb:E3 X b tb):E3 X (.BinOp a .Pow b pos) (o3 (iC qf4 (λi j=>i ^ j.toNat)) ta tb):=qaV qg4 W2 ha hb
def qkl (ha:E3 X a ta) (hb:E3 X b tb):E3 X (.BinOp a .BitXor b pos) (o3 (iI Builtin.bitXor) ta tb):=qaV qdW qas ha hb
def qiW (ha:E3 X a ta):E3 X (.UnaryOp .USub a pos) (u3 qdl ta):=qlD qeC qbZ ha
def MD:T->T->Option Bool
 |.non,.non=>some true|.non,.int _=>some false|.int _,.non=>some false|.non,.bl _=>some false|.bl _,.non=>some false|.non,.str _=>some false|.str _,.non=>some false
 |.int i,.int j=>some (decide (i=j))|.bl i,.bl j=>some (decide (i=j))|.str i,.str j=>some (decide (i=j))
 |.int _,.str _=>some false|.str _,.int _=>some false|.bl _,.str _=>some false|.str _,.bl _=>some false
 |_,_=>none
def WQ {K:Frg} {H:Hp} {x y:T} {v u:V} {k:Bool} (rx:Rp K H x v) (ry:Rp K H y u) (h:MD x y=some k):qjY v u=true/\decide (v=u)=k:=by
 cases rx<;>cases ry<;>simp [MD] at h<;>subst h<;>refine ⟨rfl,?_⟩<;>simp
def qbB (neg:Bool):R3:=λx y G q=>match y with|.non=>q (.bl (match x with|.non=>!neg|_=>neg)) G|_=>False
def qdZ {K:Frg} {H:Hp} {x:T} {v:V} (rx:Rp K H x v):decide (v=.non)=(match x with|.non=>true|_=>false):=by
 cases rx<;>simp
def SS {K:Frg}:EK K (qbB false) (λx y H Q=>y=.non/\Q (.bl (decide (x=.non))) H):=λx y v u G H q Q hr rx ry h af=>by
 cases y<;>try exact h.elim
 cases ry;refine ⟨rfl,?_⟩;rw [qdZ rx];refine af _ G h _ H ?_ hr Kp.refl;cases x<;>exact .bl _
variable {tA tB:TT3} {QR:List Expr}
def qlR (t u:TT3):TT3:=λτ G q=>t τ G λk G1=>if k=true then u τ G1 q else q false G1
def or3 (t u:TT3):TT3:=λτ G q=>t τ G λk G1=>if k=true then q true G1 else u τ G1 q
def CO (t:TT3):TT3:=λτ G q=>t τ G λk G1=>q (!k) G1
def qjh (ha:C3 X a tA):W3 X (.BoolOp .Or [a] pos) tA:=qeF ha
def qlZ (ha:C3 X a tA) (hb:W3 X (.BoolOp .Or (b::QR) pos) tB):W3 X (.BoolOp .Or (a::b::QR) pos) (or3 tA tB):=
 qlS (qjR ha hb) λ_ _ _ ⟨τ,G,q,rl,h,af⟩=>UV rl h λk G1 h1 H1 hr1 k1 rl1=>by
  cases k with
  |true=>rw [if_pos rfl] at h1 ⊢;exact af _ G1 h1 H1 hr1 k1
  |false=>rw [if_neg Bool.false_ne_true] at h1 ⊢;exact ⟨τ,G1,q,rl1,h1,af.back k1⟩
def qkb (ha:C3 X a tA):C3 X (.UnaryOp .Not a pos) (CO tA):=
 qjq (qfR ha) λ_ _ _ ⟨τ,G,q,rl,h,af⟩=>UV rl h λk G1 h1 H1 hr1 k1 rl1=>af _ G1 h1 H1 hr1 k1
def qiL {e:Expr} {t:TE3} (h:E3 X e t) (he:∀ whole,isTrue e X.env whole=(do let v←whole;standAt e.pos;holding [v] (truthy v)):=by intro _;rfl):C3 X e (tb3 t):=
 qjq (qfw h he) λ_ _ _ h=>qhy (λ_ _ _ h=>h) h
def CA (ta tb:TE3):TE3:=λτ G q=>ta τ G λx G1=>match x with|.bl k=>if k=true then tb τ G1 q else q (.bl false) G1|_=>False
def C8 (ta:TE3):TE3:=λτ G q=>ta τ G λx G1=>match x with|.bl k=>q (.bl (!k)) G1|_=>False
def qiw {op} (h:E3 X a ta):E3 X (.BoolOp op [a] pos) ta:=qdL h
def qjG (ha:E3 X a ta) (hb:E3 X (.BoolOp .And (b::QR) pos) tb):E3 X (.BoolOp .And (a::b::QR) pos) (CA ta tb):=
 JH (qdE ha hb) λ_ _ _ ⟨τ,G,q,rl,h,af⟩=>qN rl h λx G1 h1 v H1 rx hr1 k1 rl1=>by
  cases x with
  |bl k=>
   cases rx;refine ⟨k,rfl,?_⟩;cases k with
   |true=>rw [if_pos rfl];exact ⟨τ,G1,q,rl1,(show tb τ G1 q from by simpa using h1),af.back k1⟩
   |false=>rw [if_neg Bool.false_ne_true];exact af _ G1 (by simpa using h1) _ H1 (.bl false) hr1 k1
  |_=>exact h1.elim
def qi0 (ha:E3 X a ta):E3 X (.UnaryOp .Not a pos) (C8 ta):=
 JH (qgF ha) λ_ _ _ ⟨τ,G,q,rl,h,af⟩=>qN rl h λx G1 h1 v H1 rx hr1 k1 rl1=>by
  cases x with
  |bl k=>cases rx;exact ⟨k,rfl,af _ G1 h1 _ H1 (.bl _) hr1 k1⟩
  |_=>exact h1.elim
def if3 (t:TT3) (ta tb:TE3):TE3:=λτ G q=>t τ G λk G1=>if k=true then ta τ G1 q else tb τ G1 q
def qlI {c:Expr} (hc:C3 X c tA) (ha:E3 X a ta) (hb:E3 X b tb):E3 X (.IfExp c a b pos) (if3 tA ta tb):=
 JH (KR hc ha hb) λ_ _ _ ⟨τ,G,q,rl,h,af⟩=>UV rl h λk G1 h1 H1 hr1 k1 rl1=>by
  cases k with
  |true=>rw [if_pos rfl] at h1 ⊢;exact ⟨τ,G1,q,rl1,h1,af.back k1⟩
  |false=>rw [if_neg Bool.false_ne_true] at h1 ⊢;exact ⟨τ,G1,q,rl1,h1,af.back k1⟩
variable {e:Expr} {es:List Expr} {te:TE3} {t:TA3}
def qk:TA3:=λ_ G q=>q [] G
def qc (ta:TE3) (tr:TA3):TA3:=λτ G q=>ta τ G λx G1=>tr τ G1 λxs G2=>q (x::xs) G2
def qjD:A3 X [] qk:=qje EO λ_ H _ ⟨τ,G,q,rl,h,af⟩=>af _ G h _ H .nil rl.hp Kp.refl
def qeI (ha:E3 X e te) (hr:A3 X es t) (hs:starEach (e::es) X.env=(false,eval e X.env)::starEach es X.env:=by rfl):A3 X (e::es) (qc te t):=
 qje (j3 ha hr hs) λ_ _ _ ⟨τ,G,q,rl,h,af⟩=>qN rl h λx G1 h1 v H1 rx hr1 k1 rl1=>jo rl1 h1 λxs G2 h2 vs H2 rs hr2 k2 rl2=>
  af _ G2 h2 _ H2 (.cons (rx.keep hr1 k2) rs) hr2 (k1.trans k2)
def YT (t:TA3):TE3:=λτ G q=>t τ G λxs G1=>xs.length<=sizeLine/\q (.tup xs) G1
def KM (t:TA3):TE3:=λτ G q=>t τ G λxs G1=>xs.length<=sizeLine/\∀ p,G1 p=none->q (.ref p) (gu G1 p (.lst xs))
def qkn {x1} (h:A3 X es t):E3 X (.Tuple es x1 pos) (YT t):=
 JH (qbc h) λ_ _ _ ⟨τ,G,q,rl,h,af⟩=>jo rl h λxs G1 h1 vs H1 rs hr1 k1 rl1=>⟨by rw [← rs.length];exact h1.1,λp hp=>
  af _ G1 h1.2 _ _ (.tup (SqT.of qz) (rs.keep hr1 (Kp.laid hp))) (hr1.laid hp) (k1.trans (Kp.laid hp))⟩
def qkG (h:A3 X es t):E3 X (.List es pos) (KM t):=
 JH (qd9 h) λ_ _ _ ⟨τ,G,q,rl,h,af⟩=>jo rl h λxs G1 h1 vs H1 rs hr1 k1 rl1=>⟨by rw [← rs.length];exact h1.1,λp hp=>
  af _ _ (h1.2 p (hr1.free hp)) _ _ (.ref p) (hr1.newL hp rs) (k1.trans (Kp.newL hp))⟩
def X4 (K:Frg) (r3:List T->Gp->Q3->Prop) (r:List V->Hp->VK->Prop):Prop:=∀ xs vs G H q Q,HR K G H->Rps K H xs vs->r3 xs G q->Aft K G H q Q->r vs H Q
def cb3 (r:List T->Gp->Q3->Prop) (t:TA3):TE3:=λτ G q=>t τ G λxs G1=>r xs G1 q
def qgY {K:Frg} {r3:List T->Gp->Q3->Prop} {r:List V->Hp->VK->Prop} (hr:X4 K r3 r) {σ:L2.St} {H:Hp} {Q:VK} (h:lE K (cb3 r3 t) σ H Q):tCB r (lA K t) σ H Q:=by
 obtain ⟨τ,G,q,rl,h,af⟩:=h;exact jo rl h λxs G1 h1 vs H1 rs hr1 k1 rl1=>hr xs vs G1 H1 q Q hr1 rs h1 (af.back k1)
def qci {x:Str} {p:Pos} {id:String} {r3:List T->Gp->Q3->Prop} {r:List V->Hp->VK->Prop} (hc:QN X (.builtin id) r) (hr:X4 X.K r3 r) (hg:Gl X x) (hm:X.mg x=none) (hv:bootBuiltins x=some (.builtin id)) (ha:A3 X (e::es) t) (hn:x≠"__name__" := by decide) (hdb:(x==("__debug__" : Str))=false:=by decide)
  (he:starEach (e::es) X.env=(false,eval e X.env)::starEach es X.env:=by rfl) (hpl:(backTo pos (starEach es X.env)).any (·.1)=false:=by rfl):E3 X (.Call (.Name x p) (e::es) [] pos) (cb3 r3 t):=
 JH (JI hc hg hm hv ha hn hdb he hpl) λ_ _ _ h=>qgY hr h
def MH {x:Str} {p:Pos} {ty:String} {r3:List T->Gp->Q3->Prop} {r:List V->Hp->VK->Prop} (hc:QN X (.type ty) r) (hr:X4 X.K r3 r) (hg:Gl X x) (hm:X.mg x=none) (hv:bootBuiltins x=some (.type ty)) (ha:A3 X (e::es) t) (hn:x≠"__name__" := by decide) (hdb:(x==("__debug__" : Str))=false:=by decide)
  (he:starEach (e::es) X.env=(false,eval e X.env)::starEach es X.env:=by rfl) (hpl:(backTo pos (starEach es X.env)).any (·.1)=false:=by rfl):E3 X (.Call (.Name x p) (e::es) [] pos) (cb3 r3 t):=
 JH (RR hc hg hm hv ha hn hdb he hpl) λ_ _ _ h=>qgY hr h
end
def getL (G:Gp) (p:Addr):Option (List T):=match G p with|some (.lst xs)=>some xs|some (.frz xs)=>some xs|_=>none
section
variable {K:Frg} {G G':Gp} {H H':Hp}
def zm (hr:HR K G H) {p:Addr} {xs:List T} (h:getL G p=some xs):∃ vs,SqL K H p vs/\Rps K H xs vs:=by
 unfold getL at h;split at h
 ·rename_i ys e;cases h;obtain ⟨vs,h1,h2⟩:=hr p _ e;exact ⟨vs,SqL.of h1,h2⟩
 ·rename_i ys e;cases h;obtain ⟨vs,⟨o,h1⟩,h2⟩:=hr p _ e;exact ⟨vs,.inl (.inr ⟨o,h1⟩),h2⟩
 ·cases h
def HR.lst (hr:HR K G H) {p:Addr} {xs:List T} (h:G p=some (.lst xs)):∃ vs,H p=some (.lst vs)/\Rps K H xs vs:=hr p _ h
def Rps.atI {xs:List T} {vs:List V} {i:Int} {x:T} (r:Rps K H xs vs) (h:atI xs i=some x):∃ v,L2.atI vs i=some v/\Rp K H x v:=by
 unfold L2.atI at h ⊢;rw [← r.length];cases e:ixN xs.length i with
 |none=>rw [e] at h;cases h
 |some j=>
  rw [e] at h;exact r.get (by simpa using h)
end
def ix3:R3:=λx y G q=>match x,y with
 |.tup xs,.int i=>(match atI xs i with|some z=>q z G|none=>False)
 |.ref p,.int i=>(match getL G p with|some xs=>(match atI xs i with|some z=>q z G|none=>False)|none=>False)
 |_,_=>False
section
variable {X:Cx} {a b c e:Expr} {es:List Expr} {ta tb tc te:TE3} {t:TA3} {pos:Pos}
def qeW {K:Frg}:EK K ix3 (rIx K):=λx y v u G H q Q hr rx ry h af=>by
 cases x<;>try exact h.elim
 case tup xs=>
  cases y<;>try exact h.elim
  case int i=>
   unfold ix3 at h;simp only at h;split at h
   ·rename_i z e;cases ry;cases rx with
    |tup hs rs=>
     obtain ⟨w,e2,rw'⟩:=rs.atI e;exact .inr (.inl ⟨_,_,i,w,rfl,rfl,hs,e2,af z G h w H rw' hr Kp.refl⟩)
   ·exact h.elim
 case ref p=>
  cases y<;>try exact h.elim
  case int i=>
   unfold ix3 at h;simp only at h;split at h
   ·rename_i xs e0;split at h
    ·rename_i z e;cases ry;cases rx;obtain ⟨vs,hs,rs⟩:=zm hr e0;obtain ⟨w,e2,rw'⟩:=rs.atI e;exact .inl ⟨p,vs,i,w,rfl,rfl,hs,e2,af z G h w H rw' hr Kp.refl⟩
    ·exact h.elim
   ·exact h.elim
def qlY (ha:E3 X a ta) (hb:E3 X b tb) (hs:DW b:=by intro _ _;rfl):E3 X (.Subscript a b pos) (o3 ix3 ta tb):=JH (qio qe6 ha hb hs) λ_ _ _ h=>LS qeW h
def US {α:Type} (xs:List α) (lo hi:Option Int):List α:=(xs.drop (HT.sIx xs.length 0 lo)).take (HT.sIx xs.length xs.length hi-HT.sIx xs.length 0 lo)
def Rps.cut {K:Frg} {H:Hp} {xs:List T} {vs:List V} (r:Rps K H xs vs) (lo hi:Option Int):Rps K H (US xs lo hi) (N0 vs lo hi):=by
 unfold US N0;rw [r.length];exact (r.drop _).take _
abbrev TO3:=St3->Gp->(Option Int->Gp->Prop)->Prop
def lO (K:Frg) (t:TO3):TO:=λσ H Q=>∃ τ G q,Rel K τ G σ H/\t τ G q/\∀ x G',q x G'->∀ H',HR K G' H'->Kp G H G' H'->Q x H'
abbrev P3 (X:Cx) (e:Option Expr) (t:TO3):Prop:=PO X e (lO X.K t)
def np3:TO3:=λ_ G q=>q none G
def sp3 (t:TE3):TO3:=λτ G q=>t τ G λx G1=>match x with|.int i=>q (some i) G1|_=>False
def qkH {X:Cx} {e:Option Expr} {t t':TO} (h:PO X e t) (w:∀ σ H Q,t' σ H Q->t σ H Q):PO X e t':=λpins s σ H Q I q=>h pins s σ H Q I (w σ H Q q)
def qhE:P3 X none np3:=qkH qbM λ_ H _ ⟨τ,G,q,rl,h,af⟩=>af none G h H rl.hp Kp.refl
def qfN (h:E3 X e te):P3 X (some e) (sp3 te):=qkH (qbR h) λ_ _ _ ⟨τ,G,q,rl,h,af⟩=>qN rl h λx G1 h1 v H1 rx hr1 k1 rl1=>by
 cases x<;>try exact h1.elim
 cases rx;exact ⟨_,rfl,af _ G1 h1 H1 hr1 k1⟩
def R8 {K:Frg} {H:Hp} {xs:List T} {vs:List V} (r:Rps K H xs vs):vs=[]↔xs=[]:=by
 cases r<;>simp
def JE:R3:=λx y G q=>match x,y with
 |.tup xs,.tup ys=>xs≠[]/\xs.length+ys.length<=sizeLine/\q (.tup (xs++ys)) G
 |.ref a,.ref b=>(match G a,G b with|some (.lst xs),some (.lst ys)=>xs.length+ys.length<=sizeLine/\∀ p,G p=none->q (.ref p) (gu G p (.lst (xs++ys)))|_,_=>False)
 |.int i,.int j=>q (.int (i+j)) G
 |_,_=>False
def UH {K:Frg}:EK K JE (λx y H Q=>(rI0 (λi j=>.int (i+j)) x y H Q\/qcI K x y H Q)\/qiQ x y H Q):=λx y v u G H q Q hr rx ry h af=>by
 cases x<;>try exact h.elim
 case int i=>
  cases y<;>try exact h.elim
  cases rx;cases ry;exact .inl (.inl ⟨_,_,rfl,rfl,af _ G h _ H (.int _) hr Kp.refl⟩)
 case tup xs=>
  cases y<;>try exact h.elim
  case tup ys=>
   obtain ⟨h1,h2,h3⟩:=h;cases rx with
   |tup hs rs=>
    cases ry with
    |tup hs' rs'=>
     refine .inl (.inr ⟨_,_,_,_,rfl,rfl,hs,hs',λz=>h1 ((R8 rs).mp z),by rw [← rs.length,← rs'.length];exact h2,λz=>?_,λz p hp=>?_⟩)
     ·have e:=(R8 rs').mp z;subst e;rw [List.append_nil] at h3;exact af _ G h3 _ H (.tup hs rs) hr Kp.refl
     ·exact af _ G h3 _ _ (.tup (SqT.of qz) ((rs.append rs').keep hr (Kp.laid hp))) (hr.laid hp) (Kp.laid hp)
 case ref a=>
  cases y<;>try exact h.elim
  case ref b=>
   unfold JE at h;simp only at h;split at h
   ·rename_i xs ys e1 e2;cases rx;cases ry;obtain ⟨vs,g1,r1⟩:=hr.lst e1;obtain ⟨us,g2,r2⟩:=hr.lst e2;refine .inr ⟨a,b,vs,us,rfl,rfl,g1,g2,by rw [← r1.length,← r2.length];exact h.1,λp hp=>?_⟩;exact af _ _ (h.2 p (hr.free hp)) _ _ (.ref p) (hr.newL hp (r1.append r2)) (Kp.newL hp)
   ·exact h.elim
def qfu (ha:E3 X a ta) (hb:E3 X b tb):E3 X (.BinOp a .Add b pos) (o3 JE ta tb):=qaV ((NV.or SL).or M4) UH ha hb
def J0:T->Bool
 |.non=>true|.bl _=>true|.int _=>true|.str _=>true|_=>false
def eqF:T->T->Bool
 |.non,.non=>true
 |.bl a,.bl b=>a==b
 |.bl a,.int b=>(if a then 1 else 0)==b
 |.int a,.bl b=>a==(if b then 1 else 0)
 |.int a,.int b=>a==b
 |.str a,.str b=>a==b
 |_,_=>false
def WF {K:Frg} {H:Hp} {x:T} {v:V} (r:Rp K H x v) (h:J0 x=true):YQ v=true:=by
 cases r<;>first|rfl|(cases h)
def VY {K:Frg} {H:Hp}:∀ {x:List T} {v:List V},Rps K H x v->x.all J0=true->v.all YQ=true
 |_,_,.nil,_=>rfl
 |_,_,.cons a b,h=>by
  rw [List.all_cons,Bool.and_eq_true] at h ⊢;exact ⟨WF a h.1,VY b h.2⟩
def qfs {K:Frg} {H:Hp} {x y:T} {v u:V} (r:Rp K H x v) (s:Rp K H y u) (h:J0 x=true) (h':J0 y=true):eqV v u=eqF x y:=by
 cases r<;>first|(cases h;done)|(cases s<;>first|rfl|(cases h';done))
def CZ {K:Frg} {H:Hp} {x:T} {v:V} (r:Rp K H x v) (h:J0 x=true):∀ {ys:List T} {us:List V},Rps K H ys us->ys.all J0=true->inV v us=ys.any λy=>eqF y x
 |_,_,.nil,_=>rfl
 |_,_,.cons a b,h'=>by
  rw [List.all_cons,Bool.and_eq_true] at h';unfold inV;rw [List.any_cons,List.any_cons,qfs a r h'.1 h];congr 1;exact CZ r h b h'.2
def in3 (neg:Bool):R3:=λx y G q=>J0 x=true/\match y with
 |.tup ys=>ys.all J0=true/\q (.bl (if neg then !(ys.any λy=>eqF y x) else (ys.any λy=>eqF y x))) G
 |.ref p=>(match getL G p with|some ys=>ys.all J0=true/\q (.bl (if neg then !(ys.any λy=>eqF y x) else (ys.any λy=>eqF y x))) G|none=>False)
 |_=>False
def qaX {K:Frg} {neg:Bool}:EK K (in3 neg) (rIn K neg):=λx y v u G H q Q hr rx ry h af=>by
 obtain ⟨hf,h⟩:=h;cases y<;>try exact h.elim
 case tup ys=>
  cases ry with
  |tup hs rs=>
   refine ⟨_,_,rfl,.inr hs,WF rx hf,VY rs h.1,?_⟩;rw [CZ rx hf rs h.1];exact af _ G h.2 _ H (.bl _) hr Kp.refl
 case ref p=>
  simp only at h;split at h
  ·rename_i ys e;cases ry;obtain ⟨us,hs,rs⟩:=zm hr e;refine ⟨_,_,rfl,.inl hs,WF rx hf,VY rs h.1,?_⟩;rw [CZ rx hf rs h.1];exact af _ G h.2 _ H (.bl _) hr Kp.refl
  ·exact h.elim
def Z6:List T->Gp->Q3->Prop:=λxs G q=>match xs with
 |[.tup ys]=>q (.int ys.length) G
 |[.str y]=>y.length<=sizeLine/\q (.int y.length) G
 |[.ref p]=>(match getL G p with|some ys=>q (.int ys.length) G|none=>False)
 |_=>False
def DZ {K:Frg} {H:Hp} {x:T} {vs:List V} (r:Rps K H [x] vs):∃ v,vs=[v]/\Rp K H x v:=by
 cases r with
 |cons a b=>cases b;exact ⟨_,rfl,a⟩
def qiH {K:Frg} {H:Hp} {x y:T} {vs:List V} (r:Rps K H [x,y] vs):∃ v u,vs=[v,u]/\Rp K H x v/\Rp K H y u:=by
 cases r with
 |cons a b=>cases b with|cons c d=>cases d;exact ⟨_,_,rfl,a,c⟩
def qK {K:Frg}:X4 K Z6 (λxs H Q=>∃ x n,xs=[x]/\qkJ K x H n/\Q (.int n) H):=λxs vs G H q Q hr rs h af=>by
 unfold Z6 at h;split at h
 ·obtain ⟨v,rfl,r⟩:=DZ rs;cases r with
  |tup hs r2=>exact ⟨_,_,rfl,.inr ⟨_,hs,rfl⟩,by rw [← r2.length];exact af _ G h _ H (.int _) hr Kp.refl⟩
 ·obtain ⟨v,rfl,r⟩:=DZ rs;cases r;exact ⟨_,_,rfl,⟨h.1,rfl⟩,af _ G h.2 _ H (.int _) hr Kp.refl⟩
 ·obtain ⟨v,rfl,r⟩:=DZ rs;split at h
  ·rename_i ys e;cases r;obtain ⟨us,hs,r2⟩:=zm hr e;exact ⟨_,_,rfl,.inl ⟨_,hs,rfl⟩,by rw [← r2.length];exact af _ G h _ H (.int _) hr Kp.refl⟩
  ·exact h.elim
 ·exact h.elim
def qeQ:List T->Gp->Q3->Prop:=λxs G q=>match xs with|[.int i]=>q (.int (if i<0 then -i else i)) G|_=>False
def RC {K:Frg}:X4 K qeQ (λxs H Q=>∃ i,xs=[.int i]/\Q (.int (if i<0 then -i else i)) H):=λxs vs G H q Q hr rs h af=>by
 unfold qeQ at h;split at h
 ·obtain ⟨v,rfl,r⟩:=DZ rs;cases r;exact ⟨_,rfl,af _ G h _ H (.int _) hr Kp.refl⟩
 ·exact h.elim
def qe4:List T->Gp->Q3->Prop:=λxs G q=>match xs with|[.int i,.int j]=>q (.int (if j<i then j else i)) G|_=>False
def qcA {K:Frg}:X4 K qe4 (λxs H Q=>∃ i j,xs=[.int i,.int j]/\Q (.int (if j<i then j else i)) H):=λxs vs G H q Q hr rs h af=>by
 unfold qe4 at h;split at h
 ·obtain ⟨v,u,rfl,r,r'⟩:=qiH rs;cases r;cases r';exact ⟨_,_,rfl,af _ G h _ H (.int _) hr Kp.refl⟩
 ·exact h.elim
def QQ:List T->Gp->Q3->Prop:=λxs G q=>match xs with
 |[.tup ys]=>q (.tup ys) G
 |[.ref p]=>(match getL G p with|some ys=>q (.tup ys) G|none=>False)
 |_=>False
def jp {K:Frg}:X4 K QQ (λxs H Q=>∃ p ys,xs=[.ref p]/\((SqL K H p ys/\∀ l,H l=none->Q (.ref l) (upd H l (.tup ys)))\/(SqT K H p ys/\Q (.ref p) H))):=λxs vs G H q Q hr rs h af=>by
 unfold QQ at h;split at h
 ·obtain ⟨v,rfl,r⟩:=DZ rs;cases r with
  |tup hs r2=>exact ⟨_,_,rfl,.inr ⟨hs,af _ G h _ H (.tup hs r2) hr Kp.refl⟩⟩
 ·obtain ⟨v,rfl,r⟩:=DZ rs;split at h
  ·rename_i ys e;cases r;obtain ⟨us,hs,r2⟩:=zm hr e;exact ⟨_,_,rfl,.inl ⟨hs,λl hl=>af _ G h _ _ (.tup (SqT.of qz) (r2.keep hr (Kp.laid hl))) (hr.laid hl) (Kp.laid hl)⟩⟩
  ·exact h.elim
 ·exact h.elim
def DO:List T->Gp->Q3->Prop:=λxs G q=>match xs with
 |[.tup ys]=>∀ p,G p=none->q (.ref p) (gu G p (.lst ys))
 |[.ref p]=>(match getL G p with|some ys=>∀ p,G p=none->q (.ref p) (gu G p (.lst ys))|none=>False)
 |_=>False
def XJ {K:Frg}:X4 K DO (λxs H Q=>∃ p ys,xs=[.ref p]/\(SqL K H p ys\/SqT K H p ys)/\∀ l,H l=none->Q (.ref l) (upd H l (.lst ys))):=λxs vs G H q Q hr rs h af=>by
 unfold DO at h;split at h
 ·obtain ⟨v,rfl,r⟩:=DZ rs;cases r with
  |tup hs r2=>exact ⟨_,_,rfl,.inr hs,λl hl=>af _ _ (h l (hr.free hl)) _ _ (.ref l) (hr.newL hl r2) (Kp.newL hl)⟩
 ·obtain ⟨v,rfl,r⟩:=DZ rs;split at h
  ·rename_i ys e;cases r;obtain ⟨us,hs,r2⟩:=zm hr e;exact ⟨_,_,rfl,.inl hs,λl hl=>af _ _ (h l (hr.free hl)) _ _ (.ref l) (hr.newL hl r2) (Kp.newL hl)⟩
  ·exact h.elim
 ·exact h.elim
def qbU:T->List T->Gp->Q3->Prop:=λx xs G q=>match x,xs with
 |.ref l,[y]=>(match G l with|some (.lst ys)=>ys.length<sizeLine/\q .non (gu G l (.lst (ys++[y])))|_=>False)
 |_,_=>False
def qi9 (K:Frg) (r3:T->List T->Gp->Q3->Prop) (r:V->List V->Hp->VK->Prop):Prop:=∀ x xs v vs G H q Q,HR K G H->Rp K H x v->Rps K H xs vs->r3 x xs G q->Aft K G H q Q->r v vs H Q
def qcW {K:Frg}:qi9 K qbU SV:=λx xs v vs G H q Q hr rx rs h af=>by
 unfold qbU at h;split at h
 ·rename_i l y;split at h
  ·rename_i ys e1;cases rx;obtain ⟨u,rfl,r⟩:=DZ rs;obtain ⟨vs,g1,r1⟩:=hr.lst e1;exact ⟨l,vs,u,rfl,rfl,g1,by rw [← r1.length];exact h.1,af _ _ h.2 _ _ .non (hr.wr e1 (r1.append (.cons r .nil))) (Kp.wr e1)⟩
  ·exact h.elim
 ·exact h.elim
def bm3 (r:T->List T->Gp->Q3->Prop) (to:TE3) (t:TA3):TE3:=λτ G q=>to τ G λx G1=>(match x with|.ref p=>(getL G1 p).isSome=true|_=>False)/\t τ G1 λxs G2=>r x xs G2 q
def qk8 {o:Expr} {to:TE3} {name:Str} {apos cpos:Pos} {id:String} {r3:T->List T->Gp->Q3->Prop} {r:V->List V->Hp->VK->Prop} (slot:Slot "list" name id) (hty:typeOf (.builtin id)=pure (.type "method_descriptor")) (hm:MtR X id r) (hr:qi9 X.K r3 r) (ho:E3 X o to) (ha:A3 X (e::es) t)
  (hbase:attributeBase o name X.env (eval o X.env)=eval o X.env:=by rfl)
  (hfew:((backTo cpos (starEach (e::es) X.env)).all (λx=>!x.1)&&(backToKw cpos (keywordEach [] X.env)).all (λx=>x.1.isSome)
   && decide ((e::es).length+([]:List Keyword).length+(if ([]:List Keyword).isEmpty then 0 else 1)<30))=true:=by rfl)
  (hline:(apos.endLine==cpos.line)=true:=by rfl) (hs:starEach (e::es) X.env=(false,eval e X.env)::starEach es X.env:=by rfl) (hplain:(backTo cpos (starEach es X.env)).any (·.1)=false:=by rfl) :
  E3 X (.Call (.Attribute o name apos) (e::es) [] cpos) (bm3 r3 to t):=
 JH (qkc PySem.F.plainAttrs_list slot hty hm ho ha hbase hfew hline hs hplain) λ_ _ _ ⟨τ,G,q,rl,h,af⟩=>qN rl h λx G1 h1 v H1 rx hr1 k1 rl1=>by
  obtain ⟨hp,h1⟩:=h1;cases x<;>try exact hp.elim
  case ref p=>
   cases rx;have hp':(getL G1 p).isSome=true:=hp;obtain ⟨ys,e⟩:=Option.isSome_iff_exists.mp hp';obtain ⟨us,hs,r2⟩:=zm hr1 e;exact ⟨.inl ⟨rfl,us,hs⟩,jo rl1 h1 λxs G2 h2 vs H2 rs hr2 k2 rl2=>hr _ xs _ vs G2 H2 q _ hr2 (.ref p) rs h2 (af.back (k1.trans k2))⟩
def KQ {o:Expr} {to:TE3} {apos cpos:Pos} (ho:E3 X o to) (ha:A3 X [e] t)
  (hbase:attributeBase o "append" X.env (eval o X.env)=eval o X.env:=by rfl)
  (hfew:((backTo cpos (starEach [e] X.env)).all (λx=>!x.1)&&(backToKw cpos (keywordEach [] X.env)).all (λx=>x.1.isSome)
   && decide (([e]:List Expr).length+([]:List Keyword).length+(if ([]:List Keyword).isEmpty then 0 else 1)<30))=true:=by rfl)
  (hline:(apos.endLine==cpos.line)=true:=by rfl) (hs:starEach [e] X.env=(false,eval e X.env)::starEach [] X.env:=by rfl) (hplain:(backTo cpos (starEach [] X.env)).any (·.1)=false:=by rfl) :
  E3 X (.Call (.Attribute o "append" apos) [e] [] cpos) (bm3 qbU to t):=qk8 PySem.F.slot_list_append PySem.F.type_list_append JR qcW ho ha hbase hfew hline hs hplain
end
def tyT (G:Gp):T->Option String
 |.non=>some "NoneType" |.bl _=>some "bool" |.int _=>some "int" |.str _=>some "str" |.tup _=>some "tuple"
 |.ref p=>if (getL G p).isSome then some "list" else none
def jb (t c:String):Bool:=t==c||(t == "bool" && c == "int")
def K8 (K:Frg):∀ t∈["NoneType","bool","int","str","tuple","list"],∀ c∈["bool","int","str","tuple","list"],PySem.W.kitOne K (.type t) (.type c)=some (jb t c):=by
 intro t ht c hc;simp only [mem_cons,not_mem_nil,or_false] at ht hc;rcases ht with rfl|rfl|rfl|rfl|rfl|rfl<;>rcases hc with rfl|rfl|rfl|rfl|rfl<;>kernel_rfl
section
variable {X:Cx} {a b c e:Expr} {es:List Expr} {ta tb tc te:TE3} {t:TA3} {pos:Pos}
def TyS (K:Frg) (H:Hp) (x:V) (t:String):Prop:=match x with
 |.non=>t="NoneType" |.bl _=>t="bool" |.int _=>t="int" |.str _=>t="str"
 |.ref a=>(t="tuple"/\∃ vs,SqT K H a vs)\/(t="list"/\∃ vs,SqL K H a vs)
 |_=>False
def TyS.mem {K:Frg} {H:Hp} {x:V} {t:String} (h:TyS K H x t):t∈["NoneType","bool","int","str","tuple","list"]:=by
 cases x<;>simp [TyS] at h<;>first|(subst h;decide)|(rcases h with ⟨rfl,_⟩|⟨rfl,_⟩<;>decide)
def TyS.kitx {pins:List (Addr×Obj)} {σ:L2.St} {H:Hp} {s:Shared} {x:V} {u:Value} {t:String} (I:Inv X pins σ H s) (rx:zp x u) (h:TyS X.K H x t) :
  ∃ HH:Heap->Prop,PySem.W.KitX X.K u (.type t) HH/\HH s.heap/\u≠.builtin "__main__.__loader__#opaque" := by
 cases x with
 |non=>cases (show u=Value.none from rx);cases (show t=_ from h);exact ⟨_,PySem.W.kitx_none,True.intro,λz=>nomatch z⟩
 |bl y=>cases (show u=Value.bool y from rx);cases (show t=_ from h);exact ⟨_,PySem.W.kitx_bool,True.intro,λz=>nomatch z⟩
 |int i=>obtain ⟨tk,q⟩:=(show ∃ t,u=Value.int i t from rx);cases q;cases (show t=_ from h);exact ⟨_,PySem.W.kitx_int,True.intro,λz=>nomatch z⟩
 |str y=>obtain ⟨tk,q⟩:=(show ∃ t,u=Value.str y t from rx);cases q;cases (show t=_ from h);exact ⟨_,PySem.W.kitx_str,True.intro,λz=>nomatch z⟩
 |ref a=>
  cases (show u=Value.ref a from rx);rcases (show (t="tuple"/\∃ vs,SqT X.K H a vs)\/(t="list"/\∃ vs,SqL X.K H a vs) from h) with ⟨rfl,vs,hs⟩|⟨rfl,vs,hs⟩
  ·obtain ⟨its,_,p,_⟩:=I.tuple hs;obtain ⟨o,h1,h2,_⟩:=p;exact ⟨_,PySem.W.kitx_tuple,⟨o,h1,h2⟩,λz=>nomatch z⟩
  ·obtain ⟨its,_,p,_⟩:=I.list hs;obtain ⟨o,n,h1,h2,_⟩:=p;exact ⟨_,PySem.W.kitx_list,⟨o,h1,h2⟩,λz=>nomatch z⟩
 |_=>exact False.elim h
abbrev DT:List String:=["bool","int","str","tuple","list"]
def KZ:QN X (.builtin "isinstance") (λxs H Q=>∃ x t c,xs=[x,.ty c]/\TyS X.K H x t/\c∈DT/\Q (.bl (jb t c)) H):=by
 intro pins s σ H xs us Q I r h;obtain ⟨x,t,c,rfl,ht,hc,q⟩:=h;obtain ⟨u,w,rfl,rx,rc⟩:=S6 r;cases (show w=Value.type c from rc);obtain ⟨HH,kx,hh,ne⟩:=ht.kitx I rx;exact PySem.W.kia_one kx I.kIn hh (K8 X.K t ht.mem c hc) ne λtk=>⟨.bl _,H,I.tok tk,rfl,q⟩
def qeK {K:Frg} {G:Gp} {H:Hp} (hr:HR K G H) {x:T} {v:V} {t:String} (r:Rp K H x v) (h:tyT G x=some t):TyS K H v t:=by
 cases r with
 |non=>cases h;rfl
 |bl _=>cases h;rfl
 |int _=>cases h;rfl
 |str _=>cases h;rfl
 |tup hs rs=>cases h;exact .inl ⟨rfl,_,hs⟩
 |ref a=>
  have h:(if (getL G a).isSome then some "list" else none)=some t:=h;split at h
  ·rename_i e;cases h;obtain ⟨ys,e⟩:=Option.isSome_iff_exists.mp e;obtain ⟨us,hs,_⟩:=zm hr e;exact .inr ⟨rfl,us,hs⟩
  ·cases h
def KN (f:String->Bool) (te:TE3):TE3:=λτ G q=>te τ G λx G1=>match tyT G1 x with|some t=>q (.bl (f t)) G1|none=>False
def qif {tn:Str} {ty:String} {p p2:Pos} (he:E3 X e te) (hg:Gl X "isinstance") (hm:X.mg "isinstance" = none) (hg2:Gl X tn) (hm2:X.mg tn=none) (hv:bootBuiltins tn=some (.type ty)) (hmem:ty∈DT:=by decide) (hn:tn≠"__name__" := by decide) (hdb:(tn==("__debug__" : Str))=false:=by decide)
  (hs:starEach [e,.Name tn p2] X.env=(false,eval e X.env)::starEach [.Name tn p2] X.env:=by rfl) (hs2:starEach [.Name tn p2] X.env=(false,eval (.Name tn p2) X.env)::starEach [] X.env:=by rfl) (hpl:(backTo pos (starEach [.Name tn p2] X.env)).any (·.1)=false:=by rfl) :
  E3 X (.Call (.Name "isinstance" p) [e,.Name tn p2] [] pos) (KN (λt=>jb t ty) te):=
 JH (JI KZ hg hm PyProof.Rows.boot_isinstance (j3 he (j3 (RE (v:=.ty ty) hg2 hm2 hv rfl hn hdb) EO hs2) hs) (by decide) (by decide) hs hpl)
  λ_ _ _ ⟨τ,G,q,rl,h,af⟩=>qN rl h λx G1 h1 v H1 rx hr1 k1 rl1=>by
   split at h1
   ·rename_i t e1;exact ⟨_,t,ty,rfl,qeK hr1 rx e1,hmem,af _ G1 h1 _ H1 (.bl _) hr1 k1⟩
   ·exact h1.elim
structure Ends3 where
 nx:St3->Gp->Prop
 rt:Q3
 bk:St3->Gp->Prop:=λ_ _=>False
 ct:St3->Gp->Prop:=λ_ _=>False
abbrev TS3:=Ends3->St3->Gp->Prop
def qaa (K:Frg) (G:Gp) (H:Hp) (q:St3->Gp->Prop) (Q:L2.St->Hp->Prop):Prop:=∀ τ G',q τ G'->∀ σ H',Rel K τ G' σ H'->Kp G H G' H'->Q σ H'
structure AftD (K:Frg) (G:Gp) (H:Hp) (d:Ends3) (D:Ends):Prop where
 nx:qaa K G H d.nx D.nx
 rt:Aft K G H d.rt D.rt
 bk:qaa K G H d.bk D.bk
 ct:qaa K G H d.ct D.ct
def qaa.back {K:Frg} {G G1:Gp} {H H1:Hp} {q:St3->Gp->Prop} {Q:L2.St->Hp->Prop} (a:qaa K G H q Q) (k:Kp G H G1 H1):qaa K G1 H1 q Q:=λx G' h v H' r k'=>a x G' h v H' r (k.trans k')
def AftD.back {K:Frg} {G G1:Gp} {H H1:Hp} {d:Ends3} {D:Ends} (a:AftD K G H d D) (k:Kp G H G1 H1):AftD K G1 H1 d D:=⟨a.nx.back k,a.rt.back k,a.bk.back k,a.ct.back k⟩
def lS (K:Frg) (t:TS3):TS:=λD σ H=>∃ τ G d,Rel K τ G σ H/\t d τ G/\AftD K G H d D
abbrev S3 (X:Cx) (st:Stmt) (t:TS3):Prop:=PS X st (lS X.K t)
abbrev B3 (X:Cx) (st:List Stmt) (t:TS3):Prop:=PSs X st (lS X.K t)
def CI {X:Cx} {st:Stmt} {t t':TS} (h:PS X st t) (w:∀ D σ H,t' D σ H->t D σ H):PS X st t':=λpins s σ H D I q=>h pins s σ H D I (w D σ H q)
def qfe {X:Cx} {st:List Stmt} {t t':TS} (h:PSs X st t) (w:∀ D σ H,t' D σ H->t D σ H):PSs X st t':=λpins s σ H D I q=>h pins s σ H D I (w D σ H q)
variable {st:Stmt} {QR:List Stmt} {t1 t2:TS3} {tA:TT3}
def zf:TS3:=λd τ G=>d.nx τ G
def qU (t u:TS3):TS3:=λd τ G=>t { d with nx:=u d } τ G
def qiR:B3 X [] zf:=qfe qcv λ_ σ H ⟨τ,G,d,rl,h,af⟩=>af.nx τ G h σ H rl Kp.refl
def qhz (h1:S3 X st t1) (h2:B3 X QR t2):B3 X (st::QR) (qU t1 t2):=qfe (LW h1 h2) λD σ H ⟨τ,G,d,rl,h,af⟩=>
 ⟨τ,G,{ d with nx:=t2 d },rl,h,⟨λτ' G' h' σ' H' rl' k'=>⟨τ',G',d,rl',h',af.back k'⟩,af.rt,af.bk,af.ct⟩⟩
def qkv (h1:S3 X st t1):B3 X [st] t1:=CQ h1
def CP (te:TE3):TS3:=λd τ G=>te τ G λ_ G1=>d.nx τ G1
def qg6 (he:E3 X e te) (hs:swapsWith e none pos.line X.env=pure false:=by rfl):S3 X (.Expr e pos) (CP te):=CI (qbX he hs) λ_ σ H ⟨τ,G,d,rl,h,af⟩=>
 qN rl h λx G1 h1 v H1 rx hr1 k1 rl1=>af.nx τ G1 h1 σ H1 rl1 k1
def zI (te:TE3):TS3:=λd τ G=>te τ G d.rt
def qkp (he:E3 X e te):S3 X (.Return (some e) pos) (zI te):=CI (qdP he) λ_ σ H ⟨τ,G,d,rl,h,af⟩=>⟨τ,G,d.rt,rl,h,af.rt⟩
def ZF (c:TT3) (t u:TS3):TS3:=λd τ G=>c τ G λk G1=>if k=true then t d τ G1 else u d τ G1
def qlx {c:Expr} {ba bb:List Stmt} (hc:C3 X c tA) (ha:B3 X ba t1) (hb:B3 X bb t2):S3 X (.If c ba bb pos) (ZF tA t1 t2):=CI (qiE hc ha hb) λ_ σ H ⟨τ,G,d,rl,h,af⟩=>
 UV rl h λk G1 h1 H1 hr1 k1 rl1=>by
  cases k with
  |true=>rw [if_pos rfl] at h1 ⊢;exact ⟨τ,G1,d,rl1,h1,af.back k1⟩
  |false=>rw [if_neg Bool.false_ne_true] at h1 ⊢;exact ⟨τ,G1,d,rl1,h1,af.back k1⟩
def qdg:TS3:=λ_ _ _=>False
def qc4 {sts:List Stmt}:B3 X sts qdg:=λ_ _ _ _ _ _ ⟨_,_,_,_,h,_⟩=>h.elim
abbrev TG3:=T->St3->Gp->(St3->Gp->Prop)->Prop
abbrev DB:=List T->St3->Gp->(St3->Gp->Prop)->Prop
def lG (K:Frg) (t:TG3):TG:=λv σ H Q=>∃ x τ G q,Rp K H x v/\Rel K τ G σ H/\t x τ G q/\qaa K G H q Q
def lGs (K:Frg) (t:DB):TGs:=λv σ H Q=>∃ x τ G q,Rps K H x v/\Rel K τ G σ H/\t x τ G q/\qaa K G H q Q
abbrev G3 (X:Cx) (e:Expr) (t:TG3):Prop:=PG X e (lG X.K t)
abbrev Gs3 (X:Cx) (es:List Expr) (t:DB):Prop:=PGs X es (lGs X.K t)
def qih {X:Cx} {e:Expr} {t t':TG} (h:PG X e t) (w:∀ v σ H Q,t' v σ H Q->t v σ H Q):PG X e t':=λpins s σ H v u Q I r q=>h pins s σ H v u Q I r (w v σ H Q q)
def qeJ {X:Cx} {e:List Expr} {t t':TGs} (h:PGs X e t) (w:∀ v σ H Q,t' v σ H Q->t v σ H Q):PGs X e t':=λpins s σ H v u Q I r q=>h pins s σ H v u Q I r (w v σ H Q q)
def gn3 (i:Nat):TG3:=λx τ G q=>q (τ.set i (some x)) G
def qdU {i:Nat} {x:Str} (hN:X.N.Nodup) (hi:X.N[i]?=some x:=by rfl) (hx:Loc X.env.scope x:=by first|exact Or.inl rfl|exact Or.inr rfl) (hf:X.fn x=true\/X.env.scope.names.lookup x=some .local:=by first|exact .inl rfl|exact .inr rfl):G3 X (.Name x pos) (gn3 i):=
 qih (qcp hN hi hx hf) λv σ H Q ⟨x,τ,G,q,rx,rl,h,af⟩=>af _ G h _ H (rl.set i rx) Kp.refl
def U2:DB:=λxs τ G q=>match xs with|[]=>q τ G|_=>False
def jS (t:TG3) (u:DB):DB:=λxs τ G q=>match xs with|x::r=>t x τ G λτ' G'=>u r τ' G' q|[]=>False
def qjK:Gs3 X [] U2:=qeJ qb5 λv σ H Q ⟨x,τ,G,q,rx,rl,h,af⟩=>by
 cases rx with
 |nil=>exact ⟨rfl,af _ G h _ H rl Kp.refl⟩
 |cons _ _=>exact h.elim
def qgf {tg:TG3} {tgs:DB} (h1:G3 X e tg) (h2:Gs3 X es tgs) (hs:(assignEach (e::es) X.env).map (·.2)=assign e X.env::(assignEach es X.env).map (·.2):=by rfl):Gs3 X (e::es) (jS tg tgs):=qeJ (MB h1 h2 hs) λv σ H Q ⟨x,τ,G,q,rx,rl,h,af⟩=>by
 cases rx with
 |nil=>exact h.elim
 |cons r rs=>exact ⟨_,_,rfl,_,τ,G,_,r,rl,h,λτ' G' h' σ' H' rl' k'=>⟨_,τ',G',q,rs.keep rl.hp k',rl',h',af.back k'⟩⟩
def U3 (n:Nat) (t:DB):TG3:=λx τ G q=>match x with|.tup xs=>xs.length=n/\t xs τ G q|_=>False
def qi5 {k:Nat} {tgs:DB} {n:Nat} (hc:X.calm=true) (h:Gs3 X es tgs) (hn:(assignEach es X.env).length=n:=by rfl) (hst:(assignEach es X.env).findIdx? (·.1)=none:=by rfl):G3 X (.Tuple es k pos) (U3 n tgs):=
 qih (qgr hc h hn hst) λv σ H Q ⟨x,τ,G,q,rx,rl,h,af⟩=>by
  cases x<;>try exact h.elim
  case tup xs=>
   cases rx with
   |tup hs rs=>exact ⟨_,_,rfl,hs,by rw [← rs.length];exact h.1,_,τ,G,q,rs,rl,h.2,af⟩
def N7:T->T->T->Gp->(Gp->Prop)->Prop:=λo i v G q=>match o,i with
 |.ref p,.int k=>(match G p with|some (.lst xs)=>(match ixN xs.length k with|some j=>q (gu G p (.lst (xs.set j v)))|none=>False)|_=>False)
 |_,_=>False
def Z4 (to ti:TE3):TG3:=λx τ G q=>to τ G λo G1=>ti τ G1 λi G2=>N7 o i x G2 λG3=>q τ G3
def qj2 {o i : Expr} {to ti : TE3} (ho : E3 X o to) (hi : E3 X i ti) (ha : ∀ v,assign (.Subscript o i pos) X.env v = (do
      let ov←holding [v] (eval o X.env)
      let iv←holding [v,ov] (eval i X.env)
      standAt pos
      holding [v,ov,iv] (setItem ov iv v)
      release [v,ov,iv] []):=by intro _;rfl):G3 X (.Subscript o i pos) (Z4 to ti):=
  qih (qgD ho hi MF ha) λv σ H Q ⟨x,τ,G,q,rx,rl,h,af⟩=>qN rl h λy G1 h1 u H1 ry hr1 k1 rl1=>qN rl1 h1 λz G2 h2 w H2 rz hr2 k2 rl2=>by
    have rx2:=(rx.keep rl.hp k1).keep hr1 k2;have ry2:=ry.keep hr1 k2;unfold N7 at h2;split at h2
    · rename_i p k;split at h2
      · rename_i xs e;split at h2
        · rename_i j ej;cases ry2;cases rz;obtain ⟨vs,g1,r1⟩:=hr2.lst e;have kk:Kp G2 H2 (gu G2 p (.lst (xs.set j x))) (upd H2 p (.lst (vs.set j v))):=Kp.wr e;exact ⟨p,vs,k,j,rfl,rfl,g1,by rw [← r1.length];exact ej,af τ _ h2 σ _ (rl2.next (hr2.wr e (r1.set rx2 j)) kk) ((k1.trans k2).trans kk)⟩
        · exact h2.elim
      · exact h2.elim
    · exact h2.elim
def zG (te:TE3) (g:TG3):TS3:=λd τ G=>te τ G λx G1=>g x τ G1 d.nx
def qjs {tg e:Expr} {g:TG3} (he:E3 X e te) (hg:G3 X tg g) (hs:swapsWithSole [tg] e pos.line X.env=pure false:=by rfl) (hw:swappedStores [tg] e X.env=pure none:=by rfl)
  (h1:(assignEach [tg] X.env).map (·.2)=[assign tg X.env]:=by rfl):S3 X (.Assign [tg] e pos) (zG te g):=CI (qdR he hg hs hw h1) λ_ σ H ⟨τ,G,d,rl,h,af⟩=>
 qN rl h λx G1 h1 v H1 rx hr1 k1 rl1=>⟨x,τ,G1,d.nx,rx,rl1,h1,af.nx.back k1⟩
def qiD (i:Nat) {x:Str} {e:Expr} {pos':Pos} (hN:X.N.Nodup) (he:E3 X e te) (hi:X.N[i]?=some x:=by rfl) (hx:Loc X.env.scope x:=by first|exact Or.inl rfl|exact Or.inr rfl) (hs:swapsWith e (some (.Name x pos')) pos.line X.env=pure false:=by rfl) (hf:X.fn x=true\/X.env.scope.names.lookup x=some .local:=by first|exact .inl rfl|exact .inr rfl) :
  S3 X (.Assign [.Name x pos'] e pos) (zG te (gn3 i)):=CI (qaq hN hi hx he hs hf) λ_ σ H ⟨τ,G,d,rl,h,af⟩=>
 qN rl h λx G1 h1 v H1 rx hr1 k1 rl1=>af.nx _ G1 h1 _ H1 (rl1.set i rx) k1
def M9 (i j:Nat) (ta:TA3):TS3:=λd τ G=>ta τ G λxs G1=>match xs with|[x,y]=>d.nx ((τ.set i (some x)).set j (some y)) G1|_=>False
def qj6 {i j:Nat} {x y:Str} {a b:Expr} {tt:TA3} {px py pt:Pos} {kt k2 pt2} (hc:X.calm=true) (hN:X.N.Nodup) (hi:X.N[i]?=some x) (hj:X.N[j]?=some y) (hij:i≠j)
  (hx:X.env.scope.names.lookup x=some .local) (hy:X.env.scope.names.lookup y=some .local) (ha:A3 X [a,b] tt)
  (hw:swappedStores [.Tuple [.Name x px,.Name y py] kt pt] (.Tuple [a,b] k2 pt2) X.env=pure (some [x,y]):=by rfl)
  (hs:swapsWithSole [.Tuple [.Name x px,.Name y py] kt pt] (.Tuple [a,b] k2 pt2) pos.line X.env=pure false:=by rfl) :
  S3 X (.Assign [.Tuple [.Name x px,.Name y py] kt pt] (.Tuple [a,b] k2 pt2) pos) (M9 i j tt):=CI (qhB hc hN hi hj hij hx hy ha hw hs) λ_ σ H ⟨τ,G,d,rl,h,af⟩=>
 jo rl h λxs G1 h1 vs H1 rs hr1 k1 rl1=>by
  split at h1
  ·obtain ⟨v,u,rfl,r,r'⟩:=qiH rs;exact ⟨v,u,rfl,af.nx _ G1 h1 _ H1 ((rl1.set i r).set j r') k1⟩
  ·exact h1.elim
end
abbrev TI3:=St3->Gp->(List T->(Gp->Prop)->Gp->Prop)->Prop
def qdh (K:Frg) (J:It) (items:List T) (stay:Gp->Prop) (G0:Gp) (H0:Hp):Prop:=∀ G H,HR K G H->Kp G0 H0 G H->stay G ->
 (∀ i x,items[i]?=some x->J.go i H)/\(∀ i x v H',items[i]?=some x->J.yld i H v H'->Rp K H' x v/\HR K G H'/\Kp G H G H')/\J.stop items.length H
def lI (K:Frg) (wi:TI3):TI:=λσ H R=>∃ τ G r,Rel K τ G σ H/\wi τ G r/\∀ items stay G',r items stay G'->∀ J H',HR K G' H'->Kp G H G' H'->qdh K J items stay G' H'->R J H'
abbrev I3 (X:Cx) (tg iter:Expr) (wi:TI3):Prop:=PI X tg iter (lI X.K wi)
def qh9 {X:Cx} {tg e:Expr} {t t':TI} (h:PI X tg e t) (w:∀ σ H R,t' σ H R->t σ H R):PI X tg e t':=λpins s σ H R I q=>h pins s σ H R I (w σ H R q)
section
variable {X:Cx} {a b c e l tg:Expr} {es:List Expr} {ta tb tc te:TE3} {t:TA3} {pos:Pos}
def qhw {tl:TE} (hl:PE X l tl):PI X tg l (λσ H R=>tl σ H λx H1=>∃ a,x=.ref a/\(((∃ xs,SqL X.K H1 a xs)/\R (Itl X.K a) H1)\/((∃ xs,SqT X.K H1 a xs)/\R (Itt X.K a) H1))):=by
 intro pins s σ H R I h;refine thn (hl pins s σ H _ I h) λv s1 ⟨x,H1,I1,r1,q1⟩=>?_;obtain ⟨a,e,⟨⟨xs,hq⟩,q⟩|⟨⟨xs,hq⟩,q⟩⟩:=q1
 ·subst e;cases r1;obtain ⟨its,rv,p,hz⟩:=I1.list hq;refine wpAny_pyIter_list p.isList ?_;refine ⟨s1.heap.objs.size,[s1.heap.objs.size],_,_,H1,rfl,I1.kept (t':=s1.toks) λb o e=>Heap.get?_push_of_some _ e,S0 a _,⟨_,Heap.get?_push_size _ rfl,rfl,rfl⟩,λb hb=>?_,q⟩;have e:b=s1.heap.objs.size:=by simpa using hb
  subst e;exact I1.fpOk (Nat.le_refl _) (I1.hok.fresh (Nat.le_refl _))
 ·subst e;cases r1;obtain ⟨its,rv,p,hz⟩:=I1.tuple hq;refine wpAny_pyIter_tuple (show s1.heap.IsTuple a its.toArray from p) ?_;refine ⟨s1.heap.objs.size,[s1.heap.objs.size],_,_,H1,rfl,I1.kept (t':=s1.toks) λb o e=>Heap.get?_push_of_some _ e,XV a _,⟨_,Heap.get?_push_size _ rfl,rfl,rfl⟩,λb hb=>?_,q⟩;have e:b=s1.heap.objs.size:=by simpa using hb
  subst e;exact I1.fpOk (Nat.le_refl _) (I1.hok.fresh (Nat.le_refl _))
def V9 (tl:TE3):TI3:=λτ G r=>tl τ G λx G1=>match x with
 |.tup xs=>r xs (λ_=>True) G1
 |.ref p=>(match getL G1 p with|some xs=>r xs (λG=>getL G p=some xs) G1|none=>False)
 |_=>False
def qeM {K:Frg} {p:Addr} {xs:List T} {G0:Gp} {H0:Hp}:qdh K (Itl K p) xs (λG=>getL G p=some xs) G0 H0:=by
 intro G H hr _ hs;obtain ⟨vs,sq,rs⟩:=zm hr hs;refine ⟨λi x hi=>?_,λi x v H' hi y=>?_,⟨vs,sq,by rw [rs.length];exact Nat.le_refl _⟩⟩
 ·obtain ⟨v,hv,_⟩:=rs.get hi;exact ⟨vs,v,sq,hv⟩
 ·obtain ⟨e,y⟩:=y;subst e;obtain ⟨w,hw,rw'⟩:=rs.get hi;have e2:=(y vs sq).symm.trans hw;cases e2;exact ⟨rw',hr,Kp.refl⟩
def qd8 {K:Frg} {p:Addr} {xs:List T} {vs:List V} {G0:Gp} {H0:Hp} (hr0:HR K G0 H0) (sq0:SqT K H0 p vs) (rs0:Rps K H0 xs vs):qdh K (Itt K p) xs (λ_=>True) G0 H0:=by
 intro G H hr k _;have sq:=JJ hr0 k sq0;have rs:=rs0.keep hr0 k;refine ⟨λi x hi=>?_,λi x v H' hi y=>?_,⟨vs,sq,by rw [rs.length];exact Nat.le_refl _⟩⟩
 ·obtain ⟨v,hv,_⟩:=rs.get hi;exact ⟨vs,v,sq,hv⟩
 ·obtain ⟨e,y⟩:=y;subst e;obtain ⟨w,hw,rw'⟩:=rs.get hi;have e2:=(y vs sq).symm.trans hw;cases e2;exact ⟨rw',hr,Kp.refl⟩
def qkF (hl:E3 X l te):I3 X tg l (V9 te):=qh9 (qhw hl) λσ H R ⟨τ,G,r,rl,h,af⟩=>qN rl h λx G1 h1 v H1 rx hr1 k1 rl1=>by
 cases x<;>try exact h1.elim
 case tup xs=>
  cases rx with
  |tup hs rs=>exact ⟨_,rfl,.inr ⟨⟨_,hs⟩,af _ _ G1 h1 _ H1 hr1 k1 (qd8 hr1 hs rs)⟩⟩
 case ref p=>
  simp only at h1;split at h1
  ·rename_i xs e0;cases rx;obtain ⟨vs,hs,rs⟩:=zm hr1 e0;exact ⟨_,rfl,.inl ⟨⟨_,hs⟩,af _ _ G1 h1 _ H1 hr1 k1 qeM⟩⟩
  ·exact h1.elim
def CT (lo:Int) (n:Nat):List T:=(List.range n).map λ(i:Nat)=>T.int (lo+(i:Int))
def qgp {K:Frg} {lo:Int} {n:Nat} {G0:Gp} {H0:Hp}:qdh K (Itr lo n) (CT lo n) (λ_=>True) G0 H0:=by
 intro G H hr k _;have hl:(CT lo n).length=n:=by simp [CT]
 refine ⟨λi x hi=>?_,λi x v H' hi y=>?_,(show n<=(CT lo n).length by rw [hl];exact Nat.le_refl n)⟩
 ·have:=(List.getElem?_eq_some_iff.mp hi).1;rw [hl] at this;exact this
 ·obtain ⟨e,y⟩:=y;subst e;subst y;have h1:=(List.getElem?_eq_some_iff.mp hi).1;rw [hl] at h1;unfold CT at hi;rw [getElem?_map,List.getElem?_range h1] at hi;have e:T.int (lo+(i:Int))=x:=by simpa using hi
  subst e;exact ⟨.int _,hr,Kp.refl⟩
def ZU (ta:TA3):TI3:=λτ G r=>ta τ G λxs G1=>match xs with
 |[.int j]=>(-(2 ^ 62)<=j/\j<2 ^ 62)/\r (CT 0 j.toNat) (λ_=>True) G1
 |[.int i,.int j]=>(-(2 ^ 62)<=i/\i<2 ^ 62/\-(2 ^ 62)<=j/\j<2 ^ 62)/\r (CT i (j-i).toNat) (λ_=>True) G1
 |_=>False
def K5 {p:Pos} (hg:Gl X "range") (hm:X.mg "range" = none) (ha:A3 X [a] t) (hs:starEach [a] X.env=[(false,eval a X.env)]:=by rfl) (h1:∀ τ G q,t τ G q->t τ G λxs G=>q xs G/\xs.length=1):I3 X tg (.Call (.Name "range" p) [a] [] pos) (ZU t):=
 qh9 (CN hg hm ha hs) λσ H R ⟨τ,G,r,rl,h,af⟩=>jo rl (h1 _ _ _ h) λxs G1 h1 vs H1 rs hr1 k1 rl1=>by
  obtain ⟨h1,hl⟩:=h1;simp only at h1;split at h1
  ·obtain ⟨v,rfl,r1⟩:=DZ rs;cases r1;exact ⟨_,rfl,h1.1.1,h1.1.2,af _ _ G1 h1.2 _ H1 hr1 k1 qgp⟩
  ·simp at hl
  ·exact h1.elim
def UC (stay:Gp->Prop) (g:TG3) (tb:TS3) (d:Ends3):List T->St3->Gp->Prop
 |[],τ,G=>stay G/\d.nx τ G
 |x::r,τ,G=>stay G/\g x τ G λτ2 G2=>tb { d with nx:=UC stay g tb d r,ct:=UC stay g tb d r,bk:=d.nx } τ2 G2
def X2 (wi:TI3) (g:TG3) (tb:TS3):TS3:=λd τ G=>wi τ G λitems stay G1=>UC stay g tb d items τ G1
def qkr {iter:Expr} {body:List Stmt} {wi:TI3} {g:TG3} {tb:TS3} (hp:PassesOwn (model X.prog X.w) X.A X.env X.xe) (hc:X.calm=true) (hi:I3 X tg iter wi) (hg:G3 X tg g) (hb:B3 X body tb)
  (hs:∀ x,foldedSetIterable iter X.env x=pure x:=by intro _;rfl):S3 X (.For tg iter body [] pos) (X2 wi g tb):=
 CI (qgi hp hc hi hg hb hs) λD σ H ⟨τ,G,d,rl,h,af⟩=>by
  refine ⟨τ,G,_,rl,h,λitems stay G1 h1 J H1 hr1 k1 ok=>?_⟩;refine ⟨λi m σ' H'=>m=items.length-i/\i<=items.length/\∃ τ' G',Rel X.K τ' G' σ' H'/\Kp G1 H1 G' H'/\UC stay g tb d (items.drop i) τ' G',⟨_,rfl,Nat.zero_le _,τ,G1,rl.next hr1 k1,Kp.refl,by simpa using h1⟩,?_⟩;rintro i m σ' H' ⟨rfl,hi,τ',G',rl',k',h'⟩;by_cases hlt:i<items.length
  ·rw [List.drop_eq_getElem_cons hlt] at h';obtain ⟨hst,h'⟩:=h';obtain ⟨go,yld,_⟩:=ok G' H' rl'.hp k' hst;have hx:items[i]?=some items[i]:=getElem?_eq_getElem hlt;refine .inr ⟨go i _ hx,λσ2 H2=>∃ τ2 G2,Rel X.K τ2 G2 σ2 H2/\Kp G1 H1 G2 H2/\UC stay g tb d (items.drop (i+1)) τ2 G2,λσ2 H2 h2=>⟨_,by omega,rfl,hlt,h2⟩,λv H2 y=>?_⟩;obtain ⟨rv,hr2,k2⟩:=yld i _ v H2 hx y;have k3:Kp G1 H1 G' H2:=k'.trans k2;refine ⟨_,τ',G',_,rv,rl'.next hr2 k2,h',λτ3 G3 h3 σ3 H3 rl3 k4=>?_⟩;have k5:Kp G H G3 H3:=(k1.trans k3).trans k4;refine ⟨τ3,G3,_,rl3,h3,⟨λτ4 G4 h4 σ4 H4 rl4 k6=>⟨τ4,G4,rl4,(k3.trans k4).trans k6,h4⟩,af.rt.back k5,af.nx.back k5,λτ4 G4 h4 σ4 H4 rl4 k6=>⟨τ4,G4,rl4,(k3.trans k4).trans k6,h4⟩⟩⟩
  ·have e:i=items.length:=by omega
   subst e;rw [List.drop_length] at h';obtain ⟨_,_,stop⟩:=ok G' H' rl'.hp k' h'.1;exact .inl ⟨stop,af.nx τ' G' h'.2 σ' H' rl' (k1.trans k')⟩
def T3 {stay:Gp->Prop} {g:TG3} {tb:TS3} {d:Ends3} (items:List T) (Pv:Nat->St3->Gp->Prop) {τ:St3} {G:Gp} (h0:Pv 0 τ G) (hst:∀ i τ G,i<=items.length->Pv i τ G->stay G)
  (hs:∀ i x τ G (nx:St3->Gp->Prop),items[i]?=some x->Pv i τ G->(∀ τ G,Pv (i+1) τ G->nx τ G)->g x τ G λτ2 G2=>tb { d with nx:=nx,ct:=nx,bk:=d.nx } τ2 G2)
  (hd:∀ τ G,Pv items.length τ G->d.nx τ G):UC stay g tb d items τ G:=by
 have key:∀ (r:List T) (i:Nat) τ G,items.drop i=r->i<=items.length->Pv i τ G->UC stay g tb d r τ G:=by
  intro r;induction r with
  |nil=>
   intro i τ G e hi p;have:i=items.length:=by have:=congrArg List.length e;simp at this;omega
   subst this;exact ⟨hst _ τ G hi p,hd τ G p⟩
  |cons x r ih=>
   intro i τ G e hi p;have hl:i<items.length:=by
    apply Classical.byContradiction;intro z;rw [List.drop_eq_nil_of_le (by omega)] at e;cases e
   have e':=List.drop_eq_getElem_cons hl;rw [e] at e';injection e' with e1 e2;refine ⟨hst i τ G hi p,hs i x τ G _ (by rw [getElem?_eq_getElem hl,e1]) p λτ2 G2 p2=>ih (i+1) τ2 G2 e2.symm hl p2⟩
 exact key items 0 τ G (by simp) (Nat.zero_le _) h0
def WI (c:TT3) (tb:TS3):TS3:=λd τ G=>∃ W:Nat->St3->Gp->Prop,(∃ m,W m τ G)/\∀ m τ G,W m τ G ->
 c τ G λb G1=>if b=true then ∃ N:St3->Gp->Prop,(∀ τ' G',N τ' G'->∃ m',m'<m/\W m' τ' G')/\tb { d with nx:=N,ct:=N,bk:=d.nx } τ G1 else d.nx τ G1
def qbA {c:Expr} {body:List Stmt} {tc:TT3} {tb:TS3} (hp:PassesOwn (model X.prog X.w) X.A X.env X.xe) (hc:C3 X c tc) (hb:B3 X body tb):S3 X (.While c body [] pos) (WI tc tb):=
 CI (LL hp hc hb) λD σ H ⟨τ,G,d,rl,⟨W,⟨m0,w0⟩,turn⟩,af⟩=>by
  refine ⟨λm σ' H'=>∃ τ' G',Rel X.K τ' G' σ' H'/\Kp G H G' H'/\W m τ' G',⟨m0,τ,G,rl,Kp.refl,w0⟩,?_⟩;rintro m σ' H' ⟨τ',G',rl',k',w'⟩;refine UV rl' (turn m τ' G' w') λb G1 h1 H1 hr1 k1 rl1=>?_;cases b with
  |true=>
   rw [if_pos rfl] at h1 ⊢;obtain ⟨N,hN,h1⟩:=h1;refine ⟨λσ2 H2=>∃ τ2 G2,Rel X.K τ2 G2 σ2 H2/\Kp G H G2 H2/\N τ2 G2,λσ2 H2 ⟨τ2,G2,r2,k2,n2⟩=>?_,τ',G1,_,rl1,h1,⟨λτ2 G2 h2 σ2 H2 r2 k2=>⟨τ2,G2,r2,(k'.trans k1).trans k2,h2⟩,af.rt.back (k'.trans k1),af.nx.back (k'.trans k1),λτ2 G2 h2 σ2 H2 r2 k2=>⟨τ2,G2,r2,(k'.trans k1).trans k2,h2⟩⟩⟩;obtain ⟨m',hm,w2⟩:=hN τ2 G2 n2;exact ⟨m',hm,τ2,G2,r2,k2,w2⟩
  |false=>
   rw [if_neg Bool.false_ne_true] at h1 ⊢;exact af.nx τ' G1 h1 σ' H1 rl1 (k'.trans k1)
abbrev Sp3:=List T->Gp->Q3->Prop
def lSp (K:Frg) (sp:Sp3):Sp:=λvs H Q _=>∃ ts G q,HR K G H/\Rps K H ts vs/\sp ts G q/\Aft K G H q Q
def Fn3 (P:Program) (w:World) (K:Frg) (mg:Str->Option Value) (base:Heap) (k:Nat) (x:Str) (sp:Sp3):Prop:=
 ∃ f fd ps,FnOk P w K mg base CX0 k f fd ps (lSp K sp)/\zz K fd ps []/\PySem.W.keepIn K (.ref f)=true/\mg x=some (.ref f)
def Fn3.mono {P:Program} {w:World} {K:Frg} {mg:Str->Option Value} {base:Heap} {j k:Nat} {x:Str} {sp:Sp3} (F:Fn3 P w K mg base j x sp) (h:j<=k):Fn3 P w K mg base k x sp:=
 let ⟨f,fd,ps,a,b,c,d⟩:=F;⟨f,fd,ps,a.mono h,b,c,d⟩
def Fn3.imp {P:Program} {w:World} {K:Frg} {mg:Str->Option Value} {base:Heap} {k:Nat} {x:Str} {sp sp':Sp3} (F:Fn3 P w K mg base k x sp) (h:∀ ts G q,sp' ts G q->sp ts G q):Fn3 P w K mg base k x sp':=
 let ⟨f,fd,ps,a,b,c,d⟩:=F;⟨f,fd,ps,a.imp λvs H Q E ⟨ts,G,q,h1,h2,h3,h4⟩=>⟨ts,G,q,h1,h2,h _ _ _ h3,h4⟩,b,c,d⟩
def qfk {k:Nat} {x:Str} {p:Pos} {sp:Sp3} (F:Fn3 X.prog X.w X.K X.mg X.base k x sp) (hr:Room k X.A) (hg:Gl X x) (ha:A3 X (e::es) t) (hdb:(x==("__debug__" : Str))=false:=by decide)
  (he:starEach (e::es) X.env=(false,eval e X.env)::starEach es X.env:=by rfl) (hpl:(backTo pos (starEach es X.env)).any (·.1)=false:=by rfl):E3 X (.Call (.Name x p) (e::es) [] pos) (cb3 sp t):=by
 obtain ⟨f,fd,ps,F,b,kp,m⟩:=F;refine JH (qbK F hr hg m kp b .nil qjF ha hdb he hpl) λσ H Q ⟨τ,G,q,rl,h,af⟩=>jo rl h λxs G1 h1 vs H1 rs hr1 k1 rl1=>?_;rw [List.append_nil];exact ⟨xs,G1,q,hr1,rs,h1,af.back k1⟩
def ql (N:List Str) (ts:List T):St3:=ts.map some++List.replicate (N.length-ts.length) none
def YA {K:Frg} {N:List Str} {G:Gp} {H:Hp} {ts:List T} {vs:List V} (hr:HR K G H) (rs:Rps K H ts vs):Rel K (ql N ts) G (L2.J2 N vs) H:=by
 refine ⟨hr,by simp [ql,L2.J2,rs.length],λi t e=>?_⟩;unfold ql at e;by_cases hi:i<ts.length
 ·rw [List.getElem?_append_left (by simpa using hi),getElem?_map] at e;cases q:ts[i]? with
  |none=>rw [q] at e;cases e
  |some z=>
   rw [q] at e;have e':z=t:=by simpa using e
   subst e';obtain ⟨v,hv,r⟩:=rs.get q;refine ⟨v,?_,r⟩;unfold L2.J2;rw [List.getElem?_append_left (by rw [length_map,← rs.length];exact hi),getElem?_map,hv];rfl
 ·rw [List.getElem?_append_right (by simpa using hi),List.getElem?_replicate] at e;split at e<;>cases e
def qgM {P:Program} {w:World} {K:Frg} {mg:Str->Option Value} {base:Heap} {x qual:Str} {st:Stmt} {f:Addr} {fd:FuncData} {N ps:List Str} {k:Nat} {sp:Sp3} {t3:TS3} (F:Fun K x qual st f fd) (S:FnScope N ps (qf st)) (bd:zz K fd ps []) (hm:mg x=some (.ref f))
  (body:∀ (cdv:Value) (A:Around) (outer:List Env) (s:Shared) (H:Hp) (E:XK),Room k (A.deeper (envOfC qual (qf st) s.heap.objs.size f cdv)) ->
   B3 (JC CX0 P w K mg base N qual (qf st) f cdv A outer s H E).nox (qH st) t3)
  (read:∀ ts G q,sp ts G q->ts.length=ps.length/\t3 { nx:=λ_ G'=>q .non G',rt:=q } (ql N ts) G):Fn3 P w K mg base (k+1) x sp:=by
 refine ⟨f,fd,ps,F.ok S (λvs H Q E ⟨ts,G,q,h1,h2,h3,h4⟩=>by rw [← h2.length];exact (read ts G q h3).1) λcdv A outer s H vs Q E hr ⟨ts,G,q,h1,h2,h3,h4⟩=>?_,bd,F.kp,hm⟩;refine ⟨_,body cdv A outer s H E hr,ql N ts,G,_,YA h1 h2,(read ts G q h3).2,⟨λτ' G' h' σ' H' rl' k'=>h4 _ G' h' _ H' .non rl'.hp k',h4,λ_ _ z=>z.elim,λ_ _ z=>z.elim⟩⟩
def qdb (xs:List T):Option Bool:=match xs with
 |[]=>some true
 |.bl k::r=>(match qdb r with|some j=>some (k&&j)|none=>none)
 |_=>none
def qiU (xs:List T):Option Bool:=match xs with
 |[]=>some false
 |.bl k::r=>(match qiU r with|some j=>some (k||j)|none=>none)
 |_=>none
def MQ {P:Program} {w:World} {A:Around} {its:List Value} {ks:List Bool} (h:its=ks.map Value.bool):TruthOf P w A (λi v=>its.toArray[i]?=some v) (λi=>ks.getD i true):=by
 intro i v s Q E hp hq;subst h;have hp':ks[i]?.map Value.bool=some v:=by simpa using hp
 cases e:ks[i]? with
 |none=>rw [e] at hp';cases hp'
 |some k=>
  rw [e] at hp';cases hp';have:ks.getD i true=k:=by rw [getD_eq_getElem?_getD,e];rfl
  have hq:Q (ks.getD i true) s:=hq;rw [this] at hq;exact wpAny_truthy_bool hq
def VI:∀ {ks:List Bool} {us:List Value},qF (ks.map V.bl) us->us=ks.map Value.bool
 |[],_,r=>by cases r;rfl
 |k::ks,_,r=>by
  cases r with
  |cons a b=>rw [show _=Value.bool k from a,VI b];rfl
def R9 (ks:List Bool):((List.range ks.length).all λi=>ks.getD i true)=ks.all id:=by
 induction ks with
 |nil=>rfl
 |cons k ks ih=>
  rw [length_cons,List.range_succ_eq_map,List.all_cons,List.all_map,List.all_cons];congr 1
def QS (hc:X.calm=true):QN X (.builtin "all") (λxs H Q=>∃ (p:Addr) (ks:List Bool),xs=[.ref p]/\SqL X.K H p (ks.map V.bl)/\Q (.bl (ks.all id)) H):=by
 intro pins s σ H xs us Q I r h;obtain ⟨p,ks,rfl,hq,q⟩:=h;obtain ⟨u,rfl,rp⟩:=EQ r;cases (show u=Value.ref p from rp);obtain ⟨its,rv,pl,hz⟩:=I.list hq;have hb:=VI rv;have hlen:its.length=ks.length:=by rw [hb];simp
 have hp:p<s.heap.objs.size:=by obtain ⟨o,n,e,_⟩:=pl;exact Heap.lt_size e
 refine call_all_walk (wpAny_pyIter_list pl.isList ⟨s.heap.objs.size,_,_,_,_,_,λi=>ks.getD i true,rfl,Walks.list (A:=X.A.in1) (show X.A.in1.handled=none from I.ok.hd hc) s.heap.objs.size p (Nat.ne_of_lt hp) its.toArray,⟨⟨_,Heap.get?_push_size _ rfl,rfl,rfl⟩,?_⟩,MQ hb,λh' tk hk=>?_⟩)
 ·obtain ⟨o,n,e,c,_,d⟩:=pl;exact ⟨o,Heap.get?_push_of_some _ e,c,n,d⟩
 ·refine ⟨.bl _,H,?_,rfl,by rw [size_toArray,hlen,R9];exact q⟩;exact I.kept (h':=h') (t':=tk) λb o e=>hk b o (by simp;exact Nat.ne_of_lt (Heap.lt_size e)) (Heap.get?_push_of_some _ e)
end
def YN (env:Env):List (Str×NameKind)->List (Str×Addr)->List (Str×Addr)
 |[],cs=>cs
 | (n,k)::r,cs=>if k=.free then YN env r ((n,(env.cells.lookup n).getD 0)::cs) else YN env r cs
def Q5 {scope:Scope} {env:Env} (h:∀ y∈scope.names,y.2=.free->∃ c,env.cells.lookup y.1=some c):closureFor scope env=pure (YN env scope.names []):=by
 have key:∀ (l:List (Str×NameKind)) (cs:List (Str×Addr)),(∀ y∈l,y.2=.free->∃ c,env.cells.lookup y.1=some c) ->
   (forIn l cs λ(x:Str×NameKind) (r:List (Str×Addr))=>if (x.2==NameKind.free)=true then (do let a←cellOf env x.1;pure (ForInStep.yield ((x.1,a)::r))) else pure (ForInStep.yield r))=(pure (YN env l cs):Sem _):=by
  intro l;induction l with
  |nil=>intro cs _;rfl
  |cons y r ih=>
   intro cs hl;obtain ⟨n,k⟩:=y;rw [List.forIn_cons];by_cases hk:k=.free
   ·subst hk;obtain ⟨c,hc⟩:=hl (n,.free) List.mem_cons_self rfl;have e:cellOf env n=pure c:=by unfold cellOf;rw [show List.lookup n env.cells=some c from hc]
    simp only [beq_self_eq_true,if_true];rw [e,pure_bind,pure_bind];show forIn r ((n,c)::cs) _=_;rw [ih _ λz hz=>hl z (List.mem_cons_of_mem _ hz)];show _=(pure (if NameKind.free=NameKind.free then YN env r ((n,(env.cells.lookup n).getD 0)::cs) else YN env r cs):Sem _);rw [if_pos rfl,show List.lookup n env.cells=some c from hc];rfl
   ·have hb:(k==NameKind.free)=false:=by cases k<;>first|rfl|exact absurd rfl hk
    simp only [hb,Bool.false_eq_true,if_false];rw [pure_bind];show forIn r cs _=_;rw [ih _ λz hz=>hl z (List.mem_cons_of_mem _ hz)];show _=(pure (if k=NameKind.free then YN env r ((n,(env.cells.lookup n).getD 0)::cs) else YN env r cs):Sem _);rw [if_neg hk]
 have:=key scope.names [] h;unfold closureFor;refine Eq.trans ?_ this;exact bind_pure (m:=Sem) _
def Q4 {env:Env}:∀ (l:List (Str×NameKind)) (cs:List (Str×Addr)) (x:Str) (c:Addr),(∀ y∈l,y.2=.free->∃ c,env.cells.lookup y.1=some c) ->
  (∀ x c,cs.lookup x=some c->env.cells.lookup x=some c)->(YN env l cs).lookup x=some c->env.cells.lookup x=some c
 |[],_,_,_,_,h,e=>h _ _ e
 | (n,k)::r,cs,x,c,hl,h,e=>by
  unfold YN at e;split at e
  ·rename_i hk;refine Q4 r _ x c (λy hy=>hl y (List.mem_cons_of_mem _ hy)) (λx c e=>?_) e;rw [List.lookup_cons] at e;split at e
   ·rename_i hx;have hx':x=n:=by simpa using hx
    subst hx';obtain ⟨d,hd⟩:=hl (x,k) List.mem_cons_self hk;have hd:List.lookup x env.cells=some d:=hd;rw [hd] at e ⊢;exact e
   ·exact h _ _ e
  ·exact Q4 r cs x c (λy hy=>hl y (List.mem_cons_of_mem _ hy)) h e
def JG {env:Env}:∀ (l:List (Str×NameKind)) (cs:List (Str×Addr)) (x:Str),((x,NameKind.free)∈l\/∃ c,cs.lookup x=some c)->∃ c,(YN env l cs).lookup x=some c
 |[],_,_,h=>by
  rcases h with h|h
  ·simp at h
  ·exact h
 | (n,k)::r,cs,x,h=>by
  unfold YN;have put:∀ d:Addr,(x=n\/∃ c,cs.lookup x=some c)->∃ c,((n,d)::cs).lookup x=some c:=λd z=>by
   rw [List.lookup_cons];cases hx:x==n with
   |true=>exact ⟨d,rfl⟩
   |false=>
    rcases z with z|z
    ·rw [z] at hx;simp at hx
    ·exact z
  split
  ·rename_i hk;refine JG r _ x ?_;rcases h with h|h
   ·rcases mem_cons.mp h with e|e
    ·cases e;exact .inr (put _ (.inl rfl))
    ·exact .inl e
   ·exact .inr (put _ (.inr h))
  ·rename_i hk;refine JG r _ x ?_;rcases h with h|h
   ·rcases mem_cons.mp h with e|e
    ·cases e;exact absurd rfl hk
    ·exact .inl e
   ·exact .inr h
def UB {env:Env}:∀ (l:List (Str×NameKind)) (cs:List (Str×Addr)) (x:Str) (c:Addr),(YN env l cs).lookup x=some c->(x,NameKind.free)∈l\/cs.lookup x=some c
 |[],_,_,_,e=>.inr e
 | (n,k)::r,cs,x,c,e=>by
  unfold YN at e;split at e
  ·rename_i hk;rcases UB r _ x c e with z|z
   ·exact .inl (List.mem_cons_of_mem _ z)
   ·rw [List.lookup_cons] at z;split at z
    ·rename_i hx;have hx':x=n:=by simpa using hx
     subst hx';subst hk;exact .inl List.mem_cons_self
    ·exact .inr z
  ·rcases UB r cs x c e with z|z
   ·exact .inl (List.mem_cons_of_mem _ z)
   ·exact .inr z
def ZL {α:Type}:∀ (xs ys:List (Str×α)) (x:Str),(xs++ys).lookup x=(match xs.lookup x with|some c=>some c|none=>ys.lookup x)
 |[],ys,x=>rfl
 | (n,c)::xs,ys,x=>by
  rw [cons_append,List.lookup_cons,List.lookup_cons];cases x==n with
  |true=>rfl
  |false=>exact ZL xs ys x
def zl:∀ (l:List (Str×NameKind)) {n:Nat} {acc:List (Str×Addr)},cellsFrom n l acc=cellsFrom n l []++acc
 |[],_,_=>rfl
 | (x,k)::r,n,acc=>by
  unfold cellsFrom;split
  ·rw [zl r (acc:=(x,n)::acc),zl r (acc:=[(x,n)]),List.append_assoc];rfl
  ·exact zl r
def jB:∀ (l:List (Str×NameKind)) (n:Nat) (acc:List (Str×Addr)) (x:Str) (c:Addr),(x,c)∈cellsFrom n l acc->(x,NameKind.cell)∈l\/(x,c)∈acc
 |[],_,_,_,_,h=>.inr h
 | (y,k)::r,n,acc,x,c,h=>by
  unfold cellsFrom at h;split at h
  ·rename_i hk;have hk:k=.cell:=by simpa using hk
   rcases jB r _ _ x c h with z|z
   ·exact .inl (List.mem_cons_of_mem _ z)
   ·rcases mem_cons.mp z with e|e
    ·cases e;subst hk;exact .inl List.mem_cons_self
    ·exact .inr e
  ·rcases jB r _ _ x c h with z|z
   ·exact .inl (List.mem_cons_of_mem _ z)
   ·exact .inr z
def zK:∀ (l:List (Str×NameKind)) (n:Nat) (acc:List (Str×Addr)) (x:Str),((x,NameKind.cell)∈l\/∃ c,acc.lookup x=some c)->∃ c,(cellsFrom n l acc).lookup x=some c
 |[],_,_,_,h=>by
  rcases h with h|h
  ·simp at h
  ·exact h
 | (y,k)::r,n,acc,x,h=>by
  unfold cellsFrom;have put:(x=y\/∃ c,acc.lookup x=some c)->∃ c,((y,n)::acc).lookup x=some c:=λz=>by
   rw [List.lookup_cons];cases hx:x==y with
   |true=>exact ⟨n,rfl⟩
   |false=>
    rcases z with z|z
    ·rw [z] at hx;simp at hx
    ·exact z
  split
  ·refine zK r _ _ x ?_;rcases h with h|h
   ·rcases mem_cons.mp h with e|e
    ·cases e;exact .inr (put (.inl rfl))
    ·exact .inl e
   ·exact .inr (put (.inr h))
  ·rename_i hk;refine zK r _ _ x ?_;rcases h with h|h
   ·rcases mem_cons.mp h with e|e
    ·cases e;exact absurd rfl hk
    ·exact .inl e
   ·exact .inr h
def jU {M:Model} {A:Around} {E:Value->Shared->Prop} {s:Shared} {scope:Scope} {globals:Addr} {cl:List (Str×Addr)} {qual:Str} {env:Env} {Q:Env->Shared->Prop}
  (hQ:∀ h₁:Heap,h₁.Ns s.heap.objs.size (λ_=>none)->(∀ b o,s.heap.get? b=some o->h₁.get? b=some o)->CellsOk h₁ (s.heap.objs.size+1) (cellsFrom (s.heap.objs.size+1) scope.names [])->Q (newEnv scope s.heap.objs.size globals (cellsFrom (s.heap.objs.size+1) scope.names cl) qual none .none (some env) builtinsNs) { s with heap:=h₁ }) :
  wpAny M A (newFunctionEnv scope globals cl [] qual none .none (some env)) Q E s:=by
 simp only [newFunctionEnv,Option.isSome_some,if_true];refine wpAny_bind (wpAny_alloc ?_);refine wpAny_bind (wpAny_layCells _ (λname kind cells=>by cases hkc:kind==NameKind.cell<;>simp [hkc]) _ _ _ _ ?_);have ok:=cellsFrom_ok scope.names (s.heap.push { cls:=.type "dict",data:=.dict #[] }) (s.heap.objs.size+1) [] ⟨λ_ _ hm=>(nomatch hm),List.Pairwise.nil⟩ (by rw [Heap.size_push];exact Nat.le_refl _);rw [Heap.size_push] at ok;rw [show ({ s with heap:=s.heap.push { cls:=.type "dict",data:=.dict #[] } }:Shared).heap.objs.size=s.heap.objs.size+1 from Heap.size_push ..];rw [List.forIn_nil];refine wpAny_bind (wpAny_pure (wpAny_pure ?_));exact hQ _ ((Heap.Ns.new s.heap (.type "dict")).keeps (pushCells_keeps _ _)) (λb o e=>pushCells_keeps _ _ b o (Heap.get?_push_of_some _ e)) ok
def qi (X:Cx) (N':List Str) (scope:Scope) (s:Shared) (H:Hp) (fp:List Addr):Cx where
 prog:=X.prog
 w:=X.w
 K:=X.K
 mg:=X.mg
 base:=X.base
 A:=X.A
 N:=N'
 s₀:=s
 H₀:=H
 env:=compEnvC scope (cellsFrom (s.heap.objs.size+1) scope.names (YN X.env scope.names [])) s.heap.objs.size X.env
 outer:=X.stack
 stack:=X.stack
 ex:=fp
 fn:=λx=>scope.names.lookup x==some .cell
 calm:=true
 pn:=[]
 xe:=λ_ _=>False
def LD (outer inner:Scope):Bool:=(inner.kind==.function)&&inner.names.all λy=>
 (y.2 != .cell||inner.names.lookup y.1==some .cell)&&(y.2 != .local||inner.names.lookup y.1==some .local)&&(y.2 != .free||(inner.names.lookup y.1==some .free&&(outer.names.lookup y.1==some .cell||outer.names.lookup y.1==some .free)))
def cap {α:Type} (m:List (Option Nat)) (σ:List (Option α)):List (Option α):=m.map λo=>match o with|some j=>(σ[j]?).join|none=>none
def JF (N N':List Str) (scope:Scope) (m:List (Option Nat)):Bool:=(m.length==N'.length)&&(m.zip N').all λp=>match p.1 with
 |none=>true
 |some j=>N[j]?==some p.2&&scope.names.lookup p.2==some .free
def C4 {α:Type} {m:List (Option Nat)} {σ:List (Option α)} {i:Nat} {v:α} (h:(cap m σ)[i]?=some (some v)):∃ j,m[i]?=some (some j)/\σ[j]?=some (some v):=by
 unfold cap at h;rw [getElem?_map] at h;cases e:m[i]? with
 |none=>rw [e] at h;cases h
 |some o=>
  rw [e] at h;cases o with
  |none=>cases h
  |some j=>
   refine ⟨j,rfl,?_⟩;have h':(σ[j]?).join=some v:=by simpa using h
   cases q:σ[j]? with
   |none=>rw [q] at h';cases h'
   |some z=>rw [q] at h';exact congrArg some h'
def SY {N N':List Str} {scope:Scope} {m:List (Option Nat)} (h:JF N N' scope m=true) {i j:Nat} {x:Str} (e:m[i]?=some (some j)) (hx:N'[i]?=some x):N[j]?=some x/\scope.names.lookup x=some .free:=by
 unfold JF at h;rw [Bool.and_eq_true] at h;have hm:(some j,x)∈m.zip N':=mem_of_getElem? (i:=i) (List.getElem?_zip_eq_some.mpr ⟨e,hx⟩);have:=List.all_eq_true.mp h.2 _ hm;simp only [Bool.and_eq_true,beq_iff_eq] at this;exact this
def qcE {N N':List Str} {scope:Scope} {m:List (Option Nat)} {α:Type} (σ:List (Option α)) (h:JF N N' scope m=true):(cap m σ).length=N'.length:=by
 unfold JF at h;rw [Bool.and_eq_true] at h;unfold cap;rw [length_map];simpa using h.1
structure ScFacts (outer inner:Scope):Prop where
 kind:inner.kind=.function
 own:∀ y∈inner.names,y.2=.cell->inner.names.lookup y.1=some .cell
 loc:∀ y∈inner.names,y.2=.local->inner.names.lookup y.1=some .local
 free:∀ y∈inner.names,y.2=.free->inner.names.lookup y.1=some .free/\(outer.names.lookup y.1=some .cell\/outer.names.lookup y.1=some .free)
def Y0 {outer inner:Scope} (h:LD outer inner=true):ScFacts outer inner:=by
 unfold LD at h;rw [Bool.and_eq_true] at h;have ha:=List.all_eq_true.mp h.2;refine ⟨by simpa using h.1,λy hy e=>?_,λy hy e=>?_,λy hy e=>?_⟩
 ·have:=ha y hy;rw [e] at this;simpa using this
 ·have:=ha y hy;rw [e] at this;simpa using this
 ·have:=ha y hy;rw [e] at this;simpa using this
def ji {scope:Scope} {env:Env} {x:Str} {k:NameKind} (h:(relabel scope env).names.lookup x=some k):scope.names.lookup x=some k\/(k=.cell/\scope.names.lookup x=some .free):=by
 have key:∀ (l:List (Str×NameKind)),(l.map λ(n,k)=>if (k==NameKind.free&&env.scope.kind==.function&&env.kindOf n==some .cell) then (n,NameKind.cell) else (n,k)).lookup x=some k->l.lookup x=some k\/(k=.cell/\l.lookup x=some .free):=by
  intro l;induction l with
  |nil=>intro h;simp at h
  |cons y r ih=>
   intro h;obtain ⟨n,j⟩:=y;rw [map_cons] at h;dsimp only at h;by_cases hc:(j==NameKind.free&&env.scope.kind==.function&&env.kindOf n==some .cell)=true
   ·rw [if_pos hc,List.lookup_cons] at h;rw [List.lookup_cons];cases hx:x==n with
    |true=>
     rw [hx] at h;have hk:NameKind.cell=k:=by simpa using h
     have hj:j=.free:=by simp only [Bool.and_eq_true,beq_iff_eq] at hc;exact hc.1.1
     exact .inr ⟨hk.symm,by rw [hj]⟩
    |false=>rw [hx] at h;exact ih h
   ·rw [if_neg hc,List.lookup_cons] at h;rw [List.lookup_cons];cases hx:x==n with
    |true=>rw [hx] at h;exact .inl h
    |false=>rw [hx] at h;exact ih h
 exact key scope.names h
def PF (X:Cx) (ifs:List Expr) (t:TT):Prop:=
 ∀ (pins:List (Addr×Obj)) (s:Shared) (σ:L2.St) (H:Hp) (Q:Bool->Hp->Prop),Inv X pins σ H s->t σ H Q ->
  wpAny (model X.prog X.w) X.A (forIn ifs true λc r=>if r=true then do let ok←isTrue c X.env (eval c X.env);pure (ForInStep.yield ok) else pure (ForInStep.yield r)) (TP X pins σ Q) X.xe s
def qhM {X:Cx}:PF X [] (λ_ H Q=>Q true H):=λ_ _ _ H _ I h=>wpAny_tests_nil ⟨H,I,h⟩
def qhI {X:Cx} {c:Expr} {t:TT} (h:PT X c t):PF X [c] t:=λpins s σ H Q I q=>wpAny_tests_one (h pins s σ H Q I q)
section
variable {X:Cx} {pins:List (Addr×Obj)} {σ:L2.St} {H:Hp} {s:Shared}
def XM {N':List Str} {scope:Scope} {fp:List Addr} {m:List (Option Nat)} {h1:Heap} {mm:Str->Option Value} (hc:X.calm=true) (I:Inv X pins σ H s) (sc:ScFacts X.env.scope scope) (hcap:JF X.N N' scope m=true)
  (hfp:∀ b∈fp,WP X pins H b) (hob:∀ b∈fp,∃ o,s.heap.get? b=some o) (hns:h1.Ns s.heap.objs.size mm) (hk:∀ b o,s.heap.get? b=some o->h1.get? b=some o) (hown:CellsOk h1 (s.heap.objs.size+1) (cellsFrom (s.heap.objs.size+1) scope.names [])) :
  Inv (qi X N' scope s H fp) [] (cap m σ) H { s with heap:=h1 }:=by
 have hcl:∀ y∈scope.names,y.2=.free->∃ c,X.env.cells.lookup y.1=some c:=λy hy e=>by
  rcases (sc.free y hy e).2 with z|z
  ·exact I.ok.has y.1 (.inl z)
  ·exact I.ok.has y.1 (.inr z)
 have cl:∀ x c,(YN X.env scope.names []).lookup x=some c->X.env.cells.lookup x=some c:=λx c e=>Q4 scope.names [] x c hcl (λ_ _ z=>by simp at z) e;have clt:∀ x c,(YN X.env scope.names []).lookup x=some c->c<s.heap.objs.size:=λx c e=>by
  obtain ⟨v,q⟩:=I.cell x c (cl x c e);exact q.lt
 -- a cell of the block: its own,or one from around
 have cs:∀ x c,(cellsFrom (s.heap.objs.size+1) scope.names (YN X.env scope.names [])).lookup x=some c->((x,c)∈cellsFrom (s.heap.objs.size+1) scope.names []/\s.heap.objs.size+1<=c/\h1.IsCell c none)\/(YN X.env scope.names []).lookup x=some c:=λx c e=>by
  rw [zl,ZL] at e;cases q:(cellsFrom (s.heap.objs.size+1) scope.names []).lookup x with
  |none=>rw [q] at e;exact .inr e
  |some d=>
   rw [q] at e;cases e;have mem:=PySem.mem_of_lookup q;exact .inl ⟨mem,(hown.empty x _ mem).2,(hown.empty x _ mem).1⟩
 have fpne:∀ b∈fp,b≠s.heap.objs.size:=λb hb=>let ⟨o,e⟩:=hob b hb;Nat.ne_of_lt (Heap.lt_size e)
 refine ⟨⟨I.ok.mod,sc.kind,I.ok.glob,I.ok.blt,Nat.le_refl _,λx y c e1 e2=>?_,λx hx=>?_,λx c hf e=>?_,λ_=>I.ok.hd hc,I.ok.frames,.inl rfl,λb hb=>⟨fpne b hb,λx c e=>?_⟩,I.bs,Nat.le_trans I.ok.bsz I.sz,λb o e hb=>?_,λb hb z=>?_,I.stack,I.stkFree⟩,
  rfl,I.bare,Un.kept hk,⟨mm,hns,λi x v e1 e2 e3=>?_⟩,λx c e=>?_,I.fresh,λx c e=>?_,λp hp=>absurd (show p∈([]:List (Addr×Obj)) from hp) (by simp),I.hok.kept hk,qcE σ hcap⟩
 ·rcases cs x c e1 with ⟨m1,l1,_⟩|z1<;>rcases cs y c e2 with ⟨m2,l2,_⟩|z2
  ·exact PySem.name_of_addr hown.apart m1 m2
  ·exact absurd (clt y c z2) (Nat.not_lt.mpr (Nat.le_trans (Nat.le_succ _) l1))
  ·exact absurd (clt x c z1) (Nat.not_lt.mpr (Nat.le_trans (Nat.le_succ _) l2))
  ·exact I.ok.inj x y c (cl x c z1) (cl y c z2)
 ·have hx:(relabel scope X.env).names.lookup x=some .cell\/(relabel scope X.env).names.lookup x=some .free:=hx;have hf:scope.names.lookup x=some .cell\/scope.names.lookup x=some .free:=by
   rcases hx with z|z
   ·rcases ji z with q|⟨_,q⟩
    ·exact .inl q
    ·exact .inr q
   ·rcases ji z with q|⟨q,_⟩
    ·exact .inr q
    ·cases q
  show ∃ c,(cellsFrom (s.heap.objs.size+1) scope.names (YN X.env scope.names [])).lookup x=some c;rcases hf with hf|hf
  ·exact zK scope.names _ _ x (.inl (PySem.mem_of_lookup hf))
  ·exact zK scope.names _ _ x (.inr (JG scope.names [] x (.inl (PySem.mem_of_lookup hf))))
 ·have hf:scope.names.lookup x=some .cell:=by simpa [qi] using hf
  rcases cs x c e with ⟨_,l1,_⟩|z1
  ·exact Nat.le_trans (Nat.le_succ _) l1
  ·rcases UB scope.names [] x c z1 with q|q
   ·rw [(sc.free _ q rfl).1] at hf;cases hf
   ·simp at q
 ·rcases cs x c e with ⟨_,l1,_⟩|z1
  ·obtain ⟨o,eo⟩:=hob b hb;exact Nat.ne_of_gt (Nat.lt_of_lt_of_le (Heap.lt_size eo) (Nat.le_trans (Nat.le_succ _) l1))
  ·exact (hfp b hb).2.2.2.2.1 x c (cl x c z1)
 ·rcases (hfp b hb).2.2.2.1 with z|z
  ·exact I.ok.noex b o e z
  ·exact absurd (Nat.lt_of_lt_of_le (Heap.lt_size e) (Nat.le_trans I.ok.bsz z)) (Nat.lt_irrefl _)
 ·rcases mem_cons.mp (I.stkSub b z) with q|q
  ·exact (hfp b hb).2.1 q
  ·exact (hfp b hb).2.2.1 q
 ·obtain ⟨j,ej,es⟩:=C4 e2;obtain ⟨hN,hfr⟩:=SY hcap ej e1;have mem:=PySem.mem_of_lookup hfr;have ho:=(sc.free _ mem rfl).2;obtain ⟨m0,hn0,hl0⟩:=I.loc;obtain ⟨u,ru,lk⟩:=hl0 j x v hN es (ho.elim (λz=>.inr (.inl z)) λz=>.inr (.inr z));refine ⟨u,ru,.inr ⟨?_,?_⟩⟩
  ·rcases e3 with z|z|z
   ·rcases ji z with q|⟨q,_⟩
    ·rw [hfr] at q;cases q
    ·cases q
   ·exact .inl z
   ·exact .inr z
  ·rcases lk with ⟨z,_⟩|⟨_,c,hc',hcell⟩
   ·have z:X.env.scope.names.lookup x=some .local:=z;rcases ho with q|q<;>(rw [z] at q;cases q)
   ·obtain ⟨c',hc2⟩:=JG (env:=X.env) scope.names [] x (.inl mem);have e:=cl x c' hc2;rw [hc'] at e;cases e;obtain ⟨o,eo,d⟩:=hcell;refine ⟨c,?_,o,hk c o eo,d⟩;show (cellsFrom (s.heap.objs.size+1) scope.names (YN X.env scope.names [])).lookup x=some c;rw [zl,ZL];cases q:(cellsFrom (s.heap.objs.size+1) scope.names []).lookup x with
    |none=>exact hc2
    |some d=>
     rcases jB scope.names _ [] x d (PySem.mem_of_lookup q) with z|z
     ·rw [sc.own _ z rfl] at hfr;cases hfr
     ·simp at z
 ·rcases cs x c e with ⟨_,_,z⟩|z1
  ·exact ⟨none,z⟩
  ·obtain ⟨v,o,eo,d⟩:=I.cell x c (cl x c z1);exact ⟨v,o,hk c o eo,d⟩
 ·rcases cs x c e with ⟨_,l1,_⟩|z1
  ·exact I.hok.fresh (Nat.le_trans (Nat.le_succ _) l1)
  ·exact I.freeC x c (cl x c z1)
def VS {N':List Str} {scope:Scope} {fp:List Addr} {pins':List (Addr×Obj)} {σ':L2.St} {H':Hp} {s':Shared} {h2:Heap} (I:Inv X pins σ H s) (hfp:∀ b∈fp,WP X pins H b) (J:Inv (qi X N' scope s H fp) pins' σ' H' s')
  (sb:Heap.SameBut s.heap.objs.size s'.heap h2):Inv X pins σ H' { s' with heap:=h2 }:=by
 have ne:∀ b o,s.heap.get? b=some o->b≠s.heap.objs.size:=λb o e=>Nat.ne_of_lt (Heap.lt_size e);have g:∀ b,b≠s.heap.objs.size->h2.get? b=s'.heap.get? b:=λb hb=>sb.2 b hb;have hn:H' s.heap.objs.size=none:=J.free;have u:Un (frs X.stack) fp H H' s.heap s'.heap:=J.base;refine I.call' (s':={ s' with heap:=h2 }) J.os ⟨λb o e n hb hx=>?_,λb o e n hb hx=>?_,u.free,λb o e hx=>?_,u.tups,u.frzs,u.tbls⟩ (λa o e=>?_) J.bare λb hb=>⟨(hfp b hb).2.2.2.1,(hfp b hb).2.1,(hfp b hb).2.2.2.2.1,(hfp b hb).2.2.2.2.2⟩
 ·show h2.get? b=_;rw [g b (ne b o e)];exact u.keep b o e n hb hx
 ·show ∃ sl,h2.get? b=_;rw [g b (ne b o e)];exact u.slot b o e n hb hx
 ·show ∃ o',h2.get? b=_;rw [g b (ne b o e)];exact u.there b o e hx
 ·refine (J.hok a o e).stay (λb v hb q=>?_) (λ_ q=>q) λ_ _ q=>q;have hb':b≠s.heap.objs.size:=by
   intro z;subst z;rcases hb with z|z
   ·rw [← z] at e;rw [hn] at e;cases e
   ·rw [hn] at z;cases z
  rw [g b hb'];exact q
end
def tLC (wi:TI) (g:TG) (tif:TT) (te:TE) (m:List (Option Nat)):TE:=λσ H Q=>wi σ H λJ H1=>∀ D,H1 D=none ->
 ∃ W:Nat->Nat->L2.St->Hp->Prop,(∃ n,W 0 n (cap m σ) (upd H1 D (.lst [])))/\∀ i n σ H,W i n σ H ->
  (J.stop i H/\Q (.ref D) H)\/(J.go i H/\∀ x H',J.yld i H x H'->g x σ H' λσ2 H2=>tif σ2 H2 λk H3=>
   if k=true then te σ2 H3 λy H4=>∃ zs,H4 D=some (.lst zs)/\zs.length<sizeLine/\∃ n',n'<n/\W (i+1) n' σ2 (upd H4 D (.lst (zs++[y])))
   else ∃ n',n'<n/\W (i+1) n' σ2 H3)
section
variable {X:Cx}
def qkz {elt tg iter:Expr} {ifs:List Expr} {scope:Scope} {pos:Pos} {N':List Str} {m:List (Option Nat)} {wi:TI} {g:TG} {tif:TT} {te:TE} (hc:X.calm=true) (hi:PI X tg iter wi)
  (hg:∀ s H fp,PG (qi X N' scope s H fp) tg g) (hf:∀ s H fp,PF (qi X N' scope s H fp) ifs tif) (he:∀ s H fp,PE (qi X N' scope s H fp) elt te)
  (hsc:LD X.env.scope scope=true) (hcap:JF X.N N' scope m=true) (hs:∀ x,foldedSetIterable iter X.env x=pure x:=by intro _;rfl) :
  PE X (.ListComp elt [⟨tg,iter,ifs,0⟩] scope pos) (tLC wi g tif te m):=by
 intro pins s σ H Q I h;have sc:=Y0 hsc;have hcl:∀ y∈scope.names,y.2=.free->∃ c,X.env.cells.lookup y.1=some c:=λy hy e=>by
  rcases (sc.free y hy e).2 with z|z
  ·exact I.ok.has y.1 (.inl z)
  ·exact I.ok.has y.1 (.inr z)
 rw [eval_ListComp];refine wpAny_comprehension_free (use:=none) (g:=⟨tg,iter,ifs,0⟩) (gs:=[]) rfl hs (Q5 hcl) sc.kind sc.loc ?_;show wpAny _ _ (eval iter X.env) _ _ s;refine thn (hi pins s σ H _ I h) λv s1 h1=>thn h1 λitv s2 h2=>?_;obtain ⟨it,fp,tn,J,H2,rfl,I2,T,st2,f2,hW⟩:=h2;refine wpAny_newObj_type ?_;have hD:H2 s2.heap.objs.size=none:=I2.fresh;obtain ⟨W,⟨n0,w0⟩,turn⟩:=hW _ hD;generalize hDe:s2.heap.objs.size=D at *;have I3:Inv X pins σ (upd H2 D (.lst [])) { s2 with heap:=s2.heap.push { cls:=.type "list",dict:=none,data:=.seq ([]:List Value).toArray } }:=by
  subst hDe;exact I2.laid (t':=s2.toks) (λb u e=>Heap.get?_push_of_some _ e) (Nat.le_refl _) ⟨Nat.zero_le _,[],0,.nil,Heap.get?_push_size _ rfl⟩
 have ob2:=T.obj 0 _ st2;have ob3:∀ b∈fp,∃ o,(s2.heap.push { cls:=.type "list",dict:=none,data:=.seq ([]:List Value).toArray }).get? b=some o:=λb hb=>let ⟨o,e,_⟩:=ob2 b hb;⟨o,Heap.get?_push_of_some _ e⟩
 have f3:∀ b∈fp,WP X pins (upd H2 D (.lst [])) b:=λb hb=>by
  obtain ⟨o,e,_⟩:=ob2 b hb;have:b≠D:=by rw [← hDe];exact Nat.ne_of_lt (Heap.lt_size e)
  exact ⟨by rw [qj this];exact (f2 b hb).1,(f2 b hb).2⟩
 have k23:∀ b o,s2.heap.get? b=some o->(s2.heap.push { cls:=.type "list",dict:=none,data:=.seq ([]:List Value).toArray }).get? b=some o:=λb o e=>Heap.get?_push_of_some _ e;generalize hH3:upd H2 D (.lst [])=H3 at *;generalize hs3:({ s2 with heap:=s2.heap.push { cls:=.type "list",dict:=none,data:=.seq ([]:List Value).toArray } }:Shared)=s3 at *;have ob3:∀ b∈fp,∃ o,s3.heap.get? b=some o:=by rw [← hs3];exact ob3
 have k23:∀ b o,s2.heap.get? b=some o->s3.heap.get? b=some o:=by rw [← hs3];exact k23
 refine jU λh₁ hns hk hown=>?_;have I4:Inv (qi X N' scope s3 H3 fp) [] (cap m σ) H3 { s3 with heap:=h₁ }:=XM hc I3 sc hcap f3 ob3 hns hk hown;have tn4:tn 0 h₁:=T.keep _ _ _ st2 λb hb o e=>hk b o (k23 b o e);have fr4:∀ b∈fp,H3 b=none:=λb hb=>(f3 b hb).1;have stat:∀ {H':Hp},(∀ b∈fp,H' b=none)->∀ b∈fp,WP (qi X N' scope s3 H3 fp) [] H' b:=λhn b hb=>by
  refine ⟨hn b hb,I4.ok.exf b hb |>.1,I4.ok.exfs b hb,.inl hb,λx c e=>(I4.ok.exf b hb).2 x c e,λp hp=>absurd (show p∈([]:List (Addr×Obj)) from hp) (by simp)⟩
 show codeAny (model X.prog X.w) X.A (.compStart (.ListComp elt [⟨tg,iter,ifs,0⟩] scope pos) 0 (.ref it) (.ref D) (qi X N' scope s3 H3 fp).env) (compPost (model X.prog X.w) X.A X.xe none (EP X pins σ Q) (.ref D) s3.heap.objs.size) { s3 with heap:=h₁ };have loop:codeAny (model X.prog X.w) X.A (.compLoop (.ListComp elt [⟨tg,iter,ifs,0⟩] scope pos) 0 (.ref it) (.ref D) (qi X N' scope s3 H3 fp).env) (compPost (model X.prog X.w) X.A X.xe none (EP X pins σ Q) (.ref D) s3.heap.objs.size) { s3 with heap:=h₁ }:=by
  refine codeAny_loop rfl (λn s'=>∃ i σ' H',Inv (qi X N' scope s3 H3 fp) [] σ' H' s'/\tn i s'.heap/\(∀ b∈fp,H' b=none)/\W i n σ' H') (λn s' hI=>?_) n0 ⟨0,cap m σ,H3,I4,tn4,fr4,w0⟩;show wpAny _ X.A ((compTurn (.ListComp elt [⟨tg,iter,ifs,0⟩] scope pos) 0 (.ref it) (.ref D) (qi X N' scope s3 H3 fp).env).onRaise (λx=>do noteFrame x (qi X N' scope s3 H3 fp).env;theTreesLotGoes x)) _ _ s';refine wpAny_noted ?_;rw [compTurn_list];refine wpAny_bind (wpAny_standAt (wpAny_bind ?_));obtain ⟨i,σ5,H5,I5,st5,fr5,w5⟩:=hI;rcases turn i n σ5 H5 w5 with ⟨stop,q⟩|⟨go,step⟩
  ·refine thn (T.done (qi X N' scope s3 H3 fp) rfl rfl rfl rfl i [] s' σ5 H5 _ I5 (stat fr5) st5 stop) λr s6 ⟨hr,I6⟩=>?_;subst hr;refine wpAny_pure ?_;obtain ⟨mm,hn6,_⟩:=I6.loc;exact ⟨mm,hn6,λh' sb=>⟨.ref D,H5,VS I3 f3 I6 sb,rfl,q⟩⟩
  ·refine thn (T.item (qi X N' scope s3 H3 fp) rfl rfl rfl rfl i [] s' σ5 H5 _ I5 (stat fr5) st5 go) λr s6 ⟨u,hr,h6⟩=>?_;subst hr;refine wpAny_bind (thn h6 λ_ s7 ⟨x,H7,I7,r7,y7,st7,fr7⟩=>?_);have I7':=I7.pinned (stat fr7) (T.obj _ _ st7);have again:∀ {σ8:L2.St} {H8:Hp} {s8:Shared},Inv (qi X N' scope s3 H3 fp) ([]++VE fp s7.heap) σ8 H8 s8->(∃ n',n'<n/\W (i+1) n' σ8 H8) ->
     ∃ m',m'<n/\∃ i σ' H',Inv (qi X N' scope s3 H3 fp) [] σ' H' s8/\tn i s8.heap/\(∀ b∈fp,H' b=none)/\W i m' σ' H':=λ{σ8 H8 s8} I8 ⟨n',hn,w8⟩=>by
    refine ⟨n',hn,i+1,σ8,H8,I8.unpinned,T.keep _ _ _ st7 λb hb o e=>(I8.pin (b,o) (mem_append_right _ (mem_append_right _ (zO hb e)))).1,λb hb=>?_,w8⟩;obtain ⟨o,e,d⟩:=T.obj _ _ st7 b hb;exact (I8.pin (b,o) (mem_append_right _ (mem_append_right _ (zO hb e)))).2.1
   refine wpAny_bind (wpAny_mono (hg s3 H3 fp _ s7 σ5 H7 x u _ I7' r7 (step x H7 y7)) (λ_ s8 ⟨σ8,H8,I8,q8⟩=>?_) λ_ _ z=>z.elim);refine wpAny_bind (wpAny_mono (hf s3 H3 fp _ s8 σ8 H8 _ I8 q8) (λk s9 ⟨H9,I9,q9⟩=>?_) λ_ _ z=>z.elim);cases k with
   |false=>
    rw [if_neg Bool.false_ne_true] at q9;exact wpAny_pure ⟨rfl,again I9 q9⟩
   |true=>
    rw [if_pos rfl] at q9;refine wpAny_bind (wpAny_bind (wpAny_mono (he s3 H3 fp _ s9 σ8 H9 _ I9 q9) (λw s10 ⟨y,H10,I10,r10,q10⟩=>?_) λ_ _ z=>z.elim));obtain ⟨zs,hz,hl,q10⟩:=q10;refine wpAny_bind (wpAny_mono (JR (X:=qi X N' scope s3 H3 fp) _ s10 σ8 H10 (.ref D) [y] (.ref D) [w] (λ_ H11=>H11=upd H10 D (.lst (zs++[y]))) I10 rfl (.cons r10 .nil) ⟨D,zs,y,rfl,rfl,hz,hl,rfl⟩) (λ_ s11 ⟨_,H11,I11,_,e11⟩=>?_) λ_ _ z=>z.elim);subst e11;exact wpAny_pure (wpAny_pure ⟨rfl,again I11 q10⟩)
 exact codeAny_compStart_list loop (T.self X.A 0 _ _ _ tn4 loop)
end
section
variable {K:Frg} {G G':Gp} {H H':Hp}
def qbE {D:Addr} {o:HO} {ws:List V} (hD:H D=some (.lst ws)) {a:Addr} {vs:List V} (h:SqT K H a vs):SqT K (upd H D o) a vs:=by
 rcases h with h|h
 ·refine .inl ?_;rcases h with h|⟨ob,h⟩
  ·have:a≠D:=by intro e;subst e;rw [hD] at h;cases h
   exact .inl (by rw [qj this];exact h)
  ·have:a≠D:=by intro e;subst e;rw [hD] at h;cases h
   exact .inr ⟨ob,by rw [qj this];exact h⟩
 ·exact .inr h
mutual
def Rp.wrD {D:Addr} {o:HO} {ws:List V} (hD:H D=some (.lst ws)):∀ {x:T} {v:V},Rp K H x v->Rp K (upd H D o) x v
 |_,_,.non=>.non
 |_,_,.bl b=>.bl b
 |_,_,.int i=>.int i
 |_,_,.str x=>.str x
 |_,_,.ref a=>.ref a
 |_,_,.tup h hs=>.tup (qbE hD h) (Rps.wrD hD hs)
def Rps.wrD {D:Addr} {o:HO} {ws:List V} (hD:H D=some (.lst ws)):∀ {x:List T} {v:List V},Rps K H x v->Rps K (upd H D o) x v
 |_,_,.nil=>.nil
 |_,_,.cons a b=>.cons (Rp.wrD hD a) (Rps.wrD hD b)
end
def HR.wrD {D:Addr} {o:HO} {ws:List V} (hr:HR K G H) (hD:H D=some (.lst ws)) (g:G D=none):HR K G (upd H D o):=λa ob e=>by
 have ha:a≠D:=by intro z;subst z;rw [g] at e;cases e
 have q:=hr a ob e;cases ob with
 |lst xs=>obtain ⟨vs,h1,h2⟩:=q;exact ⟨vs,by rw [qj ha];exact h1,h2.wrD hD⟩
 |frz xs=>obtain ⟨vs,⟨o1,h1⟩,h2⟩:=q;exact ⟨vs,⟨o1,by rw [qj ha];exact h1⟩,h2.wrD hD⟩
 |dct kvs=>obtain ⟨vs,h1,h2⟩:=q;exact ⟨vs,by rw [qj ha];exact h1,h2.wrD hD⟩
 |exn C=>have h1:H a=some (.ext (IsX a C)):=q;exact (show _=_ by rw [qj ha];exact h1)
 |tab ks xs=>obtain ⟨vs,h1,h2⟩:=q;exact ⟨vs,by rw [qj ha];exact h1,h2.wrD hD⟩
def Rel.wrD {D:Addr} {o:HO} {ws:List V} {τ:St3} {σ:L2.St} (r:Rel K τ G σ H) (hD:H D=some (.lst ws)) (g:G D=none):Rel K τ G σ (upd H D o):=
 ⟨r.hp.wrD hD g,r.len,λi t e=>let ⟨v,h1,h2⟩:=r.st i t e;⟨v,h1,h2.wrD hD⟩⟩
def Kp.wrD {D:Addr} {o:HO} (k:Kp G H G' H') (hD:H D=none):Kp G H G' (upd H' D o):=λa ob h g=>by
 obtain ⟨h1,h2⟩:=k a ob h g;exact ⟨by rw [qj (qo h hD)];exact h1,h2⟩
def MA {α:Type} {m:List (Option Nat)} {σ:List (Option α)} {i j:Nat} (h:m[i]?=some (some j)):(cap m σ)[i]?=some ((σ[j]?).join):=by
 unfold cap;rw [getElem?_map,h];rfl
def Rel.cap {τ:St3} {σ:L2.St} (r:Rel K τ G σ H) (m:List (Option Nat)):Rel K (cap m τ) G (L3.cap m σ) H:=by
 refine ⟨r.hp,by simp [L3.cap],λi t e=>?_⟩;obtain ⟨j,e1,e2⟩:=C4 e;obtain ⟨v,h1,h2⟩:=r.st j t e2;exact ⟨v,by rw [MA e1,h1];rfl,h2⟩
end
def KO (stay:Gp->Prop) (g:TG3) (tif:TT3) (te:TE3) (q:Q3):List T->List T->St3->Gp->Prop
 |[],ys,_,G=>stay G/\∀ p,G p=none->q (.ref p) (gu G p (.lst ys))
 |x::r,ys,τ,G=>stay G/\g x τ G λτ2 G2=>tif τ2 G2 λk G3=>if k=true then te τ2 G3 λy G4=>ys.length<sizeLine/\KO stay g tif te q r (ys++[y]) τ2 G4 else KO stay g tif te q r ys τ2 G3
def lc3 (wi:TI3) (g:TG3) (tif:TT3) (te:TE3) (m:List (Option Nat)):TE3:=λτ G q=>wi τ G λitems stay G1=>KO stay g tif te q items [] (cap m τ) G1
abbrev F3 (X:Cx) (ifs:List Expr) (t:TT3):Prop:=PF X ifs (lT X.K t)
def tt3:TT3:=λ_ G q=>q true G
def qiM {X:Cx}:F3 X [] tt3:=λpins s σ H Q I ⟨τ,G,q,rl,h,af⟩=>qhM pins s σ H Q I (af true G h H rl.hp Kp.refl)
def qjQ {X:Cx} {c:Expr} {t:TT3} (h:C3 X c t):F3 X [c] t:=qhI h
section
variable {X:Cx}
def qlW {elt tg iter:Expr} {ifs:List Expr} {scope:Scope} {pos:Pos} (N':List Str) (m:List (Option Nat)) {wi:TI3} {g:TG3} {tif:TT3} {te:TE3} (hc:X.calm=true) (hi:I3 X tg iter wi)
  (hg:∀ s H fp,G3 (qi X N' scope s H fp) tg g) (hf:∀ s H fp,F3 (qi X N' scope s H fp) ifs tif) (he:∀ s H fp,E3 (qi X N' scope s H fp) elt te)
  (hsc:LD X.env.scope scope=true) (hcap:JF X.N N' scope m=true) (hs:∀ x,foldedSetIterable iter X.env x=pure x:=by intro _;rfl) :
  E3 X (.ListComp elt [⟨tg,iter,ifs,0⟩] scope pos) (lc3 wi g tif te m):=
 JH (qkz (g:=lG X.K g) (tif:=lT X.K tif) (te:=lE X.K te) hc hi hg hf he hsc hcap hs) λσ H Q ⟨τ,G,q,rl,h,af⟩=>by
  refine ⟨τ,G,_,rl,h,λitems stay G1 h1 J H1 hr1 k1 ok D hD=>?_⟩;have gD:G1 D=none:=hr1.free hD;refine ⟨λi n σ' H'=>n=items.length-i/\i<=items.length/\∃ τ' G' ys vs,Rel X.K τ' G' σ' H'/\Kp G1 H1 G' H'/\H' D=some (.lst vs)/\Rps X.K H' ys vs/\G' D=none/\KO stay g tif te q (items.drop i) ys τ' G',
   ⟨_,rfl,Nat.zero_le _,cap m τ,G1,[],[],((rl.next hr1 k1).cap m).next (hr1.laid hD) (Kp.laid hD),Kp.laid hD,qz,.nil,gD,by simpa using h1⟩,?_⟩
  rintro i n σ' H' ⟨rfl,hi,τ',G',ys,vs,rl',k',hDl,rys,gD',h'⟩;by_cases hlt:i<items.length
  ·rw [List.drop_eq_getElem_cons hlt] at h';obtain ⟨hst,h'⟩:=h';obtain ⟨go,yld,_⟩:=ok G' H' rl'.hp k' hst;have hx:items[i]?=some items[i]:=getElem?_eq_getElem hlt;refine .inr ⟨go i _ hx,λv H2 y=>?_⟩;obtain ⟨rv,hr2,k2⟩:=yld i _ v H2 hx y;have nxt:∀ {τ4:St3} {G4:Gp} {σ4:L2.St} {H4:Hp} {ys4:List T} {vs4:List V},Rel X.K τ4 G4 σ4 H4->Kp G1 H1 G4 H4->H4 D=some (.lst vs4)->Rps X.K H4 ys4 vs4->G4 D=none->KO stay g tif te q (items.drop (i+1)) ys4 τ4 G4 ->
     ∃ n',n'<items.length-i/\(n'=items.length-(i+1)/\i+1<=items.length/\∃ τ' G' ys vs,Rel X.K τ' G' σ4 H4/\Kp G1 H1 G' H4/\H4 D=some (.lst vs)/\Rps X.K H4 ys vs/\G' D=none/\KO stay g tif te q (items.drop (i+1)) ys τ' G'):=
    λ{τ4 G4 σ4 H4 ys4 vs4} a b c d e f=>⟨_,by omega,rfl,hlt,τ4,G4,ys4,vs4,a,b,c,d,e,f⟩
   refine ⟨_,τ',G',_,rv,rl'.next hr2 k2,h',λτ3 G3 h3 σ3 H3 rl3 k3=>⟨τ3,G3,_,rl3,h3,λk G4 h4 H4 hr4 k4=>?_⟩⟩;have kk:=(k2.trans k3).trans k4;obtain ⟨hD4,gD4⟩:=kk D _ hDl gD';have rys4:=rys.keep rl'.hp kk;cases k with
   |false=>
    rw [if_neg Bool.false_ne_true] at h4;refine qkR ?_;exact nxt (rl3.next hr4 k4) (k'.trans kk) hD4 rys4 gD4 h4
   |true=>
    rw [if_pos rfl] at h4;refine qla ?_;refine ⟨τ3,G4,_,rl3.next hr4 k4,h4,λz G5 h5 w H5 rw5 hr5 k5=>?_⟩;obtain ⟨hD5,gD5⟩:=k5 D _ hD4 gD4;have rys5:=rys4.keep hr4 k5;exact ⟨vs,hD5,by rw [← rys.length];exact h5.1,nxt (((rl3.next hr4 k4).next hr5 k5).wrD hD5 gD5) (((k'.trans kk).trans k5).wrD hD) qz ((rys5.append (.cons rw5 .nil)).wrD hD5) gD5 h5.2⟩
  ·have e:i=items.length:=by omega
   subst e;rw [List.drop_length] at h';obtain ⟨_,_,stop⟩:=ok G' H' rl'.hp k' h'.1;refine .inl ⟨stop,af _ _ (h'.2 D gD') _ H' (.ref D) (λa o e=>?_) λa o e ga=>?_⟩
   ·by_cases ha:a=D
    ·subst ha;rw [qC] at e;cases e;exact ⟨vs,hDl,rys⟩
    ·rw [je ha] at e;exact rl'.hp a o e
   ·obtain ⟨e1,g1⟩:=k1 a o e ga;obtain ⟨e2,g2⟩:=k' a o e1 g1;exact ⟨e2,by rw [je (qo e1 hD)];exact g2⟩
end
structure Src (P:Program) (w:World) (it c:Addr) (St:Nat->Heap->Prop) (Has:Array Value->Heap->Prop):Prop where
 obj:∀ {k h},St k h->∃ o,h.get? it=some o/\∀ v,o.data≠.cell v
 keep:∀ {k h h'},St k h->(∀ o,h.get? it=some o->h'.get? it=some o)->St k h'
 hkeep:∀ {xs h h'},Has xs h->(∀ o,h.get? c=some o->h'.get? c=some o)->Has xs h'
 item:∀ {A:Around} {s:Shared} {k:Nat} {xs:Array Value} {x:Value} {Q:Value->Shared->Prop} {E:Value->Shared->Prop},St k s.heap->Has xs s.heap->xs[k]?=some x ->
  (∀ h',St (k+1) h'->Heap.SameBut it s.heap h'->Q x { s with heap:=h' })->wpAny (model P w) A (Builtin.SmallTypes.nextOf (.ref it)) Q E s
 done:∀ {A:Around} {s:Shared} {k:Nat} {xs:Array Value} {Q:Value->Shared->Prop} {E:Value->Shared->Prop},A.handled=none->St k s.heap->Has xs s.heap->xs[k]?=none ->
  (∀ h' e,Heap.ExtBut it s.heap h'->(∃ o,h'.get? e=some o/\o.cls=.type "StopIteration")->E (.ref e) { s with heap:=h' })->wpAny (model P w) A (Builtin.SmallTypes.nextOf (.ref it)) Q E s
def LV {P:Program} {w:World} (it l:Addr):Src P w it l (λk h=>h.IsListIter it l k) (λxs h=>h.IsList l xs) where
 obj:=λst=>let ⟨o,e,_,d⟩:=st;⟨o,e,λv z=>by rw [d] at z;cases z⟩
 keep:=λst k=>st.at λo e=>k o e
 hkeep:=λst k=>st.at λo e=>k o e
 item:=λst hl hx hQ=>wpAny_nextOf_list_item st hl hx hQ
 done:=λhh st hl hx hE=>wpAny_nextOf_list_end hh st hl hx hE
def CD {P:Program} {w:World} {A:Around} {s:Shared} {it t:Addr} {i:Nat} {its:Array Value} {x:Value} {Q:Value->Shared->Prop} {E:Value->Shared->Prop} (hit:s.heap.IsTupleIter it t i) (ht:s.heap.IsTuple t its) (hx:its[i]?=some x)
  (hQ:∀ h',h'.IsTupleIter it t (i+1)->Heap.SameBut it s.heap h'->Q x { s with heap:=h' }):wpAny (model P w) A (Builtin.SmallTypes.nextOf (.ref it)) Q E s:=by
 obtain ⟨o1,e1,c1,d1⟩:=id hit;obtain ⟨o2,e2,_,n2,d2⟩:=ht;unfold Builtin.SmallTypes.nextOf;refine wpAny_bind (wpAny_callSpecial?_slot (name:=Str.ofString "__next__") hit.typeIs F.slot_tuple_iterator_next (wpAny_call_entry F.slot_tuple_iterator_next hit.typeIs F.entry_tuple_iterator_next ?_ (F.args_tuple_iterator_next_1 _)));refine wpAny_bind (m:=field (.ref it) 0) (wpAny_field e1 d1 (x:=.ref t) rfl ?_);rw [if_neg (show ¬ ((Value.ref t==Value.none)=true) by exact Bool.false_ne_true)];refine wpAny_bind (m:=field (.ref it) 1) (wpAny_field e1 d1 (x:=.int i 0) rfl ?_);refine wpAny_bind (m:=seqItems? (.ref t)) (wpAny_seqItems e2 d2 ?_);simp only [Int.toNat_natCast,hx];refine wpAny_bind (wpAny_setField e1 d1 (by simp) (wpAny_pure ⟨x,rfl,wpAny_pure (hQ _ ⟨_,Heap.get?_update_self _ e1 (Obj.isFreed_of_fields (Obj.data_mapFields d1 _)),(Obj.cls_mapFields ..).trans c1,?_⟩ (Heap.SameBut.update ..))⟩));rw [Obj.data_mapFields d1];simp [rawInt]
def YS {P:Program} {w:World} {A:Around} {s:Shared} {it t:Addr} {i:Nat} {its:Array Value} {Q:Value->Shared->Prop} {E:Value->Shared->Prop} (hh:A.handled=none) (hit:s.heap.IsTupleIter it t i) (ht:s.heap.IsTuple t its) (hx:its[i]?=none)
  (hE:∀ h' e,Heap.ExtBut it s.heap h'->(∃ o,h'.get? e=some o/\o.cls=.type "StopIteration")->E (.ref e) { s with heap:=h' }):wpAny (model P w) A (Builtin.SmallTypes.nextOf (.ref it)) Q E s:=by
 obtain ⟨o1,e1,c1,d1⟩:=id hit;obtain ⟨o2,e2,_,n2,d2⟩:=ht;unfold Builtin.SmallTypes.nextOf;refine wpAny_bind (wpAny_callSpecial?_slot (name:=Str.ofString "__next__") hit.typeIs F.slot_tuple_iterator_next (wpAny_call_entry F.slot_tuple_iterator_next hit.typeIs F.entry_tuple_iterator_next ?_ (F.args_tuple_iterator_next_1 _)));refine wpAny_bind (m:=field (.ref it) 0) (wpAny_field e1 d1 (x:=.ref t) rfl ?_);rw [if_neg (show ¬ ((Value.ref t==Value.none)=true) by exact Bool.false_ne_true)];refine wpAny_bind (m:=field (.ref it) 1) (wpAny_field e1 d1 (x:=.int i 0) rfl ?_);refine wpAny_bind (m:=seqItems? (.ref t)) (wpAny_seqItems e2 d2 ?_);simp only [Int.toNat_natCast,hx];refine wpAny_bind (wpAny_rule (wpAny_bind (wpAny_setField e1 d1 (by simp) ?_)));refine wpAny_bind (m:=newExc (.type "StopIteration") []) ?_;simp only [newExc,newTuple];refine wpAny_bind (wpAny_newObj_type ?_ (by size_fits));refine wpAny_bind (m:=firstArgMember _ _) (wpAny_of_eq (a:=Value.none) (by first|rfl|(simp only [firstArgMember]<;>rfl)) (wpAny_newObj_type ?_ (by size_fits)));simp only [raiseNew];refine wpAny_bind (wpAny_handled ?_)
 first|rw [show A.in1.handled=Option.none from hh]|rw [show A.handled=Option.none from hh]
 exact wpAny_bind (wpAny_pure (wpAny_throw (hE _ _ (((Heap.SameBut.update ..).extBut.push _).push _) ⟨_,Heap.get?_push_size _ rfl,rfl⟩)))
def qcP {P:Program} {w:World} (it t:Addr):Src P w it t (λk h=>h.IsTupleIter it t k) (λxs h=>h.IsTuple t xs) where
 obj:=λst=>let ⟨o,e,_,d⟩:=st;⟨o,e,λv z=>by rw [d] at z;cases z⟩
 keep:=λst k=>st.at λo e=>k o e
 hkeep:=λst k=>st.at λo e=>k o e
 item:=λst hl hx hQ=>CD st hl hx hQ
 done:=λhh st hl hx hE=>YS hh st hl hx hE
structure ZA (z ti to i1 i2 c1 c2:Addr):Prop where
 ne:([z,ti,to,i1,i2]:List Addr).Nodup
 a1:c1∉[z,to,i1,i2]
 a2:c2∉[z,to,i1,i2]
section
variable {P:Program} {w:World} {A:Around} {s:Shared} {z ti to i1 i2 c1 c2:Addr} {S1 S2:Nat->Heap->Prop} {H1 H2:Array Value->Heap->Prop} {k1 k2:Nat} {xs ys:Array Value} {x y a b:Value} {E:Value->Shared->Prop}
def L7 {Q:Value->Shared->Prop} (R1:Src P w i1 c1 S1 H1) (R2:Src P w i2 c2 S2 H2) (D:ZA z ti to i1 i2 c1 c2) (hz:IsZip s.heap z ti to .none) (hi:IsPair s.heap ti (.ref i1) (.ref i2)) (ho:IsPair s.heap to a b)
  (p1:S1 k1 s.heap) (p2:S2 k2 s.heap) (l1:H1 xs s.heap) (l2:H2 ys s.heap) (hx:xs[k1]?=some x) (hy:ys[k2]?=some y)
  (hQ:∀ h',IsZip h' z ti to (rawInt s.heap.objs.size)->IsPair h' to x y->S1 (k1+1) h'->S2 (k2+1) h'->IsPair h' s.heap.objs.size x y->(∀ c o,c∉[z,to,i1,i2]->s.heap.get? c=some o->h'.get? c=some o)->Q (.ref s.heap.objs.size) { s with heap:=h' }) :
  wpAny (model P w) A (Builtin.«zip.__next__» ⟨[.ref z],[]⟩) (λfin s'=>∃ v,fin=.done (.ret v)/\Q v s') E s:=by
 have ne:=D.ne;simp only [List.nodup_cons,mem_cons,not_mem_nil,not_or,or_false] at ne;obtain ⟨⟨n1,n2,n3,n4⟩,⟨n5,n6,n7⟩,⟨n8,n9⟩,n10,_⟩:=ne;have a1:=D.a1;have a2:=D.a2;simp only [mem_cons,not_mem_nil,not_or,or_false] at a1 a2;obtain ⟨q1,q2,q3,q4⟩:=a1;obtain ⟨r1,r2,r3,r4⟩:=a2;refine wpAny_bind (m:=field (.ref z) 2) (wpAny_field hz rfl (x:=.bool false) rfl ?_);refine wpAny_bind (m:=field (.ref z) 3) (wpAny_field hz rfl (x:=.ref ti) rfl ?_);refine wpAny_bind (wpAny_seqItems hi rfl ?_);refine wpAny_bind (m:=Builtin.SmallTypes.ownedTupleIsFree (.ref z)) ?_;unfold Builtin.SmallTypes.ownedTupleIsFree;refine wpAny_bind (wpAny_field hz rfl (x:=Value.none) rfl (wpAny_pure ?_));simp only [if_true];refine wpAny_bind (wpAny_rule (wpAny_bind (wpAny_field hz rfl (x:=.ref to) rfl (wpAny_bind (wpAny_setField_rec hz (by simp) λg1 z1 s1=>?_)))))
 replace z1:IsZip g1 z ti to Value.ellipsis:=z1
 refine wpAny_bind ?_;simp only [List.zipIdx_cons,List.zipIdx_nil,List.forIn_cons,List.forIn_nil];refine wpAny_bind (wpAny_bind (wpAny_onRaise (wpAny_bind (m:=Builtin.SmallTypes.nextOf (.ref i1)) ?_)));refine R1.item (R1.keep p1 λo e=>s1.extBut _ _ (Ne.symm n3) e) (R1.hkeep l1 λo e=>s1.extBut _ _ q1 e) hx λg2 p12 s2=>wpAny_pure ?_;have t2:IsPair g2 to a b:=s2.extBut _ _ n8 (s1.extBut _ _ (Ne.symm n2) ho);refine wpAny_bind (wpAny_seqItems t2 rfl (wpAny_bind (wpAny_updateSeq_pair t2 λg3 t3 s3=>?_)))
 replace t3:IsPair g3 to x b:=t3
 refine wpAny_bind (wpAny_letGo (wpAny_pure (wpAny_bind (wpAny_bind (wpAny_onRaise (wpAny_bind (m:=Builtin.SmallTypes.nextOf (.ref i2)) ?_))))));refine R2.item (R2.keep p2 λo e=>s3.extBut _ _ (Ne.symm n9) (s2.extBut _ _ (Ne.symm n10) (s1.extBut _ _ (Ne.symm n4) e))) (R2.hkeep l2 λo e=>s3.extBut _ _ r2 (s2.extBut _ _ r3 (s1.extBut _ _ r1 e))) hy λg4 p24 s4=>wpAny_pure ?_;have t4:IsPair g4 to x b:=s4.extBut _ _ n9 t3;refine wpAny_bind (wpAny_seqItems t4 rfl (wpAny_bind (wpAny_updateSeq_pair t4 λg5 t5 s5=>?_)))
 replace t5:IsPair g5 to x y:=t5
 refine wpAny_bind (wpAny_letGo (wpAny_pure (wpAny_pure (wpAny_bind (wpAny_seqItems t5 rfl (wpAny_bind (wpAny_newTuple ?_)))))));have sz:g5.objs.size=s.heap.objs.size:=by rw [s5.1,s4.1,s3.1,s2.1,s1.1]
 have z5:IsZip g5 z ti to Value.ellipsis:=s5.extBut _ _ n2 (s4.extBut _ _ n4 (s3.extBut _ _ n2 (s2.extBut _ _ n3 z1)));have kk:∀ c o,c∉[z,to,i1,i2]->s.heap.get? c=some o->g5.get? c=some o:=λc o hc e=>by
  simp only [mem_cons,not_mem_nil,not_or,or_false] at hc;exact s5.extBut _ _ hc.2.1 (s4.extBut _ _ hc.2.2.2 (s3.extBut _ _ hc.2.1 (s2.extBut _ _ hc.2.2.1 (s1.extBut _ _ hc.1 e))))
 have p15:S1 (k1+1) g5:=R1.keep p12 λo e=>s5.extBut _ _ (Ne.symm n8) (s4.extBut _ _ n10 (s3.extBut _ _ (Ne.symm n8) e));have p25:S2 (k2+1) g5:=R2.keep p24 λo e=>s5.extBut _ _ (Ne.symm n9) e;have zlt:z<g5.objs.size:=Heap.lt_size z5;refine wpAny_bind (m:=Builtin.SmallTypes.ownedTupleHandOut (.ref z) (.ref g5.objs.size)) ?_;unfold Builtin.SmallTypes.ownedTupleHandOut;have z6:IsZip (g5.push { cls:=.type "tuple",data:=.seq #[x,y] }) z ti to Value.ellipsis:=Heap.get?_push_of_some _ z5;refine wpAny_bind (wpAny_setField_rec z6 (by simp) λg7 z7 s7=>?_)
 replace z7:IsZip g7 z ti to (rawInt g5.objs.size):=z7
 refine wpAny_setField_rec z7 (by simp) λg8 z8 s8=>?_
 replace z8:IsZip g8 z ti to (rawInt g5.objs.size):=z8
 have up:∀ c o,c≠z->g5.get? c=some o->g8.get? c=some o:=λc o hc e=>s8.extBut _ _ hc (s7.extBut _ _ hc (Heap.get?_push_of_some _ e));have t8:IsPair g8 g5.objs.size x y:=s8.extBut _ _ (Nat.ne_of_gt zlt) (s7.extBut _ _ (Nat.ne_of_gt zlt) (Heap.get?_push_size _ rfl));rw [sz] at z8 t8;refine wpAny_pure ⟨_,rfl,?_⟩;show Q (Value.ref g5.objs.size) _;rw [sz];exact hQ g8 z8 (up _ _ (Ne.symm n2) t5) (R1.keep p15 λo e=>up _ o (Ne.symm n3) e) (R2.keep p25 λo e=>up _ o (Ne.symm n4) e) t8 λc o hc e=>up c o (λq=>hc (by simp [q])) (kk c o hc e)
def qcc {Q:Fin->Shared->Prop} (hh:A.handled=none) (R1:Src P w i1 c1 S1 H1) (R2:Src P w i2 c2 S2 H2) (D:ZA z ti to i1 i2 c1 c2) (hz:IsZip s.heap z ti to .none) (hi:IsPair s.heap ti (.ref i1) (.ref i2)) (ho:IsPair s.heap to a b)
  (p1:S1 k1 s.heap) (p2:S2 k2 s.heap) (l1:H1 xs s.heap) (l2:H2 ys s.heap) (hend:xs[k1]?=none\/ys[k2]?=none)
  (hE:∀ h' e,(∀ c o,c∉[z,to,i1,i2]->s.heap.get? c=some o->h'.get? c=some o)->(∃ o,h'.get? e=some o/\o.cls=.type "StopIteration")->E (.ref e) { s with heap:=h' }) :
  wpAny (model P w) A (Builtin.«zip.__next__» ⟨[.ref z],[]⟩) Q E s:=by
 have ne:=D.ne;simp only [List.nodup_cons,mem_cons,not_mem_nil,not_or,or_false] at ne;obtain ⟨⟨n1,n2,n3,n4⟩,⟨n5,n6,n7⟩,⟨n8,n9⟩,n10,_⟩:=ne;have a1:=D.a1;have a2:=D.a2;simp only [mem_cons,not_mem_nil,not_or,or_false] at a1 a2;obtain ⟨q1,q2,q3,q4⟩:=a1;obtain ⟨r1,r2,r3,r4⟩:=a2;refine wpAny_bind (m:=field (.ref z) 2) (wpAny_field hz rfl (x:=.bool false) rfl ?_);refine wpAny_bind (m:=field (.ref z) 3) (wpAny_field hz rfl (x:=.ref ti) rfl ?_);refine wpAny_bind (wpAny_seqItems hi rfl ?_);refine wpAny_bind (m:=Builtin.SmallTypes.ownedTupleIsFree (.ref z)) ?_;unfold Builtin.SmallTypes.ownedTupleIsFree;refine wpAny_bind (wpAny_field hz rfl (x:=Value.none) rfl (wpAny_pure ?_));simp only [if_true];refine wpAny_bind (wpAny_rule (wpAny_bind (wpAny_field hz rfl (x:=.ref to) rfl (wpAny_bind (wpAny_setField_rec hz (by simp) λg1 z1 s1=>?_)))))
 replace z1:IsZip g1 z ti to Value.ellipsis:=z1
 refine wpAny_bind ?_;simp only [List.zipIdx_cons,List.zipIdx_nil,List.forIn_cons,List.forIn_nil];refine wpAny_bind (wpAny_bind (wpAny_onRaise (wpAny_bind (m:=Builtin.SmallTypes.nextOf (.ref i1)) ?_)));cases hx:xs[k1]? with
 |none=>
  refine R1.done hh (R1.keep p1 λo e=>s1.extBut _ _ (Ne.symm n3) e) (R1.hkeep l1 λo e=>s1.extBut _ _ q1 e) hx λg2 e s2 ⟨oe,he,ce⟩=>?_;have z2:IsZip g2 z ti to Value.ellipsis:=s2 _ _ n3 z1;have ez:e≠z:=λq=>by subst q;rw [z2] at he;cases he;simp at ce
  refine wpAny_setField_rec z2 (by simp) λg3 _ s3=>hE g3 e (λc o hc q=>?_) ⟨oe,s3.extBut _ _ ez he,ce⟩;simp only [mem_cons,not_mem_nil,not_or,or_false] at hc;exact s3.extBut _ _ hc.1 (s2 _ _ hc.2.2.1 (s1.extBut _ _ hc.1 q))
 |some x=>
  have hy:ys[k2]?=none:=by rcases hend with q|q;rw [hx] at q;cases q;exact q
  refine R1.item (R1.keep p1 λo e=>s1.extBut _ _ (Ne.symm n3) e) (R1.hkeep l1 λo e=>s1.extBut _ _ q1 e) hx λg2 p12 s2=>wpAny_pure ?_;have t2:IsPair g2 to a b:=s2.extBut _ _ n8 (s1.extBut _ _ (Ne.symm n2) ho);refine wpAny_bind (wpAny_seqItems t2 rfl (wpAny_bind (wpAny_updateSeq_pair t2 λg3 t3 s3=>?_)));refine wpAny_bind (wpAny_letGo (wpAny_pure (wpAny_bind (wpAny_bind (wpAny_onRaise (wpAny_bind (m:=Builtin.SmallTypes.nextOf (.ref i2)) ?_))))));refine R2.done hh (R2.keep p2 λo e=>s3.extBut _ _ (Ne.symm n9) (s2.extBut _ _ (Ne.symm n10) (s1.extBut _ _ (Ne.symm n4) e))) (R2.hkeep l2 λo e=>s3.extBut _ _ r2 (s2.extBut _ _ r3 (s1.extBut _ _ r1 e))) hy λg4 e s4 ⟨oe,he,ce⟩=>?_;have z4:IsZip g4 z ti to Value.ellipsis:=s4 _ _ n4 (s3.extBut _ _ n2 (s2.extBut _ _ n3 z1));have ez:e≠z:=λq=>by subst q;rw [z4] at he;cases he;simp at ce
  refine wpAny_setField_rec z4 (by simp) λg5 _ s5=>hE g5 e (λc o hc q=>?_) ⟨oe,s5.extBut _ _ ez he,ce⟩;simp only [mem_cons,not_mem_nil,not_or,or_false] at hc;exact s5.extBut _ _ hc.1 (s4 _ _ hc.2.2.2 (s3.extBut _ _ hc.2.1 (s2.extBut _ _ hc.2.2.1 (s1.extBut _ _ hc.1 q))))
end
abbrev qj1 (b:Bool):String:=if b then "list_iterator" else "tuple_iterator"
abbrev ze (b:Bool) (c:Addr):Obj:={ cls:=.type (qj1 b),data:=.fields #[.ref c,.int 0 0] }
def qeT (b:Bool) (it c:Addr) (k:Nat) (h:Heap):Prop:=match b with|true=>h.IsListIter it c k|false=>h.IsTupleIter it c k
def CG (b:Bool) (c:Addr) (xs:Array Value) (h:Heap):Prop:=match b with|true=>h.IsList c xs|false=>h.IsTuple c xs
def jT {P:Program} {w:World} (b:Bool) (it c:Addr):Src P w it c (qeT b it c) (CG b c):=by
 cases b
 ·exact qcP it c
 ·exact LV it c
def TJ {P:Program} {w:World} {A:Around} {s:Shared} {b:Bool} {c:Addr} {xs:Array Value} {Q:Value->Shared->Prop} {E:Value->Shared->Prop} (h:CG b c xs s.heap) (q:Q (.ref s.heap.objs.size) { s with heap:=s.heap.push (ze b c) }) :
  wpAny (model P w) A (pyIter (.ref c)) Q E s:=by
 cases b
 ·exact wpAny_pyIter_tuple (show s.heap.IsTuple c xs from h) q
 ·exact wpAny_pyIter_list (show s.heap.IsList c xs from h) q
def SR {b:Bool} {c:Addr} {xs:Array Value} {h:Heap} {o:Obj} (q:CG b c xs h):CG b c xs (h.push o):=by
 cases b
 ·exact (show h.IsTuple c xs from q).at λ_ e=>Heap.get?_push_of_some _ e
 ·exact (show h.IsList c xs from q).at λ_ e=>Heap.get?_push_of_some _ e
abbrev zh1 (h:Heap) (o1:Obj):Heap:=h.push o1
abbrev zh2 (h:Heap) (o1 o2:Obj):Heap:=(zh1 h o1).push o2
abbrev zh3 (h:Heap) (o1 o2:Obj):Heap:=(zh2 h o1 o2).push { cls:=.type "tuple",data:=.seq #[.ref h.objs.size,.ref (zh1 h o1).objs.size] }
abbrev zh4 (h:Heap) (o1 o2:Obj):Heap:=(zh3 h o1 o2).push { cls:=.type "tuple",data:=.seq #[.none,.none] }
abbrev zh5 (h:Heap) (o1 o2:Obj):Heap:=(zh4 h o1 o2).push { cls:=.type "zip",data:=.fields #[.none,.bool false,.bool false,.ref (zh2 h o1 o2).objs.size,.ref (zh3 h o1 o2).objs.size] }
def C1 (c1 c2:Addr) (o1 o2:Obj) :
  Meets (Builtin.«zip.__new__» ⟨[.type "zip",.ref c1,.ref c2],[]⟩) (λ_ R s=>
   (∀ (P:Program) (w:World) (A:Around) (Q:Value->Shared->Prop) (E:Value->Shared->Prop),Q (.ref s.heap.objs.size) { s with heap:=zh1 s.heap o1 }->wpAny (model P w) A (pyIter (.ref c1)) Q E s) /\
   (∀ (P:Program) (w:World) (A:Around) (Q:Value->Shared->Prop) (E:Value->Shared->Prop),Q (.ref (zh1 s.heap o1).objs.size) { s with heap:=zh2 s.heap o1 o2 }->wpAny (model P w) A (pyIter (.ref c2)) Q E { s with heap:=zh1 s.heap o1 }) /\
   R (.ok (.ret (.ref (zh4 s.heap o1 o2).objs.size))) { s with heap:=zh5 s.heap o1 o2 }):=
 .of_wp λprog w A R s h=>by
  obtain ⟨hp,g,d,tk,os⟩:=s;obtain ⟨h1,h2,h⟩:=h;have hsub:=sub_zip;have k1:=λA Q E=>h1 prog w A Q E;have k2:=λA Q E=>h2 prog w A Q E
  wp_walk using k1 _ _ _,k2 _ _ _
  exact ⟨_,rfl,h⟩
def LR (b1 b2:Bool) (z ti to i1 i2 c1 c2:Addr) (k:Nat) (h:Heap):Prop:=
 IsZip h z ti to .none/\IsPair h ti (.ref i1) (.ref i2)/\(∃ a b,IsPair h to a b)/\qeT b1 i1 c1 k h/\qeT b2 i2 c2 k h
section
variable {P:Program} {w:World} {A:Around} {s:Shared} {E:Value->Shared->Prop}
def LZ {b1 b2:Bool} {c1 c2:Addr} {xs ys:Array Value} {Q:Value->Shared->Prop} (h1:CG b1 c1 xs s.heap) (h2:CG b2 c2 ys s.heap)
  (q:∀ h',LR b1 b2 (s.heap.objs.size+4) (s.heap.objs.size+2) (s.heap.objs.size+3) s.heap.objs.size (s.heap.objs.size+1) c1 c2 0 h'->(∀ c o,s.heap.get? c=some o->h'.get? c=some o)->Q (.ref (s.heap.objs.size+4)) { s with heap:=h' }) :
  wpAny (model P w) A (call (.type "zip") [.ref c1,.ref c2]) Q E s:=by
 refine callType_new F.called_zip (by decide) (F.typeCall_zip_2 _ _) (F.newCall_zip_2 _ _) (λobj=>F.args_object_init_3 obj _ _) F.entry_zip_new
  (C1 c1 c2 (ze b1 c1) (ze b2 c2)) ⟨λP w A Q E q=>TJ h1 q,λP w A Q E q=>TJ (s:={ s with heap:=zh1 s.heap (ze b1 c1) }) (SR h2) q,?_⟩
 have e1:(zh1 s.heap (ze b1 c1)).objs.size=s.heap.objs.size+1:=Heap.size_push ..;have e2:(zh2 s.heap (ze b1 c1) (ze b2 c2)).objs.size=s.heap.objs.size+2:=by rw [Heap.size_push,e1]
 have e3:(zh3 s.heap (ze b1 c1) (ze b2 c2)).objs.size=s.heap.objs.size+3:=by rw [Heap.size_push,e2]
 have e4:(zh4 s.heap (ze b1 c1) (ze b2 c2)).objs.size=s.heap.objs.size+4:=by rw [Heap.size_push,e3]
 have g5:(zh5 s.heap (ze b1 c1) (ze b2 c2)).get? (zh4 s.heap (ze b1 c1) (ze b2 c2)).objs.size=some _:=Heap.get?_push_size _ rfl;have g4:(zh5 s.heap (ze b1 c1) (ze b2 c2)).get? (zh3 s.heap (ze b1 c1) (ze b2 c2)).objs.size=some _:=Heap.get?_push_of_some _ (Heap.get?_push_size _ rfl);have g3:(zh5 s.heap (ze b1 c1) (ze b2 c2)).get? (zh2 s.heap (ze b1 c1) (ze b2 c2)).objs.size=some _:=Heap.get?_push_of_some _ (Heap.get?_push_of_some _ (Heap.get?_push_size _ rfl));have g2:(zh5 s.heap (ze b1 c1) (ze b2 c2)).get? (zh1 s.heap (ze b1 c1)).objs.size=some (ze b2 c2):=Heap.get?_push_of_some _ (Heap.get?_push_of_some _ (Heap.get?_push_of_some _ (Heap.get?_push_size _ rfl)));have g1:(zh5 s.heap (ze b1 c1) (ze b2 c2)).get? s.heap.objs.size=some (ze b1 c1):=Heap.get?_push_of_some _ (Heap.get?_push_of_some _ (Heap.get?_push_of_some _ (Heap.get?_push_of_some _ (Heap.get?_push_size _ rfl))));show _/\_;rw [e2,e3,e4] at g5;rw [e1,e2] at g3;rw [e3] at g4;rw [e1] at g2;rw [e4];refine ⟨⟨_,g5,rfl⟩,q _ ⟨g5,g3,⟨_,_,g4⟩,?_,?_⟩ λc o e=>Heap.get?_push_of_some _ (Heap.get?_push_of_some _ (Heap.get?_push_of_some _ (Heap.get?_push_of_some _ (Heap.get?_push_of_some _ e))))⟩
 ·cases b1<;>exact ⟨_,g1,rfl,rfl⟩
 ·cases b2<;>exact ⟨_,g2,rfl,rfl⟩
def KW {b1 b2:Bool} {z ti to i1 i2 c1 c2:Addr} {k:Nat} {xs ys:Array Value} {x y:Value} {Q:Option Value->Shared->Prop} (D:ZA z ti to i1 i2 c1 c2) (st:LR b1 b2 z ti to i1 i2 c1 c2 k s.heap) (l1:CG b1 c1 xs s.heap) (l2:CG b2 c2 ys s.heap) (hx:xs[k]?=some x) (hy:ys[k]?=some y)
  (hQ:∀ h',IsZip h' z ti to (rawInt s.heap.objs.size)->IsPair h' ti (.ref i1) (.ref i2)->(∃ a b,IsPair h' to a b)->qeT b1 i1 c1 (k+1) h'->qeT b2 i2 c2 (k+1) h'->IsPair h' s.heap.objs.size x y->(∀ c o,c∉[z,to,i1,i2]->s.heap.get? c=some o->h'.get? c=some o)->Q (some (.ref s.heap.objs.size)) { s with heap:=h' }) :
  wpAny (model P w) A (pyNext (.ref z)) Q E s:=by
 obtain ⟨hz,hi,⟨a,b,ho⟩,p1,p2⟩:=st;have ty:s.TypeIs (.ref z) "zip" := ⟨_,hz,rfl⟩
 have nti:ti∉[z,to,i1,i2]:=by
  have ne:=D.ne;simp only [List.nodup_cons,mem_cons,not_mem_nil,not_or,or_false] at ne ⊢;exact ⟨Ne.symm ne.1.1,ne.2.1.1,ne.2.1.2.1,ne.2.1.2.2⟩
 unfold pyNext;exact wpAny_bind (wpAny_attempt (wpAny_callSpecial?_slot (name:=Str.ofString "__next__") ty F.slot_zip_next (wpAny_call_entry F.slot_zip_next ty F.entry_zip_next
  (L7 (jT b1 i1 c1) (jT b2 i2 c2) D hz hi ho p1 p2 l1 l2 hx hy λh' u1 u2 u3 u4 u5 u6=>wpAny_pure (hQ h' u1 (u6 _ _ nti hi) ⟨_,_,u2⟩ u3 u4 u5 u6)) (F.args_zip_next_1 _))))
def ER {b1 b2:Bool} {z ti to i1 i2 c1 c2:Addr} {k:Nat} {xs ys:Array Value} {Q:Option Value->Shared->Prop} (hh:A.handled=none) (D:ZA z ti to i1 i2 c1 c2) (st:LR b1 b2 z ti to i1 i2 c1 c2 k s.heap) (l1:CG b1 c1 xs s.heap) (l2:CG b2 c2 ys s.heap) (hend:xs[k]?=none\/ys[k]?=none)
  (hQ:∀ h',(∀ c o,c∉[z,to,i1,i2]->s.heap.get? c=some o->h'.get? c=some o)->Q none { s with heap:=h' }):wpAny (model P w) A (pyNext (.ref z)) Q E s:=by
 obtain ⟨hz,hi,⟨a,b,ho⟩,p1,p2⟩:=st;have ty:s.TypeIs (.ref z) "zip" := ⟨_,hz,rfl⟩
 unfold pyNext;refine wpAny_bind (wpAny_attempt (wpAny_callSpecial?_slot (name:=Str.ofString "__next__") ty F.slot_zip_next (wpAny_call_entry F.slot_zip_next ty F.entry_zip_next
  (qcc hh (jT b1 i1 c1) (jT b2 i2 c2) D hz hi ho p1 p2 l1 l2 hend λh' e hk ⟨o,q1,q2⟩=>?_) (F.args_zip_next_1 _))))
 exact wpAny_bind (wpAny_isInstance (T:="StopIteration") (b:=true) ⟨o,q1,q2⟩ isSubtype_stop (wpAny_pure (hQ _ hk)))
end
def SqB (K:Frg) (b:Bool) (H:Hp) (a:Addr) (xs:List V):Prop:=match b with|true=>SqL K H a xs|false=>SqT K H a xs
def SqB.get {X:Cx} {pins:List (Addr×Obj)} {σ:L2.St} {H:Hp} {s:Shared} {b:Bool} {a:Addr} {xs:List V} (I:Inv X pins σ H s) (h:SqB X.K b H a xs):∃ its:List Value,qF xs its/\CG b a its.toArray s.heap/\xs.length<=sizeLine:=by
 cases b
 ·obtain ⟨its,r,p,hz⟩:=I.tuple (show SqT X.K H a xs from h);exact ⟨its,r,(show s.heap.IsTuple a its.toArray from p),hz⟩
 ·obtain ⟨its,r,p,hz⟩:=I.list (show SqL X.K H a xs from h);exact ⟨its,r,p.isList,hz⟩
def SqB.inj {X:Cx} {pins:List (Addr×Obj)} {σ:L2.St} {H:Hp} {s:Shared} {b:Bool} {a:Addr} {xs ys:List V} (I:Inv X pins σ H s) (h:SqB X.K b H a xs) (h':SqB X.K b H a ys):xs=ys:=by
 cases b
 ·exact I.tuple_inj h h'
 ·exact I.list_inj h h'
def Itz (K:Frg) (b1 b2:Bool) (c1 c2:Addr):It:=
  ⟨λi H=>∃ xs ys x y,SqB K b1 H c1 xs/\SqB K b2 H c2 ys/\xs[i]?=some x/\ys[i]?=some y,
   λi H v H'=>∃ p x y,H p=none/\v=.ref p/\H'=upd H p (.tup [x,y])/\(∀ xs,SqB K b1 H c1 xs->xs[i]?=some x)/\(∀ ys,SqB K b2 H c2 ys->ys[i]?=some y),
   λi H=>∃ xs ys,SqB K b1 H c1 xs/\SqB K b2 H c2 ys/\(xs.length<=i\/ys.length<=i)⟩
def qfm {b:Bool} {c:Addr} {xs:Array Value} {h:Heap} (q:CG b c xs h):c<h.objs.size:=by
 cases b
 ·obtain ⟨o,e,_⟩:=(show h.IsTuple c xs from q);exact Heap.lt_size e
 ·obtain ⟨o,e,_⟩:=(show h.IsList c xs from q);exact Heap.lt_size e
def K6 {P:Program} {w:World} {K:Frg} {es:List Expr} {k1:Nat} {pt:Pos} {b1 b2:Bool} {z ti to i1 i2 c1 c2:Addr} (D:ZA z ti to i1 i2 c1 c2):Turn P w K (.Tuple es k1 pt) (Itz K b1 b2 c1 c2) [z,ti,to,i1,i2] z (LR b1 b2 z ti to i1 i2 c1 c2) where
 mem:=by simp
 obj:=λi h ⟨hz,hi,⟨a,b,ho⟩,p1,p2⟩ c hc=>by
  simp only [mem_cons,not_mem_nil,or_false] at hc;rcases hc with rfl|rfl|rfl|rfl|rfl
  ·exact ⟨_,hz,λv q=>by cases q⟩
  ·exact ⟨_,hi,λv q=>by cases q⟩
  ·exact ⟨_,ho,λv q=>by cases q⟩
  ·exact (jT (P:=P) (w:=w) b1 c c1).obj p1
  ·exact (jT (P:=P) (w:=w) b2 c c2).obj p2
 keep:=λi h h' ⟨hz,hi,⟨a,b,ho⟩,p1,p2⟩ k=>
  ⟨k z (by simp) _ hz,k ti (by simp) _ hi,⟨a,b,k to (by simp) _ ho⟩,(jT (P:=P) (w:=w) b1 i1 c1).keep p1 λo e=>k i1 (by simp) o e,(jT (P:=P) (w:=w) b2 i2 c2).keep p2 λo e=>k i2 (by simp) o e⟩
 item:=by
  intro X hP hw hK hc i pins s σ H E I hf st hg;subst hP hw hK;obtain ⟨xs,ys,x,y,sq1,sq2,hx,hy⟩:=hg;obtain ⟨its1,rv1,l1,z1⟩:=sq1.get I;obtain ⟨its2,rv2,l2,z2⟩:=sq2.get I;obtain ⟨u1,hu1,ru1⟩:=rv1.get hx;obtain ⟨u2,hu2,ru2⟩:=rv2.get hy;refine KW D st l1 l2 (x:=u1) (y:=u2) (by simpa using hu1) (by simpa using hu2) λh' hz hi ho p1 p2 hp hk=>?_;have hfr:H s.heap.objs.size=none:=I.fresh;have free:∀ b∈[z,ti,to,i1,i2],H b=none:=λb hb=>(hf b hb).1;refine ⟨_,rfl,wpAny_letOwnedTupleGo_zip hz λh2 hz2 s2=>?_⟩;have zlt:z<s.heap.objs.size:=Heap.lt_size st.1;have hp2:IsPair h2 s.heap.objs.size u1 u2:=(s2.2 _ (Nat.ne_of_gt zlt)).trans hp;have ne:=D.ne;simp only [List.nodup_cons,mem_cons,not_mem_nil,not_or,or_false] at ne;have up:∀ c o,c≠z->h'.get? c=some o->h2.get? c=some o:=λc o hc e=>(s2.2 c hc).trans e;have kk:∀ c o,c∉[z,to,i1,i2]->s.heap.get? c=some o->h2.get? c=some o:=λc o hc e=>up c o (λq=>hc (by simp [q])) (hk c o hc e);have I3:Inv X pins σ (upd H s.heap.objs.size (.tup [x,y])) { s with heap:=h2 }:=by
   refine I.step (g':=s.gens) (d':=s.drawn) (t':=s.toks) (ch:=[z,to,i1,i2]) (λb hb=>?_) (λb o _ _ hcb e _=>kk b o hcb e) (λb o _ _ hcb e _=>⟨o.slots,kk b o hcb e⟩) (λb o _ e n=>by rw [qj (Nat.ne_of_lt (Heap.lt_size e))];exact n) (λb o hcb e=>⟨o,kk b o hcb e⟩)
    (λb _ e=>by rw [qj (qo e hfr)];exact e) (λb _ _ e=>by rw [qj (qo e hfr)];exact e) (λb ps e=>⟨#[],by rw [qj (qo e hfr),e];simp⟩) (λm hm=>?_) (λb u e=>?_) I.bare
   ·obtain ⟨f0,f1,f2,f3,f4,f5⟩:=hf b (by simp only [mem_cons,not_mem_nil,or_false] at hb ⊢;rcases hb with q|q|q|q<;>simp [q]);exact ⟨f3,f1,f4,f5⟩
   ·obtain ⟨o,es',ep,ho',r⟩:=hm;refine ⟨o,es',ep,kk _ o (λq=>?_) ho',r⟩;obtain ⟨f0,f1,_⟩:=hf X.env.locals (by simp only [mem_cons,not_mem_nil,or_false] at q ⊢;rcases q with q|q|q|q<;>simp [q]);exact f1 rfl
   ·by_cases hb:b=s.heap.objs.size
    ·subst hb;rw [qz] at e;cases e;exact ⟨by show 2<=sizeLine;decide,[u1,u2],.cons ru1 (.cons ru2 .nil),⟨_,hp2,rfl,_,rfl,rfl⟩⟩
    ·rw [qj hb] at e;refine (I.hok b u e).stay (λc v hcb q=>kk c v (λm=>?_) q) (λ_ q=>by rw [qj (qo q hfr)];exact q) λ_ _ q=>by rw [qj (qo q hfr)];exact q
     have hn:=free c (by simp only [mem_cons,not_mem_nil,or_false] at m ⊢;rcases m with q|q|q|q<;>simp [q]);rcases hcb with q|q
     ·rw [q] at hn;rw [hn] at e;cases e
     ·rw [hn] at q;cases q
  refine ⟨.ref s.heap.objs.size,_,I3,rfl,⟨_,x,y,hfr,rfl,rfl,λzs q=>by rw [q.inj I sq1];exact hx,λzs q=>by rw [q.inj I sq2];exact hy⟩,⟨hz2,up _ _ (Ne.symm ne.1.1) hi,let ⟨a,b,q⟩:=ho;⟨a,b,up _ _ (Ne.symm ne.1.2.1) q⟩,(jT (P:=X.prog) (w:=X.w) b1 i1 c1).keep p1 λo e=>up _ o (Ne.symm ne.1.2.2.1) e,(jT (P:=X.prog) (w:=X.w) b2 i2 c2).keep p2 λo e=>up _ o (Ne.symm ne.1.2.2.2) e⟩,λb hb=>?_⟩;rw [qj (λq=>?_)]
  ·exact free b hb
  ·subst q;obtain ⟨hz0,hi0,⟨a0,b0,ho0⟩,q1,q2⟩:=st;simp only [mem_cons,not_mem_nil,or_false] at hb;rcases hb with q|q|q|q|q
   ·exact absurd q (Nat.ne_of_gt zlt)
   ·exact absurd q (Nat.ne_of_gt (Heap.lt_size hi0))
   ·exact absurd q (Nat.ne_of_gt (Heap.lt_size ho0))
   ·obtain ⟨o,e,_⟩:=(jT (P:=X.prog) (w:=X.w) b1 i1 c1).obj q1;exact absurd q (Nat.ne_of_gt (Heap.lt_size e))
   ·obtain ⟨o,e,_⟩:=(jT (P:=X.prog) (w:=X.w) b2 i2 c2).obj q2;exact absurd q (Nat.ne_of_gt (Heap.lt_size e))
 done:=by
  intro X hP hw hK hc i pins s σ H E I hf st hg;subst hP hw hK;obtain ⟨xs,ys,sq1,sq2,hend⟩:=hg;obtain ⟨its1,rv1,l1,z1⟩:=sq1.get I;obtain ⟨its2,rv2,l2,z2⟩:=sq2.get I;have e1:=rv1.length;have e2:=rv2.length;refine ER (I.ok.hd hc) D st l1 l2 (by rcases hend with q|q;exact .inl (by simp;omega);exact .inr (by simp;omega)) λh' hk=>⟨rfl,?_⟩
  have free:∀ b∈[z,ti,to,i1,i2],H b=none:=λb hb=>(hf b hb).1;refine I.step (g':=s.gens) (d':=s.drawn) (t':=s.toks) (ch:=[z,to,i1,i2]) (λb hb=>?_) (λb o _ _ hcb e _=>hk b o hcb e) (λb o _ _ hcb e _=>⟨o.slots,hk b o hcb e⟩) (λ_ _ _ _ n=>n) (λb o hcb e=>⟨o,hk b o hcb e⟩) (λ_ _ e=>e) (λ_ _ _ e=>e) (λb ps e=>⟨#[],by rw [e];simp⟩) (λm hm=>?_) (λb u e=>?_) I.bare
  ·obtain ⟨f0,f1,f2,f3,f4,f5⟩:=hf b (by simp only [mem_cons,not_mem_nil,or_false] at hb ⊢;rcases hb with q|q|q|q<;>simp [q]);exact ⟨f3,f1,f4,f5⟩
  ·obtain ⟨o,es',ep,ho',r⟩:=hm;refine ⟨o,es',ep,hk _ o (λq=>?_) ho',r⟩;obtain ⟨f0,f1,_⟩:=hf X.env.locals (by simp only [mem_cons,not_mem_nil,or_false] at q ⊢;rcases q with q|q|q|q<;>simp [q]);exact f1 rfl
  ·refine (I.hok b u e).stay (λc v hcb q=>hk c v (λm=>?_) q) (λ_ q=>q) λ_ _ q=>q;have hn:=free c (by simp only [mem_cons,not_mem_nil,or_false] at m ⊢;rcases m with q|q|q|q<;>simp [q]);rcases hcb with q|q
   ·rw [q] at hn;rw [hn] at e;cases e
   ·rw [hn] at q;cases q
 self:=λA i s Q E st h=>wpAny_pyIter_zip st.1 h
def qez {n c1 c2:Addr} (h1:c1<n) (h2:c2<n):ZA (n+4) (n+2) (n+3) n (n+1) c1 c2:=by
 have k:∀ n c:Nat,c<n->c≠n+4/\c≠n+3/\c≠n/\c≠n+1:=λn c h=>by omega
 have d:∀ n:Nat,(([n+4,n+2,n+3,n,n+1]:List Nat)).Nodup:=λn=>by
  simp only [List.nodup_cons,mem_cons,not_mem_nil,not_or,or_false,List.nodup_nil,and_true,not_false_eq_true];omega
 refine ⟨d n,?_,?_⟩
 ·simp only [mem_cons,not_mem_nil,not_or,or_false];exact k n c1 h1
 ·simp only [mem_cons,not_mem_nil,not_or,or_false];exact k n c2 h2
section
variable {X:Cx} {a b e l:Expr} {es:List Expr} {pos:Pos}
def qec {p pt:Pos} {k1:Nat} {ta:TA} (hg:Gl X "zip") (hm:X.mg "zip" = none) (ha:PA X [a,b] ta) (hs:starEach [a,b] X.env=[(false,eval a X.env),(false,eval b X.env)]:=by rfl) (hs2:starEach [b] X.env=[(false,eval b X.env)]:=by rfl) :
  PI X (.Tuple es k1 pt) (.Call (.Name "zip" p) [a,b] [] pos) (λσ H R=>ta σ H λvs H1=>∃ b1 b2 c1 c2 xs ys,vs=[.ref c1,.ref c2]/\SqB X.K b1 H1 c1 xs/\SqB X.K b2 H1 c2 ys/\R (Itz X.K b1 b2 c1 c2) H1):=by
 intro pins s σ H R I h;refine Call_ (QP I hg hm PyProof.Rows.boot_zip (PyProof.Rows.callWith_type1 (thn (ha pos pins s σ H _ I h) λus s1 ⟨vs,H1,I1,r1,q1⟩=>?_) (by rw [hs,hs2]) (by rw [hs2];rfl)));obtain ⟨b1,b2,c1,c2,xs,ys,rfl,sq1,sq2,q⟩:=q1;obtain ⟨u1,u2,rfl,e1,e2⟩:=S6 r1;cases (show u1=Value.ref c1 from e1);cases (show u2=Value.ref c2 from e2);obtain ⟨its1,rv1,l1,z1⟩:=sq1.get I1;obtain ⟨its2,rv2,l2,z2⟩:=sq2.get I1;refine LZ l1 l2 λh' st hk=>wpAny_pyIter_zip st.1 ?_;refine ⟨s1.heap.objs.size+4,[s1.heap.objs.size+4,s1.heap.objs.size+2,s1.heap.objs.size+3,s1.heap.objs.size,s1.heap.objs.size+1],_,_,H1,rfl,I1.kept (t':=s1.toks) hk,K6 (qez (qfm l1) (qfm l2)),st,λc hc=>?_,q⟩;have hle:s1.heap.objs.size<=c:=by
  simp only [mem_cons,not_mem_nil,or_false] at hc;rcases hc with rfl|rfl|rfl|rfl|rfl<;>first|exact Nat.le_refl _|exact Nat.le_add_right _ _
 exact I1.fpOk hle (I1.hok.fresh hle)
end
def ZY (G:Gp):T->Option (List T)
 |.tup xs=>some xs
 |.ref p=>getL G p
 |_=>none
def qaD {K:Frg} {G0:Gp} {H0:Hp} {x:T} {v:V} {us:List T} (hr0:HR K G0 H0) (rx:Rp K H0 x v) (h:ZY G0 x=some us) :
  ∃ b c,v=.ref c/\∀ G H,HR K G H->Kp G0 H0 G H->ZY G x=some us->∃ vs,SqB K b H c vs/\Rps K H us vs:=by
 cases rx with
 |tup hs rs=>
  cases h;exact ⟨false,_,rfl,λG H hr k _=>⟨_,(JJ hr0 k hs:SqT K H _ _),rs.keep hr0 k⟩⟩
 |ref a=>exact ⟨true,a,rfl,λG H hr k hq=>let ⟨vs,h1,h2⟩:=zm hr (show getL G a=some us from hq);⟨vs,h1,h2⟩⟩
 |_=>cases h
def LK (us vs:List T):List T:=(us.zip vs).map λp=>.tup [p.1,p.2]
def XN {us vs:List T} {i:Nat} {x:T} (h:(LK us vs)[i]?=some x):∃ a b,us[i]?=some a/\vs[i]?=some b/\x=.tup [a,b]:=by
 unfold LK at h;rw [getElem?_map] at h;cases e:(us.zip vs)[i]? with
 |none=>rw [e] at h;cases h
 |some p=>
  rw [e] at h;have:=List.getElem?_zip_eq_some.mp e;exact ⟨p.1,p.2,this.1,this.2,by simpa using h.symm⟩
def qfa {K:Frg} {b1 b2:Bool} {c1 c2:Addr} {x y:T} {us vs:List T} {G0:Gp} {H0:Hp}
  (f1:∀ G H,HR K G H->Kp G0 H0 G H->ZY G x=some us->∃ vs,SqB K b1 H c1 vs/\Rps K H us vs) (f2:∀ G H,HR K G H->Kp G0 H0 G H->ZY G y=some vs->∃ ws,SqB K b2 H c2 ws/\Rps K H vs ws) :
  qdh K (Itz K b1 b2 c1 c2) (LK us vs) (λG=>ZY G x=some us/\ZY G y=some vs) G0 H0:=by
 intro G H hr k ⟨h1,h2⟩;obtain ⟨p,sp,rp⟩:=f1 G H hr k h1;obtain ⟨q,sq,rq⟩:=f2 G H hr k h2;refine ⟨λi z hz=>?_,λi z v H' hz hy=>?_,⟨p,q,sp,sq,?_⟩⟩
 ·obtain ⟨a,b,ha,hb,_⟩:=XN hz;obtain ⟨v,hv,_⟩:=rp.get ha;obtain ⟨w,hw,_⟩:=rq.get hb;exact ⟨p,q,v,w,sp,sq,hv,hw⟩
 ·obtain ⟨a,b,ha,hb,rfl⟩:=XN hz;obtain ⟨t,v1,v2,ht,rfl,rfl,g1,g2⟩:=hy;obtain ⟨v,hv,rv⟩:=rp.get ha;obtain ⟨w,hw,rw'⟩:=rq.get hb;have e1:=(g1 p sp).symm.trans hv;have e2:=(g2 q sq).symm.trans hw;obtain rfl:v1=v:=Option.some.inj e1;obtain rfl:v2=w:=Option.some.inj e2;have kk:Kp G H G (upd H t (.tup [v1,v2])):=Kp.laid ht;exact ⟨.tup (SqT.of qz) (.cons (rv.keep hr kk) (.cons (rw'.keep hr kk) .nil)),hr.laid ht,kk⟩
 ·rw [← rp.length,← rq.length,show (LK us vs).length=min us.length vs.length by simp [LK]];omega
def KI (ta:TA3):TI3:=λτ G r=>ta τ G λxs G1=>match xs with
 |[x,y]=>(match ZY G1 x,ZY G1 y with|some us,some vs=>r (LK us vs) (λG=>ZY G x=some us/\ZY G y=some vs) G1|_,_=>False)
 |_=>False
section
variable {X:Cx} {a b e l:Expr} {es:List Expr} {pos:Pos} {t:TA3}
def qkA {p pt:Pos} {k1:Nat} (hg:Gl X "zip") (hm:X.mg "zip" = none) (ha:A3 X [a,b] t) (hs:starEach [a,b] X.env=[(false,eval a X.env),(false,eval b X.env)]:=by rfl) (hs2:starEach [b] X.env=[(false,eval b X.env)]:=by rfl) :
  I3 X (.Tuple es k1 pt) (.Call (.Name "zip" p) [a,b] [] pos) (KI t):=
 qh9 (qec hg hm ha hs hs2) λσ H R ⟨τ,G,r,rl,h,af⟩=>jo rl h λxs G1 h1 vs H1 rs hr1 k1 rl1=>by
  split at h1
  ·rename_i x y;split at h1
   ·rename_i us ws e1 e2;obtain ⟨v,u,rfl,r1,r2⟩:=qiH rs;obtain ⟨b1,c1,rfl,f1⟩:=qaD hr1 r1 e1;obtain ⟨b2,c2,rfl,f2⟩:=qaD hr1 r2 e2;obtain ⟨p,sp,_⟩:=f1 G1 H1 hr1 Kp.refl e1;obtain ⟨q,sq,_⟩:=f2 G1 H1 hr1 Kp.refl e2;exact ⟨b1,b2,c1,c2,p,q,rfl,sp,sq,af _ _ G1 h1 _ H1 hr1 k1 (qfa f1 f2)⟩
   ·exact h1.elim
  ·exact h1.elim
def qdn:List T->Gp->Q3->Prop:=λxs G q=>match xs with
 |[.ref p]=>(match getL G p with|some ys=>(match qdb ys with|some k=>q (.bl k) G|none=>False)|none=>False)
 |_=>False
def T1 {K:Frg} {H:Hp}:∀ {ys:List T} {vs:List V} {k:Bool},Rps K H ys vs->qdb ys=some k->∃ ks:List Bool,vs=ks.map V.bl/\ks.all id=k
 |_,_,_,.nil,h=>by cases h;exact ⟨[],rfl,rfl⟩
 |y::ys,_,k,.cons a b,h=>by
  unfold qdb at h;split at h
  ·rename_i e;cases e
  ·rename_i j r e;cases e;split at h
   ·rename_i i ei;obtain ⟨ks,rfl,hk⟩:=T1 b ei;cases a;cases h;exact ⟨j::ks,rfl,by rw [List.all_cons,hk];rfl⟩
   ·cases h
  ·cases h
def R4 {K:Frg}:X4 K qdn (λxs H Q=>∃ (p:Addr) (ks:List Bool),xs=[.ref p]/\SqL K H p (ks.map V.bl)/\Q (.bl (ks.all id)) H):=λxs vs G H q Q hr rs h af=>by
 unfold qdn at h;split at h
 ·rename_i p;obtain ⟨v,rfl,r⟩:=DZ rs;cases r;split at h
  ·rename_i ys e0;split at h
   ·rename_i k e1;obtain ⟨us,hs,r2⟩:=zm hr e0;obtain ⟨ks,rfl,hk⟩:=T1 r2 e1;exact ⟨p,ks,rfl,hs,by rw [hk];exact af _ G h _ H (.bl _) hr Kp.refl⟩
   ·exact h.elim
  ·exact h.elim
 ·exact h.elim
end
def qkx:Value->Bool
 |.type t=>t == "list"
 |_=>false
def ZR:List (Addr×Obj)->Bool
 |[]=>true
 |p::r=>if qkx p.2.cls then false else ZR r
def VP:∀ {K:List (Addr×Obj)} {a:Addr} {o:Obj},ZR K=true->K.lookup a=some o->o.cls≠.type "list"
 |[],_,_,_,e=>by simp at e
 | (b,x)::r,a,o,h,e=>by
  unfold ZR at h;split at h
  ·cases h
  ·rename_i hx;rw [List.lookup_cons] at e;split at e
   ·cases e;intro z;rw [z] at hx;exact hx rfl
   ·exact VP h e
def XT {K:Frg} {H:Hp} {a:Addr} {ns:List Int} (hK:ZR K=true) (hO:qh4 H) (hS:SqL K H a (ns.map V.int)):∃ o,H a=some (.frz o (.lst (ns.map V.int))):=by
 rcases hS with (h|h)|⟨o,its,n,h1,h2,_⟩
 ·rcases hO a with z|⟨o,xs,z⟩<;>(rw [h] at z;cases z)
 ·exact h
 ·exact absurd h2 (VP hK h1)
def only (a:Addr) (ns:List Int):Gp:=λb=>if b=a then some (.frz (ns.map T.int)) else none
def qc2 {K:Frg} {H:Hp} {a:Addr} {ns:List Int} (h:∃ o,H a=some (.frz o (.lst (ns.map V.int)))):HR K (only a ns) H:=λb o e=>by
 unfold only at e;split at e
 ·rename_i hb;subst hb;cases e;exact ⟨_,h,Rps.ints ns⟩
 ·cases e
def VO:Sp3:=λts G q=>∃ (a:Addr) (ns:List Int),ts=[.ref a]/\G a=some (.frz (ns.map T.int))/\ns.length<=63/\∀ G',q (.bl true) G'
def qi2 {l:PySem.W.OpenLaw} {k:Nat} {q:Program} {loose:List Str} {XP:(Str->Option Value)->Heap->Prop} {YP:World->Heap->Prop} {d:DefRec} {K:Params->PySem.W.Frag} {x:Str} (hn:l.most=some 63) (hdf:d.params.defaults=[]) (hr:Room k callerA)
  (hY:∀ (w:World) (h:Heap),YP w h->(K w.params).In h) (hK:∀ w:World,ZR (K w.params)=true)
  (F:∀ (w:World) (mg:Str->Option Value) (fa:Addr) (h:Heap),(K w.params).In h->h.Ns mainGlobals mg->mg d.name=some (.ref fa) ->
   ∃ fd:FuncData,(∀ (s:Shared) (u:Value),BindsTo s fd ⟨[u],[]⟩ [(x,u)])/\∀ base:Heap,(K w.params).In base->base.Ns mainGlobals mg->FnOk l.prog w (K w.params) mg base CX0 k fa fd [x] (lSp (K w.params) VO)) :
  PySem.W.WalkO q loose XP YP l.row.toRowW d [] (λf vs=>PySem.call f vs):=
 L2.qcf (n:=63) (k:=k) (x:=x) (CX:=λ_=>CX0) (sp:=λw=>lSp (K w.params) VO) hn (by decide) hdf hr hY F
  (λw H a ns hl hO hS=>⟨[.ref a],only a ns,λt _=>t=.bl true,qc2 (XT (hK w) hO hS),.cons (.ref a) .nil,⟨a,ns,rfl,by simp [only],hl,λ_=>rfl⟩,λt G' e v H' r _ _=>by subst e;cases r;rfl⟩) λ_ _ _ _ _ z=>z
def qcm {P:Program} {w:World} {K:Frg} {mg:Str->Option Value} {base:Heap} {x qual:Str} {st:Stmt} {f:Addr} {fd:FuncData} {N ps:List Str} {k:Nat} {sp:Sp3} {t3:TS3} (F:Fun K x qual st f fd) (S:FnScope N ps (qf st))
  (body:∀ (cdv:Value) (A:Around) (outer:List Env) (s:Shared) (H:Hp) (E:XK),Room k (A.deeper (envOfC qual (qf st) s.heap.objs.size f cdv)) ->
   B3 (JC CX0 P w K mg base N qual (qf st) f cdv A outer s H E).nox (qH st) t3)
  (read:∀ ts G q,sp ts G q->ts.length=ps.length/\t3 { nx:=λ_ G'=>q .non G',rt:=q } (ql N ts) G):FnOk P w K mg base CX0 (k+1) f fd ps (lSp K sp):=by
 refine F.ok S (λvs H Q E ⟨ts,G,q,h1,h2,h3,h4⟩=>by rw [← h2.length];exact (read ts G q h3).1) λcdv A outer s H vs Q E hr ⟨ts,G,q,h1,h2,h3,h4⟩=>?_;refine ⟨_,body cdv A outer s H E hr,ql N ts,G,_,YA h1 h2,(read ts G q h3).2,⟨λτ' G' h' σ' H' rl' k'=>h4 _ G' h' _ H' .non rl'.hp k',h4,λ_ _ z=>z.elim,λ_ _ z=>z.elim⟩⟩
section
variable {P:Program} {w:World} {A:Around} {s:Shared} {E:Value->Shared->Prop}
end
section
variable {X:Cx} {a b e l:Expr} {es:List Expr} {pos:Pos}
end
section
variable {X:Cx} {a b e l:Expr} {es:List Expr} {pos:Pos} {t:TA3}
end
section
variable {X:Cx} {a b c e:Expr} {es:List Expr} {ta tb tc te:TE3} {t:TA3} {pos:Pos}
def UW:List T->Option (List Int)
 |[]=>some []
 |.int i::r=>(match UW r with|some ns=>some (i::ns)|none=>none)
 |_=>none
def U4 (ns:List Int):UW (ns.map T.int)=some ns:=by
 induction ns with
 |nil=>rfl
 |cons n r ih=>simp [UW,ih]
def UI:∀ {xs:List T} {ns:List Int},UW xs=some ns->xs=ns.map T.int
 |[],_,h=>by simp [UW] at h;subst h;rfl
 |x::r,ns,h=>by
  unfold UW at h;split at h
  ·rename_i e;cases e
  ·rename_i i r' e;cases e;split at h
   ·rename_i ms e2;cases h;rw [UI e2];rfl
   ·cases h
  ·cases h
def V2 {K:Frg} {H:Hp}:∀ {ns:List Int} {vs:List V},Rps K H (ns.map T.int) vs->vs=ns.map V.int
 |[],_,r=>by cases r;rfl
 |n::ns,_,r=>by
  cases r with
  |cons a b=>cases a;rw [V2 b];rfl
end
section
variable {X:Cx}
def qbS {elt tg iter:Expr} {ifs:List Expr} {scope:Scope} {pos cpos:Pos} {N':List Str} {m:List (Option Nat)} {wi:TI} {g:TG} {tif:TT} {te:TE} {use:Option (Value->Sem Unit)} {Qc:Value->Shared->Prop} {QD:Addr->Hp->Prop} (hc:X.calm=true) (hi:PI X tg iter wi)
  (hg:∀ s H fp,PG (qi X N' scope s H fp) tg g) (hf:∀ s H fp,PF (qi X N' scope s H fp) ifs tif) (he:∀ s H fp,PE (qi X N' scope s H fp) elt te)
  (hsc:LD X.env.scope scope=true) (hcap:JF X.N N' scope m=true) (hs:∀ x,foldedSetIterable iter X.env x=pure x) {pins:List (Addr×Obj)} {s:Shared} {σ:L2.St} {H:Hp} (I:Inv X pins σ H s)
  (h:wi σ H λJ H1=>∀ D,H1 D=none ->
   ∃ W:Nat->Nat->L2.St->Hp->Prop,(∃ n,W 0 n (cap m σ) (upd H1 D (.lst [])))/\∀ i n σ H,W i n σ H ->
    (J.stop i H/\QD D H)\/(J.go i H/\∀ x H',J.yld i H x H'->g x σ H' λσ2 H2=>tif σ2 H2 λk H3=>
     if k=true then te σ2 H3 λy H4=>∃ zs,H4 D=some (.lst zs)/\zs.length<sizeLine/\∃ n',n'<n/\W (i+1) n' σ2 (upd H4 D (.lst (zs++[y])))
     else ∃ n',n'<n/\W (i+1) n' σ2 H3))
  (fin:∀ (D:Addr) (s3:Shared) (H3:Hp) (fp:List Addr) (s6:Shared) (H6:Hp) (σ6:L2.St) (r:Flow),Inv X pins σ H3 s3->(∀ b∈fp,WP X pins H3 b)->Inv (qi X N' scope s3 H3 fp) [] σ6 H6 s6->QD D H6->compPost (model X.prog X.w) X.A X.xe use Qc (.ref D) s3.heap.objs.size (.ok r) s6) :
  wpAny (model X.prog X.w) X.A (comprehension (.ListComp elt [⟨tg,iter,ifs,0⟩] scope pos) scope X.env cpos (newList []) false (eval iter X.env) use) Qc X.xe s:=by
 have sc:=Y0 hsc;have hcl:∀ y∈scope.names,y.2=.free->∃ c,X.env.cells.lookup y.1=some c:=λy hy e=>by
  rcases (sc.free y hy e).2 with z|z
  ·exact I.ok.has y.1 (.inl z)
  ·exact I.ok.has y.1 (.inr z)
 refine wpAny_comprehension_free (g:=⟨tg,iter,ifs,0⟩) (gs:=[]) rfl hs (Q5 hcl) sc.kind sc.loc ?_;show wpAny _ _ (eval iter X.env) _ _ s;refine thn (hi pins s σ H _ I h) λv s1 h1=>thn h1 λitv s2 h2=>?_;obtain ⟨it,fp,tn,J,H2,rfl,I2,T,st2,f2,hW⟩:=h2;refine wpAny_newObj_type ?_;have hD:H2 s2.heap.objs.size=none:=I2.fresh;obtain ⟨W,⟨n0,w0⟩,turn⟩:=hW _ hD;generalize hDe:s2.heap.objs.size=D at *;have I3:Inv X pins σ (upd H2 D (.lst [])) { s2 with heap:=s2.heap.push { cls:=.type "list",dict:=none,data:=.seq ([]:List Value).toArray } }:=by
  subst hDe;exact I2.laid (t':=s2.toks) (λb u e=>Heap.get?_push_of_some _ e) (Nat.le_refl _) ⟨Nat.zero_le _,[],0,.nil,Heap.get?_push_size _ rfl⟩
 have ob2:=T.obj 0 _ st2;have ob3:∀ b∈fp,∃ o,(s2.heap.push { cls:=.type "list",dict:=none,data:=.seq ([]:List Value).toArray }).get? b=some o:=λb hb=>let ⟨o,e,_⟩:=ob2 b hb;⟨o,Heap.get?_push_of_some _ e⟩
 have f3:∀ b∈fp,WP X pins (upd H2 D (.lst [])) b:=λb hb=>by
  obtain ⟨o,e,_⟩:=ob2 b hb;have:b≠D:=by rw [← hDe];exact Nat.ne_of_lt (Heap.lt_size e)
  exact ⟨by rw [qj this];exact (f2 b hb).1,(f2 b hb).2⟩
 have k23:∀ b o,s2.heap.get? b=some o->(s2.heap.push { cls:=.type "list",dict:=none,data:=.seq ([]:List Value).toArray }).get? b=some o:=λb o e=>Heap.get?_push_of_some _ e;generalize hH3:upd H2 D (.lst [])=H3 at *;generalize hs3:({ s2 with heap:=s2.heap.push { cls:=.type "list",dict:=none,data:=.seq ([]:List Value).toArray } }:Shared)=s3 at *;have ob3:∀ b∈fp,∃ o,s3.heap.get? b=some o:=by rw [← hs3];exact ob3
 have k23:∀ b o,s2.heap.get? b=some o->s3.heap.get? b=some o:=by rw [← hs3];exact k23
 refine jU λh₁ hns hk hown=>?_;have I4:Inv (qi X N' scope s3 H3 fp) [] (cap m σ) H3 { s3 with heap:=h₁ }:=XM hc I3 sc hcap f3 ob3 hns hk hown;have tn4:tn 0 h₁:=T.keep _ _ _ st2 λb hb o e=>hk b o (k23 b o e);have fr4:∀ b∈fp,H3 b=none:=λb hb=>(f3 b hb).1;have stat:∀ {H':Hp},(∀ b∈fp,H' b=none)->∀ b∈fp,WP (qi X N' scope s3 H3 fp) [] H' b:=λhn b hb=>by
  refine ⟨hn b hb,I4.ok.exf b hb |>.1,I4.ok.exfs b hb,.inl hb,λx c e=>(I4.ok.exf b hb).2 x c e,λp hp=>absurd (show p∈([]:List (Addr×Obj)) from hp) (by simp)⟩
 show codeAny (model X.prog X.w) X.A (.compStart (.ListComp elt [⟨tg,iter,ifs,0⟩] scope pos) 0 (.ref it) (.ref D) (qi X N' scope s3 H3 fp).env) (compPost (model X.prog X.w) X.A X.xe use Qc (.ref D) s3.heap.objs.size) { s3 with heap:=h₁ };have loop:codeAny (model X.prog X.w) X.A (.compLoop (.ListComp elt [⟨tg,iter,ifs,0⟩] scope pos) 0 (.ref it) (.ref D) (qi X N' scope s3 H3 fp).env) (compPost (model X.prog X.w) X.A X.xe use Qc (.ref D) s3.heap.objs.size) { s3 with heap:=h₁ }:=by
  refine codeAny_loop rfl (λn s'=>∃ i σ' H',Inv (qi X N' scope s3 H3 fp) [] σ' H' s'/\tn i s'.heap/\(∀ b∈fp,H' b=none)/\W i n σ' H') (λn s' hI=>?_) n0 ⟨0,cap m σ,H3,I4,tn4,fr4,w0⟩;show wpAny _ X.A ((compTurn (.ListComp elt [⟨tg,iter,ifs,0⟩] scope pos) 0 (.ref it) (.ref D) (qi X N' scope s3 H3 fp).env).onRaise (λx=>do noteFrame x (qi X N' scope s3 H3 fp).env;theTreesLotGoes x)) _ _ s';refine wpAny_noted ?_;rw [compTurn_list];refine wpAny_bind (wpAny_standAt (wpAny_bind ?_));obtain ⟨i,σ5,H5,I5,st5,fr5,w5⟩:=hI;rcases turn i n σ5 H5 w5 with ⟨stop,q⟩|⟨go,step⟩
  ·refine thn (T.done (qi X N' scope s3 H3 fp) rfl rfl rfl rfl i [] s' σ5 H5 _ I5 (stat fr5) st5 stop) λr s6 ⟨hr,I6⟩=>?_;subst hr;refine wpAny_pure ?_;exact fin D s3 H3 fp s6 H5 σ5 _ I3 f3 I6 q
  ·refine thn (T.item (qi X N' scope s3 H3 fp) rfl rfl rfl rfl i [] s' σ5 H5 _ I5 (stat fr5) st5 go) λr s6 ⟨u,hr,h6⟩=>?_;subst hr;refine wpAny_bind (thn h6 λ_ s7 ⟨x,H7,I7,r7,y7,st7,fr7⟩=>?_);have I7':=I7.pinned (stat fr7) (T.obj _ _ st7);have again:∀ {σ8:L2.St} {H8:Hp} {s8:Shared},Inv (qi X N' scope s3 H3 fp) ([]++VE fp s7.heap) σ8 H8 s8->(∃ n',n'<n/\W (i+1) n' σ8 H8) ->
     ∃ m',m'<n/\∃ i σ' H',Inv (qi X N' scope s3 H3 fp) [] σ' H' s8/\tn i s8.heap/\(∀ b∈fp,H' b=none)/\W i m' σ' H':=λ{σ8 H8 s8} I8 ⟨n',hn,w8⟩=>by
    refine ⟨n',hn,i+1,σ8,H8,I8.unpinned,T.keep _ _ _ st7 λb hb o e=>(I8.pin (b,o) (mem_append_right _ (mem_append_right _ (zO hb e)))).1,λb hb=>?_,w8⟩;obtain ⟨o,e,d⟩:=T.obj _ _ st7 b hb;exact (I8.pin (b,o) (mem_append_right _ (mem_append_right _ (zO hb e)))).2.1
   refine wpAny_bind (wpAny_mono (hg s3 H3 fp _ s7 σ5 H7 x u _ I7' r7 (step x H7 y7)) (λ_ s8 ⟨σ8,H8,I8,q8⟩=>?_) λ_ _ z=>z.elim);refine wpAny_bind (wpAny_mono (hf s3 H3 fp _ s8 σ8 H8 _ I8 q8) (λk s9 ⟨H9,I9,q9⟩=>?_) λ_ _ z=>z.elim);cases k with
   |false=>
    rw [if_neg Bool.false_ne_true] at q9;exact wpAny_pure ⟨rfl,again I9 q9⟩
   |true=>
    rw [if_pos rfl] at q9;refine wpAny_bind (wpAny_bind (wpAny_mono (he s3 H3 fp _ s9 σ8 H9 _ I9 q9) (λw s10 ⟨y,H10,I10,r10,q10⟩=>?_) λ_ _ z=>z.elim));obtain ⟨zs,hz,hl,q10⟩:=q10;refine wpAny_bind (wpAny_mono (JR (X:=qi X N' scope s3 H3 fp) _ s10 σ8 H10 (.ref D) [y] (.ref D) [w] (λ_ H11=>H11=upd H10 D (.lst (zs++[y]))) I10 rfl (.cons r10 .nil) ⟨D,zs,y,rfl,rfl,hz,hl,rfl⟩) (λ_ s11 ⟨_,H11,I11,_,e11⟩=>?_) λ_ _ z=>z.elim);subst e11;exact wpAny_pure (wpAny_pure ⟨rfl,again I11 q10⟩)
 exact codeAny_compStart_list loop (T.self X.A 0 _ _ _ tn4 loop)
def L5 {i:Nat} {y:Str} {py spos:Pos} {elt tg iter:Expr} {ifs:List Expr} {scope:Scope} {pos:Pos} {N':List Str} {m:List (Option Nat)} {wi:TI} {g:TG} {tif:TT} {te:TE} (hc:X.calm=true) (hN:X.N.Nodup) (hi:PI X tg iter wi)
  (hg:∀ s H fp,PG (qi X N' scope s H fp) tg g) (hf:∀ s H fp,PF (qi X N' scope s H fp) ifs tif) (he:∀ s H fp,PE (qi X N' scope s H fp) elt te)
  (hsc:LD X.env.scope scope=true) (hcap:JF X.N N' scope m=true) (hs:∀ x,foldedSetIterable iter X.env x=pure x) (hiy:X.N[i]?=some y) (hl:X.env.scope.names.lookup y=some .local)
  (hsw:swapsWith (.ListComp elt [⟨tg,iter,ifs,0⟩] scope pos) (some (.Name y py)) spos.line X.env=pure true) :
  PS X (.Assign [.Name y py] (.ListComp elt [⟨tg,iter,ifs,0⟩] scope pos) spos) (qkB (tLC wi g tif te m) (qc3 i)):=by
 intro pins s σ H D I h;rw [exec_Assign_Name_used _ _ _ _ hsw];refine wpAny_bind (wpAny_standAt (wpAny_bind ?_));show wpAny _ X.A (do let _←comprehension (.ListComp elt [⟨tg,iter,ifs,0⟩] scope pos) scope X.env _ (newList []) false (eval iter X.env) (some (assign (.Name y py) X.env))) _ _ s;refine wpAny_bind (wpAny_mono (qbS (use:=some (assign (.Name y py) X.env)) (QD:=λD' H'=>D.nx (σ.set i (some (.ref D'))) H') (Qc:=λ_ s'=>∃ σ' H',Inv X pins σ' H' s'/\D.nx σ' H') hc hi hg hf he hsc hcap hs I h λD' s3 H3 fp s6 H6 σ6 r I3 f3 I6 q=>?_) (λ_ s' hq=>wpAny_pure (wpAny_pure hq)) λ_ _ e=>e);have I7:Inv X pins σ H6 s6:=VS (h2:=s6.heap) I3 f3 I6 ⟨rfl,λ_ _=>rfl⟩;obtain ⟨mm,hn6,_⟩:=I6.loc;have hfC:WP X pins H6 s3.heap.objs.size:=I3.fpOk (Nat.le_refl _) I6.free;obtain ⟨f0,f1,f2,f3',f4,f5⟩:=hfC;show wpAny _ X.A (assign (.Name y py) X.env (.ref D')) _ _ _;refine wpAny_assign_Name (UX I7 hN hiy (.inl hl) (v:=.ref D') rfl (λs8 I8 hch=>?_) (.inr hl));obtain ⟨a,sb,ha⟩:=hch;have hne:s3.heap.objs.size≠a:=by
  rcases ha with rfl|ha
  ·exact f1
  ·exact Ne.symm (f4 _ _ ha)
 refine ⟨mm,hn6.sameBut sb hne,λh' sb'=>⟨_,_,I8.turned (t':=s8.toks) (λb o hb e=>(sb'.2 b hb).trans e) f0 f1 f3' f4 f5,q⟩⟩
end
def qiP {K:Frg} {m:List (Option Nat)} {wi:TI3} {g:TG3} {tif:TT3} {te:TE3} {σ:L2.St} {H:Hp} {Q:VK} (hh:lE K (lc3 wi g tif te m) σ H Q):tLC (lI K wi) (lG K g) (lT K tif) (lE K te) m σ H Q:=by
  obtain ⟨τ,G,q,rl,h,af⟩:=hh;refine ⟨τ,G,_,rl,h,λitems stay G1 h1 J H1 hr1 k1 ok D hD=>?_⟩;have gD:G1 D=none:=hr1.free hD;refine ⟨λi n σ' H'=>n=items.length-i/\i<=items.length/\∃ τ' G' ys vs,Rel K τ' G' σ' H'/\Kp G1 H1 G' H'/\H' D=some (.lst vs)/\Rps K H' ys vs/\G' D=none/\KO stay g tif te q (items.drop i) ys τ' G',
   ⟨_,rfl,Nat.zero_le _,cap m τ,G1,[],[],((rl.next hr1 k1).cap m).next (hr1.laid hD) (Kp.laid hD),Kp.laid hD,qz,.nil,gD,by simpa using h1⟩,?_⟩
  rintro i n σ' H' ⟨rfl,hi,τ',G',ys,vs,rl',k',hDl,rys,gD',h'⟩;by_cases hlt:i<items.length
  ·rw [List.drop_eq_getElem_cons hlt] at h';obtain ⟨hst,h'⟩:=h';obtain ⟨go,yld,_⟩:=ok G' H' rl'.hp k' hst;have hx:items[i]?=some items[i]:=getElem?_eq_getElem hlt;refine .inr ⟨go i _ hx,λv H2 y=>?_⟩;obtain ⟨rv,hr2,k2⟩:=yld i _ v H2 hx y;have nxt:∀ {τ4:St3} {G4:Gp} {σ4:L2.St} {H4:Hp} {ys4:List T} {vs4:List V},Rel K τ4 G4 σ4 H4->Kp G1 H1 G4 H4->H4 D=some (.lst vs4)->Rps K H4 ys4 vs4->G4 D=none->KO stay g tif te q (items.drop (i+1)) ys4 τ4 G4 ->
     ∃ n',n'<items.length-i/\(n'=items.length-(i+1)/\i+1<=items.length/\∃ τ' G' ys vs,Rel K τ' G' σ4 H4/\Kp G1 H1 G' H4/\H4 D=some (.lst vs)/\Rps K H4 ys vs/\G' D=none/\KO stay g tif te q (items.drop (i+1)) ys τ' G'):=
    λ{τ4 G4 σ4 H4 ys4 vs4} a b c d e f=>⟨_,by omega,rfl,hlt,τ4,G4,ys4,vs4,a,b,c,d,e,f⟩
   refine ⟨_,τ',G',_,rv,rl'.next hr2 k2,h',λτ3 G3 h3 σ3 H3 rl3 k3=>⟨τ3,G3,_,rl3,h3,λk G4 h4 H4 hr4 k4=>?_⟩⟩;have kk:=(k2.trans k3).trans k4;obtain ⟨hD4,gD4⟩:=kk D _ hDl gD';have rys4:=rys.keep rl'.hp kk;cases k with
   |false=>
    rw [if_neg Bool.false_ne_true] at h4;refine qkR ?_;exact nxt (rl3.next hr4 k4) (k'.trans kk) hD4 rys4 gD4 h4
   |true=>
    rw [if_pos rfl] at h4;refine qla ?_;refine ⟨τ3,G4,_,rl3.next hr4 k4,h4,λz G5 h5 w H5 rw5 hr5 k5=>?_⟩;obtain ⟨hD5,gD5⟩:=k5 D _ hD4 gD4;have rys5:=rys4.keep hr4 k5;exact ⟨vs,hD5,by rw [← rys.length];exact h5.1,nxt (((rl3.next hr4 k4).next hr5 k5).wrD hD5 gD5) (((k'.trans kk).trans k5).wrD hD) qz ((rys5.append (.cons rw5 .nil)).wrD hD5) gD5 h5.2⟩
  ·have e:i=items.length:=by omega
   subst e;rw [List.drop_length] at h';obtain ⟨_,_,stop⟩:=ok G' H' rl'.hp k' h'.1;refine .inl ⟨stop,af _ _ (h'.2 D gD') _ H' (.ref D) (λa o e=>?_) λa o e ga=>?_⟩
   ·by_cases ha:a=D
    ·subst ha;rw [qC] at e;cases e;exact ⟨vs,hDl,rys⟩
    ·rw [je ha] at e;exact rl'.hp a o e
   ·obtain ⟨e1,g1⟩:=k1 a o e ga;obtain ⟨e2,g2⟩:=k' a o e1 g1;exact ⟨e2,by rw [je (qo e1 hD)];exact g2⟩
def qcz {X:Cx} {py spos:Pos} {elt tg iter:Expr} {ifs:List Expr} {scope:Scope} {pos:Pos} {y:Str} (i:Nat) (N':List Str) (m:List (Option Nat)) {wi:TI3} {g:TG3} {tif:TT3} {te:TE3} (hc:X.calm=true) (hN:X.N.Nodup) (hi:I3 X tg iter wi)
  (hg:∀ s H fp,G3 (qi X N' scope s H fp) tg g) (hf:∀ s H fp,F3 (qi X N' scope s H fp) ifs tif) (he:∀ s H fp,E3 (qi X N' scope s H fp) elt te)
  (hsc:LD X.env.scope scope=true) (hcap:JF X.N N' scope m=true) (hl:X.env.scope.names.lookup y=some .local) (hsw:swapsWith (.ListComp elt [⟨tg,iter,ifs,0⟩] scope pos) (some (.Name y py)) spos.line X.env=pure true) (hiy:X.N[i]?=some y:=by rfl) (hs:∀ x,foldedSetIterable iter X.env x=pure x:=by intro _;rfl) :
  S3 X (.Assign [.Name y py] (.ListComp elt [⟨tg,iter,ifs,0⟩] scope pos) spos) (zG (lc3 wi g tif te m) (gn3 i)):=
 CI (L5 (g:=lG X.K g) (tif:=lT X.K tif) (te:=lE X.K te) hc hN hi hg hf he hsc hcap hs hiy hl hsw) λ_ σ H ⟨τ,G,d,rl,h,af⟩=>
  qiP ⟨τ,G,_,rl,h,λx G1 h1 v H1 rx hr1 k1=>af.nx _ G1 h1 _ H1 ((rl.next hr1 k1).set i rx) k1⟩
end L3
set_option autoImplicit true
namespace L3
open PySem PySem.Spec PyProof.Rows L2
structure jE3 (X:Cx) (e:Expr) (t:TE3):Prop where h:E3 X e t
structure jC3 (X:Cx) (e:Expr) (t:TT3):Prop where h:C3 X e t
structure jW3 (X:Cx) (e:Expr) (t:TT3):Prop where h:W3 X e t
structure jA3 (X:Cx) (e:List Expr) (t:TA3):Prop where h:A3 X e t
structure jP3 (X:Cx) (e:Option Expr) (t:TO3):Prop where h:P3 X e t
structure jS3 (X:Cx) (e:Stmt) (t:TS3):Prop where h:S3 X e t
structure jB3 (X:Cx) (e:List Stmt) (t:TS3):Prop where h:B3 X e t
structure jG3 (X:Cx) (e:Expr) (t:TG3):Prop where h:G3 X e t
structure jGs3 (X:Cx) (e:List Expr) (t:DB):Prop where h:Gs3 X e t
structure jI3 (X:Cx) (tg e:Expr) (t:TI3):Prop where h:I3 X tg e t
structure jF3 (X:Cx) (e:List Expr) (t:TT3):Prop where h:F3 X e t
def qb {X:Cx} (i:Nat) {x:Str} {pos:Pos} (hN:X.N[i]?=some x:=by rfl) (hv:Vis X.env.scope x:=by first|exact Or.inl rfl|exact Or.inr (Or.inl rfl)|exact Or.inr (Or.inr rfl)) (hd:(x==("__debug__" : Str))=false:=by decide)
  (hcd:(x==("__classdict__" : Str))=false:=by decide):jE3 X (.Name x pos) (v3 i):=
 ⟨qj3 (i:=i) (hN:=hN) (hv:=hv) (hd:=hd) (hcd:=hcd)⟩
def qe {X:Cx} {i:Int} {j pos}:jE3 X (.Constant (.int i) j pos) (c3 (.int i)):=
 ⟨qkE ⟩
def YY {X:Cx} {b:Bool} {j pos}:jE3 X (.Constant (.bool b) j pos) (c3 (.bl b)):=
 ⟨qlC ⟩
def JB {X:Cx} {j pos}:jE3 X (.Constant .none j pos) (c3 .non):=
 ⟨qiK ⟩
def W7 {X:Cx} {x:Str} {j pos}:jE3 X (.Constant (.str x) j pos) (c3 (.str x)):=
 ⟨qjC ⟩
def WY {ta:TE3} {tb:TE3} {pos:Pos} {a:Expr} {b:Expr} {X:Cx} {op:CmpOp} {r3:R3} {r:R2} (ho:OpR X (compareOp op) r) (hr:EK X.K r3 r) (ha:jE3 X a ta) (hb:jE3 X b tb) (hm:behindInMarks op b=false):jE3 X (.Compare a [op] [b] pos) (o3 r3 ta tb):=
 ⟨qjm (ho:=ho) (hr:=hr) (ha:=ha.h) (hb:=hb.h) (hm:=hm)⟩
def zd {ta:TE3} {tb:TE3} {pos:Pos} {a:Expr} {b:Expr} {X:Cx} {op:CmpOp} {r3:R3} {r:R2} (ho:OpR X (compareOp op) r) (hr:EK X.K r3 r) (ha:jE3 X a ta) (hb:jE3 X b tb) (hm:behindInMarks op b=false):jC3 X (.Compare a [op] [b] pos) (tb3 (o3 r3 ta tb)):=
 ⟨qjg (ho:=ho) (hr:=hr) (ha:=ha.h) (hb:=hb.h) (hm:=hm)⟩
def qd5 {ta:TE3} {tb:TE3} {pos:Pos} {a:Expr} {b:Expr} {X:Cx} (ha:jE3 X a ta) (hb:jE3 X b tb):jE3 X (.BinOp a .Sub b pos) (o3 (iI (·-·)) ta tb):=
 ⟨qkj (ha:=ha.h) (hb:=hb.h)⟩
def J3 {ta:TE3} {tb:TE3} {pos:Pos} {a:Expr} {b:Expr} {X:Cx} (ha:jE3 X a ta) (hb:jE3 X b tb):jE3 X (.BinOp a .Mult b pos) (o3 (iC UP (·*·)) ta tb):=
 ⟨qkd (ha:=ha.h) (hb:=hb.h)⟩
def Z5 {ta:TE3} {tb:TE3} {pos:Pos} {a:Expr} {b:Expr} {X:Cx} (ha:jE3 X a ta) (hb:jE3 X b tb):jE3 X (.BinOp a .Mod b pos) (o3 (iC (λ_ j=>0<j) (·%·)) ta tb):=
 ⟨qiI (ha:=ha.h) (hb:=hb.h)⟩
def VX {ta:TE3} {tb:TE3} {pos:Pos} {a:Expr} {b:Expr} {X:Cx} (ha:jE3 X a ta) (hb:jE3 X b tb):jE3 X (.BinOp a .FloorDiv b pos) (o3 (iC EB (·/·)) ta tb):=
 ⟨qjx (ha:=ha.h) (hb:=hb.h)⟩
def qfv {ta:TE3} {tb:TE3} {pos:Pos} {a:Expr} {b:Expr} {X:Cx} (ha:jE3 X a ta) (hb:jE3 X b tb):jE3 X (.BinOp a .Pow b pos) (o3 (iC qf4 (λi j=>i ^ j.toNat)) ta tb):=
 ⟨qi8 (ha:=ha.h) (hb:=hb.h)⟩
def TW {ta:TE3} {tb:TE3} {pos:Pos} {a:Expr} {b:Expr} {X:Cx} (ha:jE3 X a ta) (hb:jE3 X b tb):jE3 X (.BinOp a .BitXor b pos) (o3 (iI Builtin.bitXor) ta tb):=
 ⟨qkl (ha:=ha.h) (hb:=hb.h)⟩
def qa4 {ta:TE3} {pos:Pos} {a:Expr} {X:Cx} (ha:jE3 X a ta):jE3 X (.UnaryOp .USub a pos) (u3 qdl ta):=
 ⟨qiW (ha:=ha.h)⟩
def SX {tA:TT3} {pos:Pos} {a:Expr} {X:Cx} (ha:jC3 X a tA):jW3 X (.BoolOp .Or [a] pos) tA:=
 ⟨qjh (ha:=ha.h)⟩
def MK {QR:List Expr} {tA:TT3} {tB:TT3} {pos:Pos} {a:Expr} {X:Cx} (ha:jC3 X a tA) (hb:jW3 X (.BoolOp .Or (b::QR) pos) tB):jW3 X (.BoolOp .Or (a::b::QR) pos) (or3 tA tB):=
 ⟨qlZ (ha:=ha.h) (hb:=hb.h)⟩
def YI {tA:TT3} {pos:Pos} {a:Expr} {X:Cx} (ha:jC3 X a tA):jC3 X (.UnaryOp .Not a pos) (CO tA):=
 ⟨qkb (ha:=ha.h)⟩
def Q7 {X:Cx} {e:Expr} {t:TE3} (h:jE3 X e t) (he:∀ whole,isTrue e X.env whole=(do let v←whole;standAt e.pos;holding [v] (truthy v)):=by intro _;rfl):jC3 X e (tb3 t):=
 ⟨qiL (h:=h.h) (he:=he)⟩
def RA {ta:TE3} {pos:Pos} {a:Expr} {X:Cx} {op} (h:jE3 X a ta):jE3 X (.BoolOp op [a] pos) ta:=
 ⟨qiw (h:=h.h)⟩
def CK {QR:List Expr} {ta:TE3} {tb:TE3} {pos:Pos} {a:Expr} {X:Cx} (ha:jE3 X a ta) (hb:jE3 X (.BoolOp .And (b::QR) pos) tb):jE3 X (.BoolOp .And (a::b::QR) pos) (CA ta tb):=
 ⟨qjG (ha:=ha.h) (hb:=hb.h)⟩
def qaE {ta:TE3} {pos:Pos} {a:Expr} {X:Cx} (ha:jE3 X a ta):jE3 X (.UnaryOp .Not a pos) (C8 ta):=
 ⟨qi0 (ha:=ha.h)⟩
def qcF {tA:TT3} {ta:TE3} {tb:TE3} {pos:Pos} {a:Expr} {b:Expr} {X:Cx} {c:Expr} (hc:jC3 X c tA) (ha:jE3 X a ta) (hb:jE3 X b tb):jE3 X (.IfExp c a b pos) (if3 tA ta tb):=
 ⟨qlI (hc:=hc.h) (ha:=ha.h) (hb:=hb.h)⟩
def qd {X:Cx} :jA3 X [] qk:=
 ⟨qjD ⟩
def qa {te:TE3} {t:TA3} {es:List Expr} {X:Cx} (ha:jE3 X e te) (hr:jA3 X es t) (hs:starEach (e::es) X.env=(false,eval e X.env)::starEach es X.env:=by rfl):jA3 X (e::es) (qc te t):=
 ⟨qeI (ha:=ha.h) (hr:=hr.h) (hs:=hs)⟩
def zY {t:TA3} {pos:Pos} {es:List Expr} {X:Cx} {x1} (h:jA3 X es t):jE3 X (.Tuple es x1 pos) (YT t):=
 ⟨qkn (h:=h.h)⟩
def VC {t:TA3} {pos:Pos} {es:List Expr} {X:Cx} (h:jA3 X es t):jE3 X (.List es pos) (KM t):=
 ⟨qkG (h:=h.h)⟩
def qp {t:TA3} {pos:Pos} {es:List Expr} {X:Cx} {x:Str} {p:Pos} {id:String} {r3:List T->Gp->Q3->Prop} {r:List V->Hp->VK->Prop} (hc:QN X (.builtin id) r) (hr:X4 X.K r3 r) (hg:Gl X x) (hm:X.mg x=none) (hv:bootBuiltins x=some (.builtin id)) (ha:jA3 X (e::es) t) (hn:x≠"__name__" := by decide) (hdb:(x==("__debug__" : Str))=false:=by decide)
  (he:starEach (e::es) X.env=(false,eval e X.env)::starEach es X.env:=by rfl) (hpl:(backTo pos (starEach es X.env)).any (·.1)=false:=by rfl):jE3 X (.Call (.Name x p) (e::es) [] pos) (cb3 r3 t):=
 ⟨qci (hc:=hc) (hr:=hr) (hg:=hg) (hm:=hm) (hv:=hv) (ha:=ha.h) (hn:=hn) (hdb:=hdb) (he:=he) (hpl:=hpl)⟩
def zj {t:TA3} {pos:Pos} {es:List Expr} {X:Cx} {x:Str} {p:Pos} {ty:String} {r3:List T->Gp->Q3->Prop} {r:List V->Hp->VK->Prop} (hc:QN X (.type ty) r) (hr:X4 X.K r3 r) (hg:Gl X x) (hm:X.mg x=none) (hv:bootBuiltins x=some (.type ty)) (ha:jA3 X (e::es) t) (hn:x≠"__name__" := by decide) (hdb:(x==("__debug__" : Str))=false:=by decide)
  (he:starEach (e::es) X.env=(false,eval e X.env)::starEach es X.env:=by rfl) (hpl:(backTo pos (starEach es X.env)).any (·.1)=false:=by rfl):jE3 X (.Call (.Name x p) (e::es) [] pos) (cb3 r3 t):=
 ⟨MH (hc:=hc) (hr:=hr) (hg:=hg) (hm:=hm) (hv:=hv) (ha:=ha.h) (hn:=hn) (hdb:=hdb) (he:=he) (hpl:=hpl)⟩
def zH {ta:TE3} {tb:TE3} {pos:Pos} {a:Expr} {b:Expr} {X:Cx} (ha:jE3 X a ta) (hb:jE3 X b tb) (hs:DW b:=by intro _ _;rfl):jE3 X (.Subscript a b pos) (o3 ix3 ta tb):=
 ⟨qlY (ha:=ha.h) (hb:=hb.h) (hs:=hs)⟩
def QT {X:Cx} :jP3 X none np3:=
 ⟨qhE ⟩
def jO {te:TE3} {e:Expr} {X:Cx} (h:jE3 X e te):jP3 X (some e) (sp3 te):=
 ⟨qfN (h:=h.h)⟩
def zT {ta:TE3} {tb:TE3} {pos:Pos} {a:Expr} {b:Expr} {X:Cx} (ha:jE3 X a ta) (hb:jE3 X b tb):jE3 X (.BinOp a .Add b pos) (o3 JE ta tb):=
 ⟨qfu (ha:=ha.h) (hb:=hb.h)⟩
def RG {t:TA3} {e:Expr} {X:Cx} {o:Expr} {to:TE3} {apos cpos:Pos} (ho:jE3 X o to) (ha:jA3 X [e] t)
  (hbase:attributeBase o "append" X.env (eval o X.env)=eval o X.env:=by rfl)
  (hfew:((backTo cpos (starEach [e] X.env)).all (λx=>!x.1)&&(backToKw cpos (keywordEach [] X.env)).all (λx=>x.1.isSome)
   && decide (([e]:List Expr).length+([]:List Keyword).length+(if ([]:List Keyword).isEmpty then 0 else 1)<30))=true:=by rfl)
  (hline:(apos.endLine==cpos.line)=true:=by rfl) (hs:starEach [e] X.env=(false,eval e X.env)::starEach [] X.env:=by rfl) (hplain:(backTo cpos (starEach [] X.env)).any (·.1)=false:=by rfl):jE3 X (.Call (.Attribute o "append" apos) [e] [] cpos) (bm3 qbU to t):=
 ⟨KQ (ho:=ho.h) (ha:=ha.h) (hbase:=hbase) (hfew:=hfew) (hline:=hline) (hs:=hs) (hplain:=hplain)⟩
def YG {te:TE3} {pos:Pos} {e:Expr} {X:Cx} {tn:Str} {ty:String} {p p2:Pos} (he:jE3 X e te) (hg:Gl X "isinstance") (hm:X.mg "isinstance" = none) (hg2:Gl X tn) (hm2:X.mg tn=none) (hv:bootBuiltins tn=some (.type ty)) (hmem:ty∈DT:=by decide) (hn:tn≠"__name__" := by decide) (hdb:(tn==("__debug__" : Str))=false:=by decide)
  (hs:starEach [e,.Name tn p2] X.env=(false,eval e X.env)::starEach [.Name tn p2] X.env:=by rfl) (hs2:starEach [.Name tn p2] X.env=(false,eval (.Name tn p2) X.env)::starEach [] X.env:=by rfl) (hpl:(backTo pos (starEach [.Name tn p2] X.env)).any (·.1)=false:=by rfl):jE3 X (.Call (.Name "isinstance" p) [e,.Name tn p2] [] pos) (KN (λt=>jb t ty) te):=
 ⟨qif (he:=he.h) (hg:=hg) (hm:=hm) (hg2:=hg2) (hm2:=hm2) (hv:=hv) (hmem:=hmem) (hn:=hn) (hdb:=hdb) (hs:=hs) (hs2:=hs2) (hpl:=hpl)⟩
def zg {X:Cx} :jB3 X [] zf:=
 ⟨qiR ⟩
def qh {QR:List Stmt} {st:Stmt} {t1:TS3} {t2:TS3} {X:Cx} (h1:jS3 X st t1) (h2:jB3 X QR t2):jB3 X (st::QR) (qU t1 t2):=
 ⟨qhz (h1:=h1.h) (h2:=h2.h)⟩
def qm {st:Stmt} {t1:TS3} {X:Cx} (h1:jS3 X st t1):jB3 X [st] t1:=
 ⟨qkv (h1:=h1.h)⟩
def qbJ {te:TE3} {pos:Pos} {e:Expr} {X:Cx} (he:jE3 X e te) (hs:swapsWith e none pos.line X.env=pure false:=by rfl):jS3 X (.Expr e pos) (CP te):=
 ⟨qg6 (he:=he.h) (hs:=hs)⟩
def qu {te:TE3} {pos:Pos} {e:Expr} {X:Cx} (he:jE3 X e te):jS3 X (.Return (some e) pos) (zI te):=
 ⟨qkp (he:=he.h)⟩
def jE {tA:TT3} {t1:TS3} {t2:TS3} {pos:Pos} {X:Cx} {c:Expr} {ba bb:List Stmt} (hc:jC3 X c tA) (ha:jB3 X ba t1) (hb:jB3 X bb t2):jS3 X (.If c ba bb pos) (ZF tA t1 t2):=
 ⟨qlx (hc:=hc.h) (ha:=ha.h) (hb:=hb.h)⟩
def W1 {X:Cx} {sts:List Stmt}:jB3 X sts qdg:=
 ⟨qc4 ⟩
def jh {pos:Pos} {X:Cx} {i:Nat} {x:Str} (hN:X.N.Nodup) (hi:X.N[i]?=some x:=by rfl) (hx:Loc X.env.scope x:=by first|exact Or.inl rfl|exact Or.inr rfl) (hf:X.fn x=true\/X.env.scope.names.lookup x=some .local:=by first|exact .inl rfl|exact .inr rfl):jG3 X (.Name x pos) (gn3 i):=
 ⟨qdU (hN:=hN) (hi:=hi) (hx:=hx) (hf:=hf)⟩
def W6 {X:Cx} :jGs3 X [] U2:=
 ⟨qjK ⟩
def jV {es:List Expr} {X:Cx} {tg:TG3} {tgs:DB} (h1:jG3 X e tg) (h2:jGs3 X es tgs) (hs:(assignEach (e::es) X.env).map (·.2)=assign e X.env::(assignEach es X.env).map (·.2):=by rfl):jGs3 X (e::es) (jS tg tgs):=
 ⟨qgf (h1:=h1.h) (h2:=h2.h) (hs:=hs)⟩
def WX {pos:Pos} {es:List Expr} {X:Cx} {k:Nat} {tgs:DB} {n:Nat} (hc:X.calm=true) (h:jGs3 X es tgs) (hn:(assignEach es X.env).length=n:=by rfl) (hst:(assignEach es X.env).findIdx? (·.1)=none:=by rfl):jG3 X (.Tuple es k pos) (U3 n tgs):=
 ⟨qi5 (hc:=hc) (h:=h.h) (hn:=hn) (hst:=hst)⟩
def XQ {pos : Pos} {X : Cx} {o i : Expr} {to ti : TE3} (ho : jE3 X o to) (hi : jE3 X i ti) (ha : ∀ v,assign (.Subscript o i pos) X.env v = (do
      let ov←holding [v] (eval o X.env)
      let iv←holding [v,ov] (eval i X.env)
      standAt pos
      holding [v,ov,iv] (setItem ov iv v)
      release [v,ov,iv] []):=by intro _;rfl):jG3 X (.Subscript o i pos) (Z4 to ti):=
  ⟨qj2 (ho:=ho.h) (hi:=hi.h) (ha:=ha)⟩
def VB {te:TE3} {pos:Pos} {X:Cx} {tg e:Expr} {g:TG3} (he:jE3 X e te) (hg:jG3 X tg g) (hs:swapsWithSole [tg] e pos.line X.env=pure false:=by rfl) (hw:swappedStores [tg] e X.env=pure none:=by rfl)
  (h1:(assignEach [tg] X.env).map (·.2)=[assign tg X.env]:=by rfl):jS3 X (.Assign [tg] e pos) (zG te g):=
 ⟨qjs (he:=he.h) (hg:=hg.h) (hs:=hs) (hw:=hw) (h1:=h1)⟩
def qZ {te:TE3} {pos:Pos} {X:Cx} (i:Nat) {x:Str} {e:Expr} {pos':Pos} (hN:X.N.Nodup) (he:jE3 X e te) (hi:X.N[i]?=some x:=by rfl) (hx:Loc X.env.scope x:=by first|exact Or.inl rfl|exact Or.inr rfl) (hs:swapsWith e (some (.Name x pos')) pos.line X.env=pure false:=by rfl) (hf:X.fn x=true\/X.env.scope.names.lookup x=some .local:=by first|exact .inl rfl|exact .inr rfl):jS3 X (.Assign [.Name x pos'] e pos) (zG te (gn3 i)):=
 ⟨qiD (i:=i) (hN:=hN) (he:=he.h) (hi:=hi) (hx:=hx) (hs:=hs) (hf:=hf)⟩
def T4 {pos:Pos} {X:Cx} {i j:Nat} {x y:Str} {a b:Expr} {tt:TA3} {px py pt:Pos} {kt k2 pt2} (hc:X.calm=true) (hN:X.N.Nodup) (hi:X.N[i]?=some x) (hj:X.N[j]?=some y) (hij:i≠j)
  (hx:X.env.scope.names.lookup x=some .local) (hy:X.env.scope.names.lookup y=some .local) (ha:jA3 X [a,b] tt)
  (hw:swappedStores [.Tuple [.Name x px,.Name y py] kt pt] (.Tuple [a,b] k2 pt2) X.env=pure (some [x,y]):=by rfl)
  (hs:swapsWithSole [.Tuple [.Name x px,.Name y py] kt pt] (.Tuple [a,b] k2 pt2) pos.line X.env=pure false:=by rfl):jS3 X (.Assign [.Tuple [.Name x px,.Name y py] kt pt] (.Tuple [a,b] k2 pt2) pos) (M9 i j tt):=
 ⟨qj6 (hc:=hc) (hN:=hN) (hi:=hi) (hj:=hj) (hij:=hij) (hx:=hx) (hy:=hy) (ha:=ha.h) (hw:=hw) (hs:=hs)⟩
def EY {te:TE3} {X:Cx} {tg:Expr} {l:Expr} (hl:jE3 X l te):jI3 X tg l (V9 te):=
 ⟨qkF (hl:=hl.h)⟩
def jt {t:TA3} {pos:Pos} {a:Expr} {X:Cx} {tg:Expr} {p:Pos} (hg:Gl X "range") (hm:X.mg "range" = none) (ha:jA3 X [a] t) (hs:starEach [a] X.env=[(false,eval a X.env)]:=by rfl) (h1:∀ τ G q,t τ G q->t τ G λxs G=>q xs G/\xs.length=1):jI3 X tg (.Call (.Name "range" p) [a] [] pos) (ZU t):=
 ⟨K5 (hg:=hg) (hm:=hm) (ha:=ha.h) (hs:=hs) (h1:=h1)⟩
def EI {pos:Pos} {X:Cx} {tg:Expr} {iter:Expr} {body:List Stmt} {wi:TI3} {g:TG3} {tb:TS3} (hp:PassesOwn (model X.prog X.w) X.A X.env X.xe) (hc:X.calm=true) (hi:jI3 X tg iter wi) (hg:jG3 X tg g) (hb:jB3 X body tb)
  (hs:∀ x,foldedSetIterable iter X.env x=pure x:=by intro _;rfl):jS3 X (.For tg iter body [] pos) (X2 wi g tb):=
 ⟨qkr (hp:=hp) (hc:=hc) (hi:=hi.h) (hg:=hg.h) (hb:=hb.h) (hs:=hs)⟩
def LN {pos:Pos} {X:Cx} {c:Expr} {body:List Stmt} {tc:TT3} {tb:TS3} (hp:PassesOwn (model X.prog X.w) X.A X.env X.xe) (hc:jC3 X c tc) (hb:jB3 X body tb):jS3 X (.While c body [] pos) (WI tc tb):=
 ⟨qbA (hp:=hp) (hc:=hc.h) (hb:=hb.h)⟩
def qq {t:TA3} {pos:Pos} {es:List Expr} {X:Cx} {k:Nat} {x:Str} {p:Pos} {sp:Sp3} (F:Fn3 X.prog X.w X.K X.mg X.base k x sp) (hr:Room k X.A) (hg:Gl X x) (ha:jA3 X (e::es) t) (hdb:(x==("__debug__" : Str))=false:=by decide)
  (he:starEach (e::es) X.env=(false,eval e X.env)::starEach es X.env:=by rfl) (hpl:(backTo pos (starEach es X.env)).any (·.1)=false:=by rfl):jE3 X (.Call (.Name x p) (e::es) [] pos) (cb3 sp t):=
 ⟨qfk (F:=F) (hr:=hr) (hg:=hg) (ha:=ha.h) (hdb:=hdb) (he:=he) (hpl:=hpl)⟩
def WD {X:Cx} {elt tg iter:Expr} {ifs:List Expr} {scope:Scope} {pos:Pos} (N':List Str) (m:List (Option Nat)) {wi:TI3} {g:TG3} {tif:TT3} {te:TE3} (hc:X.calm=true) (hi:jI3 X tg iter wi)
  (hg:∀ s H fp,jG3 (qi X N' scope s H fp) tg g) (hf:∀ s H fp,jF3 (qi X N' scope s H fp) ifs tif) (he:∀ s H fp,jE3 (qi X N' scope s H fp) elt te)
  (hsc:LD X.env.scope scope=true) (hcap:JF X.N N' scope m=true) (hs:∀ x,foldedSetIterable iter X.env x=pure x:=by intro _;rfl):jE3 X (.ListComp elt [⟨tg,iter,ifs,0⟩] scope pos) (lc3 wi g tif te m):=
 ⟨qlW (N':=N') (m:=m) (hc:=hc) (hi:=hi.h) (hg:=(λs H fp=>(hg s H fp).h)) (hf:=(λs H fp=>(hf s H fp).h)) (he:=(λs H fp=>(he s H fp).h)) (hsc:=hsc) (hcap:=hcap) (hs:=hs)⟩
def JV {X:Cx}:jF3 X [] tt3:=
 ⟨qiM ⟩
def N9 {X:Cx} {c:Expr} {t:TT3} (h:jC3 X c t):jF3 X [c] t:=
 ⟨qjQ (h:=h.h)⟩
def qa3 {t:TA3} {pos:Pos} {es:List Expr} {a:Expr} {b:Expr} {X:Cx} {p pt:Pos} {k1:Nat} (hg:Gl X "zip") (hm:X.mg "zip" = none) (ha:jA3 X [a,b] t) (hs:starEach [a,b] X.env=[(false,eval a X.env),(false,eval b X.env)]:=by rfl) (hs2:starEach [b] X.env=[(false,eval b X.env)]:=by rfl):jI3 X (.Tuple es k1 pt) (.Call (.Name "zip" p) [a,b] [] pos) (KI t):=
 ⟨qkA (hg:=hg) (hm:=hm) (ha:=ha.h) (hs:=hs) (hs2:=hs2)⟩
def XG {X:Cx} {py spos:Pos} {elt tg iter:Expr} {ifs:List Expr} {scope:Scope} {pos:Pos} {y:Str} (i:Nat) (N':List Str) (m:List (Option Nat)) {wi:TI3} {g:TG3} {tif:TT3} {te:TE3} (hc:X.calm=true) (hN:X.N.Nodup) (hi:jI3 X tg iter wi)
  (hg:∀ s H fp,jG3 (qi X N' scope s H fp) tg g) (hf:∀ s H fp,jF3 (qi X N' scope s H fp) ifs tif) (he:∀ s H fp,jE3 (qi X N' scope s H fp) elt te)
  (hsc:LD X.env.scope scope=true) (hcap:JF X.N N' scope m=true) (hl:X.env.scope.names.lookup y=some .local) (hsw:swapsWith (.ListComp elt [⟨tg,iter,ifs,0⟩] scope pos) (some (.Name y py)) spos.line X.env=pure true) (hiy:X.N[i]?=some y:=by rfl) (hs:∀ x,foldedSetIterable iter X.env x=pure x:=by intro _;rfl):jS3 X (.Assign [.Name y py] (.ListComp elt [⟨tg,iter,ifs,0⟩] scope pos) spos) (zG (lc3 wi g tif te m) (gn3 i)):=
 ⟨qcz (i:=i) (N':=N') (m:=m) (hc:=hc) (hN:=hN) (hi:=hi.h) (hg:=(λs H fp=>(hg s H fp).h)) (hf:=(λs H fp=>(hf s H fp).h)) (he:=(λs H fp=>(he s H fp).h)) (hsc:=hsc) (hcap:=hcap) (hl:=hl) (hsw:=hsw) (hiy:=hiy) (hs:=hs)⟩
def jpt {X:Cx} {e:Expr} {t:TT3} (h:jW3 X e t):jC3 X e t:=⟨PW.pt h.h⟩
def zk {P:Program} {w:World} {K:Frg} {mg:Str->Option Value} {base:Heap} {x qual:Str} {st:Stmt} {f:Addr} {fd:FuncData} {N ps:List Str} {k:Nat} {sp:Sp3} {t3:TS3} (F:Fun K x qual st f fd) (S:FnScope N ps (qf st)) (bd:zz K fd ps []) (hm:mg x=some (.ref f))
  (body:∀ (cdv:Value) (A:Around) (outer:List Env) (s:Shared) (H:Hp) (E:XK),Room k (A.deeper (envOfC qual (qf st) s.heap.objs.size f cdv)) ->
   jB3 (JC CX0 P w K mg base N qual (qf st) f cdv A outer s H E).nox (qH st) t3)
  (read:∀ ts G q,sp ts G q->ts.length=ps.length/\t3 { nx:=λ_ G'=>q .non G',rt:=q } (ql N ts) G):Fn3 P w K mg base (k+1) x sp:=
 qgM F S bd hm (λcdv A outer s H E hr=>(body cdv A outer s H E hr).h) read
def LB {P:Program} {w:World} {K:Frg} {mg:Str->Option Value} {base:Heap} {x qual:Str} {st:Stmt} {f:Addr} {fd:FuncData} {N ps:List Str} {k:Nat} {sp:Sp3} {t3:TS3} (F:Fun K x qual st f fd) (S:FnScope N ps (qf st))
  (body:∀ (cdv:Value) (A:Around) (outer:List Env) (s:Shared) (H:Hp) (E:XK),Room k (A.deeper (envOfC qual (qf st) s.heap.objs.size f cdv)) ->
   jB3 (JC CX0 P w K mg base N qual (qf st) f cdv A outer s H E).nox (qH st) t3)
  (read:∀ ts G q,sp ts G q->ts.length=ps.length/\t3 { nx:=λ_ G'=>q .non G',rt:=q } (ql N ts) G):FnOk P w K mg base CX0 (k+1) f fd ps (lSp K sp):=
 qcm F S (λcdv A outer s H E hr=>(body cdv A outer s H E hr).h) read
open PySem.SeqAt
def Ex (G G':Gp):Prop:=∀ b o,G b=some o->G' b=some o
def Ex.refl {G:Gp}:Ex G G:=λ_ _ e=>e
def Ex.trans {G G1 G2:Gp} (a:Ex G G1) (b:Ex G1 G2):Ex G G2:=λx o e=>b x o (a x o e)
def jn {G:Gp} {p:Addr} {o:O} (hp:G p=none):Ex G (gu G p o):=λb ob e=>by
 rw [je (by rintro rfl;rw [hp] at e;cases e)];exact e
mutual
inductive Dp (G:Gp):T->PyData->Prop
 |non:Dp G .non .none
 |bl (b:Bool):Dp G (.bl b) (.bool b)
 |int (i:Int):Dp G (.int i) (.int i)
 |str (x:Str):Dp G (.str x) (.str x)
 |tup {xs:List T} {ds:List PyData}:Dps G xs ds->Dp G (.tup xs) (.tuple ds)
 |lst {p:Addr} {xs:List T} {ds:List PyData}:getL G p=some xs->Dps G xs ds->Dp G (.ref p) (.list ds)
inductive Dps (G:Gp):List T->List PyData->Prop
 |nil:Dps G [] []
 |cons {x:T} {d:PyData} {xs:List T} {ds:List PyData}:Dp G x d->Dps G xs ds->Dps G (x::xs) (d::ds)
end
def Ex.getL {G G':Gp} (e:Ex G G') {p:Addr} {xs:List T} (h:getL G p=some xs):getL G' p=some xs:=by
 unfold L3.getL at h ⊢;split at h
 ·rename_i ys g;cases h;rw [e _ _ g]
 ·rename_i ys g;cases h;rw [e _ _ g]
 ·cases h
mutual
inductive DV (K:Frg) (H:Hp):V->PyData->Prop
 |non:DV K H .non .none
 |bl (b:Bool):DV K H (.bl b) (.bool b)
 |int (i:Int):DV K H (.int i) (.int i)
 |str (x:Str):DV K H (.str x) (.str x)
 |tup {a:Addr} {vs:List V} {ds:List PyData}:SqT K H a vs->DVs K H vs ds->DV K H (.ref a) (.tuple ds)
 |lst {a:Addr} {vs:List V} {ds:List PyData}:SqL K H a vs->DVs K H vs ds->DV K H (.ref a) (.list ds)
inductive DVs (K:Frg) (H:Hp):List V->List PyData->Prop
 |nil:DVs K H [] []
 |cons {x:V} {d:PyData} {xs:List V} {ds:List PyData}:DV K H x d->DVs K H xs ds->DVs K H (x::xs) (d::ds)
end
mutual
def Dp.dv {K:Frg} {G:Gp} {H:Hp} (hr:HR K G H):∀ {x:T} {d:PyData} {v:V},Dp G x d->Rp K H x v->DV K H v d
 |_,_,_,.non,.non=>.non
 |_,_,_,.bl b,.bl _=>.bl b
 |_,_,_,.int i,.int _=>.int i
 |_,_,_,.str x,.str _=>.str x
 |_,_,_,.tup h,.tup hs rs=>.tup hs (Dps.dv hr h rs)
 |_,_,_,.lst g h,r=>by
  cases r;obtain ⟨_,hs,rs⟩:=zm hr g;exact .lst hs (Dps.dv hr h rs)
def Dps.dv {K:Frg} {G:Gp} {H:Hp} (hr:HR K G H):∀ {x:List T} {d:List PyData} {v:List V},Dps G x d->Rps K H x v->DVs K H v d
 |_,_,_,.nil,.nil=>.nil
 |_,_,_,.cons a b,.cons c d=>.cons (Dp.dv hr a c) (Dps.dv hr b d)
end
mutual
def zo:PyData->PyData->Option Bool
 |.none,.none=>some true
 |.bool a,.bool b=>some (a==b)
 |.int a,.int b=>some (a==b)
 |.str a,.str b=>some (a==b)
 |.list xs,.list ys=>j1 xs ys
 |.tuple xs,.tuple ys=>j1 xs ys
 |.int _,.none=>some false
 |.none,.int _=>some false
 |_,_=>none
def j1:List PyData->List PyData->Option Bool
 |[],[]=>some true
 |x::xs,y::ys=>match zo x y,j1 xs ys with|some a,some b=>some (a&&b)|_,_=>none
 |_,_=>some false
end
mutual
def dpt:PyData->Nat
 |.list xs=>qcs xs+1
 |.tuple xs=>qcs xs+1
 |_=>0
def qcs:List PyData->Nat
 |[]=>0
 |x::xs=>max (dpt x) (qcs xs)
end
section
variable {X:Cx} {pins:List (Addr×Obj)} {σ:L2.St} {H:Hp} {s:Shared}
mutual
def DV.inj (I:Inv X pins σ H s):∀ {v:V} {d e:PyData},DV X.K H v d->DV X.K H v e->d=e
 |_,_,_,.non,.non=>rfl
 |_,_,_,.bl _,.bl _=>rfl
 |_,_,_,.int _,.int _=>rfl
 |_,_,_,.str _,.str _=>rfl
 |_,_,_,.tup h hs,.tup k ks=>by
  have:=I.tuple_inj h k;subst this;rw [DVs.inj I hs ks]
 |_,_,_,.lst h hs,.lst k ks=>by
  have:=I.list_inj h k;subst this;rw [DVs.inj I hs ks]
 |_,_,_,.tup h hs,.lst k ks=>by
  obtain ⟨i1,_,p1,_⟩:=I.tuple h;obtain ⟨i2,_,p2,_⟩:=I.list k;exact absurd rfl (ne_of_list_tuple p2.isList (show s.heap.IsTuple _ i1.toArray from p1))
 |_,_,_,.lst k ks,.tup h hs=>by
  obtain ⟨i1,_,p1,_⟩:=I.tuple h;obtain ⟨i2,_,p2,_⟩:=I.list k;exact absurd rfl (ne_of_list_tuple p2.isList (show s.heap.IsTuple _ i1.toArray from p1))
def DVs.inj (I:Inv X pins σ H s):∀ {v:List V} {d e:List PyData},DVs X.K H v d->DVs X.K H v e->d=e
 |_,_,_,.nil,.nil=>rfl
 |_,_,_,.cons a b,.cons c d=>by rw [DV.inj I a c,DVs.inj I b d]
end
mutual
def EV:∀ {d:PyData} {b:Bool},zo d d=some b->b=true
 |.none,_,h=>by simp [zo] at h;exact h
 |.bool _,_,h=>by simp [zo] at h;exact h
 |.int _,_,h=>by simp [zo] at h;exact h
 |.str _,_,h=>by simp [zo] at h;exact h
 |.list xs,_,h=>by simp only [zo] at h;exact Z2 h
 |.tuple xs,_,h=>by simp only [zo] at h;exact Z2 h
 |.dict _,_,h=>by simp [zo] at h
def Z2:∀ {d:List PyData} {b:Bool},j1 d d=some b->b=true
 |[],_,h=>by simp [j1] at h;exact h
 |x::xs,b,h=>by
  simp only [j1] at h;split at h
  ·rename_i a c e1 e2;rw [EV e1,Z2 e2] at h;simpa using h.symm
  ·cases h
end
def jY:∀ {xs ys:List PyData} {b:Bool},j1 xs ys=some b->xs.length=ys.length->∃ e:Nat->Bool,(∀ (j:Nat) x y,xs[j]?=some x->ys[j]?=some y->zo x y=some (e j))/\b=(List.range xs.length).all e
 |[],[],b,h,_=>by simp [j1] at h;exact ⟨λ_=>true,by simp,by simp [h]⟩
 |x::xs,y::ys,b,h,hl=>by
  simp only [j1] at h;split at h
  ·rename_i a c e1 e2;obtain ⟨e,h1,h2⟩:=jY e2 (by simpa using hl);refine ⟨λj=>match j with|0=>a|j+1=>e j,λj u v hu hv=>?_,?_⟩
   ·cases j with
    |zero=>simp at hu hv;subst hu;subst hv;exact e1
    |succ j=>exact h1 j u v (by simpa using hu) (by simpa using hv)
   ·rw [length_cons,List.range_succ_eq_map,List.all_cons,List.all_map];cases h;rw [h2];rfl
  ·cases h
 |[],_::_,_,_,hl=>by simp at hl
 |_::_,[],_,_,hl=>by simp at hl
def j4:∀ {xs ys:List PyData} {b:Bool},j1 xs ys=some b->xs.length≠ys.length->b=false/\∃ e:Nat->Bool,∀ (j:Nat) x y,xs[j]?=some x->ys[j]?=some y->zo x y=some (e j)
 |[],[],_,_,hl=>by simp at hl
 |[],_::_,b,h,_=>by simp [j1] at h;exact ⟨h,λ_=>true,by simp⟩
 |_::_,[],b,h,_=>by simp [j1] at h;exact ⟨h,λ_=>true,by simp⟩
 |x::xs,y::ys,b,h,hl=>by
  simp only [j1] at h;split at h
  ·rename_i a c e1 e2;obtain ⟨h0,e,h1⟩:=j4 e2 (by simpa using hl);subst h0;refine ⟨by simpa using h.symm,λj=>match j with|0=>a|j+1=>e j,λj u v hu hv=>?_⟩;cases j with
   |zero=>simp at hu hv;subst hu;subst hv;exact e1
   |succ j=>exact h1 j u v (by simpa using hu) (by simpa using hv)
  ·cases h
def Q9:∀ {xs:List PyData} {x:PyData},x∈xs->dpt x<=qcs xs
 |[],_,h=>by simp at h
 |y::ys,x,h=>by
  simp only [qcs];rcases mem_cons.mp h with e|e
  ·subst e;omega
  ·have:=Q9 e;omega
def DVs.get {K:Frg} {H:Hp}:∀ {xs:List V} {ds:List PyData} {i:Nat} {x:V},DVs K H xs ds->xs[i]?=some x->∃ d,ds[i]?=some d/\DV K H x d
 |_,_,_,_,.nil,e=>by simp at e
 |_,_,0,_,.cons r _,e=>by simp at e;subst e;exact ⟨_,rfl,r⟩
 |_,_,i+1,x,.cons _ t,e=>by
  obtain ⟨u,h1,h2⟩:=DVs.get (i:=i) (x:=x) t (by simpa using e);exact ⟨u,by simpa using h1,h2⟩
def DVs.length {K:Frg} {H:Hp}:∀ {xs:List V} {ds:List PyData},DVs K H xs ds->xs.length=ds.length
 |_,_,.nil=>rfl
 |_,_,.cons _ b=>by simp [DVs.length b]
def j8 {vs:List V} {us:List Value} (r:qF vs us) {j:Nat} (h:j<us.toArray.size):∃ v,vs[j]?=some v/\zp v us.toArray[j]:=by
 have hj:j<vs.length:=by rw [r.length];simpa using h
 obtain ⟨u,hu,ru⟩:=r.get (getElem?_eq_getElem hj);refine ⟨vs[j],getElem?_eq_getElem hj,?_⟩;have hj2:j<us.length:=by simpa using h
 rw [getElem?_eq_getElem hj2] at hu;have:us[j]=u:=Option.some.inj hu;simpa [this] using ru
def WH (I:Inv X pins σ H s):∀ (n:Nat) {v u:V} {d e:PyData} {b:Bool} {x y:Value} {A:Around},DV X.K H v d->DV X.K H u e->zo d e=some b->dpt d<=n->A.units+n<cLine->zp v x->zp u y ->
  RcAt A s x y b/\EqAt A s x y b:=by
 intro n;induction n with
 |zero=>
  intro v u d e b x y A hv hu h hd hn rx ry;cases hv with
  |non=>
   cases hu with
   |non=>simp [zo] at h;subst h;cases (show x=Value.none from rx);cases (show y=Value.none from ry);exact ⟨RcAt.none_none,EqAt.same _⟩
   |int c=>simp [zo] at h;subst h;cases (show x=Value.none from rx);obtain ⟨t',rfl⟩:=(show ∃ t,y=Value.int _ t from ry);exact ⟨RcAt.none_int _ _,EqAt.none_int _ _⟩
   |bl _=>simp [zo] at h
   |str _=>simp [zo] at h
   |tup _ _=>simp [zo] at h
   |lst _ _=>simp [zo] at h
  |bl a=>cases hu<;>simp [zo] at h;subst h;cases (show x=Value.bool _ from rx);cases (show y=Value.bool _ from ry);exact ⟨RcAt.bool_bool _ _,EqAt.bool_bool _ _⟩
  |int a=>
   cases hu with
   |int c=>simp [zo] at h;subst h;obtain ⟨t,rfl⟩:=(show ∃ t,x=Value.int _ t from rx);obtain ⟨t',rfl⟩:=(show ∃ t,y=Value.int _ t from ry);exact ⟨RcAt.int_int _ _ _ _,EqAt.int_int _ _ _ _⟩
   |non=>simp [zo] at h;subst h;obtain ⟨t,rfl⟩:=(show ∃ t,x=Value.int _ t from rx);cases (show y=Value.none from ry);exact ⟨RcAt.int_none _ _,EqAt.int_none _ _⟩
   |bl _=>simp [zo] at h
   |str _=>simp [zo] at h
   |tup _ _=>simp [zo] at h
   |lst _ _=>simp [zo] at h
  |str a=>cases hu<;>simp [zo] at h;subst h;obtain ⟨t,rfl⟩:=(show ∃ t,x=Value.str _ t from rx);obtain ⟨t',rfl⟩:=(show ∃ t,y=Value.str _ t from ry);exact ⟨RcAt.str_str _ _ _ _,EqAt.str_str _ _ _ _⟩
  |tup=>simp [dpt] at hd
  |lst=>simp [dpt] at hd
 |succ n ih=>
  intro v u d e b x y A hv hu h hd hn rx ry;have fin:∀ {l l':Addr} {k:Bool},x=.ref l->y=.ref l'->v=.ref l->u=.ref l'->b=k->RcAt A s x y k->RcAt A s x y b/\EqAt A s x y b:=by
   rintro l l' k rfl rfl rfl rfl rfl rc;refine ⟨rc,?_⟩;by_cases hll:l=l'
   ·subst hll;have:=DV.inj I hv hu;subst this;rw [EV h];exact EqAt.same _
   ·exact EqAt.of_refs hll rc
  cases hv with
  |non=>
   cases hu with
   |non=>simp [zo] at h;subst h;cases (show x=Value.none from rx);cases (show y=Value.none from ry);exact ⟨RcAt.none_none,EqAt.same _⟩
   |int c=>simp [zo] at h;subst h;cases (show x=Value.none from rx);obtain ⟨t',rfl⟩:=(show ∃ t,y=Value.int _ t from ry);exact ⟨RcAt.none_int _ _,EqAt.none_int _ _⟩
   |bl _=>simp [zo] at h
   |str _=>simp [zo] at h
   |tup _ _=>simp [zo] at h
   |lst _ _=>simp [zo] at h
  |bl a=>cases hu<;>simp [zo] at h;subst h;cases (show x=Value.bool _ from rx);cases (show y=Value.bool _ from ry);exact ⟨RcAt.bool_bool _ _,EqAt.bool_bool _ _⟩
  |int a=>
   cases hu with
   |int c=>simp [zo] at h;subst h;obtain ⟨t,rfl⟩:=(show ∃ t,x=Value.int _ t from rx);obtain ⟨t',rfl⟩:=(show ∃ t,y=Value.int _ t from ry);exact ⟨RcAt.int_int _ _ _ _,EqAt.int_int _ _ _ _⟩
   |non=>simp [zo] at h;subst h;obtain ⟨t,rfl⟩:=(show ∃ t,x=Value.int _ t from rx);cases (show y=Value.none from ry);exact ⟨RcAt.int_none _ _,EqAt.int_none _ _⟩
   |bl _=>simp [zo] at h
   |str _=>simp [zo] at h
   |tup _ _=>simp [zo] at h
   |lst _ _=>simp [zo] at h
  |str a=>cases hu<;>simp [zo] at h;subst h;obtain ⟨t,rfl⟩:=(show ∃ t,x=Value.str _ t from rx);obtain ⟨t',rfl⟩:=(show ∃ t,y=Value.str _ t from ry);exact ⟨RcAt.str_str _ _ _ _,EqAt.str_str _ _ _ _⟩
  |tup hq hs=>
   cases hu with
   |tup kq ks=>
    rename_i a1 vs1 ds1 a2 vs2 ds2;simp only [zo] at h;obtain ⟨i1,r1,p1,z1⟩:=I.tuple hq;obtain ⟨i2,r2,p2,z2⟩:=I.tuple kq;have l1:=hs.length;have l2:=ks.length;have m1:=r1.length;have m2:=r2.length;have el:∀ (e:Nat->Bool),(∀ (j:Nat) x y,ds1[j]?=some x->ds2[j]?=some y->zo x y=some (e j))->∀ j (h1:j<i1.toArray.size) (h2:j<i2.toArray.size),EqAt A.in1 s i1.toArray[j] i2.toArray[j] (e j):=λe he j h1 h2=>by
     obtain ⟨w1,g1,q1⟩:=j8 r1 h1;obtain ⟨w2,g2,q2⟩:=j8 r2 h2;obtain ⟨d1,f1,dv1⟩:=hs.get g1;obtain ⟨d2,f2,dv2⟩:=ks.get g2;have:=Q9 (mem_of_getElem? f1);exact (ih dv1 dv2 (he j d1 d2 f1 f2) (by simp only [dpt] at hd;omega) (show A.units+1+n<cLine by omega) q1 q2).2
    cases (show x=Value.ref a1 from rx);cases (show y=Value.ref a2 from ry);by_cases hl:ds1.length=ds2.length
    ·obtain ⟨e,he,hb⟩:=jY h hl;refine fin rfl rfl rfl rfl (k:=(List.range (min i1.toArray.size i2.toArray.size)).all e&&i1.toArray.size==i2.toArray.size) ?_ (RcAt.tuples (show s.heap.IsTuple a1 i1.toArray from p1) (show s.heap.IsTuple a2 i2.toArray from p2) (by omega) (el e he));have e1:i1.toArray.size=ds1.length:=by rw [size_toArray];omega
     have e2:i2.toArray.size=ds1.length:=by rw [size_toArray];omega
     rw [e1,e2,hb];simp
    ·obtain ⟨hb,e,he⟩:=j4 h hl;refine fin rfl rfl rfl rfl (k:=(List.range (min i1.toArray.size i2.toArray.size)).all e&&i1.toArray.size==i2.toArray.size) ?_ (RcAt.tuples (show s.heap.IsTuple a1 i1.toArray from p1) (show s.heap.IsTuple a2 i2.toArray from p2) (by omega) (el e he));have e1:i1.toArray.size≠i2.toArray.size:=by rw [size_toArray,size_toArray];omega
     rw [hb];simp [e1];intro;omega
   |_=>simp [zo] at h
  |lst hq hs=>
   cases hu with
   |lst kq ks=>
    rename_i a1 vs1 ds1 a2 vs2 ds2;simp only [zo] at h;obtain ⟨i1,r1,p1,z1⟩:=I.list hq;obtain ⟨i2,r2,p2,z2⟩:=I.list kq;have l1:=hs.length;have l2:=ks.length;have m1:=r1.length;have m2:=r2.length;have el:∀ (e:Nat->Bool),(∀ (j:Nat) x y,ds1[j]?=some x->ds2[j]?=some y->zo x y=some (e j))->∀ j (h1:j<i1.toArray.size) (h2:j<i2.toArray.size),EqAt A.in1 s i1.toArray[j] i2.toArray[j] (e j):=λe he j h1 h2=>by
     obtain ⟨w1,g1,q1⟩:=j8 r1 h1;obtain ⟨w2,g2,q2⟩:=j8 r2 h2;obtain ⟨d1,f1,dv1⟩:=hs.get g1;obtain ⟨d2,f2,dv2⟩:=ks.get g2;have:=Q9 (mem_of_getElem? f1);exact (ih dv1 dv2 (he j d1 d2 f1 f2) (by simp only [dpt] at hd;omega) (show A.units+1+n<cLine by omega) q1 q2).2
    cases (show x=Value.ref a1 from rx);cases (show y=Value.ref a2 from ry);by_cases hl:ds1.length=ds2.length
    ·obtain ⟨e,he,hb⟩:=jY h hl;refine fin rfl rfl rfl rfl (k:=(List.range i1.toArray.size).all e) ?_ (RcAt.lists p1.isList p2.isList (by rw [size_toArray,size_toArray];omega) (by omega) (el e he));have e1:i1.toArray.size=ds1.length:=by rw [size_toArray];omega
     rw [e1,hb]
    ·obtain ⟨hb,e,he⟩:=j4 h hl;refine fin rfl rfl rfl rfl (k:=false) hb (RcAt.lists_lengths p1.isList p2.isList (by rw [size_toArray,size_toArray];simp;omega) (by omega))
   |_=>simp [zo] at h
def qby (I:Inv X pins σ H s) {n:Nat} {v u:V} {d e:PyData} {b:Bool} {x y:Value} {A:Around} (hv:DV X.K H v d) (hu:DV X.K H u e) (h:zo d e=some b) (hd:dpt d<=n+1) (hn:A.units+(n+1)<cLine) (rx:zp v x) (ry:zp u y) (hs:dpt d≠0):RcNeAt A s x y (!b):=by
 cases hv with
 |tup hq hs'=>
  cases hu with
  |tup kq ks=>
   rename_i a1 vs1 ds1 a2 vs2 ds2;simp only [zo] at h;obtain ⟨i1,r1,p1,z1⟩:=I.tuple hq;obtain ⟨i2,r2,p2,z2⟩:=I.tuple kq;have l1:=hs'.length;have l2:=ks.length;have m1:=r1.length;have m2:=r2.length;have el:∀ (e:Nat->Bool),(∀ (j:Nat) x y,ds1[j]?=some x->ds2[j]?=some y->zo x y=some (e j))->∀ j (h1:j<i1.toArray.size) (h2:j<i2.toArray.size),EqAt A.in1 s i1.toArray[j] i2.toArray[j] (e j):=λe he j h1 h2=>by
    obtain ⟨w1,g1,q1⟩:=j8 r1 h1;obtain ⟨w2,g2,q2⟩:=j8 r2 h2;obtain ⟨d1,f1,dv1⟩:=hs'.get g1;obtain ⟨d2,f2,dv2⟩:=ks.get g2;have:=Q9 (mem_of_getElem? f1);exact (WH I n dv1 dv2 (he j d1 d2 f1 f2) (by simp only [dpt] at hd;omega) (show A.units+1+n<cLine by omega) q1 q2).2
   cases (show x=Value.ref a1 from rx);cases (show y=Value.ref a2 from ry);by_cases hl:ds1.length=ds2.length
   ·obtain ⟨e,he,hb⟩:=jY h hl;have:=RcNeAt.tuples (show s.heap.IsTuple a1 i1.toArray from p1) (show s.heap.IsTuple a2 i2.toArray from p2) (A:=A) (by omega) (el e he);have e1:i1.toArray.size=ds1.length:=by rw [size_toArray];omega
    have e2:i2.toArray.size=ds1.length:=by rw [size_toArray];omega
    rw [e1,e2] at this;rw [hb];simpa using this
   ·obtain ⟨hb,e,he⟩:=j4 h hl;have:=RcNeAt.tuples (show s.heap.IsTuple a1 i1.toArray from p1) (show s.heap.IsTuple a2 i2.toArray from p2) (A:=A) (by omega) (el e he);have e1:(i1.toArray.size==i2.toArray.size)=false:=by rw [size_toArray,size_toArray];simp;omega
    rw [e1] at this;rw [hb];simpa using this
  |_=>simp [zo] at h
 |lst hq hs'=>
  cases hu with
  |lst kq ks=>
   rename_i a1 vs1 ds1 a2 vs2 ds2;simp only [zo] at h;obtain ⟨i1,r1,p1,z1⟩:=I.list hq;obtain ⟨i2,r2,p2,z2⟩:=I.list kq;have l1:=hs'.length;have l2:=ks.length;have m1:=r1.length;have m2:=r2.length;have el:∀ (e:Nat->Bool),(∀ (j:Nat) x y,ds1[j]?=some x->ds2[j]?=some y->zo x y=some (e j))->∀ j (h1:j<i1.toArray.size) (h2:j<i2.toArray.size),EqAt A.in1 s i1.toArray[j] i2.toArray[j] (e j):=λe he j h1 h2=>by
    obtain ⟨w1,g1,q1⟩:=j8 r1 h1;obtain ⟨w2,g2,q2⟩:=j8 r2 h2;obtain ⟨d1,f1,dv1⟩:=hs'.get g1;obtain ⟨d2,f2,dv2⟩:=ks.get g2;have:=Q9 (mem_of_getElem? f1);exact (WH I n dv1 dv2 (he j d1 d2 f1 f2) (by simp only [dpt] at hd;omega) (show A.units+1+n<cLine by omega) q1 q2).2
   cases (show x=Value.ref a1 from rx);cases (show y=Value.ref a2 from ry);by_cases hl:ds1.length=ds2.length
   ·obtain ⟨e,he,hb⟩:=jY h hl;have:=RcNeAt.lists p1.isList p2.isList (A:=A) (by rw [size_toArray,size_toArray];omega) (by omega) (el e he);have e1:i1.toArray.size=ds1.length:=by rw [size_toArray];omega
    rw [e1] at this;rw [hb];exact this
   ·obtain ⟨hb,e,he⟩:=j4 h hl;rw [hb];exact RcNeAt.lists_lengths p1.isList p2.isList (by rw [size_toArray,size_toArray];simp;omega) (by omega)
  |_=>simp [zo] at h
 |_=>simp [dpt] at hs
def qdi (K:Frg) (neg:Bool):R2:=λx y H Q=>∃ d e b,DV K H x d/\DV K H y e/\zo d e=some b/\dpt d<=40/\dpt d≠0/\Q (.bl (if neg then !b else b)) H
def qdv (hu:X.A.units+64<cLine):OpR X (compareOp .Eq) (qdi X.K false):=by
 intro pins s σ H x y v u Q I rx ry h;obtain ⟨d,e,b,hx,hy,hb,hd,_,q⟩:=h;exact (WH I 40 hx hy hb hd (by omega) rx ry).1 X.prog X.w X.xe _ ⟨.bl b,H,I,rfl,q⟩
def qdD (hu:X.A.units+64<cLine):OpR X (compareOp .NotEq) (qdi X.K true):=by
 intro pins s σ H x y v u Q I rx ry h;obtain ⟨d,e,b,hx,hy,hb,hd,hs,q⟩:=h;exact qby I (n:=40) hx hy hb (by omega) (by omega) rx ry hs X.prog X.w X.xe _ ⟨.bl (!b),H,I,rfl,q⟩
end
def YM (neg:Bool):R3:=λx y G q=>match MD x y with
 |some k=>q (.bl (if neg then !k else k)) G
 |none=>∃ d e b,Dp G x d/\Dp G y e/\zo d e=some b/\dpt d<=40/\dpt d≠0/\q (.bl (if neg then !b else b)) G
def zu {K:Frg}:EK K (YM false) (λx y H Q=>rEq x y H Q\/qdi K false x y H Q):=λx y v u G H q Q hr rx ry h af=>by
 unfold YM at h;split at h
 ·rename_i k e;obtain ⟨h1,h2⟩:=WQ rx ry e;refine .inl ⟨h1,?_⟩;rw [h2];exact af _ G h _ H (.bl _) hr Kp.refl
 ·obtain ⟨d,e,b,h1,h2,h3,h4,h5,h6⟩:=h;exact .inr ⟨d,e,b,h1.dv hr rx,h2.dv hr ry,h3,h4,h5,af _ G h6 _ H (.bl _) hr Kp.refl⟩
def qcM {K:Frg}:EK K (YM true) (λx y H Q=>rNe x y H Q\/qdi K true x y H Q):=λx y v u G H q Q hr rx ry h af=>by
 unfold YM at h;split at h
 ·rename_i k e;obtain ⟨h1,h2⟩:=WQ rx ry e;refine .inl ⟨h1,?_⟩;rw [h2];exact af _ G h _ H (.bl _) hr Kp.refl
 ·obtain ⟨d,e,b,h1,h2,h3,h4,h5,h6⟩:=h;exact .inr ⟨d,e,b,h1.dv hr rx,h2.dv hr ry,h3,h4,h5,af _ G h6 _ H (.bl _) hr Kp.refl⟩
def jv {X:Cx} (hu:X.A.units+64<cLine):OpR X (compareOp .Eq) (λx y H Q=>rEq x y H Q\/qdi X.K false x y H Q):=qjJ.or (qdv hu)
def qgo {X:Cx} (hu:X.A.units+64<cLine):OpR X (compareOp .NotEq) (λx y H Q=>rNe x y H Q\/qdi X.K true x y H Q):=qix.or (qdD hu)
end L3
namespace L3
open PySem PySem.Spec PyProof.Rows L2
section
variable {X:Cx} {pins:List (Addr×Obj)} {σ:L2.St} {H:Hp} {s:Shared}
mutual
def DV.reads (I:Inv X pins σ H s):∀ {v:V} {d:PyData} {x:Value},DV X.K H v d->zp v x->∃ as,Reads s.heap x d as
 |_,_,x,.non,r=>by cases (show x=Value.none from r);exact ⟨_,.none⟩
 |_,_,x,.bl b,r=>by cases (show x=Value.bool b from r);exact ⟨_,.bool b⟩
 |_,_,x,.int i,r=>by obtain ⟨t,rfl⟩:=(show ∃ t,x=Value.int i t from r);exact ⟨_,.int i t⟩
 |_,_,x,.str y,r=>by obtain ⟨t,rfl⟩:=(show ∃ t,x=Value.str y t from r);exact ⟨_,.str y t⟩
 |_,_,x,.tup (a:=a) h hs,r=>by
  cases (show x=Value.ref a from r);obtain ⟨its,rv,⟨o,h1,h2,n,h3⟩,_⟩:=I.tuple h;obtain ⟨as,ra⟩:=DVs.reads I hs rv;exact ⟨as,.tuple h1 h2 h3 (by simpa using ra)⟩
 |_,_,x,.lst (a:=a) h hs,r=>by
  cases (show x=Value.ref a from r);obtain ⟨its,rv,p,_⟩:=I.list h;obtain ⟨o,h1,h2,n,h3⟩:=p.isList;obtain ⟨as,ra⟩:=DVs.reads I hs rv;exact ⟨a::as,.list h1 h2 h3 (by simpa using ra)⟩
def DVs.reads (I:Inv X pins σ H s):∀ {v:List V} {d:List PyData} {x:List Value},DVs X.K H v d->qF v x->∃ as,ReadsAll s.heap x d as
 |_,_,_,.nil,.nil=>⟨_,.nil⟩
 |_,_,_,.cons a b,.cons c d=>by
  obtain ⟨as,r1⟩:=DV.reads I a c;obtain ⟨bs,r2⟩:=DVs.reads I b d;exact ⟨_,.cons r1 r2⟩
end
end
section
variable {X:Cx}
end
section
variable {prog:Program} {w:World} {A:Around} {R:Result->Shared->Prop} {s:Shared}
end
section
variable {X:Cx}
end
section
variable {K:Frg}
end
section
variable {X:Cx}
end
section
variable {X:Cx}
def ZP:∀ {its:List Value} {ns:List Int},qF (ns.map V.int) its->IntsAre its ns
 |_,[],h=>by cases h;exact .nil
 |_,n::ns,h=>by
  cases h with
  |cons r t=>
   obtain ⟨k,rfl⟩:=r;exact .cons n k (ZP t)
def SN:∀ {its:List Value} {ns:List Int},IntsAre its ns->qF (ns.map V.int) its
 |_,_,.nil=>.nil
 |_,_,.cons n t h=>.cons ⟨t,rfl⟩ (SN h)
def W4 {K:Frg} {H:Hp}:∀ (ns:List Int),Rps K H (ns.map T.int) (ns.map V.int)
 |[]=>.nil
 |n::ns=>.cons (.int n) (W4 ns)
end
section
variable {X:Cx} {tg a b c:Expr} {pos:Pos}
end
section
variable {X:Cx}
end
section
variable {X:Cx} {a b:Expr} {ta tb:TE3} {pos:Pos}
def qb3:OpR X (compareOp .IsNot) (λx y H Q=>∃ i j,x=.bl i/\y=.bl j/\Q (.bl (i != j)) H):=by
 intro pins s σ H x y v u Q I rx ry h;obtain ⟨i,j,rfl,rfl,q⟩:=h;cases rx;cases ry;exact isnot_bool (qw I q rfl)
def qhW (neg:Bool):R3:=λx y G q=>match x,y with|.bl i,.bl j=>q (.bl (if neg then i != j else i==j)) G|_,_=>False
def L6 {K:Frg}:EK K (qhW true) (λx y H Q=>∃ i j,x=.bl i/\y=.bl j/\Q (.bl (i != j)) H):=λx y v u G H q Q hr rx ry h af=>by
 cases x<;>try exact h.elim
 cases y<;>try exact h.elim
 cases rx;cases ry;exact ⟨_,_,rfl,rfl,af _ G h _ H (.bl _) hr Kp.refl⟩
structure ShW (d:PyData):Prop where
 sh:d.showable=true
 nd:d.hasDict=false
 dp:d.depth<=40
 fit:d.shown.length<=sizeLine
def TY (hg:X.A.guards=some []) (hu:X.A.units+64<cLine):QN X (.type "str") (λxs H Q=>∃ a d,xs=[.ref a]/\DV X.K H (.ref a) d/\ShW d/\Q (.str d.shown) H):=by
 intro pins s σ H xs us Q I r h;obtain ⟨a,d,rfl,dv,ok,q⟩:=h;obtain ⟨u,rfl,rp⟩:=EQ r;cases (show u=Value.ref a from rp);obtain ⟨as,rd⟩:=dv.reads I (show zp (.ref a) (.ref a) from rfl);refine str_of_reads rd ok.sh (PyData.noDict_hsm ok.nd) hg (by have:=ok.dp;omega) (λ_ _ e=>e) (λh' u tk hk=>?_) ok.fit;exact ⟨.str _,H,I.kept (h':=h') (t':=tk) hk,⟨_,rfl⟩,q⟩
def shV (st:Bool):V->Hp->(Str->Prop)->Prop:=λv H q=>match v with
 |.non=>q (Str.ofString "None")
 |.bl b=>q (if b=true then Str.ofString "True" else Str.ofString "False")
 |.int i=>i.natAbs.log2<1920/\q (Str.ofString (toString i))
 |.str x=>if st then q x else (reprText x).length<=sizeLine/\q (reprText x)
 |.ref a=>∃ d,DV X.K H (.ref a) d/\ShW d/\q d.shown
 |_=>False
def DX (hg:X.A.guards=some []) (hu:X.A.units+64<cLine):QN X (.type "str") (λxs H Q=>∃ v,xs=[v]/\shV (X:=X) true v H λx=>Q (.str x) H):=by
 intro pins s σ H xs us Q I r h;obtain ⟨v,rfl,h⟩:=h;obtain ⟨u,rfl,rp⟩:=EQ r;cases v with
 |non=>cases (show u=Value.none from rp);exact P.str_of_none ⟨.str _,H,I.tok _,⟨_,rfl⟩,h⟩
 |bl b=>cases (show u=Value.bool b from rp);exact P.str_of_bool ⟨.str _,H,I.tok _,⟨_,rfl⟩,h⟩
 |int i=>obtain ⟨t,rfl⟩:=(show ∃ t,u=Value.int i t from rp);exact P.str_of_int h.1 ⟨.str _,H,I.tok _,⟨_,rfl⟩,h.2⟩
 |str x=>obtain ⟨t,rfl⟩:=(show ∃ t,u=Value.str x t from rp);exact P.str_of_str ⟨.str _,H,I,⟨_,rfl⟩,h⟩
 |ref a=>
  obtain ⟨d,dv,ok,q⟩:=h;exact TY hg hu _ _ _ _ _ _ _ I r ⟨a,d,rfl,dv,ok,q⟩
 |_=>exact h.elim
def shT (st:Bool):T->Gp->(Str->Prop)->Prop:=λx G q=>match x with
 |.non=>q (Str.ofString "None")
 |.bl b=>q (if b=true then Str.ofString "True" else Str.ofString "False")
 |.int i=>i.natAbs.log2<1920/\q (Str.ofString (toString i))
 |.str x=>if st then q x else (reprText x).length<=sizeLine/\q (reprText x)
 |.tup _=>∃ d,Dp G x d/\ShW d/\q d.shown
 |.ref _=>∃ d,Dp G x d/\ShW d/\q d.shown
def LH (st:Bool):List T->Gp->Q3->Prop:=λxs G q=>match xs with
 |[x]=>shT st x G λy=>q (.str y) G
 |_=>False
def MP {st:Bool}:X4 X.K (LH st) (λxs H Q=>∃ v,xs=[v]/\shV (X:=X) st v H λx=>Q (.str x) H):=λxs vs G H q Q hr rs h af=>by
 unfold LH at h;split at h
 ·rename_i x;obtain ⟨v,rfl,r⟩:=DZ rs;refine ⟨v,rfl,?_⟩;cases r with
  |non=>exact af _ G h _ H (.str _) hr Kp.refl
  |bl b=>exact af _ G h _ H (.str _) hr Kp.refl
  |int i=>exact ⟨h.1,af _ G h.2 _ H (.str _) hr Kp.refl⟩
  |str x=>
   cases st with
   |true=>exact af _ G h _ H (.str _) hr Kp.refl
   |false=>exact ⟨h.1,af _ G h.2 _ H (.str _) hr Kp.refl⟩
  |tup hs r2=>
   obtain ⟨d,h1,h2,h3⟩:=h;exact ⟨d,h1.dv hr (.tup hs r2),h2,af _ G h3 _ H (.str _) hr Kp.refl⟩
  |ref a=>
   obtain ⟨d,h1,h2,h3⟩:=h;exact ⟨d,h1.dv hr (.ref a),h2,af _ G h3 _ H (.str _) hr Kp.refl⟩
 ·exact h.elim
def L8:OpR X (binaryOp .Add) (λx y H Q=>∃ a b ys,x=.ref a/\y=.ref b/\SqT X.K H a []/\SqT X.K H b ys/\Q (.ref b) H):=by
 intro pins s σ H x y v u Q I rx ry h;obtain ⟨a,b,ys,rfl,rfl,ha,hb,q⟩:=h;cases rx;cases ry;obtain ⟨its,r1,p1,_⟩:=I.tuple ha;obtain ⟨its2,r2,p2,_⟩:=I.tuple hb;cases r1;obtain ⟨⟨cls,dd,data,sl⟩,ho,hc,n,hd⟩:=id p1;obtain ⟨⟨cls2,dd2,data2,sl2⟩,ho2,hc2,n2,hd2⟩:=id p2;simp only at hc hd hc2 hd2;subst hc hd hc2 hd2;exact concat_meets ⟨_,ho,rfl⟩ ⟨_,ho2,rfl⟩ noFill_tuple_add seq_tuple_add PySem.F.slot_tuple_add PySem.F.entry_tuple_add (PySem.F.args_tuple_add_2 _ _)
   (tuple_addW0 a b #[] its2.toArray n n2 dd dd2 sl sl2 rfl) ⟨ho,ho2,⟨.ref b,H,I,rfl,q⟩⟩
def jX:R3:=λx y G q=>match x,y with
 |.tup xs,.tup ys=>xs.length+ys.length<=sizeLine/\q (.tup (xs++ys)) G
 |.ref a,.ref b=>(match G a,G b with|some (.lst xs),some (.lst ys)=>xs.length+ys.length<=sizeLine/\∀ p,G p=none->q (.ref p) (gu G p (.lst (xs++ys)))|_,_=>False)
 |.int i,.int j=>q (.int (i+j)) G
 |_,_=>False
def LG:EK X.K jX (λx y H Q=>((rI0 (λi j=>.int (i+j)) x y H Q\/qcI X.K x y H Q)\/qiQ x y H Q)\/∃ a b ys,x=.ref a/\y=.ref b/\SqT X.K H a []/\SqT X.K H b ys/\Q (.ref b) H):=λx y v u G H q Q hr rx ry h af=>by
 cases x with
 |tup xs=>
  cases y with
  |tup ys=>
   cases xs with
   |nil=>
    cases rx with
    |tup hs rs=>
     cases rs;cases ry with
     |tup hs' rs'=>exact .inr ⟨_,_,_,rfl,rfl,hs,hs',af _ G h.2 _ H (.tup hs' rs') hr Kp.refl⟩
   |cons x xs=>exact .inl (UH _ _ v u G H q Q hr rx ry ⟨by simp,h⟩ af)
  |_=>exact h.elim
 |ref a=>
  cases y with
  |ref b=>exact .inl (UH (.ref a) (.ref b) v u G H q Q hr rx ry h af)
  |_=>exact h.elim
 |int i=>
  cases y with
  |int j=>exact .inl (UH (.int i) (.int j) v u G H q Q hr rx ry h af)
  |_=>exact h.elim
 |_=>exact h.elim
def qV (ha:jE3 X a ta) (hb:jE3 X b tb):jE3 X (.BinOp a .Add b pos) (o3 jX ta tb):=⟨qaV (((NV.or SL).or M4).or L8) LG ha.h hb.h⟩
def ZX {prog:Program} {w:World} {A:Around} {E:Value->Shared->Prop} {s:Shared} {t sl:Addr} {items:Array Value} {vl vu:Value} {lo hi:Option Int} {Q:Value->Shared->Prop} (ht:IsTup s.heap t items) (hs:s.heap.IsSliceOf sl vl vu .none) (pl:IsPart vl lo) (pu:IsPart vu hi)
  (hw:HT.sIx items.size 0 lo=0/\HT.sIx items.size items.size hi=items.size) (h:Q (.ref t) s):wpAny (model prog w) A (getItem (.ref t) (.ref sl)) Q E s:=by
 obtain ⟨os,hos,hcs,hds⟩:=id hs;have hTs:s.TypeIs (.ref sl) "slice" := ⟨os,hos,hcs⟩
 unfold getItem
 try with_reducible refine wpAny_holding ?_
 first|refine wpAny_bind (wpAny_pure ?_)|skip
 refine wpAny_bind (wpAny_sequenceKey ht.typeIs (by decide) ?_);refine wpAny_bind (wpAny_callSpecial?_slot (name:=Str.ofString "__getitem__") ht.typeIs PyProof.Rows.slot_tuple_getitem
  (wpAny_call_entry PyProof.Rows.slot_tuple_getitem ht.typeIs entry_tuple_getitem ?_ (args_tuple_getitem _ _)))
 show wpAny _ _ (Builtin.Tuple.tupleItemsOf (.ref t) >>= _) _ _ s;refine wpAny_bind (tupleItemsOf_ ht ?_);refine wpAny_bind (wpAny_typeOf hTs ?_);rw [if_pos (by decide)];refine wpAny_bind (HT.jR hs pl pu ?_);have hyes:(((HT.sIx items.size 0 lo:Nat):Int)==0&&(1:Int)==1&&(HT.sIx items.size items.size hi-HT.sIx items.size 0 lo)==items.size)=true:=by
  rw [hw.1,hw.2];simp
 show wpAny _ _ (if (((HT.sIx items.size 0 lo:Nat):Int)==0&&(1:Int)==1&&(HT.sIx items.size items.size hi-HT.sIx items.size 0 lo)==items.size)=true then _ else _) _ _ s;rw [if_pos hyes];unfold Builtin.Tuple.tupleIsExact;refine wpAny_bind (wpAny_bind (wpAny_typeOf ht.typeIs (wpAny_pure ?_)));rw [if_pos (by decide)];refine wpAny_bind (wpAny_rule ?_);exact wpAny_pure ⟨_,rfl,wpAny_pure h⟩
def qlo (K:Frg):V->Option Int->Option Int->Hp->VK->Prop:=λx lo hi H Q=>∃ a xs,x=.ref a/\SqT K H a xs/\(HT.sIx xs.length 0 lo=0/\HT.sIx xs.length xs.length hi=xs.length)/\Q (.ref a) H
def K4:SlR X (qlo X.K):=by
 intro pins s σ H x v vl vu lo hi sl Q I rx hs pl pu h;obtain ⟨a,xs,rfl,hx,hw,q⟩:=h;cases rx;obtain ⟨its,r,ht,hz⟩:=I.tuple hx;have hlen:its.toArray.size=xs.length:=by rw [size_toArray];exact r.length.symm
 refine ⟨"tuple",_,PyProof.Rows.slot_tuple_getitem.lookup,ht.typeIs,?_⟩;exact ZX ht hs pl pu (by rw [hlen];exact hw) ⟨.ref a,H,I,rfl,q⟩
def qiY:T->Option Int->Option Int->Gp->Q3->Prop:=λx lo hi G q=>match x with
 |.tup xs=>q (.tup (US xs lo hi)) G
 |.ref p=>(match getL G p with|some xs=>∀ a,G a=none->q (.ref a) (gu G a (.lst (US xs lo hi)))|none=>False)
 |_=>False
def UG (te:TE3) (tl th:TO3):TE3:=λτ G q=>te τ G λx G1=>tl τ G1 λl G2=>th τ G2 λu G3=>qiY x l u G3 q
def ja {e:Expr} {te:TE3} {lo hi:Option Expr} {tl th:TO3} {p2:Pos} (he:jE3 X e te) (hl:jP3 X lo tl) (hu:jP3 X hi th):jE3 X (.Subscript e (.Slice lo hi none p2) pos) (UG te tl th):=
 ⟨JH (LF ((qhG.or qcn).or K4) he.h hl.h hu.h) λ_ _ _ ⟨τ,G,q,rl,h,af⟩=>qN rl h λx G1 h1 v H1 rx hr1 k1 rl1=>
  ⟨τ,G1,_,rl1,h1,λl G2 h2 H2 hr2 k2=>⟨τ,G2,_,rl1.next hr2 k2,h2,λu G3 h3 H3 hr3 k3=>by
   have kk:=(k1.trans k2).trans k3;have rx3:=(rx.keep hr1 k2).keep hr2 k3;cases x<;>try exact h3.elim
   case tup xs=>
    cases rx3 with
    |tup hs rs=>
     by_cases hw:HT.sIx xs.length 0 l=0/\HT.sIx xs.length xs.length u=xs.length
     ·refine .inr ⟨_,_,rfl,hs,by rw [← rs.length];exact hw,?_⟩;have e:US xs l u=xs:=by unfold US;rw [hw.1,hw.2];simp
      have h4:q (.tup (US xs l u)) G3:=h3;rw [e] at h4;exact af _ G3 h4 _ _ (.tup hs rs) hr3 kk
     ·refine .inl (.inl ⟨_,_,rfl,hs,by rw [← rs.length];exact hw,λp hp=>?_⟩);exact af _ G3 h3 _ _ (.tup (SqT.of qz) ((rs.cut _ _).keep hr3 (Kp.laid hp))) (hr3.laid hp) (kk.trans (Kp.laid hp))
   case ref p=>
    unfold qiY at h3;simp only at h3;split at h3
    ·rename_i xs e0;cases rx3;obtain ⟨vs,hs,rs⟩:=zm hr3 e0;refine .inl (.inr ⟨p,vs,rfl,hs,λa ha=>?_⟩);exact af _ _ (h3 a (hr3.free ha)) _ _ (.ref a) (hr3.newL ha (rs.cut _ _)) (kk.trans (Kp.newL ha))
    ·exact h3.elim⟩⟩⟩
end
end L3
namespace HT
open PySem PySem.Spec PyProof.Rows
section
variable {prog:Program} {w:World} {A:Around} {E:Value->Shared->Prop} {s:Shared}
end
end HT
namespace L3
open PySem PySem.Spec PyProof.Rows L2
section
variable {X:Cx} {e ek:Expr} {p2 pos:Pos}
end
section
variable {X:Cx} {a b:Expr} {ta tb:TE3} {pos:Pos}
end
abbrev Rd (sp:Sp3) (n:Nat) (t:TS3) (N:List Str):Prop:=∀ ts G q,sp ts G q->ts.length=n/\t { nx:=λ_ G'=>q .non G',rt:=q } (ql N ts) G
def jgn {pos:Pos} {X:Cx} {x:Str} (i:Nat) (hN:decide X.N.Nodup=true:=by kernel_rfl) (hi:X.N[i]?=some x:=by rfl) (hx:Loc X.env.scope x:=by first|exact Or.inl rfl|exact Or.inr rfl) (hf:X.fn x=true\/X.env.scope.names.lookup x=some .local:=by first|exact .inl rfl|exact .inr rfl):jG3 X (.Name x pos) (gn3 i):=
 jh (of_decide_eq_true hN) hi hx hf
end L3
namespace L2
open PySem PySem.Spec PyProof.Rows
section
variable {X:Cx} {pos:Pos}
end
end L2
namespace L3
open PySem PySem.Spec PyProof.Rows L2
section
variable {X:Cx} {pos:Pos}
end
end L3
namespace HT
open PySem PyProof.Rows
section
variable {prog:Program} {w:World} {A:Around} {E:Value->Shared->Prop} {s:Shared}
end
end HT
namespace L3
open PySem PySem.Spec PyProof.Rows L2
section
variable {X:Cx}
end
def F0 (f0:Value):Prop:=f0=.none\/∃ n:Nat,f0=rawInt n
section
variable {P:Program} {w:World} {A:Around} {s:Shared} {z ti to i1 i2 c1 c2:Addr} {S1 S2:Nat->Heap->Prop} {H1 H2:Array Value->Heap->Prop} {k1 k2:Nat} {xs ys:Array Value} {x y a b f0 f1:Value} {E:Value->Shared->Prop}
end
section
variable {P:Program} {w:World} {A:Around} {s:Shared} {E:Value->Shared->Prop}
end
section
variable {X:Cx} {a b e l:Expr} {es:List Expr} {pos:Pos} {t:TA3}
end
end L3
namespace Tb8
open PySem PySem.SetTable
end Tb8
namespace Tb8
open PySem PyProof.Rows
section
variable {prog:Program} {w:World} {A:Around} {E:Value->Shared->Prop} {s:Shared}
end
end Tb8
namespace Tb8
open PySem PyProof.Rows PySem.SetTable
section
variable {prog:Program} {w:World} {A:Around} {E:Value->Shared->Prop} {s:Shared}
end
end Tb8
namespace Tb8
open PySem PySem.SetTable
end Tb8
namespace Tb8
open PySem PyProof.Rows PySem.SetTable
section
variable {prog:Program} {w:World} {A:Around} {E:Value->Shared->Prop} {s:Shared}
end
section
variable {prog:Program} {w:World} {A:Around} {R:Result->Shared->Prop} {I:Addr} {fp wr:List Addr} {n:Nat} {P:Nat->Value->Prop} {St:Nat->Heap->Prop}
end
section
variable {prog:Program} {w:World} {A:Around} {E:Value->Shared->Prop} {s:Shared}
end
end Tb8
namespace L3
open PySem PySem.Spec PyProof.Rows L2
section
variable {X:Cx}
end
end L3
namespace Tb8
open PySem PyProof.Rows PySem.SetTable
section
variable {prog:Program} {w:World} {A:Around} {E:Value->Shared->Prop} {s:Shared}
end
end Tb8
namespace L3
open PySem PySem.Spec PyProof.Rows L2
section
variable {X:Cx}
end
section
variable {X:Cx} {K:Frg} {w:World} {mg:Str->Option Value}
end
section
variable {X:Cx}
end
open PySem.SeqAt
section
variable {X:Cx} {pins:List (Addr×Obj)} {σ:L2.St} {H:Hp} {s:Shared}
end
end L3
namespace HT
open PySem PySem.Spec PyProof.Rows L2
section
open PySem.SeqAt
open PySem.MeetsSeq PySem.MeetsSeq2 PySem.MeetsSeq3
end
section
variable {prog:Program} {w:World} {A:Around} {E:Value->Shared->Prop} {s:Shared}
end
end HT
namespace L3
open PySem PySem.Spec PyProof.Rows L2
section
variable {X:Cx}
end
end L3
namespace HT
open PySem PyProof.Rows
section
variable {prog:Program} {w:World} {A:Around} {R:Result->Shared->Prop} {I:Addr} {fp wr:List Addr} {n:Nat} {P:Nat->Value->Prop} {St:Nat->Heap->Prop}
end
section
variable {prog:Program} {w:World} {A:Around} {E:Value->Shared->Prop} {s:Shared}
end
end HT
namespace L3
open PySem PySem.Spec PyProof.Rows L2
section
variable {X:Cx}
end
section
variable {X:Cx}
end
section
variable {X:Cx}
end
section
variable {X:Cx} {a b:Expr} {ta tb:TE3} {pos:Pos}
end
end L3
namespace L3
open PySem PySem.Spec PyProof.Rows L2 PySem.SeqAt
section
variable {X:Cx} {a b:Expr} {ta tb:TE3} {pos:Pos}
end
end L3
namespace L3
open PySem PySem.Spec PyProof.Rows L2
section
variable {X:Cx} {a b e:Expr} {ta tb te:TE3} {pos:Pos}
end
section
variable {X:Cx} {a b:Expr} {ta tb:TE3} {pos:Pos}
end
section
variable {X:Cx}
end
def ev {α:Type}:List α->List α
 |[]=>[]
 |[x]=>[x]
 |x::_::r=>x::ev r
def NF {α:Type}:∀ xs:List α,(ev xs).length=(xs.length+1)/2
 |[]=>by simp [ev]
 |[_]=>by simp [ev]
 |x::y::r=>by simp only [ev,length_cons,NF r];omega
def T8 {α:Type}:∀ xs:List α,(List.range ((xs.length+1)/2)).filterMap (λk=>xs[2*k]?)=ev xs
 |[]=>by simp [ev]
 |[x]=>by simp [ev,List.range_succ]
 |x::y::r=>by
  have e:((x::y::r).length+1)/2=(r.length+1)/2+1:=by simp only [length_cons];omega
  rw [e,List.range_succ_eq_map,List.filterMap_cons,List.filterMap_map];have e0:(x::y::r)[2*0]?=some x:=rfl;simp only [e0,ev];rw [← T8 r];congr 1
def qbO (its:List Value) (i:Nat) (h:i<=its.length):slicePick its.toArray (some (i:Int)) none (some 2)=(ev (its.drop i)).toArray:=by
 unfold slicePick sliceBounds sliceRange;have e1:(max 0 (min (if (i:Int)<0 then (i:Int)+(its.toArray.size:Int) else (i:Int)) (its.toArray.size:Int)))=(i:Int):=by
  rw [if_neg (by omega),size_toArray];omega
 simp only [Option.getD_some,show ((2:Int) > 0)=True from by simp,if_true,e1];have e2:(if (i:Int)<(its.toArray.size:Int) then ((its.toArray.size:Int)-(i:Int)+2-1)/2 else 0).toNat=((its.drop i).length+1)/2:=by
  rw [size_toArray,List.length_drop];split<;>omega
 rw [e2,List.filterMap_map];congr 1;rw [← T8 (its.drop i)];congr 1;funext k;simp only [Function.comp_apply];have e3:((i:Int)+2*(k:Int)).toNat=i+2*k:=by omega
 rw [e3,List.getElem?_drop];simp
section
variable {X:Cx} {e el ek:Expr} {p2 pos:Pos}
def T7:∀ {xs:List V} {us:List Value},qF xs us->qF (ev xs) (ev us)
 |_,_,.nil=>.nil
 |_,_,.cons r .nil=>.cons r .nil
 |_,_,.cons r (.cons _ t)=>.cons r (T7 t)
def MS {K:Frg} {H:Hp}:∀ {ys:List T} {vs:List V},Rps K H ys vs->Rps K H (ev ys) (ev vs)
 |_,_,.nil=>.nil
 |_,_,.cons r .nil=>.cons r .nil
 |_,_,.cons r (.cons _ t)=>.cons r (MS t)
def qlp (K:Frg) (te:TE) (tl tk:TO):TE:=λσ H Q=>te σ H λx H1=>tl σ H1 λl H2=>tk σ H2 λk H3=>k=some 2/\∃ a xs,∃ i:Nat,l=some (i:Int)/\x=.ref a/\SqL K H3 a xs/\i<=xs.length/\∀ p,H3 p=none->Q (.ref p) (upd H3 p (.lst (ev (xs.drop i))))
def qes {te:TE} {tl tk:TO} (he:PE X e te) (hl:PO X (some el) tl) (hk:PO X (some ek) tk) {ops:Value->Value->List Value} (hs:∀ v w,subscripted (.Slice (some el) none (some ek) p2) false v w=operate (ops v w) (getItem v w)):PE X (.Subscript e (.Slice (some el) none (some ek) p2) pos) (qlp X.K te tl tk):=by
 intro pins s σ H Q I h;refine Subscript_ (thn (he pins s σ H _ I h) λv s1 ⟨x,H1,I1,r1,q1⟩=>?_);refine wpAny_Slice ?_;refine thn (hl pins s1 σ H1 _ I1 q1) λvl s2 ⟨l,H2,I2,pl,q2⟩=>?_;rw [evalPart_none];refine wpAny_pure ?_;refine thn (hk pins s2 σ H2 _ I2 q2) λvk s3 ⟨k,H3,I3,pk,q3⟩=>?_;obtain ⟨rfl,a,xs,i,rfl,rfl,hx,hi,q⟩:=q3;have I4:Inv X pins σ H3 { s3 with heap:=s3.heap.push { cls:=.type "slice",data:=.fields #[vl,.none,vk] } }:=I3.kept (t':=s3.toks) λb ob q=>Heap.get?_push_of_some _ q;cases r1;obtain ⟨its,r,ht,hz⟩:=I4.list hx;have hlen:=r.length;show wpAny (model X.prog X.w) X.A (subscriptTail e (.Slice (some el) none (some ek) p2) (.ref a) (.ref s3.heap.objs.size)) (EP X pins σ Q) X.xe { s3 with heap:=s3.heap.push { cls:=.type "slice",data:=.fields #[vl,.none,vk] } };refine tail_any (ops:=ops (.ref a) (.ref s3.heap.objs.size)) (T:="list") ht.isList.typeIs slot_list_getitem.lookup ?_ (hs _ _);refine wpAny_getItem_list_slice ht.isList (Heap.IsSliceOf.new ..) pl .none pk (by decide) ?_ (by rw [size_toArray]<;>omega);rw [qbO its i (by omega)];refine ⟨.ref _,_,I4.laid (t':=s3.toks) (o:=.lst (ev (xs.drop i))) (λb ob q=>Heap.get?_push_of_some _ q) (Nat.le_refl _) ?_,rfl,q _ (I4.hok.fresh (Nat.le_refl _))⟩;exact ⟨by rw [NF,List.length_drop];omega,_,0,T7 (r.drop i),Heap.get?_push_size _ rfl⟩
def qiC (te:TE3) (tl tk:TO3):TE3:=λτ G q=>te τ G λx G1=>tl τ G1 λl G2=>tk τ G2 λk G3=>k=some 2/\(match x,l with|.ref p,some i=>(match getL G3 p with|some xs=>0<=i/\i<=xs.length/\∀ a,G3 a=none->q (.ref a) (gu G3 a (.lst (ev (xs.drop i.toNat))))|none=>False)|_,_=>False)
def WR {K:Frg} {H:Hp}:∀ {ys:List T} {vs:List V} (i:Nat),Rps K H ys vs->Rps K H (ys.drop i) (vs.drop i)
 |_,_,0,h=>h
 |_,_,_+1,.nil=>.nil
 |_,_,i+1,.cons _ t=>WR i t
def qd0 {te:TE3} {tl tk:TO3} (he:jE3 X e te) (hl:jP3 X (some el) tl) (hk:jP3 X (some ek) tk) {ops:Value->Value->List Value} (hs:∀ v w,subscripted (.Slice (some el) none (some ek) p2) false v w=operate (ops v w) (getItem v w)):jE3 X (.Subscript e (.Slice (some el) none (some ek) p2) pos) (qiC te tl tk):=
 ⟨JH (qes he.h hl.h hk.h hs) λ_ _ _ ⟨τ,G,q,rl,h,af⟩=>qN rl h λx G1 h1 v H1 rx hr1 k1 rl1=>
  ⟨τ,G1,_,rl1,h1,λl G2 h2 H2 hr2 k2=>⟨τ,G2,_,rl1.next hr2 k2,h2,λk G3 h3 H3 hr3 k3=>by
   obtain ⟨hk,h3⟩:=h3;have rx3:=(rx.keep hr1 k2).keep hr2 k3;cases x<;>try exact h3.elim
   case ref p=>
    cases l with
    |none=>exact h3.elim
    |some i=>
    simp only at h3;split at h3
    ·rename_i xs e0;obtain ⟨i0,i1,h3⟩:=h3;cases rx3;obtain ⟨vs,hs',rs⟩:=zm hr3 e0;have:=rs.length;exact ⟨hk,p,vs,i.toNat,by rw [Int.toNat_of_nonneg i0],rfl,hs',by omega,λa ha=>af _ _ (h3 a (hr3.free ha)) _ _ (.ref a) (hr3.newL ha (MS (WR _ rs))) (((k1.trans k2).trans k3).trans (Kp.newL ha))⟩
    ·exact h3.elim⟩⟩⟩
end
section
variable {X:Cx} {pos:Pos} {e:Expr} {te:TE3}
end
section
variable {X:Cx} {pos:Pos} {o i e:Expr} {to ti te:TE3}
end
section
variable {K:Frg} {G G':Gp} {H H':Hp}
def qjv (kvs:List (Int×T)):List Key:=kvs.map λp=>(Sum.inl p.1:Key)
def qkw (kvs:List (Int×T)):List T:=kvs.map λp=>p.2
def HR.dct (hr:HR K G H) {p:Addr} {kvs:List (Int×T)} (g:G p=some (.dct kvs)):∃ vs,H p=some (.dK ((qjv kvs).zip vs))/\Rps K H (qkw kvs) vs:=hr p _ g
end
section
variable {X:Cx} {pos:Pos} {o i e:Expr} {to ti te:TE3}
variable {es:List Expr} {t:TA3}
end
end L3
namespace L3
open PySem PySem.Spec PyProof.Rows L2 PySem.SeqAt
section
variable {prog:Program} {w:World} {A:Around} {E:Value->Shared->Prop} {s:Shared}
end
section
variable {X:Cx}
end
end L3
namespace L2
open PySem PySem.Spec PyProof.Rows
def YR (p:Addr->Bool) (h:Heap):Heap:=⟨h.objs.mapIdx λi o=>if p i then { o with data:=.freed } else o,h.life⟩
def jq (p:Addr->Bool) (h:Heap) (a:Addr):(YR p h).get? a=if p a then none else h.get? a:=by
 unfold YR Heap.get?;simp only [Array.getElem?_mapIdx];cases h.objs[a]? with
 |none=>simp
 |some o=>
  simp only [Option.map_some];by_cases c:p a=true
  ·rw [if_pos c,if_pos c]
  ·rw [if_neg c,if_neg c]
def jK {p:Addr->Bool} {h:Heap} {a:Addr} (c:p a=true):(YR p h).get? a=none:=by rw [jq,if_pos c]
def Q1 (p:Addr->Bool) (h:Heap):(YR p h).StaysIn h:=λb o e=>by
 rw [jq] at e;split at e
 ·cases e
 ·exact e
def UD {p:Addr->Bool} {h:Heap} {a:Addr} {o:Obj} (e:h.get? a=some o) (c:p a=false):(YR p h).get? a=some o:=by
 rw [jq,if_neg (by rw [c];decide)];exact e
def zw {h base base':Heap}:∀ {l:List Env},h.FunFrames base l->(∀ b∈frs l,base'.get? b=none)->h.FunFrames base' l
 |[],_,_=>trivial
 |env::QR,⟨hk,⟨L,o,hf,hn,ho,hd⟩,hr⟩,z=>
  ⟨hk,⟨L,o,hf,z L (by unfold frs;rw [List.filterMap_cons,hf];exact List.mem_cons_self),ho,hd⟩,zw hr λb hb=>z b (by unfold frs;rw [List.filterMap_cons,hf];exact List.mem_cons_of_mem _ hb)⟩
def Fly (h:Heap) (e T:Addr) (cls a0:Value):Prop:=
 ∃ oe vs oT ts,h.get? e=some oe/\(oe.cls=cls/\vs[0]?=some a0)/\oe.data=.fields vs/\vs[1]?=some (.ref T)/\T≠e/\h.get? T=some oT/\oT.data=.fields ts/\ts[3]?=some .none
def Fly.w {h base:Heap} {e T:Addr} {cls a0:Value} (f:Fly h e T cls a0) (n:base.get? T=none):h.TracedW base e cls a0:=
 let ⟨oe,vs,oT,ts,h1,h2,h3,h4,h5,h6,h7,h8⟩:=f
 ⟨oe,vs,T,oT,ts,h1,h2,h3,h4,n,h5,h6,h7,h8⟩
def RW {h base:Heap} {e:Addr} {cls a0:Value} (t:h.TracedW base e cls a0):∃ T,Fly h e T cls a0/\base.get? T=none:=
 let ⟨oe,vs,T,oT,ts,h1,h2,h3,h4,n,h5,h6,h7,h8⟩:=t
 ⟨T,⟨oe,vs,oT,ts,h1,h2,h3,h4,h5,h6,h7,h8⟩,n⟩
def Fly.rec1 {h:Heap} {e T:Addr} {cls a0:Value} (f:Fly h e T cls a0):∃ o vs,h.get? e=some o/\o.data=.fields vs:=
 let ⟨oe,vs,_,_,h1,_,h3,_⟩:=f;⟨oe,vs,h1,h3⟩
def Fly.rec2 {h:Heap} {e T:Addr} {cls a0:Value} (f:Fly h e T cls a0):∃ o vs,h.get? T=some o/\o.data=.fields vs:=
 let ⟨_,_,oT,ts,_,_,_,_,_,h6,h7,_⟩:=f;⟨oT,ts,h6,h7⟩
def CXe (P:Program) (w:World):CXT:=λouter H s E e s'=>∃ (ea T C:Addr) (a0:Value) (H':Hp),e=.ref ea/\Fly s'.heap ea T (.ref C) a0/\s.heap.get? ea=none/\s.heap.get? T=none/\H' ea=none/\H' T=none /\
 s'.os=s.os/\AllBare s'.gens/\Un (frs outer) [] H H' s.heap s'.heap/\HOk P w H' s'.heap/\E (.ref C) none H'
section
variable {X:Cx} {pins:List (Addr×Obj)} {σ:St} {H:Hp} {s:Shared}
structure Lv (l:List Env) (e T:Addr) (h h':Heap):Prop where
 keep:∀ b o,h.get? b=some o->b≠e->b≠T->b∉frs l->h'.get? b=some o
 slot:∀ b o,h.get? b=some o->b∈frs l->∃ sl,h'.get? b=some { o with slots:=sl }
def SB {h base:Heap} {l:List Env} (hl:h.FunFrames base l) {b:Addr} {o:Obj} {vs:Array Value} (e:h.get? b=some o) (d:o.data=.fields vs):b∉frs l:=λz=>by
 obtain ⟨_,o',e',n⟩:=hl.mem z;rw [e] at e';cases e';exact n _ d
def DS {M:Model} {A:Around} {E:Value->Shared->Prop} {base h:Heap} {env:Env} {outer:List Env} {L e:Addr} {cls:Value} {args:List Value} {Q:Unit->Shared->Prop}
  (hfr:A.frames=some (env::outer)) (hf:env.frame=some L) (hl:h.FunFrames base (env::outer)) (hx:Heap.MadeExcOf h s.heap e cls args)
  (hQ:∀ h' T' t,Fly h' e T' cls (.ref t)->h.get? T'=none->(∀ b o,h.get? b=some o->b∉frs (env::outer)->h'.get? b=some o)->(∀ b o,h.get? b=some o->b∈frs (env::outer)->∃ sl,h'.get? b=some { o with slots:=sl })->Q () { s with heap:=h' }) :
  wpAny M A (leaving env (.ref e)) Q E s:=by
 classical
 let p:Addr->Bool:=λb=>decide (b∈frs (env::outer))
 have hl':h.FunFrames (YR p h) (env::outer):=zw hl λb hb=>jK (decide_eq_true hb);refine wpAny_leaves_madeW hfr hf (Q1 p h) hl' hx λh' t fl tu nt ups=>?_;obtain ⟨k1,k2,k3,k4⟩:=fl;obtain ⟨T',fl',nT⟩:=RW k4;refine hQ h' T' t fl' ?_ (λb o hb h3=>k1 b o (UD hb (decide_eq_false h3))) λb o hb h3=>?_
 ·rw [jq] at nT;split at nT
  ·rename_i c;obtain ⟨oT',ts',g1,g2⟩:=fl'.rec2;obtain ⟨_,o',e',n⟩:=hl.mem (of_decide_eq_true c);obtain ⟨sl,q⟩:=ups T' o' (hx.keeps _ _ e') n;rw [q] at g1;cases g1;exact absurd g2 (n _)
  ·exact nT
 ·obtain ⟨_,o',e',n⟩:=hl.mem h3;rw [hb] at e';cases e';exact ups b o (hx.keeps _ _ hb) n
end
def jc.there {P:Program} {w:World} {H:Hp} {h:Heap} {a:Addr} {o:HO} (x:jc P w H h a o):∃ u,h.get? a=some u:=by
 cases o with
 |lst xs=>obtain ⟨_,_,_,_,e⟩:=x;exact ⟨_,e⟩
 |tup xs=>obtain ⟨_,_,_,ob,e,_⟩:=x;exact ⟨_,e⟩
 |dK kvs=>obtain ⟨_,_,_,_,o,_,_,e,_⟩:=x;exact ⟨_,e⟩
 |dT kvs=>obtain ⟨_,_,_,_,o,_,_,e,_⟩:=x;exact ⟨_,e⟩
 |set S n=>obtain ⟨o,_,_,_,e,_⟩:=x;exact ⟨_,e⟩
 |ins C dx fs=>obtain ⟨_,_,_,e,_⟩:=x;exact ⟨_,e⟩
 |own y=>obtain ⟨_,e⟩:=x;exact ⟨_,e⟩
 |xd fs=>obtain ⟨_,⟨_,_,_,e,_⟩,_⟩:=x;exact ⟨_,e⟩
 |rng lo hi=>obtain ⟨_,_,_,e⟩:=x;exact ⟨_,e⟩
 |frz ob u=>obtain ⟨e,_⟩:=x;exact ⟨_,e⟩
 |tbl ps=>exact ⟨_,(show h.get? a=some _ from x)⟩
 |met f y=>exact ⟨_,(show h.get? a=some _ from x)⟩
 |ext φ=>obtain ⟨_,⟨_,e⟩,_⟩:=x;exact ⟨_,e⟩
def HOk.nil {P:Program} {w:World} {H:Hp} {h:Heap} {a:Addr} (x:HOk P w H h) (e:h.get? a=none):H a=none:=by
 cases q:H a with
 |none=>rfl
 |some u=>
  obtain ⟨z,y⟩:=(x a u q).there;rw [e] at y;cases y
def HOk.tracked {P:Program} {w:World} {H:Hp} {h h':Heap} (x:HOk P w H h) (k:∀ b u,H b≠none->h.get? b=some u->h'.get? b=some u):HOk P w H h':=λa o e=>
 (x a o e).stay (λb u z q=>k b u (λn=>by
  rcases z with rfl|z
  ·rw [e] at n;cases n
  ·rw [z] at n;cases n) q) (λ_ q=>q) λ_ _ q=>q
section
variable {P:Program} {w:World} {K:Frg} {mg:Str->Option Value} {base:Heap} {N:List Str} {qual:Str} {scope:Scope} {f:Addr} {cd:Value} {A:Around} {outer:List Env} {s0:Shared} {H0:Hp} {E:XK} {CX:CXT}
 {pins:List (Addr×Obj)} {σ:St} {H:Hp} {s:Shared}
def qb2 {h':Heap} {e T T' C:Addr} {a0:Value} (I:Inv (JC CX P w K mg base N qual scope f cd A outer s0 H0 E) pins σ H s)
  (ne:s0.heap.get? e=none) (nT:s0.heap.get? T=none) (nT':s0.heap.get? T'=none) (He:H e=none) (HT:H T=none) (HT':H T'=none) (fl:Fly h' e T' (.ref C) a0) (lv:Lv (envOfC qual scope s0.heap.objs.size f cd::outer) e T s.heap h') (hE:E (.ref C) none H) :
  CXe P w outer H0 s0 E (.ref e) { s with heap:=h' }:=by
 have nl:∀ {b o},s0.heap.get? b=some o->b∉frs outer->b∉frs (envOfC qual scope s0.heap.objs.size f cd::outer):=λ{b o} q hb z=>by
  have z':b∈s0.heap.objs.size::frs outer:=z;rcases mem_cons.mp z' with z|z
  ·subst z;exact absurd (Heap.lt_size q) (Nat.lt_irrefl _)
  ·exact hb z
 have sub:∀ {b},b∈frs outer->b∈frs (envOfC qual scope s0.heap.objs.size f cd::outer):=λ{b} z=>(List.mem_cons_of_mem _ z:b∈s0.heap.objs.size::frs outer)
 have noex:∀ b:Addr,b∉(JC CX P w K mg base N qual scope f cd A outer s0 H0 E).ex:=λb z=>absurd (show b∈([]:List Addr) from z) (by simp);have n1:∀ {b o},s0.heap.get? b=some o->b≠e:=λq z=>by subst z;rw [ne] at q;cases q
 have n2:∀ {b o},s0.heap.get? b=some o->b≠T:=λq z=>by subst z;rw [nT] at q;cases q
 refine ⟨e,T',C,a0,H,rfl,fl,ne,nT',He,HT',I.os,I.bare,?_,?_,hE⟩
 ·refine ⟨λb o q n hb _=>?_,λb o q n hb _=>?_,λb o q n _=>I.base.free b o q n (noex b),λb o q _=>?_,I.base.tups,I.base.frzs,I.base.tbls⟩
  ·exact lv.keep b o (I.base.keep b o q n hb (noex b)) (n1 q) (n2 q) (nl q hb)
  ·obtain ⟨sl,q1⟩:=I.base.slot b o q n hb (noex b);obtain ⟨sl',q2⟩:=lv.slot b _ q1 (sub hb);exact ⟨sl',q2⟩
  ·obtain ⟨o',q1⟩:=I.base.there b o q (noex b);by_cases hb:b∈frs (envOfC qual scope s0.heap.objs.size f cd::outer)
   ·obtain ⟨sl',q2⟩:=lv.slot b _ q1 hb;exact ⟨_,q2⟩
   ·exact ⟨_,lv.keep b _ q1 (n1 q) (n2 q) hb⟩
 ·exact I.hok.tracked λb u z q=>lv.keep b u q (λy=>by subst y;exact z He) (λy=>by subst y;exact z HT) λy=>z (I.stkFree b y)
def qbx {h':Heap} {e C:Addr} {args:List Value} (I:Inv (JC (CXe P w) P w K mg base N qual scope f cd A outer s0 H0 E) pins σ H s) (hx:Heap.MadeExcOf s.heap h' e (.ref C) args) (hE:E (.ref C) none H) :
  (JC (CXe P w) P w K mg base N qual scope f cd A outer s0 H0 E).xe (.ref e) { s with heap:=h' }:=by
 have noex:∀ b:Addr,b∉(JC (CXe P w) P w K mg base N qual scope f cd A outer s0 H0 E).ex:=λb z=>absurd (show b∈([]:List Addr) from z) (by simp);have up:∀ {b},s.heap.get? b=none->s0.heap.get? b=none:=λ{b} q=>by
  cases z:s0.heap.get? b with
  |none=>rfl
  |some o=>obtain ⟨o',y⟩:=I.base.there b o z (noex b);rw [q] at y;cases y
 refine DS (s:={ s with heap:=h' }) (h:=s.heap) I.ok.frames rfl I.stack hx λh2 T' t fl nT k1 k2=>?_;show CXe P w outer H0 s0 E (.ref e) { s with heap:=h2 };exact qb2 (T:=e) I (up hx.new) (up hx.new) (up nT) (I.hok.nil hx.new) (I.hok.nil hx.new) (I.hok.nil nT) fl ⟨λb o q _ _ hb=>k1 b o q hb,k2⟩ hE
end
section
variable {X:Cx} {x:Str} {C:Addr} {B Bn newId nid initId inN:String} {bm bmN:List Value} {np cpos pos:Pos} {e:Expr} {es:List Expr} {t:TA} {EE:Hp->Prop}
def MN (O:OwnCls x C bm newId X.mg X.base) (Fn:ExcBaseFacts Bn newId inN bmN) (hBn:bm.contains (.type Bn)=true) (FB:ExcBaseFacts B nid initId bm) (hc:X.calm=true) (hg:Gl X x) (ha:PA X (e::es) t)
  (hx:∀ (pins:List (Addr×Obj)) (σ:St) (H:Hp) (s:Shared) (ea:Addr) (h':Heap) (vs:List Value),Inv X pins σ H s->Heap.MadeExcOf s.heap h' ea (.ref C) vs->EE H->X.xe (.ref ea) { s with heap:=h' })
  (hdb:(x==("__debug__" : Str))=false:=by decide) (he:starEach (e::es) X.env=(false,eval e X.env)::starEach es X.env:=by rfl) (hpl:(backTo cpos (starEach es X.env)).any (·.1)=false:=by rfl) :
  PS X (.Raise (some (.Call (.Name x np) (e::es) [] cpos)) none pos) (λ_ σ H=>t σ H λvs H1=>vs.length<=sizeLine/\EE H1):=by
 intro pins s σ H D I h;obtain ⟨tl,N,nm,q,bs,hdct,sn,sub,ab,col,dd,k0,k1,k2,k3,k5,mN,hC,hN,hni,T⟩:=O.obj;refine wpAny_Raise_call_subU (C:=C) (nm:=nm) (q:=q) (N:=N) (bs:=bs) (bm:=tl) (hdct:=hdct) (sn:=sn) (sub:=sub) (ab:=ab) (col:=col) (dd:=dd) (k0:=k0) (k1:=k1) (k2:=k2) (k3:=k3) (k5:=k5)
  Fn hBn FB (mN:=mN) (T.hasType FB.hasBase) (I.ok.hd hc) (by rw [he];show (false||(backTo cpos (starEach es X.env)).any (·.1))=false;rw [hpl];rfl) hni (YH I hg O.bound ⟨rfl,?_⟩ hdb)
 have hA:=ha cpos pins s σ H _ I h;rw [he] at hA ⊢;exact Calls.evalArgs_plain (thn hA λus s2 ⟨vs,H2,I2,r,q⟩=>⟨rfl,by rw [← r.length];exact q.1,I2.bk _ _ hC,hN.keeps I2.bk,T.keeps I2.bk,λh' ea hm=>hx _ _ _ _ _ _ _ I2 hm q.2⟩)
end
end L2
namespace L3
open PySem PySem.Spec PyProof.Rows L2
abbrev X3:=Addr->Gp->Prop
abbrev Spx:=List T->Gp->X3->Prop
def EX (K:Frg) (dx:X3):XK:=λcls _ H=>∃ C G,cls=.ref C/\HR K G H/\dx C G
def qk6 (K:Frg) (sp:Spx):Sp:=λvs H _ E=>∃ ts G dx,HR K G H/\Rps K H ts vs/\sp ts G dx/\∀ cls H',EX K dx cls none H'->E cls none H'
def WZ (C:Addr) (dx:X3) (t:TA3):TS3:=λ_ τ G=>t τ G λxs G1=>xs.length<=sizeLine/\dx C G1
section
variable {X:Cx} {x:Str} {C:Addr} {B Bn newId nid initId inN:String} {bm bmN:List Value} {np cpos pos:Pos} {e:Expr} {es:List Expr} {t:TA3} {dx:X3}
def qcy (O:OwnCls x C bm newId X.mg X.base) (Fn:ExcBaseFacts Bn newId inN bmN) (hBn:bm.contains (.type Bn)=true) (FB:ExcBaseFacts B nid initId bm) (hc:X.calm=true) (hg:Gl X x) (ha:A3 X (e::es) t)
  (hx:∀ (pins:List (Addr×Obj)) (σ:L2.St) (H:Hp) (s:Shared) (ea:Addr) (h':Heap) (vs:List Value),Inv X pins σ H s->Heap.MadeExcOf s.heap h' ea (.ref C) vs->EX X.K dx (.ref C) none H->X.xe (.ref ea) { s with heap:=h' })
  (hdb:(x==("__debug__" : Str))=false:=by decide) (he:starEach (e::es) X.env=(false,eval e X.env)::starEach es X.env:=by rfl) (hpl:(backTo cpos (starEach es X.env)).any (·.1)=false:=by rfl) :
  S3 X (.Raise (some (.Call (.Name x np) (e::es) [] cpos)) none pos) (WZ C dx t):=
 CI (MN (EE:=EX X.K dx (.ref C) none) O Fn hBn FB hc hg ha hx hdb he hpl) λD σ H ⟨τ,G,d,rl,h,af⟩=>jo rl h λxs G1 h1 vs H1 rs hr1 k1 rl1=>⟨by rw [← rs.length];exact h1.1,C,G1,rfl,hr1,h1.2⟩
end
def qdX {P:Program} {w:World} {K:Frg} {mg:Str->Option Value} {base:Heap} {x qual:Str} {st:Stmt} {f:Addr} {fd:FuncData} {N ps:List Str} {k:Nat} {sp:Spx} {t3:X3->TS3} (F:Fun K x qual st f fd) (S:FnScope N ps (qf st))
  (body:∀ (dx:X3) (cdv:Value) (A:Around) (outer:List Env) (s:Shared) (H:Hp) (E:XK),(∀ cls H',EX K dx cls none H'->E cls none H')->Room k (A.deeper (envOfC qual (qf st) s.heap.objs.size f cdv)) ->
   B3 (JC (CXe P w) P w K mg base N qual (qf st) f cdv A outer s H E) (qH st) (t3 dx))
  (read:∀ ts G dx,sp ts G dx->ts.length=ps.length/\t3 dx { nx:=λ_ _=>False,rt:=λ_ _=>False } (ql N ts) G):FnOk P w K mg base (CXe P w) (k+1) f fd ps (qk6 K sp):=by
 obtain ⟨oc,od,kV,doc,pm,an,cdv,ct,osl,rfl,lk,hcd⟩:=F.ex;refine qgR lk hcd S (λvs H Q E ⟨ts,G,dx,h1,h2,h3,h4⟩=>by rw [← h2.length];exact (read ts G dx h3).1) λA outer s H vs Q E hr ⟨ts,G,dx,h1,h2,h3,h4⟩=>?_;exact ⟨_,body dx cdv A outer s H E h4 hr,ql N ts,G,_,YA h1 h2,(read ts G dx h3).2,⟨λ_ _ z=>z.elim,λ_ _ z=>z.elim,λ_ _ z=>z.elim,λ_ _ z=>z.elim⟩⟩
section
variable {K:Frg} {G G':Gp} {H H':Hp}
mutual
def Rp.sub (z:∀ a vs,SqT K H a vs->SqT K H' a vs):∀ {x:T} {v:V},Rp K H x v->Rp K H' x v
 |_,_,.non=>.non
 |_,_,.bl b=>.bl b
 |_,_,.int i=>.int i
 |_,_,.str x=>.str x
 |_,_,.ref a=>.ref a
 |_,_,.tup h hs=>.tup (z _ _ h) (Rps.sub z hs)
def Rps.sub (z:∀ a vs,SqT K H a vs->SqT K H' a vs):∀ {x:List T} {v:List V},Rps K H x v->Rps K H' x v
 |_,_,.nil=>.nil
 |_,_,.cons a b=>.cons (Rp.sub z a) (Rps.sub z b)
end
def HR.sub (hr:HR K G H) (z:∀ a vs,SqT K H a vs->SqT K H' a vs) (k:∀ a u,G a≠none->H a=some u->H' a=some u):HR K G H':=λa o e=>by
 have q:=hr a o e;have n:G a≠none:=by rw [e];simp
 cases o with
 |lst xs=>obtain ⟨vs,h1,h2⟩:=q;exact ⟨vs,k _ _ n h1,h2.sub z⟩
 |frz xs=>obtain ⟨vs,⟨o,h1⟩,h2⟩:=q;exact ⟨vs,⟨o,k _ _ n h1⟩,h2.sub z⟩
 |dct kvs=>obtain ⟨vs,h1,h2⟩:=q;exact ⟨vs,k _ _ n h1,h2.sub z⟩
 |tab ks xs=>obtain ⟨vs,h1,h2⟩:=q;exact ⟨vs,k _ _ n h1,h2.sub z⟩
 |exn C=>exact k _ _ n q
def HR.kind (hr:HR K G H) {a:Addr} (n:G a≠none):(∃ vs,H a=some (.lst vs))\/(∃ o vs,H a=some (.frz o (.lst vs)))\/(∃ kvs,H a=some (.dK kvs))\/∃ φ,H a=some (.ext φ):=by
 cases e:G a with
 |none=>exact absurd e n
 |some o=>
  have q:=hr a o e;cases o with
  |lst xs=>obtain ⟨vs,h1,_⟩:=q;exact .inl ⟨vs,h1⟩
  |frz xs=>obtain ⟨vs,⟨o,h1⟩,_⟩:=q;exact .inr (.inl ⟨o,vs,h1⟩)
  |dct kvs=>obtain ⟨vs,h1,_⟩:=q;exact .inr (.inr (.inl ⟨_,h1⟩))
  |tab ks xs=>obtain ⟨vs,h1,_⟩:=q;exact .inr (.inr (.inl ⟨_,h1⟩))
  |exn C=>exact .inr (.inr (.inr ⟨_,q⟩))
end
def lSx (K:Frg) (sp:Spx):Sp:=λvs H _ E=>∃ ts G dx,HR K G H/\Rps K H ts vs/\sp ts G dx/\∀ C G' H',HR K G' H'->Kp G H G' H'->dx C G'->E (.ref C) none H'
def Hid (G:Gp) (H:Hp) (a:Addr):Prop:=H a≠none/\G a=none/\∀ vs,¬ L2.Rd H a (.tup vs)
def qhs {P:Program} {w:World} {K:Frg} {mg:Str->Option Value} {base:Heap} {f:Addr} {fd:FuncData} {ps:List Str} {k:Nat} {sp:Spx} (F:FnOk P w K mg base (CXe P w) k f fd ps (qk6 K sp)):FnOk P w K mg base (CXe P w) k f fd ps (lSx K sp):=by
 classical
 refine ⟨λvs H Q E ⟨ts,G,dx,h1,h2,h3,h4⟩=>F.len vs H Q (EX K dx) ⟨ts,G,dx,h1,h2,h3,λ_ _ z=>z⟩,λA outer s H args us vs Q E hr e0 hb hv ⟨ts,G,dx,h1,h2,h3,h4⟩=>?_⟩
 let H1:Hp:=λa=>if Hid G H a then none else H a
 have n1:∀ {a},Hid G H a->H1 a=none:=λ{a} h=>if_pos h;have n2:∀ {a},¬ Hid G H a->H1 a=H a:=λ{a} h=>if_neg h;have n3:∀ {a},H a=none->¬ Hid G H a:=λ{a} h z=>z.1 h;have n4:∀ {a},H a=none->H1 a=none:=λ{a} h=>by rw [n2 (n3 h)];exact h
 have n5:∀ {a vs},L2.Rd H a (.tup vs)->¬ Hid G H a:=λ{a vs} h z=>z.2.2 _ h;have n6:∀ {a},G a≠none->¬ Hid G H a:=λ{a} h z=>h z.2.1;have sq:∀ a vs,SqT K H a vs->SqT K H1 a vs:=λa vs h=>by
  rcases h with h|h
  ·have e:=n2 (n5 h);rcases h with h|⟨o,h⟩
   ·exact .inl (.inl (e.trans h))
   ·exact .inl (.inr ⟨o,e.trans h⟩)
  ·exact .inr h
 have ownH:∀ {a b},H b=some (.own a)->Hid G H b:=λ{a b} h=>⟨by rw [h];simp,by
  cases e:G b with
  |none=>rfl
  |some o=>
   rcases h1.kind (a:=b) (by rw [e];simp) with ⟨_,y⟩|⟨_,_,y⟩|⟨_,y⟩|⟨_,y⟩<;>(rw [h] at y;cases y),λvs z=>by
  rcases z with z|⟨o,z⟩<;>(rw [h] at z;cases z)⟩
 have ok1:HOk P w H1 s.heap:=λa o e=>by
  by_cases c:Hid G H a
  ·rw [n1 c] at e;cases e
  ·rw [n2 c] at e;have x:=e0.hok a o e;by_cases g:G a=none
   ·have y:∃ vs,L2.Rd H a (.tup vs):=by
     by_cases z:∃ vs,L2.Rd H a (.tup vs)
     ·exact z
     ·exact absurd ⟨by rw [e];simp,g,λvs y=>z ⟨vs,y⟩⟩ c
    obtain ⟨vs,y⟩:=y;rcases y with y|⟨ob,y⟩
    ·rw [e] at y;cases y;exact x
    ·rw [e] at y;cases y;exact x
   ·rcases h1.kind g with ⟨_,y⟩|⟨_,_,y⟩|⟨_,y⟩|⟨_,y⟩
    ·rw [e] at y;cases y;exact x
    ·rw [e] at y;cases y;exact x
    ·rw [e] at y;cases y;exact x
    ·rw [e] at y;cases y;exact x
 have E0':Env0 P w K mg base A outer s H1:=⟨e0.frames,e0.mod,λb o q=>⟨(e0.bs b o q).1,n4 (e0.bs b o q).2⟩,e0.bsz,e0.funs,λb q=>n4 (e0.frf b q),ok1,e0.bare⟩
 refine codeAny_mono (F.run A outer s H1 args us vs (λ_ _=>False) (EX K dx) hr E0' hb hv ⟨ts,G,dx,h1.sub sq λa u n q=>(n2 (n6 n)).trans q,h2.sub sq,h3,λ_ _ z=>z⟩) λr s' h=>?_;cases r with
 |ok fl=>
  cases fl with
  |ret u=>obtain ⟨_,_,_,_,_,_,_,z⟩:=h;exact z.elim
  |_=>exact h
 |error e=>
  obtain ⟨ea,T,C,a0,H2,rfl,fl,ne,nT,He,HT,os,bare,un,hok,C',G',eC,hr',hd⟩:=h;cases eC
  let H3:Hp:=λa=>if Hid G H a then H a else H2 a
  have m1:∀ {a},Hid G H a->H3 a=H a:=λ{a} h=>if_pos h;have m2:∀ {a},¬ Hid G H a->H3 a=H2 a:=λ{a} h=>if_neg h;have fs:∀ {b},Hid G H b->b∉frs outer:=λ{b} h z=>h.1 (e0.frf b z);have th:∀ {b},Hid G H b->∃ o,s.heap.get? b=some o:=λ{b} h=>by
   cases e:H b with
   |none=>exact absurd e h.1
   |some o=>exact (e0.hok b o e).there
  have kp:∀ {b o},Hid G H b->s.heap.get? b=some o->s'.heap.get? b=some o:=λ{b o} h q=>un.keep b o q (n1 h) (fs h) (by simp);have fr2:∀ {b},Hid G H b->H2 b=none:=λ{b} h=>let ⟨o,q⟩:=th h;un.free b o q (n1 h) (by simp)
  have m3:∀ {a o},H2 a=some o->H3 a=some o:=λ{a o} q=>by
   rw [m2 (λz=>by rw [fr2 z] at q;cases q)];exact q
  have nh:∀ {b},s.heap.get? b=none->¬ Hid G H b:=λ{b} q z=>by obtain ⟨o,y⟩:=th z;rw [q] at y;cases y
  have tp:∀ b xs,H b=some (.tup xs)->H3 b=some (.tup xs):=λb xs q=>m3 (un.tups b xs ((n2 (n5 (.inl q))).trans q));have fz:∀ b o u,H b=some (.frz o u)->H3 b=some (.frz o u):=λb o u q=>by
   by_cases c:Hid G H b
   ·rw [m1 c];exact q
   ·exact m3 (un.frzs b o u ((n2 c).trans q))
  refine ⟨ea,T,C,a0,H3,rfl,fl,ne,nT,(m2 (nh ne)).trans He,(m2 (nh nT)).trans HT,os,bare,?_,?_,h4 C G' H3 ?_ ?_ hd⟩
  ·refine ⟨λb o q n=>un.keep b o q (n4 n),λb o q n=>un.slot b o q (n4 n),λb o q n hx=>(m2 (n3 n)).trans (un.free b o q (n4 n) hx),un.there,tp,fz,λb ps q=>?_⟩;by_cases c:Hid G H b
   ·exact ⟨#[],by rw [m1 c,q];simp⟩
   ·obtain ⟨more,y⟩:=un.tbls b ps ((n2 c).trans q);exact ⟨more,m3 y⟩
  ·intro a o e;by_cases c:Hid G H a
   ·rw [m1 c] at e;refine (e0.hok a o e).stay (λb u y q=>?_) (λb q=>(m1 (ownH q)).trans q) tp;rcases y with rfl|y
    ·exact kp c q
    ·exact kp (ownH y) q
   ·rw [m2 c] at e;exact (hok a o e).stay (λ_ _ _ q=>q) (λb q=>m3 q) λb xs q=>m3 q
  ·refine hr'.sub (λa vs h=>?_) λa u _ q=>m3 q;rcases h with h|h
   ·rcases h with h|⟨o,h⟩
    ·exact .inl (.inl (m3 h))
    ·exact .inl (.inr ⟨o,m3 h⟩)
   ·exact .inr h
  ·intro a o q g;by_cases c:Hid G H a
   ·exact ⟨(m1 c).trans q,hr'.free (fr2 c)⟩
   ·have y:∃ vs,L2.Rd H a (.tup vs):=by
     by_cases z:∃ vs,L2.Rd H a (.tup vs)
     ·exact z
     ·exact absurd ⟨by rw [q];simp,g,λvs y=>z ⟨vs,y⟩⟩ c
    obtain ⟨vs,y⟩:=y;rcases y with y|⟨ob,y⟩
    ·rw [q] at y;cases y;exact ⟨tp a vs q,hr'.noneT (.inl (un.tups a vs ((n2 c).trans q)))⟩
    ·rw [q] at y;cases y;exact ⟨fz a _ _ q,hr'.noneT (.inr ⟨_,un.frzs a _ _ ((n2 c).trans q)⟩)⟩
end L3
namespace L2
open PySem PySem.Spec PyProof.Rows
def qfc {l:List Env} {e T:Addr} {H H':Hp} {h h1 h2:Heap} (u:Un (frs l) [] H H' h h1) (v:Lv l e T h1 h2) (ne:h.get? e=none) (nT:h.get? T=none):Un (frs l) [] H H' h h2:=by
 have n1:∀ {b o},h.get? b=some o->b≠e:=λq z=>by subst z;rw [ne] at q;cases q
 have n2:∀ {b o},h.get? b=some o->b≠T:=λq z=>by subst z;rw [nT] at q;cases q
 refine ⟨λb o q n hb hx=>v.keep b o (u.keep b o q n hb hx) (n1 q) (n2 q) hb,λb o q n hb hx=>?_,u.free,λb o q hx=>?_,u.tups,u.frzs,u.tbls⟩
 ·obtain ⟨sl,q1⟩:=u.slot b o q n hb hx;obtain ⟨sl',q2⟩:=v.slot b _ q1 hb;exact ⟨sl',q2⟩
 ·obtain ⟨o',q1⟩:=u.there b o q hx;by_cases hb:b∈frs l
  ·obtain ⟨sl',q2⟩:=v.slot b _ q1 hb;exact ⟨_,q2⟩
  ·exact ⟨_,v.keep b _ q1 (n1 q) (n2 q) hb⟩
section
variable {X:Cx} {pins:List (Addr×Obj)} {σ:St} {H H':Hp} {s s':Shared}
def qj9 {M:Model} {A:Around} {E:Value->Shared->Prop} {base:Heap} {env:Env} {outer:List Env} {L e T:Addr} {cls a0:Value} {Q:Unit->Shared->Prop}
  (hfr:A.frames=some (env::outer)) (hf:env.frame=some L) (hl:s.heap.FunFrames base (env::outer)) (fl:Fly s.heap e T cls a0)
  (hQ:∀ h' T',Fly h' e T' cls a0->(T'=T\/s.heap.get? T'=none)->Lv (env::outer) e T s.heap h'->Q () { s with heap:=h' }):wpAny M A (noteFrame (.ref e) env) (λ_ s2=>wpAny M A (setFlight (.ref e) none) Q E s2) E s:=by
 classical
 obtain ⟨oe,ves,he,hed⟩:=fl.rec1;obtain ⟨oT,vts,hT,hTd⟩:=fl.rec2
 let p:Addr->Bool:=λb=>decide (b=e\/b=T\/b∈frs (env::outer))
 have pe:p e=true:=decide_eq_true (.inl rfl);have pT:p T=true:=decide_eq_true (.inr (.inl rfl));have hl':s.heap.FunFrames (YR p s.heap) (env::outer):=zw hl λb hb=>jK (decide_eq_true (.inr (.inr hb)));refine wpAny_looks_onW (base:=YR p s.heap) hfr hf ⟨Q1 p _,jK pe,hl',fl.w (jK pT)⟩ λh4 held up4=>?_;refine wpAny_landsW (s:={ s with heap:=h4 }) held λh5 fly up5=>?_;obtain ⟨k1,_,k2,k3⟩:=fly;obtain ⟨T',fl',nT⟩:=RW k3;refine hQ h5 T' fl' ?_ ⟨λb o hb h1 h2 h3=>k1 b o (UD hb (decide_eq_false λz=>z.elim h1 λz=>z.elim h2 h3)),λb o hb h3=>?_⟩
 ·rw [jq] at nT;split at nT
  ·rename_i c;rcases of_decide_eq_true c with c|c|c
   ·obtain ⟨_,_,_,_,_,_,_,_,ne,_⟩:=fl';exact absurd c ne
   ·exact .inl c
   ·obtain ⟨oT',ts',g1,g2⟩:=fl'.rec2;exact absurd c (SB k2 g1 g2)
  ·exact .inr nT
 ·obtain ⟨_,o',e',n⟩:=hl.mem h3;rw [hb] at e';cases e';obtain ⟨sl,q⟩:=up4 b o hb n;obtain ⟨sl',q'⟩:=up5 b _ q n;exact ⟨sl',q'⟩
end
section
variable {M:Model} {A:Around} {E:Value->Shared->Prop}
variable {nm q nm' q':Str} {C N B N':Addr} {bs bm bs' bm':List Value} {hdct hdct':Bool} {sn sn':List Str} {sub sub':List Value} {ab ab':Bool} {col col':Option Bool} {dd dd':Option Addr} {k0 k1 k2 k3 k5 l0 l1 l2 l3 l5:Option Value} {newId newId':String}
def qb6 {h:Heap} {g:Array GenState} {d:Drawn} {t:Nat} {os:OsState} {e:Addr} {oe:Obj} {b:Bool} {Q:Bool->Shared->Prop}
  (hC:h.get? C=some (excClassObj nm q C N bs bm hdct sn sub ab col dd k0 k1 k2 k3 k5 newId)) (hB:h.get? B=some (excClassObj nm' q' B N' bs' bm' hdct' sn' sub' ab' col' dd' l0 l1 l2 l3 l5 newId'))
  (he:h.get? e=some oe) (hcls:oe.cls=.ref C) (hbase:bm'.contains (.type "BaseException")=true) (hin:(Value.ref C::bm).contains (.ref B)=true)
  (hq:Q true ⟨h,g,d,t,os⟩):wpAny M A (excMatches (.ref e) (.ref B)) Q E ⟨h,g,d,t,os⟩:=by
 have hcB:(Value.ref B::bm').contains (.type "BaseException")=true:=by rw [List.contains_cons,hbase,Bool.or_true]
 have f:=tc_notTuple;unfold excMatches
 repeat (first|(with_reducible refine wpAny_loadPart_at he ?_;rw [hcls])|with_reducible refine wpAny_loadPart_at hB ?_|with_reducible refine wpAny_loadPart_at hC ?_|(with_reducible refine wpAny_isSubtype_exc hB ?_;rw [hcB])|(with_reducible refine wpAny_isSubtype_exc hC ?_;rw [hin])|wp_step)
 exact hq
end
open L3 (IsX)
def qdK {h:Heap} {e T C:Addr} {a0:Value} (f:Fly h e T (.ref C) a0):IsX e C h:=
 let ⟨oe,vs,_,_,h1,h2,h3,_⟩:=f;⟨oe,vs,h1,h2.1,h3⟩
def qfE {P:Program} {w:World} {H:Hp} {h:Heap} {a C:Addr} (x:IsX a C h):jc P w H h a (.ext (IsX a C)):=
 ⟨x,let ⟨o,_,e,_⟩:=x;⟨o,e⟩,λh1 h2 ⟨o,vs,e,c,d⟩ k=>⟨o,vs,k _ e,c,d⟩⟩
section
variable {X:Cx} {pins:List (Addr×Obj)} {σ:St} {H:Hp} {s:Shared} {ea:Addr} {o:HO}
def Inv.track (I:Inv X pins σ H s) (h0:H ea=none) (n0:X.s₀.heap.get? ea=none) (nl:ea≠X.env.locals) (nc:∀ x c,X.env.cells.lookup x=some c->c≠ea) (np:∀ p∈X.pn++pins,p.1≠ea)
  (ok:jc X.prog X.w (upd H ea o) s.heap ea o):Inv X pins σ (upd H ea o) s:=by
 have nb:∀ {b u},X.s₀.heap.get? b=some u->b≠ea:=λq z=>by subst z;rw [n0] at q;cases q
 have nu:∀ {b u},H b=some u->b≠ea:=λq z=>by subst z;rw [h0] at q;cases q
 refine ⟨I.ok,I.os,I.bare,⟨I.base.keep,I.base.slot,λb u q n hx=>?_,I.base.there,λb xs q=>?_,λb u v q=>?_,λb ps q=>?_⟩,I.loc,I.cell,?_,λx c e=>?_,λp hp=>?_,λa u e=>?_,I.len⟩
 ·rw [qj (nb q)];exact I.base.free b u q n hx
 ·have y:=I.base.tups b xs q;rw [qj (nu y)];exact y
 ·have y:=I.base.frzs b u v q;rw [qj (nu y)];exact y
 ·obtain ⟨more,y⟩:=I.base.tbls b ps q;exact ⟨more,by rw [qj (nu y)];exact y⟩
 ·rw [qj (Ne.symm nl)];exact I.free
 ·rw [qj (nc x c e)];exact I.freeC x c e
 ·obtain ⟨e,n,ne,nf,d⟩:=I.pin p hp;exact ⟨e,by rw [qj (np p hp)];exact n,ne,nf,d⟩
 ·by_cases z:a=ea
  ·subst z;rw [qz] at e;cases e;exact ok
  ·rw [qj z] at e;exact (I.hok a u e).stay (λ_ _ _ q=>q) (λb q=>by rw [qj (nu q)];exact q) λb xs q=>by rw [qj (nu q)];exact q
def Inv.gone {i:Nat} {n:Str} {m:Str->Option Value} {v:Option Value} {h':Heap} {t:Nat} (I:Inv X pins σ H s) (hN:X.N.Nodup) (hi:X.N[i]?=some n) (hm:s.heap.Ns X.env.locals m)
  (hn:h'.Ns X.env.locals (λx=>if x=n then v else m x)) (sb:Heap.SameBut X.env.locals s.heap h'):Inv X pins (σ.set i none) H { s with heap:=h',toks:=t }:=by
 have k:∀ b u,b≠X.env.locals->s.heap.get? b=some u->h'.get? b=some u:=λb u ne q=>(sb.2 b ne).trans q;have neL:∀ {b u},X.s₀.heap.get? b=some u->b≠X.env.locals:=λe=>Nat.ne_of_lt (Nat.lt_of_lt_of_le (Heap.lt_size e) I.ok.above);have trk:∀ {b u},H b=some u->b≠X.env.locals:=λq z=>by subst z;rw [I.free] at q;cases q
 have sz:=sb.1;refine ⟨I.ok,I.os,I.bare,⟨λb u q n hb hx=>k b u (neL q) (I.base.keep b u q n hb hx),λb u q n hb hx=>?_,I.base.free,λb u q hx=>?_,I.base.tups,I.base.frzs,I.base.tbls⟩,⟨_,hn,λj x u e1 e2 e3=>?_⟩,λx c e=>?_,I.free,I.freeC,λp hp=>?_,?_,by rw [List.length_set];exact I.len⟩
 ·obtain ⟨sl,y⟩:=I.base.slot b u q n hb hx;exact ⟨sl,k b _ (neL q) y⟩
 ·obtain ⟨u',y⟩:=I.base.there b u q hx;exact ⟨u',k b _ (neL q) y⟩
 ·rw [getElem?_set] at e2;split at e2
  ·split at e2<;>cases e2
  ·rename_i ne;obtain ⟨m2,hm2,hl⟩:=I.loc;obtain ⟨w,r,l⟩:=hl j x u e1 e2 e3;refine ⟨w,r,?_⟩;rcases l with ⟨l1,l2⟩|⟨l1,c,l2,l3⟩
   ·refine .inl ⟨l1,?_⟩;have nx:x≠n:=λz=>by
     subst z;exact ne ((List.getElem?_inj (List.getElem?_eq_some_iff.mp hi).1 hN).mp (hi.trans e1.symm))
    have em:m=m2:=hm.eq_nsMap.trans hm2.eq_nsMap.symm;show (if x=n then v else m x)=some w;rw [if_neg nx,em];exact l2
   ·obtain ⟨oc,hc,hd⟩:=l3;exact .inr ⟨l1,c,l2,oc,k c oc (I.cne x c l2) hc,hd⟩
 ·obtain ⟨v',oc,hc,hd⟩:=I.cell x c e;exact ⟨v',oc,k c oc (I.cne x c e) hc,hd⟩
 ·obtain ⟨e,n',ne,nf,d⟩:=I.pin p hp;exact ⟨k _ _ ne e,n',ne,nf,d⟩
 ·exact I.hok.tracked λb u z q=>k b u (λy=>by subst y;exact z I.free) q
end
def qfG {M:Model} {A:Around} {E:Value->Shared->Prop} {s:Shared} {base:Heap} {l:List Env} {e T:Addr} {cls a0:Value} {Q:Unit->Shared->Prop}
  (hl:s.heap.FunFrames base l) (fl:Fly s.heap e T cls a0)
  (hQ:∀ h' T',Fly h' e T' cls a0->(T'=T\/s.heap.get? T'=none)->Lv l e T s.heap h'->Q () { s with heap:=h' }):wpAny M A (setFlight (.ref e) none) Q E s:=by
 classical
 obtain ⟨oe,ves,he,hed⟩:=fl.rec1;obtain ⟨oT,vts,hT,hTd⟩:=fl.rec2
 let p:Addr->Bool:=λb=>decide (b=e\/b=T\/b∈frs l)
 have pe:p e=true:=decide_eq_true (.inl rfl);have pT:p T=true:=decide_eq_true (.inr (.inl rfl));have hl':s.heap.FunFrames (YR p s.heap) l:=zw hl λb hb=>jK (decide_eq_true (.inr (.inr hb)));refine lands_againW (base:=YR p s.heap) (l:=l) ⟨Q1 p _,jK pe,hl',fl.w (jK pT)⟩ λh5 fly up5=>?_;obtain ⟨k1,_,k2,k3⟩:=fly;obtain ⟨T',fl',nT⟩:=RW k3;refine hQ h5 T' fl' ?_ ⟨λb o hb h1 h2 h3=>k1 b o (UD hb (decide_eq_false λz=>z.elim h1 λz=>z.elim h2 h3)),λb o hb h3=>?_⟩
 ·rw [jq] at nT;split at nT
  ·rename_i c;rcases of_decide_eq_true c with c|c|c
   ·obtain ⟨_,_,_,_,_,_,_,_,ne,_⟩:=fl';exact absurd c ne
   ·exact .inl c
   ·obtain ⟨oT',ts',g1,g2⟩:=fl'.rec2;exact absurd c (SB k2 g1 g2)
  ·exact .inr nT
 ·obtain ⟨_,o',e',n⟩:=hl.mem h3;rw [hb] at e';cases e';exact up5 b o hb n
def Cx.cat (X:Cx) (pins:List (Addr×Obj)) (σ0:St) (E:XK):Cx:={ X with pn:=X.pn++pins,xe:=λe s'=>∃ H1 s1,Inv X pins σ0 H1 s1/\CXe X.prog X.w X.stack H1 s1 E e s' }
def Cx.hdl (X:Cx) (e:Value):Cx:={ X with A:=X.A.mark (some e),calm:=false,xe:=λ_ _=>False }
section
variable {X:Cx} {pins:List (Addr×Obj)} {σ σ0:St} {H:Hp} {s:Shared} {E:XK} {e:Value}
def Inv.cat (I:Inv X pins σ H s):Inv (X.cat pins σ0 E) [] σ H s:=
 ⟨⟨I.ok.mod,I.ok.kind,I.ok.glob,I.ok.blt,I.ok.above,I.ok.inj,I.ok.has,I.ok.cab,I.ok.hd,I.ok.frames,I.ok.stk,I.ok.exf,I.ok.bs,I.ok.bsz,I.ok.noex,I.ok.exfs,I.ok.funs,I.ok.frf⟩,I.os,I.bare,I.base,I.loc,I.cell,I.free,I.freeC,λp hp=>I.pin p (by rw [List.append_nil] at hp;exact hp),I.hok,I.len⟩
def Inv.ofCat {pins':List (Addr×Obj)} (I:Inv (X.cat pins σ0 E) pins' σ H s):Inv X pins σ H s:=
 ⟨⟨I.ok.mod,I.ok.kind,I.ok.glob,I.ok.blt,I.ok.above,I.ok.inj,I.ok.has,I.ok.cab,I.ok.hd,I.ok.frames,I.ok.stk,I.ok.exf,I.ok.bs,I.ok.bsz,I.ok.noex,I.ok.exfs,I.ok.funs,I.ok.frf⟩,I.os,I.bare,I.base,I.loc,I.cell,I.free,I.freeC,λp hp=>I.pin p (List.mem_append_left _ hp),I.hok,I.len⟩
def Inv.hdl (I:Inv X pins σ H s):Inv (X.hdl e) pins σ H s:=
 ⟨⟨I.ok.mod,I.ok.kind,I.ok.glob,I.ok.blt,I.ok.above,I.ok.inj,I.ok.has,I.ok.cab,(λz=>nomatch z),I.ok.frames,I.ok.stk,I.ok.exf,I.ok.bs,I.ok.bsz,I.ok.noex,I.ok.exfs,I.ok.funs,I.ok.frf⟩,I.os,I.bare,I.base,I.loc,I.cell,I.free,I.freeC,I.pin,I.hok,I.len⟩
def Inv.ofHdl (ok:X.Ok) (I:Inv (X.hdl e) pins σ H s):Inv X pins σ H s:=
 ⟨ok,I.os,I.bare,I.base,I.loc,I.cell,I.free,I.freeC,I.pin,I.hok,I.len⟩
end
section
variable {X:Cx} {pins:List (Addr×Obj)} {σ:St} {H:Hp} {s s':Shared} {E:XK} {ev:Value}
def YE (I:Inv X pins σ H s) {ea T C:Addr} {a0:Value} {H':Hp} (os:s'.os=s.os) (bare:AllBare s'.gens) (un:Un (frs X.stack) [] H H' s.heap s'.heap) (hok:HOk X.prog X.w H' s'.heap):Inv X pins σ H' s':=
 I.call' (ch:=[]) os un hok bare (λb z=>absurd z (by simp))
def qaz (I:Inv X pins σ H s) {ea T T' C:Addr} {a0:Value} {H':Hp} {h':Heap} (ne:s.heap.get? ea=none) (nT:s.heap.get? T=none) (He:H' ea=none) (HT:H' T=none) (os:s'.os=s.os) (bare:AllBare s'.gens) (un:Un (frs X.stack) [] H H' s.heap s'.heap)
  (hok:HOk X.prog X.w H' s'.heap) (hE:E (.ref C) none H') (fl':Fly h' ea T' (.ref C) a0) (hT':T'=T\/s'.heap.get? T'=none) (lv:Lv X.stack ea T s'.heap h'):CXe X.prog X.w X.stack H s E (.ref ea) { s' with heap:=h' }:=by
 have I':Inv X pins σ H' s':=YE (ea:=ea) (T:=T) (C:=C) (a0:=a0) I os bare un hok;have hok':HOk X.prog X.w H' h':=hok.tracked λb u z q=>lv.keep b u q (λy=>by subst y;exact z He) (λy=>by subst y;exact z HT) λy=>z (I'.stkFree b y);have gone:s'.heap.get? T'=none->s.heap.get? T'=none:=λq=>by
  cases z:s.heap.get? T' with
  |none=>rfl
  |some o=>obtain ⟨o',y⟩:=un.there T' o z (by simp);rw [q] at y;cases y
 rcases hT' with rfl|hT'
 ·exact ⟨ea,_,C,a0,H',rfl,fl',ne,nT,He,HT,os,bare,qfc un lv ne nT,hok',hE⟩
 ·exact ⟨ea,T',C,a0,H',rfl,fl',ne,gone hT',He,hok.nil hT',os,bare,qfc un lv ne nT,hok',hE⟩
def LP {E':Value->Shared->Prop} {Q:Unit->Shared->Prop} {L:Addr} (hst:X.stack=X.env::X.outer) (hf:X.env.frame=some L) (I:Inv X pins σ H s) (h:CXe X.prog X.w X.stack H s E ev s')
  (hQ:∀ h',CXe X.prog X.w X.stack H s E ev { s' with heap:=h' }->Q () { s' with heap:=h' }) :
  wpAny (model X.prog X.w) X.A (noteFrame ev X.env) (λ_ s2=>wpAny (model X.prog X.w) X.A (setFlight ev none) Q E' s2) E' s':=by
 obtain ⟨ea,T,C,a0,H',rfl,fl,ne,nT,He,HT,os,bare,un,hok,hE⟩:=h;have I':Inv X pins σ H' s':=YE (ea:=ea) (T:=T) (C:=C) (a0:=a0) I os bare un hok;have hfr:X.A.frames=some (X.env::X.outer):=I.ok.frames.trans (by rw [hst]);have hl:s'.heap.FunFrames X.base (X.env::X.outer):=by rw [← hst];exact I'.stack
 refine qj9 hfr hf hl fl λh' T' fl' hT' lv=>?_;rw [← hst] at lv;exact hQ h' (qaz I ne nT He HT os bare un hok hE fl' hT' lv)
def RH {M:Model} {A:Around} {E':Value->Shared->Prop} {Q:Unit->Shared->Prop} (I:Inv X pins σ H s) (h:CXe X.prog X.w X.stack H s E ev s')
  (hQ:∀ h',CXe X.prog X.w X.stack H s E ev { s' with heap:=h' }->Q () { s' with heap:=h' }):wpAny M A (setFlight ev none) Q E' s':=by
 obtain ⟨ea,T,C,a0,H',rfl,fl,ne,nT,He,HT,os,bare,un,hok,hE⟩:=h;have I':Inv X pins σ H' s':=YE (ea:=ea) (T:=T) (C:=C) (a0:=a0) I os bare un hok;refine qfG I'.stack fl λh' T' fl' hT' lv=>?_;exact hQ h' (qaz I ne nT He HT os bare un hok hE fl' hT' lv)
def ExC (base:Heap) (C:Addr) (mro:List Value):Prop:=∃ nm q N bs bm hdct sn sub ab col dd k0 k1 k2 k3 k5 newId,base.get? C=some (excClassObj nm q C N bs bm hdct sn sub ab col dd k0 k1 k2 k3 k5 newId)/\mro=.ref C::bm
def Ct (base:Heap) (B C:Addr):Prop:=∃ mro,ExC base C mro/\mro.contains (.ref B)=true
def qhp (base:Heap) (B:Addr) (i:Nat) (ts:TS) (D:Ends) (σ:St):XK:=λcls _ H'=>∃ C,cls=.ref C/\Ct base B C /\
 ∀ e,H' e=none->ts { nx:=λσ' H''=>D.nx (σ'.set i none) H'',rt:=λ_ _=>False } (σ.set i (some (.ref e))) (upd H' e (.ext (IsX e C)))
def qlQ (base:Heap) (B:Addr) (i:Nat) (tn:TS) (tr:St->XK->TS) (ts:TS):TS:=λD σ H=>tn D σ H\/tr σ (qhp base B i ts D σ) { nx:=λ_ _=>False,rt:=λ_ _=>False } σ H
def qeb {st:Stmt} {x n:Str} {B:Addr} {i:Nat} {mB:List Value} {np hp pos:Pos} {b0:Stmt} {suite:List Stmt} {tn ts:TS} {tr:St->XK->TS} {L:Addr}
  (hst:X.stack=X.env::X.outer) (hf:X.env.frame=some L) (hex:X.ex=[]) (hgl:Gl X x) (hmg:X.mg x=some (.ref B)) (hB:ExC X.base B mB) (hbb:mB.tail.contains (.type "BaseException")=true)
  (hN:X.N.Nodup) (hi:X.N[i]?=some n) (hloc:X.env.kindOf n=some .local) (hlo:X.env.scope.names.lookup n=some .local)
  (hn:PSs X.nox [st] tn) (hx:∀ pins σ0 E,PSs (X.cat pins σ0 E) [st] (tr σ0 E)) (hs:∀ ev,PSs (X.hdl ev) (b0::suite) ts) (hdb:(x==("__debug__" : Str))=false:=by decide) :
  PS X (.Try [st] [.ExceptHandler (some (.Name x np)) (some n) (b0::suite) hp] [] [] pos) (qlQ X.base B i tn tr ts):=by
 intro pins s σ H D I h;refine wpAny_Try_except ?_;rcases h with h|h
 ·refine wpAny_mono (hn pins s σ H D (I.wish _) h) (λf s1 q=>?_) λ_ _ z=>z.elim;have q:=q.unwish;cases f with
  |next=>obtain ⟨σ',H',I',q⟩:=q;exact wpAny_execs_nil ⟨σ',H',I',q⟩
  |brk=>exact q
  |cont=>exact q
  |ret u=>exact q
 ·refine wpAny_mono (hx pins σ _ [] s σ H _ I.cat h) (λf s1 q=>?_) λe s1 q=>?_
  ·cases f with
   |next=>obtain ⟨_,_,_,z⟩:=q;exact z.elim
   |brk=>obtain ⟨_,_,_,z⟩:=q;exact z.elim
   |cont=>obtain ⟨_,_,_,z⟩:=q;exact z.elim
   |ret u=>obtain ⟨_,_,_,_,_,z⟩:=q;exact z.elim
  ·obtain ⟨H1,s2,I2,q⟩:=q;refine LP hst hf I2 q λh1 q1=>?_;have nb:e≠byPass:=by obtain ⟨ea,_,_,_,_,rfl,_⟩:=q1;intro z;cases z
   obtain ⟨nmB,qB,NB,bsB,bmB,hdB,snB,subB,abB,colB,ddB,kB0,kB1,kB2,kB3,kB5,nwB,gB,rfl⟩:=hB;refine wpAny_handleBy_cons (codeAny_handlers_test ?_) nb;have hq1:=q1;obtain ⟨ea,T,C,a0,H',rfl,fl,ne,nT,He,HT,os,bare,un,hok,hE⟩:=hq1;have I3:Inv X pins σ H' { s1 with heap:=h1 }:=YE (ea:=ea) (T:=T) (C:=C) (a0:=a0) I2 os bare un hok;have I3h:Inv (X.hdl (.ref ea)) pins σ H' { s1 with heap:=h1 }:=I3.hdl;refine YH (X:=X.hdl (.ref ea)) I3h hgl hmg ?_ hdb;obtain ⟨C',eC,⟨mro,⟨nm,q',N,bs,bm,hd,sn,sub,ab,col,dd,k0,k1,k2,k3,k5,nw,gC,rfl⟩,hin⟩,hgo⟩:=hE;cases eC;obtain ⟨oe,vs,_,_,g1,g2,_⟩:=fl;refine qb6 (b:=true) (I3.bk _ _ gC) (I3.bk _ _ gB) g1 g2.1 hbb hin ?_;refine codeAny_handlers_suite_as ?_;refine RH I2 q1 λh2 q2=>?_;obtain ⟨ea',T2,C2,a2,H2,e2,fl2,ne2,nT2,He2,HT2,os2,bare2,un2,hok2,hE2⟩:=q2;cases e2;obtain ⟨C3,eC,⟨mro3,ex3,hin3⟩,hgo2⟩:=hE2;cases eC;have I4:Inv X pins σ H2 { s1 with heap:=h2 }:=YE (s':={ s1 with heap:=h2 }) (ea:=ea) (T:=T2) (C:=C2) (a0:=a2) I2 os2 bare2 un2 hok2;have noex:∀ b:Addr,s2.heap.get? b=none->X.s₀.heap.get? b=none:=λb q=>by
    cases z:X.s₀.heap.get? b with
    |none=>rfl
    |some o=>obtain ⟨o',y⟩:=I2.base.there b o z (by rw [hex];simp);rw [q] at y;cases y
   have nl:ea≠X.env.locals:=λz=>by
    obtain ⟨m,⟨o,es,ep,ho,_⟩,_⟩:=I2.loc;rw [← z,ne2] at ho;cases ho
   have nc:∀ y c,X.env.cells.lookup y=some c->c≠ea:=λy c e z=>by
    obtain ⟨v,o,ho,_⟩:=I2.cell y c e;rw [z,ne2] at ho;cases ho
   have np:∀ p∈X.pn++pins,p.1≠ea:=λp hp z=>by
    have y:=(I2.pin p hp).1;rw [z,ne2] at y;cases y
   have I5:Inv X pins σ (upd H2 ea (.ext (IsX ea C2))) { s1 with heap:=h2 }:=I4.track He2 (noex ea ne2) nl nc np (qfE (qdK fl2));refine ZI (X:=X.hdl (.ref ea)) (v:=.ref ea) I5.hdl hN hi (.inl hlo) rfl (λs3 I6=>?_) (.inr hlo);refine wpAny_mono (hs (.ref ea) pins s3 _ _ _ I6 (hgo2 ea He2)) (λf s4 q=>?_) λ_ _ z=>z.elim;cases f with
   |next=>
    obtain ⟨σ',H'',I7,q⟩:=q;have I7:=I7.ofHdl I.ok;obtain ⟨m,hm,hl⟩:=I7.loc;refine wpAny_nameGoes_keeps hloc hm (by rw [I.ok.kind];rfl) λh8 v hn8 sb=>?_;exact ⟨_,_,I7.gone hN hi hm hn8 sb,q⟩
   |brk=>obtain ⟨_,_,_,z⟩:=q;exact z.elim
   |cont=>obtain ⟨_,_,_,z⟩:=q;exact z.elim
   |ret u=>obtain ⟨_,_,_,_,_,z⟩:=q;exact z.elim
end
end L2
namespace L2
open PySem PySem.Spec PyProof.Rows PySem.W PySem.Calls Builtin Builtin.ObjectAttr Builtin.Getset_descriptor
open L3 (IsX)
structure ExK (K:Frag) (C:Addr):Prop where
 cls:(clsIn K C).isSome=true
 ga:findIn K (.ref C) "__getattribute__" = some (some (.builtin "BaseException.__getattribute__"))
 no:findIn K (.ref C) "__getattr__" = some none
 cl:findIn K (.ref C) "__class__" = some (some (.builtin "object.__class__"))
 ob:mroIn K C (.type "object")=some true
 be:mroIn K C (.type "BaseException")=some true
section
variable {prog:Program} {w:World} {A:Around} {E:Value->Shared->Prop} {K:Frag} {e C:Addr}
def RJ {M:Model} {h:Heap} (x:IsX e C h):Looks M h (typeOf (.ref e)) (.ref C):=by
 obtain ⟨o,vs,h1,h2,_⟩:=x;exact h2▸(Looks.ld h1).andThen .now
def XX {R:Result->Shared->Prop} {tp:Value} {s:Shared} (k:ExK K C) (X:K.In s.heap) (x:IsX e C s.heap) (h:R (.ok (.ret (.ref C))) s) :
  codeAny (model prog w) A (.call (.builtin "getset_descriptor.__get__") ⟨[.builtin "object.__class__",.ref e,tp],[]⟩) R s:=by
 obtain ⟨hh,g,dr,t,os⟩:=s;have L0:=RJ (M:=model prog w) x;have L1:=looks_mroIn (M:=model prog w) X k.ob;refine codeAny_call_builtin KF.slot_gs.plain KF.entry_gs (KF.slot_gs.check _ _ _ _ _ _ _ _ KF.type_class (KF.args_gs _ _ _) ?_);unfold Builtin.«getset_descriptor.__get__» descrGet;rw [dga_obj];refine wpAny_bind (wpAny_pure ?_);unfold descrGetter descrCheckInstance descrNameAndClass isInstance;simp only [KF.owner_class]
 repeat lk
 refine ⟨Code.quiet_builtin _ (by decide +kernel),codeAny_builtin KF.entry_class ?_⟩;unfold Builtin.«object.__class__» shownTypeOf
 repeat lk
 exact h
def DA {tk:Tok} {Q:Fin->Shared->Prop} {h:Heap} {g:Array GenState} {d:Drawn} {t:Nat} {os:OsState} (k:ExK K C) (X:K.In h) (x:IsX e C h) (hq:Q (.done (.ret (.ref C))) ⟨h,g,d,t,os⟩) :
  wpAny (model prog w) A (Builtin.«object.__getattribute__» ⟨[.ref e,.str "__class__" tk],[]⟩) Q E ⟨h,g,d,t,os⟩:=by
 have L0:=RJ (M:=model prog w) x;have L1:=looks_findIn (M:=model prog w) X k.cl;have hT5:(⟨h,g,d,t,os⟩:Shared).TypeIs (.builtin "object.__class__") "getset_descriptor" := F.typeOf_object_class;have f5:=F.typeOf_object_class;have f6:=F.slot_gs_get.lookup;have f7:=F.slot_gs_set.lookup;obtain ⟨o,vs,hx,hc,hd⟩:=id x
 repeat (any_goals (first|assumption|(with_reducible refine wpAny_loadPart_at hx ?_;rw [hc])|with_reducible refine L1.at ?_|wp_step))
 refine XX k X x ?_
 repeat (any_goals (first|assumption|wp_step))
def RI {M:Model} {nameV:Value} {Q:Unit->Shared->Prop} {h:Heap} {g:Array GenState} {d:Drawn} {t:Nat} {os:OsState} (k:ExK K C) (X:K.In h) (x:IsX e C h) (hq:Q () ⟨h,g,d,t,os⟩) :
  wpAny M A (checkBuiltinCall "BaseException.__getattribute__" ⟨[.ref e,nameV],[]⟩) Q E ⟨h,g,d,t,os⟩:=by
 have hk:builtinKind "BaseException.__getattribute__" = some .slot:=by decide +kernel
 have hsplit:splitId "BaseException.__getattribute__" = some ("BaseException","__getattribute__"):=by decide +kernel
 have L1:=looks_mroIn (M:=M) X k.be;have ha:=F.args_bexc_ga (.ref e) nameV;simp only [checkBuiltinCall,hk,hsplit];obtain ⟨o,vs,hx,hc,hd⟩:=id x;refine wpAny_bind ?_
 ·unfold isInstance
  repeat (first|(with_reducible refine wpAny_loadPart_at hx ?_;rw [hc])|with_reducible refine L1.at ?_|wp_step)
  exact hq
def C5 {tk:Tok} {Q:Value->Shared->Prop} {h:Heap} {g:Array GenState} {d:Drawn} {t:Nat} {os:OsState} (k:ExK K C) (X:K.In h) (x:IsX e C h) (hq:Q (.ref C) ⟨h,g,d,t,os⟩) :
  wpAny (model prog w) A (getAttrBy (.ref e) (.str "__class__" tk) false) Q E ⟨h,g,d,t,os⟩:=by
 have f3:bindSpecial (.builtin "BaseException.__getattribute__") (.ref e)=pure (.builtin "BaseException.__getattribute__",[.ref e]):=by kernel_rfl
 have hx2:(Value.builtin "BaseException.__getattribute__" == Value.builtin "object.__getattribute__")=false:=by decide +kernel
 have hx1:(onTheHeap (Value.ref C)&&Value.builtin "BaseException.__getattribute__" == Value.builtin "object.__getattribute__")=false:=by rw [hx2];rfl
 have L1:=looks_findIn (M:=model prog w) X k.ga;have L2:=looks_findIn (M:=model prog w) X k.no;obtain ⟨o,vs,hx,hc,hd⟩:=id x
 repeat (any_goals (first|assumption|(with_reducible refine wpAny_loadPart_at hx ?_;rw [hc])|with_reducible refine L1.at ?_|with_reducible refine L2.at ?_|wp_step))
 refine codeAny_call_builtin (by decide +kernel) F.entry_bexc_ga (RI k X x (DA k X x ?_))
 repeat (any_goals (first|assumption|wp_step))
def WC {Q:Option Value->Shared->Prop} {s:Shared} (k:ExK K C) (X:K.In s.heap) (x:IsX e C s.heap) (hq:Q (some (.ref C)) { s with toks:=s.toks+1 }):wpAny (model prog w) A (getAttr? (.ref e) "__class__") Q E s:=by
 obtain ⟨h,g,d,t,os⟩:=s;unfold getAttr? getAttrBy?
 repeat (any_goals (first|assumption|with_reducible apply C5 k X x|wp_step))
def LC (k:ExK K C):KitX K (.ref e) (.ref C) (IsX e C) where
 ty:=λ_ _ _ x=>RJ x
 it:=λ_ _ X _=>by
  obtain ⟨cd,hc⟩:=Option.isSome_iff_exists.mp k.cls;unfold clsIn at hc;split at hc
  ·rename_i c' d' cd' sl' ho;intro A' Q' E' s' k q;unfold isType loadHead;exact wpAny_bind (wpAny_loadPart (k _ _ (X _ _ ho)) (wpAny_pure q))
  ·cases hc
 ne:=λh tp dd its n sl X htp=>by
  obtain ⟨cd,hc⟩:=Option.isSome_iff_exists.mp k.cls;refine Bool.eq_false_iff.mpr λq=>?_;have e:C=tp:=Value.ref.inj (beq_iff_eq.mp q);subst e;unfold clsIn at hc;split at hc
  ·rename_i c' d' cd' sl' ho;have z:=(X _ _ ho).symm.trans htp;cases z
  ·cases hc
 ca:=λX x q=>WC k X x q
end
end L2
namespace L3
open PySem PySem.Spec PyProof.Rows L2
abbrev TX3:=X3->St3->Gp->Prop
def lX (K:Frg) (tx:TX3) (σ0:L2.St) (E:XK):TS:=λ_ σ H=>σ=σ0/\∃ τ G dx,Rel K τ G σ H/\tx dx τ G/\∀ C G' H',HR K G' H'->Kp G H G' H'->dx C G'->E (.ref C) none H'
def lXE (K:Frg) (tx:TX3) (σ0:L2.St) (E:XK):TE:=λσ H _=>σ=σ0/\∃ τ G dx,Rel K τ G σ H/\tx dx τ G/\∀ C G' H',HR K G' H'->Kp G H G' H'->dx C G'->E (.ref C) none H'
structure jXE3 (X:Cx) (e:Expr) (tx:TX3):Prop where h:∀ pins σ0 E,PE (X.cat pins σ0 E) e (lXE X.K tx σ0 E)
structure jX3 (X:Cx) (sts:List Stmt) (tx:TX3):Prop where h:∀ pins σ0 E,PSs (X.cat pins σ0 E) sts (lX X.K tx σ0 E)
def Fnx (P:Program) (w:World) (K:Frg) (mg:Str->Option Value) (base:Heap) (k:Nat) (x:Str) (sx:Spx):Prop:=
 ∃ f fd ps,FnOk P w K mg base (CXe P w) k f fd ps (lSx K sx)/\zz K fd ps []/\PySem.W.keepIn K (.ref f)=true/\mg x=some (.ref f)
def Fnx.mono {P:Program} {w:World} {K:Frg} {mg:Str->Option Value} {base:Heap} {j k:Nat} {x:Str} {sx:Spx} (F:Fnx P w K mg base j x sx) (h:j<=k):Fnx P w K mg base k x sx:=
 let ⟨f,fd,ps,a,b,c,d⟩:=F;⟨f,fd,ps,a.mono h,b,c,d⟩
def qcQ (sx:Spx) (t:TA3):TX3:=λdx τ G=>t τ G λxs G1=>sx xs G1 dx
section
variable {X:Cx} {k:Nat} {x:Str} {sx:Spx} {p pos:Pos} {e:Expr} {es:List Expr} {ta:TA3} {tx ty:TX3}
def qc0 (F:Fnx X.prog X.w X.K X.mg X.base k x sx) (hr:Room k X.A) (hg:Gl X x) (ha:∀ pins σ0 E,jA3 (X.cat pins σ0 E) (e::es) ta) (hdb:(x==("__debug__" : Str))=false:=by decide)
  (he:starEach (e::es) X.env=(false,eval e X.env)::starEach es X.env:=by rfl) (hpl:(backTo pos (starEach es X.env)).any (·.1)=false:=by rfl):jXE3 X (.Call (.Name x p) (e::es) [] pos) (qcQ sx ta):=by
 refine ⟨λpins0 σ0 E=>?_⟩;intro pins s σ H Q I h;obtain ⟨hσ,τ,G,dx,rl,h,af⟩:=h;obtain ⟨f,fd,ps,F,hb,hk,hm⟩:=F;refine wpAny_Call_Name_kw (YH I hg hm ?_ hdb);have hA:=(ha pins0 σ0 E).h pos pins s σ H (λvs H1=>∃ xs G1,sx xs G1 dx/\Rps X.K H1 xs vs/\HR X.K G1 H1/\Kp G H G1 H1) I (jo rl h λxs G1 h1 vs H1 rs hr1 k1 rl1=>⟨xs,G1,h1,rs,hr1,k1⟩);refine PySem.W.callWith_K (h₀:=X.base) I.ok.mod.kin hk (thn hA λus s1 ⟨vs,H1,I1,r,xs,G1,h1,rs,hr1,k1⟩=>⟨I1.kIn,?_⟩) he hpl;have sp:lSx X.K sx vs H1 (λ_ _=>False) E:=⟨xs,G1,dx,hr1,rs,h1,λC G' H' a b c=>af C G' H' a (k1.trans b) c⟩
 have hl:us.length=ps.length:=by rw [← r.length];exact F.len _ _ _ _ sp
 have hb':BindsTo s1 fd ⟨us,[]⟩ (ps.zip us):=by
  have z:=hb s1 us I1.kIn (by rw [List.append_nil];exact hl);rw [List.append_nil] at z;exact z
 refine wpAny_call (codeAny_mono (F.run X.A X.stack s1 H1 ⟨us,[]⟩ us vs (λ_ _=>False) E hr I1.env0 hb' r sp) λr s' hq=>?_);subst hσ;cases r with
 |error e=>exact ⟨H1,s1,I1.ofCat,hq⟩
 |ok fl=>
  cases fl with
  |ret u=>obtain ⟨_,_,_,_,_,_,_,z⟩:=hq;exact z.elim
  |next=>exact False.elim hq
  |brk=>exact False.elim hq
  |cont=>exact False.elim hq
def qfU (i:Nat) {n:Str} {pos':Pos} (hN:X.N.Nodup) (h:jXE3 X e tx) (hi:X.N[i]?=some n:=by rfl) (hx:Loc X.env.scope n:=by first|exact Or.inl rfl|exact Or.inr rfl) (hs:swapsWith e (some (.Name n pos')) pos.line X.env=pure false:=by rfl) (hf:X.fn n=true\/X.env.scope.names.lookup n=some .local:=by first|exact .inl rfl|exact .inr rfl) :
  jX3 X [.Assign [.Name n pos'] e pos] tx:=
 ⟨λpins σ0 E=>CQ (CI (qaq hN hi hx (h.h pins σ0 E) hs hf) λD σ H z=>z)⟩
end
def Rel.del {K:Frg} {τ:St3} {G:Gp} {σ:L2.St} {H:Hp} (r:Rel K τ G σ H) (i:Nat):Rel K (τ.set i none) G (σ.set i none) H:=by
 refine ⟨r.hp,by simp [r.len],λj u e=>?_⟩;by_cases hij:i=j
 ·subst hij;rw [List.getElem?_set_self'] at e;cases q:τ[i]? with
  |none=>rw [q] at e;cases e
  |some z=>rw [q] at e;cases e
 ·rw [List.getElem?_set_ne hij] at e;obtain ⟨w,h1,h2⟩:=r.st j u e;exact ⟨w,by rw [List.getElem?_set_ne hij];exact h1,h2⟩
def HR.newX {K:Frg} {G:Gp} {H:Hp} (hr:HR K G H) {p C:Addr} (hp:H p=none):HR K (gu G p (.exn C)) (upd H p (.ext (IsX p C))):=λa o e=>by
 by_cases ha:a=p
 ·subst ha;rw [qC] at e;cases e;exact qz
 ·rw [je ha] at e;exact (hr a o e).keep hr (Kp.laid hp) λu h=>by rw [qj ha];exact h
def qkP (i:Nat) (cs:List Addr) (tn:TS3) (tx:TX3) (ts:TS3):TS3:=λd τ G=>tn d τ G ∨
 tx (λC G'=>C∈cs/\∀ e,G' e=none->ts { nx:=λτ' G''=>d.nx (τ'.set i none) G'',rt:=λ_ _=>False } (τ.set i (some (.ref e))) (gu G' e (.exn C))) τ G
def qf9 {X:Cx} {st:Stmt} {x n:Str} {B:Addr} {i:Nat} {mB:List Value} {np hp pos:Pos} {b0:Stmt} {suite:List Stmt} {tn ts:TS3} {tx:TX3} {L:Addr} (cs:List Addr)
  (hst:X.stack=X.env::X.outer) (hf:X.env.frame=some L) (hex:X.ex=[]) (hgl:Gl X x) (hmg:X.mg x=some (.ref B)) (hB:ExC X.base B mB) (hbb:mB.tail.contains (.type "BaseException")=true) (hcs:∀ C∈cs,Ct X.base B C)
  (hN:X.N.Nodup) (hi:X.N[i]?=some n) (hloc:X.env.kindOf n=some .local) (hlo:X.env.scope.names.lookup n=some .local)
  (hn:jB3 X.nox [st] tn) (hx:jX3 X [st] tx) (hs:∀ ev,jB3 (X.hdl ev) (b0::suite) ts) (hdb:(x==("__debug__" : Str))=false:=by decide) :
  jS3 X (.Try [st] [.ExceptHandler (some (.Name x np)) (some n) (b0::suite) hp] [] [] pos) (qkP i cs tn tx ts):=by
 refine ⟨CI (qeb hst hf hex hgl hmg hB hbb hN hi hloc hlo hn.h hx.h (ts:=lS X.K ts) (λev=>(hs ev).h) hdb) λD σ H ⟨τ,G,d,rl,h,af⟩=>?_⟩;rcases h with h|h
 ·exact .inl ⟨τ,G,d,rl,h,af⟩
 ·refine .inr ⟨rfl,τ,G,_,rl,h,λC G' H' hr' k' ⟨hc,hd⟩=>⟨C,rfl,hcs C hc,λe he=>?_⟩⟩;have rl':Rel X.K τ G' σ H':=rl.next hr' k';have hrn:=hr'.newX (C:=C) he;have kn:Kp G' H' (gu G' e (.exn C)) (upd H' e (.ext (IsX e C))):=Kp.newL he;refine ⟨τ.set i (some (.ref e)),gu G' e (.exn C),_,(rl'.next hrn kn).set i (.ref e),hd e (hr'.free he),⟨λτ2 G2 q σ2 H2 r2 k2=>?_,λ_ _ z=>z.elim,λ_ _ z=>z.elim,λ_ _ z=>z.elim⟩⟩;exact af.nx _ _ q _ _ (r2.del i) ((k'.trans kn).trans k2)
structure RaX (mg:Str->Option Value) (base:Heap) (x:Str) (C:Addr):Prop where
 h:OwnCls x C [.type "ValueError",.type "Exception",.type "BaseException",.type "object"] "ValueError.__new__" mg base
def MI {P:Program} {w:World} {K:Frg} {mg:Str->Option Value} {base:Heap} {N:List Str} {qual:Str} {scope:Scope} {f:Addr} {cd:Value} {A:Around} {outer:List Env} {s0:Shared} {H0:Hp} {E:XK} {x:Str} {C:Addr} {np cpos pos:Pos} {e:Expr} {es:List Expr} {t:TA3} {dx:X3}
  (hE:∀ cls H',EX K dx cls none H'->E cls none H') (O:RaX mg base x C)
  (hc:(JC (CXe P w) P w K mg base N qual scope f cd A outer s0 H0 E).calm=true) (hg:Gl (JC (CXe P w) P w K mg base N qual scope f cd A outer s0 H0 E) x) (ha:jA3 (JC (CXe P w) P w K mg base N qual scope f cd A outer s0 H0 E) (e::es) t)
  (hdb:(x==("__debug__" : Str))=false:=by decide) (he:starEach (e::es) (JC (CXe P w) P w K mg base N qual scope f cd A outer s0 H0 E).env=(false,eval e (JC (CXe P w) P w K mg base N qual scope f cd A outer s0 H0 E).env)::starEach es (JC (CXe P w) P w K mg base N qual scope f cd A outer s0 H0 E).env:=by rfl)
  (hpl:(backTo cpos (starEach es (JC (CXe P w) P w K mg base N qual scope f cd A outer s0 H0 E).env)).any (·.1)=false:=by rfl) :
  jS3 (JC (CXe P w) P w K mg base N qual scope f cd A outer s0 H0 E) (.Raise (some (.Call (.Name x np) (e::es) [] cpos)) none pos) (WZ C dx t):=
 ⟨qcy O.h PySem.F.excBase_ValueError (by first|decide|decide +kernel) PySem.F.excBase_ValueError hc hg ha.h (λpins σ H s ea h' vs I hx z=>qbx I hx (hE _ _ z)) hdb he hpl⟩
def qbN {P:Program} {w:World} {K:Frg} {mg:Str->Option Value} {base:Heap} {x qual:Str} {st:Stmt} {f:Addr} {fd:FuncData} {N ps:List Str} {k:Nat} {sx:Spx} {t3:X3->TS3} (F:Fun K x qual st f fd) (S:FnScope N ps (qf st)) (bd:zz K fd ps []) (hm:mg x=some (.ref f))
  (body:∀ (dx:X3) (cdv:Value) (A:Around) (outer:List Env) (s:Shared) (H:Hp) (E:XK),(∀ cls H',EX K dx cls none H'->E cls none H')->Room k (A.deeper (envOfC qual (qf st) s.heap.objs.size f cdv)) ->
   jB3 (JC (CXe P w) P w K mg base N qual (qf st) f cdv A outer s H E) (qH st) (t3 dx))
  (read:∀ ts G dx,sx ts G dx->ts.length=ps.length/\t3 dx { nx:=λ_ _=>False,rt:=λ_ _=>False } (ql N ts) G):Fnx P w K mg base (k+1) x sx:=
 ⟨f,fd,ps,qhs (qdX F S (λdx cdv A outer s H E hE hr=>(body dx cdv A outer s H E hE hr).h) read),bd,F.kp,hm⟩
def exT (G:Gp):T->Option (Option Addr)
 |.non=>some none
 |.ref e=>match G e with|some (.exn C)=>some (some C)|_=>none
 |_=>none
def qb7 (D:List (Option Addr×Bool)) (te:TE3):TE3:=λτ G q=>te τ G λx G1=>match exT G1 x with|some o=>(match D.lookup o with|some b=>q (.bl b) G1|none=>False)|none=>False
def tyv:Option Addr->Value
 |none=>.type "NoneType"
 |some C=>.ref C
def XD (K:Frg) (cs:List Value) (D:List (Option Addr×Bool)):Prop:=∀ p∈D,(∀ C,p.1=some C->ExK K C)/\PySem.W.kitAny K (tyv p.1) cs=some p.2
def VU {D:List (Option Addr×Bool)} {o:Option Addr} {b:Bool} (h:D.lookup o=some b):(o,b)∈D:=by
 induction D with
 |nil=>cases h
 |cons p r ih=>
  obtain ⟨a,c⟩:=p;rw [List.lookup_cons] at h;split at h
  ·rename_i z;cases h;rw [beq_iff_eq.mp z];exact List.mem_cons_self
  ·exact List.mem_cons_of_mem _ (ih h)
def WW {X:Cx} {pins:List (Addr×Obj)} {σ:L2.St} {G:Gp} {H:Hp} {s:Shared} (I:Inv X pins σ H s) (hr:HR X.K G H) {x:T} {v:V} {u:Value} {o:Option Addr} (r:Rp X.K H x v) (rv:zp v u) (h:exT G x=some o) (k:∀ C,o=some C->ExK X.K C) :
  ∃ HH,PySem.W.KitX X.K u (tyv o) HH/\HH s.heap/\u≠.builtin "__main__.__loader__#opaque" := by
 cases r with
 |non=>cases h;cases (show u=Value.none from rv);exact ⟨_,PySem.W.kitx_none,trivial,λz=>nomatch z⟩
 |ref a=>
  cases (show u=Value.ref a from rv);unfold exT at h;dsimp only at h;split at h
  ·rename_i C g;cases h;have q:H a=some (.ext (IsX a C)):=hr a _ g;obtain ⟨y,_,_⟩:=(show jc X.prog X.w H s.heap a (.ext (IsX a C)) from I.hok a _ q)
   exact ⟨_,LC (k C rfl),y,λz=>nomatch z⟩
  ·cases h
 |bl b=>cases h
 |int b=>cases h
 |str b=>cases h
 |tup _ _=>cases h
def CC {K:Frg} {t c:Value} {b:Bool} (h:PySem.W.kitAny K t [c]=some b):PySem.W.kitOne K t c=some b:=by
 unfold PySem.W.kitAny at h;split at h
 ·rename_i q;rw [q,← h]
 ·rename_i q;rw [q,← h];rfl
 ·cases h
def clV:V->Value
 |.ref a=>.ref a
 |.ty n=>.type n
 |_=>.none
structure jCl (X:Cx) (e:Expr) (v:V):Prop where
 h:PE X e (tC v)
 ok:(∃ a,v=.ref a)\/∃ n,v=.ty n
def jy {X:Cx} {x:Str} {a:Addr} {pos:Pos} (hg:Gl X x) (hm:X.mg x=some (.ref a)) (hd:(x==("__debug__" : Str))=false:=by decide):jCl X (.Name x pos) (.ref a):=⟨qbC hg hm rfl hd,.inl ⟨_,rfl⟩⟩
def qgx {X:Cx} {x:Str} {n:String} {pos:Pos} (hg:Gl X x) (hm:X.mg x=none) (hv:bootBuiltins x=some (.type n)) (hn:x≠"__name__" := by decide) (hd:(x==("__debug__" : Str))=false:=by decide):jCl X (.Name x pos) (.ty n):=⟨RE hg hm hv rfl hn hd,.inr ⟨_,rfl⟩⟩
inductive jCls (X:Cx):List Expr->List V->Prop
 |nil:jCls X [] []
 |cons {e:Expr} {es:List Expr} {v:V} {vs:List V}:jCl X e v->starEach (e::es) X.env=(false,eval e X.env)::starEach es X.env->jCls X es vs->jCls X (e::es) (v::vs)
def jCls.pa {X:Cx}:∀ {es:List Expr} {vs:List V},jCls X es vs->PA X es (λ_ H Q=>Q vs H)
 |_,_,.nil=>EO
 |_,_,.cons a hs r=>qje (j3 a.h r.pa hs) λσ H Q h=>h
def jCls.vals {X:Cx}:∀ {es:List Expr} {vs:List V},jCls X es vs->∀ {us:List Value},qF vs us->us=vs.map clV
 |_,_,.nil,_,.nil=>rfl
 |_,_,.cons a hs r,_,.cons q qs=>by
  rw [r.vals qs];rcases a.ok with ⟨ad,rfl⟩|⟨n,rfl⟩
  ·cases (show _=Value.ref ad from q);rfl
  ·cases (show _=Value.type n from q);rfl
section
variable {X:Cx} {e ce:Expr} {te:TE3} {p pos:Pos} {D:List (Option Addr×Bool)}
def qbe {v:V} (he:jE3 X e te) (hg:Gl X "isinstance") (hm:X.mg "isinstance" = none) (hc:jCl X ce v) (hD:XD X.K [clV v] D)
  (hs:starEach [e,ce] X.env=(false,eval e X.env)::starEach [ce] X.env:=by rfl) (hs2:starEach [ce] X.env=(false,eval ce X.env)::starEach [] X.env:=by rfl) (hpl:(backTo pos (starEach [ce] X.env)).any (·.1)=false:=by rfl) :
  jE3 X (.Call (.Name "isinstance" p) [e,ce] [] pos) (qb7 D te):=by
 refine ⟨JH (JI (r:=λxs H Q=>∃ G x y o b,xs=[y,v]/\HR X.K G H/\Rp X.K H x y/\exT G x=some o/\D.lookup o=some b/\Q (.bl b) H) ?_ hg hm PyProof.Rows.boot_isinstance (j3 he.h (j3 hc.h EO hs2) hs) (by decide) (by decide) hs hpl)
  λ_ _ _ ⟨τ,G,q,rl,h,af⟩=>qN rl h λx G1 h1 y H1 rx hr1 k1 rl1=>?_⟩
 ·intro pins s σ H xs us Q I r ⟨G,x,y,o,b,hx,hr,rx,h1,h2,q⟩;subst hx;obtain ⟨u,w,rfl,ru,rc⟩:=S6 r;have ew:w=clV v:=by
   rcases hc.ok with ⟨a,rfl⟩|⟨n,rfl⟩
   ·exact rc
   ·exact rc
  subst ew;obtain ⟨d1,d2⟩:=hD _ (VU h2);obtain ⟨HH,kx,hh,ne⟩:=WW I hr rx ru h1 d1;exact PySem.W.kia_one kx I.kIn hh (CC d2) ne λtk=>⟨.bl _,H,I.tok tk,rfl,q⟩
 ·split at h1
  ·split at h1
   ·rename_i _ o e1 _ b e2;exact ⟨G1,x,y,_,_,rfl,hr1,rx,e1,e2,af _ G1 h1 _ H1 (.bl _) hr1 k1⟩
   ·exact h1.elim
  ·exact h1.elim
def qcO {ces:List Expr} {vs:List V} {p4:Pos} {x1} (he:jE3 X e te) (hg:Gl X "isinstance") (hm:X.mg "isinstance" = none) (hc:jCls X ces vs) (hl:vs.length<=sizeLine) (hD:XD X.K (vs.map clV) D)
  (hs:starEach [e,.Tuple ces x1 p4] X.env=(false,eval e X.env)::starEach [.Tuple ces x1 p4] X.env:=by rfl) (hs2:starEach [.Tuple ces x1 p4] X.env=(false,eval (.Tuple ces x1 p4) X.env)::starEach [] X.env:=by rfl) (hpl:(backTo pos (starEach [.Tuple ces x1 p4] X.env)).any (·.1)=false:=by rfl) :
  jE3 X (.Call (.Name "isinstance" p) [e,.Tuple ces x1 p4] [] pos) (qb7 D te):=by
 refine ⟨JH (JI (r:=λxs H Q=>∃ G x y o b pp,xs=[y,.ref pp]/\H pp=some (.tup vs)/\HR X.K G H/\Rp X.K H x y/\exT G x=some o/\D.lookup o=some b/\Q (.bl b) H) ?_ hg hm PyProof.Rows.boot_isinstance (j3 he.h (j3 (qbc hc.pa) EO hs2) hs) (by decide) (by decide) hs hpl)
  λ_ _ _ ⟨τ,G,q,rl,h,af⟩=>qN rl h λx G1 h1 y H1 rx hr1 k1 rl1=>⟨hl,λpp hp=>?_⟩⟩
 ·intro pins s σ H xs us Q I r ⟨G,x,y,o,b,pp,hx,hp,hr,rx,h1,h2,q⟩;subst hx;obtain ⟨u,w,rfl,ru,rc⟩:=S6 r;cases (show w=Value.ref pp from rc);obtain ⟨_,its,rv,⟨o',ho,hcl,n,hda,_⟩⟩:=(show jc X.prog X.w H s.heap pp (.tup vs) from I.hok pp _ hp)
  have ei:=hc.vals rv;subst ei;obtain ⟨d1,d2⟩:=hD _ (VU h2);obtain ⟨HH,kx,hh,ne⟩:=WW I hr rx ru h1 d1;obtain ⟨cl,dd,da,sl⟩:=o';cases (show cl=_ from hcl);cases (show da=_ from hda);exact PySem.W.kia_tup kx I.kIn hh ho d2 ne λtk=>⟨.bl _,H,I.tok tk,rfl,q⟩
 ·have kk:Kp G1 H1 G1 (upd H1 pp (.tup vs)):=Kp.laid hp;have hr2:=hr1.laid (ho:=.tup vs) hp;split at h1
  ·split at h1
   ·rename_i _ o e1 _ b e2;exact ⟨G1,x,y,_,_,pp,rfl,qz,hr2,rx.keep hr1 kk,e1,e2,af _ G1 h1 _ _ (.bl _) hr2 (k1.trans kk)⟩
   ·exact h1.elim
  ·exact h1.elim
end
section
variable {X:Cx}
def qlP (ks:List Str):List Key:=ks.map λk=>(Sum.inr k:Key)
def HR.tab {K:Frg} {G:Gp} {H:Hp} (hr:HR K G H) {p:Addr} {ks:List Str} {xs:List T} (g:G p=some (.tab ks xs)):∃ vs,H p=some (.dK ((qlP ks).zip vs))/\Rps K H xs vs:=hr p _ g
end
end L3
namespace L3
open PySem PySem.Spec PyProof.Rows L2 PySem.SeqAt
section
def ME {β:Type} (n:Nat) (b:β) (f:Nat->β->Sem (ForInStep β)):forIn [:n] b f=forIn (List.range' 0 n 1) b f:=by
 rw [Std.Legacy.Range.forIn_eq_forIn_range'];have hsz:([:n]:Std.Legacy.Range).size=n:=by simp [Std.Legacy.Range.size]
 show forIn (List.range' 0 ([:n]:Std.Legacy.Range).size 1) b f=_;rw [hsz]
def V1 (l:Addr) (items:Array Value) (n:Nat) (dd:Option Addr) (sl:Array (Option Value)) (x:Value) (e:Value->Bool) (j:Nat) (hj:j<items.size)
    (hit:e items[j]=true) (hno:∀ m (hm:m<items.size),m<j->e items[m]=false) :
    Meets (Builtin.«tuple.index» ⟨[.ref l,x],[]⟩)
      (λA R s=>s.heap.get? l=some { cls:=.type "tuple",dict:=dd,data:=.seq items n,slots:=sl }/\(∀ y,y∈items->EqAt A.in1 s y x (e y))/\R (.ok (.ret (.int j s.toks))) { s with toks:=s.toks+1 }):=
  .of_wp λprog w A R s h=>by
    obtain ⟨hp,g,d,tk,os⟩:=s;obtain ⟨hl,he,h⟩:=h
    wp_walk using wpAny_loadPart' hl
    show wpAny _ _ (forIn [:min items.size items.size] (none,()) (λ(i : Nat) (_ : Option PySem.Fin × Unit) => match items[i]? with
            |some y=>do
              let t←eqBool y x
              if t=true then do
                  let v←retInt ↑i
                  pure (ForInStep.done (some v,()))
                else pure (ForInStep.yield (none,()))
            |x=>pure (ForInStep.yield (none,())))) _ _ _
    rw [ME,Nat.min_self];refine wpAny_forIn_list _ (λQR b s'=>∃ i,QR=List.range' i (items.size-i) 1/\i<=j/\b=(none,())/\s'=⟨hp,g,d,tk,os⟩) _ ?_ ?_ _ _ ⟨0,by simp,Nat.zero_le _,rfl,rfl⟩
    · rintro i QR b s' ⟨i',e1,e2,rfl,rfl⟩;obtain ⟨m,hm⟩:∃ m,items.size-i'=m+1:=⟨items.size-i'-1,by omega⟩
      rw [hm,List.range'_succ] at e1;obtain ⟨rfl,rfl⟩:=List.cons.inj e1;have hlt:i<items.size:=by omega
      rw [Array.getElem?_eq_getElem hlt];simp only;refine wpAny_bind (he _ (Array.getElem_mem hlt) prog w _ _ ?_);by_cases c:i=j
      · subst c;rw [hit]
        wp_walk
        exact ⟨_,rfl,h⟩
      · rw [hno i hlt (by omega)]
        wp_walk
        exact ⟨i+1,by rw [show items.size-(i+1)=m by omega],by omega,rfl,rfl⟩
    · rintro b s' ⟨i,e1,e2,rfl,rfl⟩;have:items.size-i=0:=by
        have:=congrArg List.length e1;simp at this;omega
      omega
end
section
variable {X:Cx}
def qcN {prog:Program} {w:World} {A:Around} {E:Value->Shared->Prop} {s:Shared} {l:Addr} {vs:List Value} {ns:List Int} {k:Int} {t:Tok} {Q:Value->Shared->Prop} (hl:j6 s.heap l vs.toArray) (hi:IntsAre vs ns) (hk:k∈ns) (h:Q (.int (ns.idxOf k:Nat) s.toks) { s with toks:=s.toks+1 }) :
  wpAny (model prog w) A (call (.builtin "tuple.index") [.ref l,.int k t]) Q E s:=by
 obtain ⟨⟨cls,dd,data,sl⟩,ho,hc,n,hd,hdd⟩:=id hl;simp only at hc hd hdd;subst hc hd hdd;have hlen:=hi.length;have hj:ns.idxOf k<ns.length:=List.idxOf_lt_length_iff.mpr hk;refine call_meets PySem.F.slot_tuple_index ⟨_,ho,rfl⟩ PySem.F.entry_tuple_index (PySem.F.args_tuple_index_2 _ _)
  (V1 l vs.toArray n none sl (.int k t) (isInt k) (ns.idxOf k) (by simpa [hlen] using hj) ?_ ?_) ⟨ho,λy hy=>(eq_isInt k t hi y (by simpa using hy)).at _ _,h⟩
 ·show isInt k vs[ns.idxOf k]=true;rw [isInt_at k hi _ (by omega) hj];simpa using List.getElem_idxOf hj
 ·intro j hjs hlt;have hjn:j<ns.length:=by omega
  show isInt k vs[j]=false;rw [isInt_at k hi _ (by omega) hjn];simpa using List.not_of_lt_findIdx (p:=(·==k)) (xs:=ns) (i:=j) hlt
def TR {o e:Expr} {to te:TE} {apos cpos:Pos} (ho:PE X o to) (ha:PA X [e] ta)
  (hbase:attributeBase o "index" X.env (eval o X.env)=eval o X.env:=by rfl)
  (hfew:((backTo cpos (starEach [e] X.env)).all (λx=>!x.1)&&(backToKw cpos (keywordEach [] X.env)).all (λx=>x.1.isSome)
   && decide (([e]:List Expr).length+([]:List Keyword).length+(if ([]:List Keyword).isEmpty then 0 else 1)<30))=true:=by rfl)
  (hline:(apos.endLine==cpos.line)=true:=by rfl) (hs:starEach [e] X.env=(false,eval e X.env)::starEach [] X.env:=by rfl) (hplain:(backTo cpos (starEach [] X.env)).any (·.1)=false:=by rfl) :
  PE X (.Call (.Attribute o "index" apos) [e] [] cpos) (λσ H Q=>to σ H λx H1=>(∃ a xs,x=.ref a/\SqT X.K H1 a xs)/\ta σ H1 λvs H2=>∃ a ns k,x=.ref a/\SqT X.K H2 a (ns.map V.int)/\vs=[.int k]/\k∈ns/\Q (.int (List.idxOf k ns:Nat)) H2):=by
 intro pins s σ H Q I h;refine wpAny_Call_method_late hbase hfew hline rfl (thn (ho pins s σ H _ I h) λv s1 ⟨x,H1,I1,r1,ty,q1⟩=>?_);obtain ⟨a,xs,rfl,hsq⟩:=ty;cases r1;obtain ⟨its,rv,⟨ob,e1,e2,n,e3,e4⟩,_⟩:=I1.tupleN hsq;refine ⟨"tuple","tuple.index",PySem.F.plainAttrs_tuple,PySem.F.slot_tuple_index,PySem.F.type_tuple_index,⟨ob,e1,e2⟩,λb z=>(by cases z;exact ⟨ob,e1,e4⟩),?_⟩;have hA:=ha cpos pins s1 σ H1 _ I1 q1;rw [hs] at hA ⊢;refine Calls.callWith_builtin (by show (false||(backTo cpos (starEach [] X.env)).any (·.1))=false;rw [hplain]<;>rfl) (Calls.evalArgs_plain ?_);refine thn hA λus s2 ⟨vs,H2,I2,r2,q2⟩=>?_;obtain ⟨a',ns,k,ea,hq,rfl,hk,q⟩:=q2;cases ea;obtain ⟨u,rfl,ru⟩:=r2.one;obtain ⟨t,rfl⟩:=ru;obtain ⟨its2,rv2,pl,_⟩:=I2.tupleN hq;exact qcN pl (ZP rv2) hk ⟨.int _,H2,I2.tok _,⟨_,rfl⟩,q⟩
def KU (to:TE3) (t:TA3):TE3:=λτ G q=>to τ G λx G1=>(match x with|.tup _=>True|_=>False)/\t τ G1 λxs G2=>match x,xs with
 |.tup ys,[.int k]=>(match UW ys with|some ns=>k∈ns/\q (.int (List.idxOf k ns:Nat)) G2|none=>False)
 |_,_=>False
def E6 {o e:Expr} {to:TE3} {t:TA3} {apos cpos:Pos} (ho:jE3 X o to) (ha:jA3 X [e] t)
  (hbase:attributeBase o "index" X.env (eval o X.env)=eval o X.env:=by rfl)
  (hfew:((backTo cpos (starEach [e] X.env)).all (λx=>!x.1)&&(backToKw cpos (keywordEach [] X.env)).all (λx=>x.1.isSome)
   && decide (([e]:List Expr).length+([]:List Keyword).length+(if ([]:List Keyword).isEmpty then 0 else 1)<30))=true:=by rfl)
  (hline:(apos.endLine==cpos.line)=true:=by rfl) (hs:starEach [e] X.env=(false,eval e X.env)::starEach [] X.env:=by rfl) (hplain:(backTo cpos (starEach [] X.env)).any (·.1)=false:=by rfl) :
  jE3 X (.Call (.Attribute o "index" apos) [e] [] cpos) (KU to t):=
 ⟨JH (TR (te:=λ_ _ _=>True) ho.h ha.h hbase hfew hline hs hplain) λ_ _ _ ⟨τ,G,q,rl,h,af⟩=>qN rl h λx G1 h1 v H1 rx hr1 k1 rl1=>by
  obtain ⟨hp,h1⟩:=h1;cases x<;>try exact hp.elim
  case tup ys=>
   cases rx with
   |tup hsq rys=>
    refine ⟨⟨_,_,rfl,hsq⟩,jo rl1 h1 λxs G2 h2 vs H2 rs hr2 k2 rl2=>?_⟩;split at h2
    ·rename_i ys' k hz;cases hz;split at h2
     ·rename_i ns e1;have:=UI e1;subst this;have rv:=V2 rys;subst rv;obtain ⟨u,rfl,r⟩:=DZ rs;cases r;exact ⟨_,ns,k,rfl,JJ hr1 k2 hsq,rfl,h2.1,af _ _ h2.2 _ _ (.int _) hr2 (k1.trans k2)⟩
     ·exact h2.elim
    ·exact h2.elim⟩
end
end L3
namespace L3
open PySem PySem.Spec PyProof.Rows L2
def ItE (lo:Int) (n:Nat):It:=⟨λi _=>i<n,λi H x H'=>H'=H/\x=.int (lo+i*2),λi _=>n<=i⟩
def qcd {P:Program} {w:World} {K:Frg} {tg:Expr} (it:Addr) (lo:Int) (n:Nat):Turn P w K tg (ItE lo n) [it] it (λi h=>IsRangeIter h it (lo+(i:Nat)*2) ((n:Int)-(i:Nat)) 2) where
 mem:=by simp
 obj:=λi h st b hb=>by
  have e:b=it:=by simpa using hb
  subst e;exact ⟨_,st,λv z=>by
   have z':Data.fields _=Data.cell v:=z;cases z'⟩
 keep:=λi h h' st k=>k it (by simp) _ st
 item:=by
  intro X hP hw hK hc i pins s σ H E I hf st hg;subst hP hw hK;obtain ⟨f0,f1,f2,f3,f4,f5⟩:=hf it (by simp);have W:=Walks.range (prog:=X.prog) (w:=X.w) (I.ok.hd hc) it lo 2 n;refine W.item i s _ _ hg st λv h' tk hv st' kk=>?_;obtain ⟨t,rfl⟩:=hv;have I1:Inv X pins σ H { s with heap:=h',toks:=tk }:=I.turned (λb o hb e=>kk b o (by simpa using hb) e) f0 f1 f3 f4 f5;refine ⟨_,rfl,L9 (s:={ s with heap:=h',toks:=tk }) (n:="range_iterator") st' rfl rfl (by decide) ⟨.int (lo+i*2),H,I1,⟨t,rfl⟩,⟨rfl,rfl⟩,st',λb hb=>(hf b hb).1⟩⟩
 done:=by
  intro X hP hw hK hc i pins s σ H E I hf st hg;subst hP hw hK;obtain ⟨f0,f1,f2,f3,f4,f5⟩:=hf it (by simp);exact wpAny_pyNext_range_end (I.ok.hd hc) st (by have:n<=i:=hg;omega) λh' eb=>⟨rfl,I.turned (t':=s.toks) (λb o hb e=>eb b o hb e) f0 f1 f3 f4 f5⟩
 self:=λ_ _ _ _ _ st h=>wpAny_pyIter_rangeiter st h
def CL (lo hi:Int):Builtin.Range.rangeSize lo hi 2=(((hi-lo+1)/2).toNat:Int):=by
 unfold Builtin.Range.rangeSize;simp;split<;>omega
def MC {a b:Int} (ha:-(2 ^ 62)<=a) (ha':a<2 ^ 62) (hb:-(2 ^ 62)<=b) (hb':b<2 ^ 62):Builtin.Range.small a b 2=true:=by
 unfold Builtin.Range.small;rw [CL];simp only [Builtin.Range.rangeFitsLong,Bool.and_eq_true,Bool.or_eq_true,decide_eq_true_eq,beq_iff_eq,show (2:Int) > 0 by decide,if_true];omega
section
variable {X:Cx} {tg a b c:Expr} {pos:Pos}
def qlt (ta:TA):TI:=λσ H R=>ta σ H λvs H1=>∃ i j:Int,vs=[.int i,.int j,.int 2]/\(-(2 ^ 62)<=i/\i<2 ^ 62/\-(2 ^ 62)<=j/\j<2 ^ 62)/\R (ItE i ((j-i+1)/2).toNat) H1
def qjr {ta:TA} {p:Pos} (hg:Gl X "range") (hm:X.mg "range" = none) (ha:PA X [a,b,c] ta) (hs:starEach [a,b,c] X.env=[(false,eval a X.env),(false,eval b X.env),(false,eval c X.env)]:=by rfl) (hs2:starEach [b,c] X.env=[(false,eval b X.env),(false,eval c X.env)]:=by rfl) :
  PI X tg (.Call (.Name "range" p) [a,b,c] [] pos) (qlt ta):=by
 intro pins s σ H R I h;refine Call_ (QP I hg hm boot_range (PyProof.Rows.callWith_type1 (thn (ha pos pins s σ H _ I h) λus s1 ⟨vs,H1,I1,r1,q1⟩=>?_) (by rw [hs,hs2]) (by rw [hs2];rfl)));obtain ⟨i,j,e,⟨q1,q2,q3,q4⟩,q⟩:=q1;subst e;cases r1 with
 |cons r rr=>
  cases rr with
  |cons r' rr=>
   cases rr with
   |cons r'' rr=>
    cases rr;obtain ⟨t,rfl⟩:=r;obtain ⟨t',rfl⟩:=r';obtain ⟨t'',rfl⟩:=r'';refine call_range_3 (by decide) ?_ (Or.inl (PyProof.noPylong_small (by decide)));refine wpAny_pyIter_range (IsRange.new ..) (MC q1 q2 q3 q4) ?_;have I2:Inv X pins σ H1 { s1 with heap:=s1.heap.push { cls:=.type "range",data:=.fields #[.int i t,.int j t',.int 2 t''] },toks:=s1.toks }:=I1.kept λb o e=>Heap.get?_push_of_some _ e;refine ⟨_,[_],_,_,H1,rfl,I2.kept (t':=s1.toks) λb o e=>Heap.get?_push_of_some _ e,qcd _ i ((j-i+1)/2).toNat,?_,λb hb=>?_,q⟩
    ·show IsRangeIter _ _ (i+((0:Nat):Int)*2) (((((j-i+1)/2).toNat:Nat):Int)-((0:Nat):Int)) 2;have e1:i+((0:Nat):Int)*2=i:=by simp
     have e2:((((j-i+1)/2).toNat:Nat):Int)-((0:Nat):Int)=Builtin.Range.rangeSize i j 2:=by rw [CL];simp
     rw [e1,e2];exact Heap.get?_push_size _ rfl
    ·have e:=List.mem_singleton.mp hb;subst e;exact I2.fpOk (Nat.le_refl _) (I2.hok.fresh (Nat.le_refl _))
def evT (lo:Int) (n:Nat):List T:=(List.range n).map λ(i:Nat)=>T.int (lo+(i:Int)*2)
def qcL {K:Frg} {lo:Int} {n:Nat} {G0:Gp} {H0:Hp}:qdh K (ItE lo n) (evT lo n) (λ_=>True) G0 H0:=by
 intro G H hr k _;have hl:(evT lo n).length=n:=by simp [evT]
 refine ⟨λi x hi=>?_,λi x v H' hi y=>?_,(show n<=(evT lo n).length by rw [hl];exact Nat.le_refl n)⟩
 ·have:=(List.getElem?_eq_some_iff.mp hi).1;rw [hl] at this;exact this
 ·obtain ⟨e,y⟩:=y;subst e;subst y;have h1:=(List.getElem?_eq_some_iff.mp hi).1;rw [hl] at h1;unfold evT at hi;rw [getElem?_map,List.getElem?_range h1] at hi;have e:T.int (lo+(i:Int)*2)=x:=by simpa using hi
  subst e;exact ⟨.int _,hr,Kp.refl⟩
def qiz (ta:TA3):TI3:=λτ G r=>ta τ G λxs G1=>match xs with
 |[.int i,.int j,.int k]=>k=2/\(-(2 ^ 62)<=i/\i<2 ^ 62/\-(2 ^ 62)<=j/\j<2 ^ 62)/\r (evT i ((j-i+1)/2).toNat) (λ_=>True) G1
 |_=>False
def qjO {t:TA3} {p:Pos} (hg:Gl X "range") (hm:X.mg "range" = none) (ha:jA3 X [a,b,c] t) (hs:starEach [a,b,c] X.env=[(false,eval a X.env),(false,eval b X.env),(false,eval c X.env)]:=by rfl) (hs2:starEach [b,c] X.env=[(false,eval b X.env),(false,eval c X.env)]:=by rfl) :
  jI3 X tg (.Call (.Name "range" p) [a,b,c] [] pos) (qiz t):=
 ⟨qh9 (qjr hg hm ha.h hs hs2) λσ H R ⟨τ,G,r,rl,h,af⟩=>jo rl h λxs G1 h1 vs H1 rs hr1 k1 rl1=>by
  split at h1
  ·obtain ⟨rfl,h2,h3⟩:=h1;cases rs with
   |cons r1 rs=>
    cases rs with
    |cons r2 rs=>
     cases rs with
     |cons r3 rs=>
      cases rs;cases r1;cases r2;cases r3;exact ⟨_,_,rfl,h2,af _ _ G1 h3 _ H1 hr1 k1 qcL⟩
  ·exact h1.elim⟩
end
section
variable {X:Cx}
def ZN {a:Int}:∀ {n:Nat} {its:List Value} {f:Nat->Int},its.length=n->(∀ (i:Nat) v,its[i]?=some v->∃ t,v=.int (f i) t)->qF ((List.range n).map λi=>V.int (f i)) its
 |0,its,f,hl,_=>by
  have:its=[]:=List.eq_nil_of_length_eq_zero hl;subst this;exact .nil
 |n+1,[],f,hl,_=>by simp at hl
 |n+1,v::its,f,hl,h=>by
  rw [List.range_succ_eq_map,map_cons,map_map];refine .cons (h 0 v rfl) ?_;exact ZN (a:=a) (f:=λi=>f (i+1)) (by simpa using hl) λi u hu=>h (i+1) u (by simpa using hu)
def KH {e:Expr} {te:TE} {p p2 pos pos2:Pos} (hc:X.calm=true) (hg:Gl X "list") (hm:X.mg "list" = none) (hg2:Gl X "range") (hm2:X.mg "range" = none) (he:PE X e te)
  (h1:starEach [e] X.env=(false,eval e X.env)::starEach [] X.env:=by rfl) (h2:starEach [.Call (.Name "range" p2) [e] [] pos2] X.env=(false,eval (.Call (.Name "range" p2) [e] [] pos2) X.env)::starEach [] X.env:=by rfl)
  (h3:(backTo pos (starEach [] X.env)).any (·.1)=false:=by rfl) (h4:(backTo pos2 (starEach [] X.env)).any (·.1)=false:=by rfl) :
  PE X (.Call (.Name "list" p) [.Call (.Name "range" p2) [e] [] pos2] [] pos) (λσ H Q=>te σ H λx H1=>∃ n:Nat,x=.int (n:Int)/\n<=sizeLine/\∀ l,H1 l=none->Q (.ref l) (upd H1 l (.lst ((List.range n).map λ(i:Nat)=>V.int (i:Int))))):=by
 intro pins s σ H Q I h;refine wpAny_Call_Name_kw (QP I hg hm PyProof.Rows.boot_list ?_);refine PyProof.Rows.callWith_type1 ?_ h2 h3;rw [h2];show wpAny _ _ (spliced ((false,eval (.Call (.Name "range" p2) [e] [] pos2) X.env)::backTo pos (starEach [] X.env))) _ _ s;refine Calls.spliced_cons ?_;refine wpAny_Call_Name_kw (QP I hg2 hm2 boot_range ?_);refine PyProof.Rows.callWith_type1 ?_ h1 h4;rw [h1];show wpAny _ _ (spliced ((false,eval e X.env)::backTo pos2 (starEach [] X.env))) _ _ s;refine Calls.spliced_cons (thn (he pins s σ H _ I h) λu s1 ⟨x,H1,I1,r1,n,ex,hz,q⟩=>?_);subst ex;obtain ⟨t,rfl⟩:=r1;refine Calls.spliced_nil ?_;refine call_range_1 ?_;refine Calls.spliced_nil ?_;have sl:=sizeLine_eq;have I2:Inv X pins σ H1 { s1 with heap:=s1.heap.push { cls:=.type "range",data:=.fields #[.int 0 s1.toks,.int (n:Int) t,.int 1 (s1.toks+1)] },toks:=s1.toks+1+1 }:=I1.kept λb o e=>Heap.get?_push_of_some _ e;refine call_list_range (I1.ok.hd hc) (IsRange.new ..) (small_one (by omega) (by omega) (by omega) (by omega)) (n:=n) (by rw [rangeSize_one];split<;>omega) (by omega) λh' tk acc c hk hS hI=>?_;have rv:qF ((List.range n).map λ(i:Nat)=>V.int (i:Int)) acc.toList:=ZN (a:=0) (f:=λi=>(i:Int)) (by rw [Array.length_toList];exact hI.1) λi v hv=>by
  obtain ⟨t,e⟩:=hI.2 i v (by simpa using hv);exact ⟨t,by rw [e];simp⟩
 refine ⟨.ref _,_,I2.laid (t':=tk) hk (Nat.le_refl _) (show jc X.prog X.w _ h' _ (.lst _) from ⟨by simpa using hz,acc.toList,c,rv,by simpa using hS⟩),rfl,q _ (I2.hok.fresh (Nat.le_refl _))⟩
def YF (te:TE3):TE3:=λτ G q=>te τ G λx G1=>match x with
 |.int k=>(0<=k/\k<=1000000)/\∀ p,G1 p=none->q (.ref p) (gu G1 p (.lst ((List.range k.toNat).map λ(i:Nat)=>T.int (i:Int))))
 |_=>False
def DK {K:Frg} {H:Hp}:∀ (xs:List Nat),Rps K H (xs.map λ(i:Nat)=>T.int (i:Int)) (xs.map λ(i:Nat)=>V.int (i:Int))
 |[]=>.nil
 |x::xs=>.cons (.int _) (DK xs)
def JQ {e:Expr} {te:TE3} {p p2 pos pos2:Pos} (hc:X.calm=true) (hg:Gl X "list") (hm:X.mg "list" = none) (hg2:Gl X "range") (hm2:X.mg "range" = none) (he:jE3 X e te)
  (h1:starEach [e] X.env=(false,eval e X.env)::starEach [] X.env:=by rfl) (h2:starEach [.Call (.Name "range" p2) [e] [] pos2] X.env=(false,eval (.Call (.Name "range" p2) [e] [] pos2) X.env)::starEach [] X.env:=by rfl)
  (h3:(backTo pos (starEach [] X.env)).any (·.1)=false:=by rfl) (h4:(backTo pos2 (starEach [] X.env)).any (·.1)=false:=by rfl) :
  jE3 X (.Call (.Name "list" p) [.Call (.Name "range" p2) [e] [] pos2] [] pos) (YF te):=
 ⟨JH (KH hc hg hm hg2 hm2 he.h h1 h2 h3 h4) λ_ _ _ ⟨τ,G,q,rl,h,af⟩=>qN rl h λx G1 h1 v H1 rx hr1 k1 rl1=>by
  cases x<;>try exact h1.elim
  case int k=>
   cases rx;obtain ⟨⟨a,b⟩,h1⟩:=h1;refine ⟨k.toNat,by rw [Int.toNat_of_nonneg a],by rw [sizeLine_eq];omega,λl hl=>af _ _ (h1 l (hr1.free hl)) _ _ (.ref l) (hr1.newL hl (DK _)) (k1.trans (Kp.newL hl))⟩⟩
def qlj:V->List V->Hp->VK->Prop:=λx vs H Q=>∃ l xs,∃ k:Nat,∃ y,x=.ref l/\vs=[.int (k:Int)]/\H l=some (.lst xs)/\xs[k]?=some y/\Q y (upd H l (.lst (xs.eraseIdx k)))
def VG:∀ {xs:List V} {its:List Value} (k:Nat),qF xs its->qF (xs.eraseIdx k) (its.eraseIdx k)
 |_,_,_,.nil=>by simp;exact .nil
 |_,_,0,.cons a b=>b
 |_,_,k+1,.cons a b=>.cons a (VG k b)
def XE:∀ {xs:List V} {its:List Value} {k:Nat} {y:V},qF xs its->xs[k]?=some y->∃ u,its[k]?=some u/\zp y u
 |_,_,_,_,.nil,h=>by simp at h
 |_,_,0,_,.cons a b,h=>by simp at h;subst h;exact ⟨_,rfl,a⟩
 |_,_,k+1,_,.cons a b,h=>by simpa using XE (k:=k) b (by simpa using h)
def qeE:MtM X "list.pop" qlj:=by
 intro pins s σ H x vs v us Q I rx rv h;obtain ⟨l,xs,k,y,rfl,rfl,hH,hy,q⟩:=h;cases rx;obtain ⟨u,rfl,ru⟩:=rv.one;obtain ⟨t,rfl⟩:=ru;obtain ⟨z,its,n,r,hl,e⟩:=I.lstM hH;obtain ⟨w,hw,rw'⟩:=XE r hy;have kl:k<its.length:=(List.getElem?_eq_some_iff.mp hw).1;have sl:=sizeLine_eq;have hf:Builtin.List.listFitsIndex (k:Int)=true:=by
  show (decide _&&decide _)=true;rw [Bool.and_eq_true,decide_eq_true_eq,decide_eq_true_eq];exact ⟨by omega,by omega⟩
 have hk:seqIndex? (k:Int) its.toArray.size=some k:=by
  rw [size_toArray];unfold seqIndex?;have c1:¬ ((k:Int)<0):=by omega
  simp only [c1,if_false];rw [if_pos (by rw [Bool.and_eq_true,decide_eq_true_eq,decide_eq_true_eq];omega),Int.toNat_natCast]
 have hw':its.toArray[k]?=some w:=by simpa using hw
 have hz':its.toArray.size<=sizeLine:=by rw [size_toArray];omega
 refine call_meets F.slot_list_pop ⟨_,e,rfl⟩ F.entry_list_pop (F.args_list_pop_2 _ _) (@PySem.MeetsSeq.list_pop_at l its.toArray n (k:Int) t k w hf hk hw' hz') ⟨e,?_⟩;refine ⟨y,_,I.lset (its':=its.eraseIdx k) (t':=s.toks) hH e ?_ (VG k r) ?_,rw',q⟩
 ·simp
 ·have:=List.length_eraseIdx_le xs k;omega
def qda:T->List T->Gp->Q3->Prop:=λx xs G q=>match x,xs with
 |.ref l,[.int k]=>(match G l with|some (.lst ys)=>0<=k/\(match ys[k.toNat]? with|some y=>q y (gu G l (.lst (ys.eraseIdx k.toNat)))|none=>False)|_=>False)
 |_,_=>False
def UZ {K:Frg} {H:Hp}:∀ {xs:List T} {vs:List V} (k:Nat),Rps K H xs vs->Rps K H (xs.eraseIdx k) (vs.eraseIdx k)
 |_,_,_,.nil=>by simp;exact .nil
 |_,_,0,.cons a b=>b
 |_,_,k+1,.cons a b=>.cons a (UZ k b)
def SH {K:Frg} {H:Hp}:∀ {xs:List T} {vs:List V} {k:Nat} {y:T},Rps K H xs vs->xs[k]?=some y->∃ v,vs[k]?=some v/\Rp K H y v
 |_,_,_,_,.nil,h=>by simp at h
 |_,_,0,_,.cons a b,h=>by simp at h;subst h;exact ⟨_,rfl,a⟩
 |_,_,k+1,_,.cons a b,h=>by simpa using SH (k:=k) b (by simpa using h)
def qbQ {K:Frg}:qi9 K qda qlj:=λx xs v vs G H q Q hr rx rs h af=>by
 unfold qda at h;split at h
 ·rename_i l k;split at h
  ·rename_i ys e0;obtain ⟨k0,h⟩:=h;split at h
   ·rename_i y e1;cases rx;obtain ⟨u,rfl,r⟩:=DZ rs;cases r;obtain ⟨us,g1,r2⟩:=hr l _ e0;obtain ⟨w,e2,ry⟩:=SH r2 e1;obtain ⟨m,rfl⟩:=Int.eq_ofNat_of_zero_le k0;rw [Int.toNat_natCast] at e2 h;have k:=Kp.wr (G:=G) (H:=H) (p:=l) (ho:=.lst (us.eraseIdx m)) (o':=.lst (ys.eraseIdx m)) e0;refine ⟨l,us,m,w,rfl,rfl,g1,e2,af _ _ h _ _ (ry.keep hr k) (hr.wr e0 (UZ m r2)) k⟩
   ·exact h.elim
  ·exact h.elim
 ·exact h.elim
def qf7 {t:TA3} {e:Expr} {o:Expr} {to:TE3} {apos cpos:Pos} (ho:jE3 X o to) (ha:jA3 X [e] t)
  (hbase:attributeBase o "pop" X.env (eval o X.env)=eval o X.env:=by rfl)
  (hfew:((backTo cpos (starEach [e] X.env)).all (λx=>!x.1)&&(backToKw cpos (keywordEach [] X.env)).all (λx=>x.1.isSome)
   && decide (([e]:List Expr).length+([]:List Keyword).length+(if ([]:List Keyword).isEmpty then 0 else 1)<30))=true:=by rfl)
  (hline:(apos.endLine==cpos.line)=true:=by rfl) (hs:starEach [e] X.env=(false,eval e X.env)::starEach [] X.env:=by rfl) (hplain:(backTo cpos (starEach [] X.env)).any (·.1)=false:=by rfl) :
  jE3 X (.Call (.Attribute o "pop" apos) [e] [] cpos) (bm3 qda to t):=⟨qk8 PySem.F.slot_list_pop PySem.F.type_list_pop qeE qbQ ho.h ha.h hbase hfew hline hs hplain⟩
end
section
variable {prog:Program} {w:World} {A:Around} {E:Value->Shared->Prop} {s:Shared}
def RF {l:Addr} {vs:List Value} {Q:List Value->Shared->Prop} (hl:IsTup s.heap l vs.toArray) (hz:vs.length<=sizeLine)
  (h:Q vs { s with heap:=(s.heap.push (seqObj "list" #[] 0)).update s.heap.objs.size (Obj.mapSeq (·++vs.toArray)) }):wpAny (model prog w) A (collect (.ref l)) Q E s:=by
 obtain ⟨ob,e1,e2,m,e3⟩:=hl;have e4:(s.heap.push (seqObj "list" #[] 0)).get? l=some ob:=Heap.get?_push_of_some _ e1;have e5:(s.heap.push (seqObj "list" #[] 0)).get? s.heap.objs.size=some (seqObj "list" #[] 0):=Heap.get?_push_size _ rfl;unfold collect;refine wpAny_bind (wpAny_runValue (codeAny_builtin entry_proto_collect' (show wpAny _ _ (do again (.builtin "list.__iadd__" ⟨[← newList [],.ref l],[]⟩)) _ _ s from wpAny_bind (wpAny_newList (wpAny_pure ⟨Code.quiet_builtin _ (by decide +kernel),codeAny_builtin entry_list_iadd' ?_⟩)))));show wpAny _ _ (Builtin.List.listExtendWith (.ref s.heap.objs.size) (.ref l) (.ref s.heap.objs.size)) _ _ { s with heap:=s.heap.push (seqObj "list" #[] 0) };unfold Builtin.List.listExtendWith;refine wpAny_bind (wpAny_typeOf (T:="tuple") ⟨ob,e4,e2⟩ ?_);have tt:(Value.type "tuple" == Value.type "tuple")=true:=by rfl
 rw [if_pos (by rw [tt];simp)];refine wpAny_bind (listItems_at e4 e3 (wpAny_bind (listItems_at (xs:=#[]) (n:=0) e5 rfl ?_)));rw [if_neg (by simp)];refine wpAny_bind (listUpdate_at (xs:=#[]) (n:=0) e5 rfl (wpAny_pure ?_) (Nat.zero_le _) (by show (#[]++vs.toArray).size<=sizeLine+1;simp only [Array.size_append,size_toArray,length_nil];omega));show wpAny (model prog w) A (do
   let o←load s.heap.objs.size
   match o.data with
   |.seq xs _=>pure xs.toList
   |_=>unsupported "internal:collect") Q E { s with heap:=(s.heap.push (seqObj "list" #[] 0)).update s.heap.objs.size (Obj.mapSeq (·++vs.toArray)) }
 refine wpAny_bind (wpAny_load (get?_update_seq e5 _) ?_);have e6:((#[]:Array Value)++vs.toArray).toList=vs:=by simp
 show wpAny _ _ (pure ((#[]:Array Value)++vs.toArray).toList) Q E _;rw [e6];exact wpAny_pure h
def K1 {l:Addr} {vs:List Value} {ns:List Int} {Q:Value->Shared->Prop} (hl:IsTup s.heap l vs.toArray) (hI:IntsAre vs ns) (h64:vs.length<64)
  (h:∀ (out:Array Value) (ms:List Int),IntsAre out.toList ms->ms.Perm ns->ms.Pairwise (·<=·)->Q (.ref (s.heap.objs.size+1)) { s with heap:=sortedAll s.heap vs out }):wpAny (model prog w) A (call (.builtin "sorted") [.ref l]) Q E s:=by
 have hsz:((s.heap.push (seqObj "list" #[] 0)).update s.heap.objs.size (Obj.mapSeq (·++vs.toArray))).objs.size=s.heap.objs.size+1:=by rw [Heap.size_update,size_push']
 have hoL:(((s.heap.push (seqObj "list" #[] 0)).update s.heap.objs.size (Obj.mapSeq (·++vs.toArray))).push (seqObj "list" vs.toArray 0)).get? (s.heap.objs.size+1)=some (seqObj "list" vs.toArray 0):=by rw [← hsz];exact Heap.get?_push_size _ rfl
 refine Calls.call_function_entry kind_sorted plain_sorted entry_sorted (args_sorted1 _) ?_;unfold Builtin.«sorted»;refine wpAny_bind (m:=checkCount "sorted" 1 1 _) (wpAny_pure (wpAny_bind (RF hl (by rw [sizeLine_eq];omega) (wpAny_bind (wpAny_newList ?_)))));show wpAny _ _ _ _ _ { s with heap:=((s.heap.push (seqObj "list" #[] 0)).update s.heap.objs.size (Obj.mapSeq (·++vs.toArray))).push (seqObj "list" vs.toArray 0) };rw [hsz];exact wpAny_bind (wpAny_holding (wpAny_call_entry slot_list_sort ⟨_,hoL,rfl⟩ entry_list_sort (list_sort_tree hoL hI h64 λout ms a1 a2 a3=>⟨_,rfl,wpAny_pure ⟨_,rfl,h out ms a1 a2 a3⟩⟩) (args_list_sort _)))
end
section
variable {X:Cx}
def Z7:QN X (.builtin "sorted") (λxs H Q=>∃ (p:Addr) (ns:List Int),xs=[.ref p]/\SqT X.K H p (ns.map V.int)/\ns.length<64/\∀ l (ms:List Int),H l=none->ms.Perm ns->ms.Pairwise (·<=·)->Q (.ref l) (upd H l (.lst (ms.map V.int)))):=by
 intro pins s σ H xs us Q I r h;obtain ⟨p,ns,rfl,hq,hl,q⟩:=h;obtain ⟨u,rfl,rp⟩:=EQ r;cases (show u=Value.ref p from rp);obtain ⟨its,rv,pl,hz⟩:=I.tuple hq;have hlen:its.length=ns.length:=by have:=rv.length;simp at this;omega
 refine K1 (vs:=its) pl (ZP rv) (by omega) λout ms a1 a2 a3=>?_;obtain ⟨e,he⟩:=sortedAll_at s.heap its out;have hm:ms.length<=sizeLine:=by have:=a2.length_eq;simp at hz;omega
 have ho:out=out.toList.toArray:=by simp
 refine ⟨.ref (s.heap.objs.size+1),_,I.laid (t':=s.toks) (o:=.lst (ms.map V.int)) (λb o hb=>sortedAll_old hb) (Nat.le_succ _) ⟨by simpa using hm,out.toList,e,SN a1,?_⟩,rfl,q _ ms (I.hok.fresh (Nat.le_succ _)) a2 a3⟩;rw [← ho];exact he
def VD:List T->Gp->Q3->Prop:=λxs G q=>match xs with
 |[.tup ys]=>(match UW ys with|some ns=>ns.length<64/\∀ l (ms:List Int),G l=none->ms.Perm ns->ms.Pairwise (·<=·)->q (.ref l) (gu G l (.lst (ms.map T.int)))|none=>False)
 |_=>False
def ES {K:Frg}:X4 K VD (λxs H Q=>∃ (p:Addr) (ns:List Int),xs=[.ref p]/\SqT K H p (ns.map V.int)/\ns.length<64/\∀ l (ms:List Int),H l=none->ms.Perm ns->ms.Pairwise (·<=·)->Q (.ref l) (upd H l (.lst (ms.map V.int)))):=λxs vs G H q Q hr rs h af=>by
 unfold VD at h;split at h
 ·rename_i ys;obtain ⟨v,rfl,r⟩:=DZ rs;split at h
  ·rename_i ns e0;have:=UI e0;subst this;cases r with
   |tup hs r2=>
    have:=V2 r2;subst this;exact ⟨_,ns,rfl,hs,h.1,λl ms hl hp ho=>af _ _ (h.2 l ms (hr.free hl) hp ho) _ _ (.ref l) (hr.newL hl (W4 ms)) (Kp.newL hl)⟩
  ·exact h.elim
 ·exact h.elim
end
section
variable {prog:Program} {w:World} {A:Around} {E:Value->Shared->Prop} {s:Shared}
def UK {Q:List Value->Shared->Prop} {r:Addr} {a b c:Int} {t u v:Tok} {n:Nat} (hh:A.handled=none) (hr:IsRange s.heap r a b c t u v) (hsmall:Builtin.Range.small a b c=true)
  (hn:Builtin.Range.rangeSize a b c=n) (hlen:n<=2 ^ 24)
  (hQ:∀ h' tk (acc:Array Value),(∀ b o',s.heap.get? b=some o'->h'.get? b=some o')->ItemsOf (λi v=>∃ t,v=.int (a+i*c) t) acc n->Q acc.toList { s with heap:=h',toks:=tk }) :
  wpAny (model prog w) A (collect (.ref r)) Q E s:=by
 unfold collect;refine wpAny_bind (wpAny_runValue (codeAny_builtin F.entry_proto_collect ?_));rw [Around.under_plainId F.plain_proto_collect _];show wpAny _ A.in1 (newList [] >>= λl=>again (.builtin "list.__iadd__" ⟨[l,.ref r],[]⟩)) _ _ s;refine wpAny_bind (wpAny_newObj_type ?_);refine wpAny_pure ⟨plainId_quiet F.plain_list_iadd _,codeAny_builtin F.entry_list_iadd ?_⟩;rw [Around.under_plainId F.plain_list_iadd _];show wpAny _ A.in1 (Builtin.List.listExtendWith (.ref s.heap.objs.size) (.ref r) (.ref s.heap.objs.size)) _ _ _;have hS:(s.heap.push { cls:=.type "list",data:=.seq ([]:List Value).toArray }).get? s.heap.objs.size=some { cls:=.type "list",data:=.seq #[] 0 }:=Heap.get?_push_size _ rfl;refine wpAny_mono (wpAny_extend_range (A:=A) (R:=λr s'=>r=.ok (.ret (.ref s.heap.objs.size))/\∃ h' tk acc c',s'={ s with heap:=h',toks:=tk }/\(∀ b o,b≠s.heap.objs.size->(s.heap.push { cls:=.type "list",data:=.seq ([]:List Value).toArray }).get? b=some o->h'.get? b=some o)/\h'.get? s.heap.objs.size=some { cls:=.type "list",dict:=none,data:=.seq acc c',slots:=#[] }/\ItemsOf (λi v=>∃ t,v=.int (a+i*c) t) acc n)
  (s:={ s with heap:=s.heap.push { cls:=.type "list",data:=.seq ([]:List Value).toArray } }) hh (Heap.get?_push_of_some _ hr) hsmall hn hlen _ _ 0 hS (λh' tk acc c' hk hS' hi=>⟨rfl,h',tk,acc,c',rfl,hk,hS',hi⟩)) (λfin s' h=>?_) (λe s' h=>?_)
 ·have fin':∀ (s':Shared),(∃ h' tk acc c',s'={ s with heap:=h',toks:=tk }/\(∀ b o,b≠s.heap.objs.size->(s.heap.push { cls:=.type "list",data:=.seq ([]:List Value).toArray }).get? b=some o->h'.get? b=some o)/\h'.get? s.heap.objs.size=some { cls:=.type "list",dict:=none,data:=.seq acc c',slots:=#[] }/\ItemsOf (λi v=>∃ t,v=.int (a+i*c) t) acc n)->wpAny (model prog w) A (match Value.ref s.heap.objs.size with
   |Value.ref a=>do
    match (← load a).data with
     |Data.seq xs _=>pure xs.toList
     |_=>unsupported "internal:collect"
   |_=>unsupported "internal:collect") Q E s':=by
   rintro s' ⟨h',tk,acc,c',rfl,hk,hS',hi⟩;show wpAny _ A (load s.heap.objs.size >>= _) _ _ _;refine wpAny_bind (wpAny_load hS' ?_);refine wpAny_pure ?_;exact hQ h' tk acc (λb o' hb=>hk b o' (Nat.ne_of_lt (Heap.lt_size hb)) (Heap.get?_push_of_some _ hb)) hi
  cases fin with
  |done f=>
   obtain ⟨e,h⟩:=h;cases e;exact fin' _ h
  |again c'=>exact ⟨h.1,codeAny_mono h.2 λr s'' hr=>by obtain ⟨rfl,h⟩:=hr;exact fin' _ h⟩
 ·exact absurd h.1 (by simp)
end
def Z1 (r:Addr) (a b c:Int) (t u v:Tok) (n:Nat) (hsmall:Builtin.Range.small a b c=true) (hn:Builtin.Range.rangeSize a b c=n) (hlen:n<=2 ^ 24) :
  Meets (Builtin.«tuple.__new__» ⟨[.type "tuple",.ref r],[]⟩)
   (λA R s=>A.handled=none/\IsRange s.heap r a b c t u v/\∀ (h':Heap) tk (acc:Array Value),(∀ b o',s.heap.get? b=some o'->h'.get? b=some o')->ItemsOf (λi v=>∃ t,v=.int (a+i*c) t) acc n->R (.ok (.ret (.ref h'.objs.size))) { s with heap:=h'.push { cls:=.type "tuple",data:=.seq acc },toks:=tk }):=
 .of_wp λprog w A R s h=>by
  obtain ⟨hp,g,d,tk,os⟩:=s;obtain ⟨hh,ht,h⟩:=h;have hsub:=sub_tuple_self;have hinit:=init_tuple_lookup;have hmh:=madeHere_tuple;have hT:Shared.TypeIs ⟨hp,g,d,tk,os⟩ (.ref r) "range" := ⟨_,ht,rfl⟩
  have hh1:A.in1.handled=none:=hh
  wp_walk using wpAny_loadPart' ht,wpAny_typeOf hT,UK hh1 ht hsmall hn hlen
  intro h' tk' acc hk hi;show wpAny _ _ (Builtin.Tuple.tupleExact acc.toList.toArray >>= λv=>ret v) _ _ _;unfold Builtin.Tuple.tupleExact;have e:acc.toList.toArray=acc:=by simp
  have hs:=hi.1;refine wpAny_bind (wpAny_newObj_type ?_ (by show acc.toList.toArray.size<=sizeLine;rw [e,sizeLine_eq];omega));refine wpAny_pure ⟨_,rfl,?_⟩;rw [e];exact h h' tk' acc hk hi
section
variable {prog:Program} {w:World} {A:Around} {E:Value->Shared->Prop} {s:Shared}
def JD {r:Addr} {a b c:Int} {t u v:Tok} {n:Nat} {Q:Value->Shared->Prop} (hh:A.handled=none) (hr:IsRange s.heap r a b c t u v) (hsmall:Builtin.Range.small a b c=true)
  (hn:Builtin.Range.rangeSize a b c=n) (hlen:n<=2 ^ 24)
  (h:∀ (h':Heap) tk (acc:Array Value),(∀ b o',s.heap.get? b=some o'->h'.get? b=some o')->ItemsOf (λi v=>∃ t,v=.int (a+i*c) t) acc n->Q (.ref h'.objs.size) { s with heap:=h'.push { cls:=.type "tuple",data:=.seq acc },toks:=tk }) :
  wpAny (model prog w) A (call (.type "tuple") [.ref r]) Q E s:=
 callType_new F.called_tuple (by decide) (F.typeCall_tuple_1 _) (F.newCall_tuple_1 _) (λobj=>F.args_object_init_2 obj _) F.entry_tuple_new
  (Z1 r a b c t u v n hsmall hn hlen) ⟨hh,hr,λh' tk acc hk hi=>⟨⟨_,Heap.get?_push_size _ rfl,rfl⟩,h h' tk acc hk hi⟩⟩
end
section
variable {X:Cx}
def RO {e:Expr} {te:TE} {p p2 pos pos2:Pos} (hc:X.calm=true) (hg:Gl X "tuple") (hm:X.mg "tuple" = none) (hg2:Gl X "range") (hm2:X.mg "range" = none) (he:PE X e te)
  (h1:starEach [e] X.env=(false,eval e X.env)::starEach [] X.env:=by rfl) (h2:starEach [.Call (.Name "range" p2) [e] [] pos2] X.env=(false,eval (.Call (.Name "range" p2) [e] [] pos2) X.env)::starEach [] X.env:=by rfl)
  (h3:(backTo pos (starEach [] X.env)).any (·.1)=false:=by rfl) (h4:(backTo pos2 (starEach [] X.env)).any (·.1)=false:=by rfl) :
  PE X (.Call (.Name "tuple" p) [.Call (.Name "range" p2) [e] [] pos2] [] pos) (λσ H Q=>te σ H λx H1=>∃ n:Nat,x=.int (n:Int)/\n<=sizeLine/\∀ l,H1 l=none->Q (.ref l) (upd H1 l (.tup ((List.range n).map λ(i:Nat)=>V.int (i:Int))))):=by
 intro pins s σ H Q I h;refine wpAny_Call_Name_kw (QP I hg hm PyProof.Rows.boot_tuple ?_);refine PyProof.Rows.callWith_type1 ?_ h2 h3;rw [h2];show wpAny _ _ (spliced ((false,eval (.Call (.Name "range" p2) [e] [] pos2) X.env)::backTo pos (starEach [] X.env))) _ _ s;refine Calls.spliced_cons ?_;refine wpAny_Call_Name_kw (QP I hg2 hm2 boot_range ?_);refine PyProof.Rows.callWith_type1 ?_ h1 h4;rw [h1];show wpAny _ _ (spliced ((false,eval e X.env)::backTo pos2 (starEach [] X.env))) _ _ s;refine Calls.spliced_cons (thn (he pins s σ H _ I h) λu s1 ⟨x,H1,I1,r1,n,ex,hz,q⟩=>?_);subst ex;obtain ⟨t,rfl⟩:=r1;refine Calls.spliced_nil ?_;refine call_range_1 ?_;refine Calls.spliced_nil ?_;have sl:=sizeLine_eq;have I2:Inv X pins σ H1 { s1 with heap:=s1.heap.push { cls:=.type "range",data:=.fields #[.int 0 s1.toks,.int (n:Int) t,.int 1 (s1.toks+1)] },toks:=s1.toks+1+1 }:=I1.kept λb o e=>Heap.get?_push_of_some _ e;refine JD (I1.ok.hd hc) (IsRange.new ..) (small_one (by omega) (by omega) (by omega) (by omega)) (n:=n) (by rw [rangeSize_one];split<;>omega) (by omega) λh' tk acc hk hI=>?_;have rv:qF ((List.range n).map λ(i:Nat)=>V.int (i:Int)) acc.toList:=ZN (a:=0) (f:=λi=>(i:Int)) (by rw [Array.length_toList];exact hI.1) λi v hv=>by
  obtain ⟨t,e⟩:=hI.2 i v (by simpa using hv);exact ⟨t,by rw [e];simp⟩
 have I3:=I2.kept (t':=tk) hk;have I4:Inv X pins σ (upd H1 h'.objs.size (.tup ((List.range n).map λ(i:Nat)=>V.int (i:Int)))) { s1 with heap:=h'.push { cls:=.type "tuple",data:=.seq acc },toks:=tk }:=
  I3.laid (t':=tk) (λb o e=>Heap.get?_push_of_some _ e) (Nat.le_refl _) (show jc X.prog X.w _ _ _ (.tup _) from ⟨by simpa using hz,acc.toList,rv,by simpa using j6.new h' acc⟩)
 exact ⟨.ref h'.objs.size,_,I4,rfl,q _ (I3.hok.fresh (Nat.le_refl _))⟩
def qkD:List T->Gp->Q3->Prop:=λxs G q=>match xs with
 |[.int k]=>(0<=k/\k<=1000000)/\q (.tup ((List.range k.toNat).map λ(i:Nat)=>T.int (i:Int))) G
 |_=>False
def S4 {e:Expr} {te:TE3} {p p2 pos pos2:Pos} (hc:X.calm=true) (hg:Gl X "tuple") (hm:X.mg "tuple" = none) (hg2:Gl X "range") (hm2:X.mg "range" = none) (he:jE3 X e te)
  (h1:starEach [e] X.env=(false,eval e X.env)::starEach [] X.env:=by rfl) (h2:starEach [.Call (.Name "range" p2) [e] [] pos2] X.env=(false,eval (.Call (.Name "range" p2) [e] [] pos2) X.env)::starEach [] X.env:=by rfl)
  (h3:(backTo pos (starEach [] X.env)).any (·.1)=false:=by rfl) (h4:(backTo pos2 (starEach [] X.env)).any (·.1)=false:=by rfl) :
  jE3 X (.Call (.Name "tuple" p) [.Call (.Name "range" p2) [e] [] pos2] [] pos) (cb3 qkD (qc te qk)):=
 ⟨JH (RO hc hg hm hg2 hm2 he.h h1 h2 h3 h4) λ_ _ _ ⟨τ,G,q,rl,h,af⟩=>qN rl h λx G1 h1 v H1 rx hr1 k1 rl1=>by
  cases x<;>try exact h1.elim
  case int k=>
   cases rx;obtain ⟨⟨a,b⟩,h1⟩:=h1;refine ⟨k.toNat,by rw [Int.toNat_of_nonneg a],by rw [sizeLine_eq];omega,λl hl=>af _ _ h1 _ _ (.tup (SqT.of qz) ((DK _).keep hr1 (Kp.laid hl))) (hr1.laid hl) (k1.trans (Kp.laid hl))⟩⟩
end
def qcb:Sp3:=λ_ _ _=>False
def XI {P:Program} {w:World} {K:Frg} {mg:Str->Option Value} {base:Heap} {x qual:Str} {st:Stmt} {f:Addr} {fd:FuncData} {ps:List Str} (F:Fun K x qual st f fd) (bd:zz K fd ps []) (hm:mg x=some (.ref f)):Fn3 P w K mg base 0 x qcb:=
 ⟨f,fd,ps,⟨λvs H Q E ⟨_,_,_,_,_,h,_⟩=>h.elim,λA outer s H args us vs Q E _ _ _ _ ⟨_,_,_,_,_,h,_⟩=>h.elim⟩,bd,F.kp,hm⟩
def ixR (p:Addr) (i:Int) (G:Gp) (q:Q3):ix3 (.ref p) (.int i) G q=(match getL G p with|some xs=>(match L2.atI xs i with|some z=>q z G|none=>False)|none=>False):=rfl
def K9 {α:Type} {xs:List α} {i:Int} (h0:0<=i) (h1:i<(xs.length:Int)):L2.atI xs i=xs[i.toNat]?:=by
 unfold L2.atI ixN;have e1:i.toNat<xs.length:=by omega
 simp [h0,e1,h1]
def cm {i j:Int} (h1:-1000000<j) (h2:j<1000000):UP i j:=.inr ⟨by omega,by omega⟩
def qbr {lo:Int} {n i:Nat} {x:T} (h:(CT lo n)[i]?=some x):i<n/\x=T.int (lo+(i:Int)):=by
 unfold CT at h;rw [getElem?_map] at h;cases e:(List.range n)[i]? with
 |none=>rw [e] at h;cases h
 |some k=>
  rw [e] at h;obtain ⟨hi,hk⟩:=List.getElem?_eq_some_iff.mp e;simp at hi hk;subst hk;exact ⟨hi,by simpa using h.symm⟩
end L3
namespace Bk
open PySem L2 L3
def jN:TS3:=(zI (CA (KN (λt=>jb t "int") (v3 0)) (C8 (KN (λt=>jb t "bool") (v3 0)))))
def ZJ:TS3:=(qU (zG (o3 (iC (λ_ j=>0<j) (·%·)) (o3 (iC UP (·*·)) (o3 JE (o3 JE (o3 (iC (λ_ j=>0<j) (·%·)) (v3 0) (c3 (.int 2147483629))) (o3 (iC UP (·*·)) (o3 (iC UP (·*·)) (v3 1) (v3 1)) (c3 (.int 7919)))) (c3 (.int 11))) (c3 (.int 48271))) (c3 (.int 2147483647))) (gn3 2)) (zI (o3 (iC (λ_ j=>0<j) (·%·)) (o3 (iC UP (·*·)) (v3 2) (v3 2)) (c3 (.int 1999999973)))))
def QK:TS3:=(qU (zG (if3 (tb3 (o3 (iB λi j=>decide (i<j)) (v3 1) (cb3 Z6 (qc (v3 0) qk)))) (o3 ix3 (v3 0) (v3 1)) (c3 (.int 0))) (gn3 2)) (qU (zG (if3 (tb3 (o3 (iB λi j=>decide (j<=i)) (cb3 qeQ (qc (v3 2) qk)) (o3 (iC qf4 (λi j=>i ^ j.toNat)) (c3 (.int 10)) (c3 (.int 18))))) (cb3 qeQ (qc (v3 2) qk)) (c3 (.int 0))) (gn3 3)) (zI (KM (qc (v3 3) (qc (o3 JE (v3 2) (o3 (iC UP (·*·)) (c3 (.int 1000003)) (v3 1))) (qc (c3 (.int 0)) qk)))))))
def QJ (S_law_mix:Sp3):TS3:=(qU (zG (o3 JE (o3 ix3 (v3 0) (c3 (.int 2))) (c3 (.int 1))) (Z4 (v3 0) (c3 (.int 2)))) (qU (ZF (tb3 (o3 (iB λi j=>decide (j<i)) (o3 ix3 (v3 0) (c3 (.int 0))) (c3 (.int 0)))) (qU (zG (o3 (iC (λ_ j=>0<j) (·%·)) (o3 ix3 (v3 0) (c3 (.int 0))) (v3 1)) (gn3 2)) (qU (zG (o3 (iC EB (·/·)) (o3 ix3 (v3 0) (c3 (.int 0))) (v3 1)) (Z4 (v3 0) (c3 (.int 0)))) (zI (v3 2)))) zf) (zI (o3 (iC (λ_ j=>0<j) (·%·)) (o3 (iC EB (·/·)) (cb3 S_law_mix (qc (cb3 S_law_mix (qc (o3 ix3 (v3 0) (c3 (.int 1))) (qc (o3 ix3 (v3 0) (c3 (.int 2))) qk))) (qc (o3 JE (o3 ix3 (v3 0) (c3 (.int 2))) (c3 (.int 64))) qk))) (c3 (.int 64))) (v3 1)))))
abbrev qjb (q:Q3):Ends3:={ nx:=λ_ G'=>q .non G',rt:=q }
def qhK {A B:TS3} {d:Ends3} {τ:St3} {G:Gp} (h:∀ nx,nx=B d->A { d with nx:=nx } τ G):qU A B d τ G:=h _ rfl
def Lf (G:Gp) (a:Addr) (n:Int):Prop:=∃ o c m,G a=some (.lst [.int o,.int c,.int m])/\0<=o/\0<=m/\m<=n
def Ext (a:Addr) (G G':Gp):Prop:=∀ b o,b≠a->G b=some o->G' b=some o
def Lf.new {G:Gp} {a p:Addr} {n:Int} {ob:O} (h:Lf G a n) (hp:p≠a):Lf (gu G p ob) a n:=by
 obtain ⟨o,c,m,e,r⟩:=h;exact ⟨o,c,m,by rw [je (Ne.symm hp)];exact e,r⟩
def Lf.mono {G:Gp} {a:Addr} {n k:Int} (h:Lf G a n) (hk:n<=k):Lf G a k:=by
 obtain ⟨o,c,m,e,h1,h2,h3⟩:=h;exact ⟨o,c,m,e,h1,h2,by omega⟩
def Lf.ex {G G':Gp} {a:Addr} {n:Int} (h:Lf G a n) (e:Ex G G'):Lf G' a n:=by
 obtain ⟨o,c,m,e1,h1⟩:=h;exact ⟨o,c,m,e _ _ e1,h1⟩
def Ext.trans {a:Addr} {G G1 G2:Gp} (x:Ext a G G1) (y:Ext a G1 G2):Ext a G G2:=λb o hb e=>y b o hb (x b o hb e)
def Z9 {a:Addr} {G G':Gp} (h:Ex G G'):Ext a G G':=λb o _ e=>h b o e
def VT:Sp3:=λts G q=>∃ c k,ts=[.int c,.int k]/\0<=k/\k<4294967296/\∀ m,0<=m->m<1999999973->q (.int m) G
def jJ:Sp3:=λts G q=>∃ (a:Addr) (k:Int) (ns:List Int),ts=[.ref a,.int k]/\G a=some (.frz (ns.map T.int))/\ns.length<=63/\0<=k/\k<=63/\∀ p o c,G p=none->0<=o->q (.ref p) (gu G p (.lst [.int o,.int c,.int 0]))
def qQ:Sp3:=λts G q=>∃ a n many,ts=[.ref a,.int many]/\1<=many/\many<1073741824/\Lf G a n/\n<1073741824/\∀ d G',0<=d->d<many->Lf G' a (n+1)->Ext a G G'->q (.int d) G'
def X0:∀ ts G q,VT ts G q->ts.length=2/\ZJ (qjb q) (ql ["_law_cell","_law_k","_law_m"] ts) G:=by
 rintro ts G q ⟨c,k,rfl,h1,h2,h⟩;refine ⟨rfl,?_⟩;simp only [ZJ,qU,zG,o3,v3,ql,map_cons,List.map_nil,length_cons,length_nil,Nat.zero_add,Nat.reduceAdd,Nat.reduceSub,List.replicate_one,cons_append,List.nil_append,Nat.zero_lt_succ,getElem?_pos,getElem_cons_zero,c3,iC,Int.reduceLT,Nat.reduceLT,getElem_cons_succ,JE,gn3,zI,set_cons_succ,set_cons_zero,Nat.lt_add_one,true_and];exact ⟨.inl ⟨by omega,by omega⟩,cm (by omega) (by omega),cm (by omega) (by omega),.inl ⟨by omega,by omega⟩,h _ (Int.emod_nonneg _ (by omega)) (Int.emod_lt_of_pos _ (by omega))⟩
def cp:qf4 10 18:=⟨by decide,by decide,by decide⟩
def D9:∀ ts G q,jJ ts G q->ts.length=2/\QK (qjb q) (ql ["_law_script","_law_k","_law_cell","_law_own"] ts) G:=by
 rintro ts G q ⟨a,k,ns,rfl,hG,hl,h1,h2,h⟩;refine ⟨rfl,?_⟩;simp only [QK,qU,zG,if3,tb3,o3,v3,ql,map_cons,List.map_nil,length_cons,length_nil,Nat.zero_add,Nat.reduceAdd,Nat.reduceSub,List.reduceReplicate,cons_append,List.nil_append,Nat.reduceLT,getElem?_pos,getElem_cons_succ,getElem_cons_zero,cb3,qc,Nat.zero_lt_succ,qk,Z6,getL,hG,iB,length_map,decide_eq_true_eq,gn3,set_cons_succ,set_cons_zero,qeQ,c3,iC,Int.reduceToNat,Int.reducePow,zI,KM,Nat.lt_add_one,JE,ne_eq,sizeLine_eq,Nat.reduceLeDiff,true_and,gu,ixR,atI,ixN,getElem?_map,Int.lt_irrefl,↓reduceIte,Int.reduceLE,decide_false,Bool.false_eq_true,Int.zero_add];have ck:UP 1000003 k:=cm (by omega) (by omega);by_cases hk:k<ns.length
 ·have hk':k.toNat<ns.length:=by omega
  simp [hk,h1,hk',cp,ck];split
  ·split
   ·exact λp hp=>h p (-ns[k.toNat]) _ hp (by omega)
   ·exact λp hp=>h p 0 _ hp (by omega)
  ·split
   ·exact λp hp=>h p ns[k.toNat] _ hp (by omega)
   ·exact λp hp=>h p 0 _ hp (by omega)
 ·simp [hk,cp,ck];exact λp hp=>h p 0 _ hp (by omega)
def DF:∀ ts G q,qQ ts G q->ts.length=2/\QJ VT (qjb q) (ql ["_law_left_here","_law_many","_law_digit"] ts) G:=by
 rintro ts G q ⟨a,n,many,rfl,m1,m2,⟨o,c,m,hG,ho,hm,hn⟩,h3,h⟩;refine ⟨rfl,?_⟩;unfold QJ;refine qhK λnx1 q1=>?_;simp only [zG,o3,v3,ql,map_cons,List.map_nil,length_cons,length_nil,Nat.zero_add,Nat.reduceAdd,Nat.reduceSub,List.replicate_one,cons_append,List.nil_append,Nat.zero_lt_succ,getElem?_pos,getElem_cons_zero,c3,JE,ne_eq,sizeLine_eq,Z4,N7,ixN,Int.zero_le_ofNat,↓reduceIte,Int.reduceToNat,tb3,iB,decide_eq_true_eq,Nat.reduceLT,getElem_cons_succ,iC,gn3,set_cons_succ,set_cons_zero,Std.le_refl,Int.natCast_pos,Int.toNat_zero,zI,Nat.lt_add_one,ixR,getL,atI,zf,cb3,qc,qk,Int.toNat_one,List.length_set,hG,Int.cast_ofNat_Int,Int.reduceLT,Option.bind_some,qC];rw [q1];clear q1;refine qhK λnx2 q2=>?_;simp only [ZF,zG,o3,v3,ql,map_cons,List.map_nil,length_cons,length_nil,Nat.zero_add,Nat.reduceAdd,Nat.reduceSub,List.replicate_one,cons_append,List.nil_append,Nat.zero_lt_succ,getElem?_pos,getElem_cons_zero,c3,JE,ne_eq,sizeLine_eq,Z4,N7,ixN,Int.zero_le_ofNat,↓reduceIte,Int.reduceToNat,tb3,iB,decide_eq_true_eq,Nat.reduceLT,getElem_cons_succ,iC,gn3,set_cons_succ,set_cons_zero,Std.le_refl,Int.natCast_pos,Int.toNat_zero,zI,Nat.lt_add_one,ixR,getL,atI,zf,cb3,qc,qk,Int.toNat_one,List.length_set,hG,Int.cast_ofNat_Int,Int.reduceLT,Option.bind_some,qC];split
 ·simp only [qU,zG,o3,v3,length_cons,length_nil,Nat.zero_add,Nat.reduceAdd,Nat.zero_lt_succ,getElem?_pos,getElem_cons_zero,c3,Nat.reduceLT,getElem_cons_succ,iC,gn3,set_cons_succ,set_cons_zero,Z4,N7,ixN,Std.le_refl,↓reduceIte,Int.natCast_pos,Int.toNat_zero,zI,Nat.lt_add_one,ixR,getL,atI,qC,Int.cast_ofNat_Int,Int.reduceLT,Option.bind_some];refine ⟨by omega,⟨by omega,m2⟩,h _ _ (Int.emod_nonneg _ (by omega)) (Int.emod_lt_of_pos _ (by omega)) ⟨o/many,c,m+1,qC,Int.ediv_nonneg ho (by omega),by omega,by omega⟩ λb ob hb e=>?_⟩;rw [je hb,je hb];exact e
 ·rw [q2];clear q2;simp only [zG,o3,v3,ql,map_cons,List.map_nil,length_cons,length_nil,Nat.zero_add,Nat.reduceAdd,Nat.reduceSub,List.replicate_one,cons_append,List.nil_append,Nat.zero_lt_succ,getElem?_pos,getElem_cons_zero,c3,JE,ne_eq,sizeLine_eq,Z4,N7,ixN,Int.zero_le_ofNat,↓reduceIte,Int.reduceToNat,tb3,iB,decide_eq_true_eq,Nat.reduceLT,getElem_cons_succ,iC,gn3,set_cons_succ,set_cons_zero,Std.le_refl,Int.natCast_pos,Int.toNat_zero,zI,Nat.lt_add_one,ixR,getL,atI,zf,cb3,qc,qk,Int.toNat_one,List.length_set,hG,Int.cast_ofNat_Int,Int.reduceLT,Option.bind_some,qC];refine ⟨c,m+1,rfl,by omega,by omega,λu u1 u2=>?_⟩;simp only [zG,o3,v3,ql,map_cons,List.map_nil,length_cons,length_nil,Nat.zero_add,Nat.reduceAdd,Nat.reduceSub,List.replicate_one,cons_append,List.nil_append,Nat.zero_lt_succ,getElem?_pos,getElem_cons_zero,c3,JE,ne_eq,sizeLine_eq,Z4,N7,ixN,Int.zero_le_ofNat,↓reduceIte,Int.reduceToNat,tb3,iB,decide_eq_true_eq,Nat.reduceLT,getElem_cons_succ,iC,gn3,set_cons_succ,set_cons_zero,Std.le_refl,Int.natCast_pos,Int.toNat_zero,zI,Nat.lt_add_one,ixR,getL,atI,zf,cb3,qc,qk,Int.toNat_one,List.length_set,hG,Int.cast_ofNat_Int,Int.reduceLT,Option.bind_some,qC];refine ⟨u,m+1+64,rfl,by omega,by omega,λv v1 v2=>?_⟩;refine ⟨⟨by omega,by omega⟩,by omega,h _ _ (Int.emod_nonneg _ (by omega)) (Int.emod_lt_of_pos _ (by omega)) ⟨o,c,m+1,qC,ho,by omega,by omega⟩ λb ob hb e=>?_⟩;rw [je hb];exact e
def _root_.L3.Dps.append {G:Gp}:∀ {xs ys:List T} {ds es:List PyData},Dps G xs ds->Dps G ys es->Dps G (xs++ys) (ds++es)
 |_,_,_,_,.nil,b=>b
 |_,_,_,_,.cons a t,b=>.cons a (L3.Dps.append t b)
def _root_.L3.Dps.take {G:Gp}:∀ {xs:List T} {ds:List PyData} (i:Nat),Dps G xs ds->Dps G (xs.take i) (ds.take i)
 |_,_,0,_=>.nil
 |_,_,_+1,.nil=>.nil
 |_,_,i+1,.cons a t=>.cons a (L3.Dps.take i t)
def _root_.L3.Dps.drop {G:Gp}:∀ {xs:List T} {ds:List PyData} (i:Nat),Dps G xs ds->Dps G (xs.drop i) (ds.drop i)
 |_,_,0,h=>h
 |_,_,_+1,.nil=>.nil
 |_,_,i+1,.cons a t=>L3.Dps.drop i t
def pT (p:Int×Int):T:=.tup [.int p.1,.int p.2]
end Bk
namespace Pu
open PySem L2 L3
def cif {α:Type} (P:Prop) (a b:α):α:=@ite α P (Classical.propDecidable P) a b
def zn {α:Type} {P:Prop} {a b:α} (h:P):cif P a b=a:=@if_pos P (Classical.propDecidable P) h α a b
def qcS {α:Type} {P:Prop} {a b:α} (h:¬ P):cif P a b=b:=@if_neg P (Classical.propDecidable P) h α a b
structure Tru (b:Bool):Prop where
 h:b=true
mutual
inductive Dq (G:Gp):T->PyData->Prop
 |non:Dq G .non .none
 |bl (b:Bool):Dq G (.bl b) (.bool b)
 |int (i:Int):Dq G (.int i) (.int i)
 |str (x:Str):Dq G (.str x) (.str x)
 |tup {xs:List T} {ds:List PyData}:Dqs G xs ds->Dq G (.tup xs) (.tuple ds)
 |lst {p:Addr} {xs:List T} {ds:List PyData}:G p=some (.lst xs)->Dqs G xs ds->Dq G (.ref p) (.list ds)
inductive Dqs (G:Gp):List T->List PyData->Prop
 |nil:Dqs G [] []
 |cons {x:T} {d:PyData} {xs:List T} {ds:List PyData}:Dq G x d->Dqs G xs ds->Dqs G (x::xs) (d::ds)
end
mutual
def Dq.up {G G':Gp} (e:Ex G G'):∀ {x:T} {d:PyData},Dq G x d->Dq G' x d
 |_,_,.non=>.non
 |_,_,.bl b=>.bl b
 |_,_,.int i=>.int i
 |_,_,.str x=>.str x
 |_,_,.tup h=>.tup (Dqs.up e h)
 |_,_,.lst h1 h2=>.lst (e _ _ h1) (Dqs.up e h2)
def Dqs.up {G G':Gp} (e:Ex G G'):∀ {x:List T} {d:List PyData},Dqs G x d->Dqs G' x d
 |_,_,.nil=>.nil
 |_,_,.cons a b=>.cons (Dq.up e a) (Dqs.up e b)
end
def zb {G:Gp} {p:Addr} {xs:List T} (h:G p=some (.lst xs)):getL G p=some xs:=by unfold getL;rw [h]
mutual
def Dq.dp {G:Gp}:∀ {x:T} {d:PyData},Dq G x d->Dp G x d
 |_,_,.non=>.non
 |_,_,.bl b=>.bl b
 |_,_,.int i=>.int i
 |_,_,.str x=>.str x
 |_,_,.tup h=>.tup (Dqs.dp h)
 |_,_,.lst h1 h2=>.lst (zb h1) (Dqs.dp h2)
def Dqs.dp {G:Gp}:∀ {x:List T} {d:List PyData},Dqs G x d->Dps G x d
 |_,_,.nil=>.nil
 |_,_,.cons a b=>.cons (Dq.dp a) (Dqs.dp b)
end
def Dqs.length {G:Gp}:∀ {xs:List T} {ds:List PyData},Dqs G xs ds->xs.length=ds.length
 |_,_,.nil=>rfl
 |_,_,.cons _ b=>by simp [Dqs.length b]
def Dqs.get {G:Gp}:∀ {xs:List T} {ds:List PyData} {i:Nat} {d:PyData},Dqs G xs ds->ds[i]?=some d->∃ x,xs[i]?=some x/\Dq G x d
 |_,_,_,_,.nil,e=>by simp at e
 |_,_,0,_,.cons r _,e=>by simp at e;subst e;exact ⟨_,rfl,r⟩
 |_,_,i+1,d,.cons _ t,e=>by
  obtain ⟨u,h1,h2⟩:=Dqs.get (i:=i) (d:=d) t (by simpa using e);exact ⟨u,by simpa using h1,h2⟩
def Dqs.append {G:Gp}:∀ {xs:List T} {ds:List PyData} {ys:List T} {es:List PyData},Dqs G xs ds->Dqs G ys es->Dqs G (xs++ys) (ds++es)
 |_,_,_,_,.nil,h=>h
 |_,_,_,_,.cons a b,h=>.cons a (Dqs.append b h)
def Dqs.drop {G:Gp}:∀ {xs:List T} {ds:List PyData} (n:Nat),Dqs G xs ds->Dqs G (xs.drop n) (ds.drop n)
 |_,_,0,h=>h
 |_,_,_+1,.nil=>.nil
 |_,_,n+1,.cons _ b=>Dqs.drop n b
def Dqs.take {G:Gp}:∀ {xs:List T} {ds:List PyData} (n:Nat),Dqs G xs ds->Dqs G (xs.take n) (ds.take n)
 |_,_,0,h=>by simp;exact .nil
 |_,_,_+1,.nil=>.nil
 |_,_,n+1,.cons a b=>.cons a (Dqs.take n b)
def Dqs.set {G:Gp}:∀ {xs:List T} {ds:List PyData} (n:Nat) {x:T} {d:PyData},Dqs G xs ds->Dq G x d->Dqs G (xs.set n x) (ds.set n d)
 |_,_,_,_,_,.nil,_=>.nil
 |_,_,0,_,_,.cons _ b,h=>.cons h b
 |_,_,n+1,_,_,.cons a b,h=>.cons a (Dqs.set n b h)
def Dqs.ints {G:Gp}:∀ {ns:List Int} {xs:List T},Dqs G xs (ns.map PyData.int)->xs=ns.map T.int
 |[],_,.nil=>rfl
 |n::ns,_,.cons a b=>by cases a;rw [Dqs.ints b];rfl
def Dqs.ofInts {G:Gp}:∀ (ns:List Int),Dqs G (ns.map T.int) (ns.map PyData.int)
 |[]=>.nil
 |n::r=>.cons (.int n) (Dqs.ofInts r)
def rs (D:Addr->Prop) (G:Gp):Gp:=λb=>cif (D b) none (G b)
def qt {D:Addr->Prop} {G:Gp} {b:Addr} {o:O} (h:rs D G b=some o):¬ D b/\G b=some o:=by
 unfold rs cif at h;split at h
 ·cases h
 ·rename_i n;exact ⟨n,h⟩
def zX {D:Addr->Prop} {G:Gp} {b:Addr} (n:¬ D b):rs D G b=G b:=by unfold rs;exact qcS n
def JX {D:Addr->Prop} {G:Gp}:Ex (rs D G) G:=λb o h=>(qt h).2
def jr {D:Addr->Prop} {G G':Gp} (e:Ex G G'):Ex (rs D G) (rs D G'):=λb o h=>by
 obtain ⟨n,h⟩:=qt h;rw [zX n];exact e _ _ h
def zh {D D':Addr->Prop} {G:Gp} (h:∀ b,D' b->D b):Ex (rs D G) (rs D' G):=λb o e=>by
 obtain ⟨n,e⟩:=qt e;rw [zX λz=>n (h b z)];exact e
def Dom (D:Addr->Prop) (G:Gp):Prop:=∀ b,D b->G b≠none
def Dom.up {D:Addr->Prop} {G G':Gp} (h:Dom D G) (e:Ex G G'):Dom D G':=λb d z=>by
 cases g:G b with
 |none=>exact h b d g
 |some o=>rw [e _ _ g] at z;cases z
def qf2 {D:Addr->Prop} {G:Gp} {p:Addr} {o:O} (hd:Dom D G) (hp:G p=none):rs D (gu G p o) p=some o:=by
 rw [zX λz=>hd p z hp,qC]
inductive Sl where
 |un|sh (d:PyData)|ow (ds:List PyData)|dc (kvs:List (Int×PyData))
abbrev Rho:=List Sl
def Sl.d:Sl->Option PyData
 |.un=>none|.sh d=>some d|.ow ds=>some (.list ds)|.dc _=>none
def vw (ρ:Rho) (i:Nat):Option PyData:=(ρ[i]?).bind Sl.d
def VJ (fv:List Nat) (D:Addr->Prop) (G:Gp) (τ:St3) (ρ:Rho):Prop:=∀ i∈fv,∀ d,vw ρ i=some d->∃ t,τ[i]?=some (some t)/\Dq (rs D G) t d
def VJ.up {fv:List Nat} {D:Addr->Prop} {G G':Gp} {τ:St3} {ρ:Rho} (h:VJ fv D G τ ρ) (e:Ex G G'):VJ fv D G' τ ρ:=λi hi d hd=>
 let ⟨t,a,b⟩:=h i hi d hd;⟨t,a,b.up (jr e)⟩
def VJ.l {fv gv:List Nat} {D:Addr->Prop} {G:Gp} {τ:St3} {ρ:Rho} (h:VJ (fv++gv) D G τ ρ):VJ fv D G τ ρ:=λi hi=>h i (by simp [hi])
def VJ.r {fv gv:List Nat} {D:Addr->Prop} {G:Gp} {τ:St3} {ρ:Rho} (h:VJ (fv++gv) D G τ ρ):VJ gv D G τ ρ:=λi hi=>h i (by simp [hi])
def SQ:PyData->Bool
 |.none=>true|.bool _=>true|.int _=>true|.str _=>true|_=>false
def Nw (D:Addr->Prop) (G G':Gp) (x:T) (d:PyData):Prop:=SQ d=true\/∃ p xs ds,x=.ref p/\d=.list ds/\G p=none/\G' p=some (.lst xs)/\Dqs (rs (λb=>D b\/b=p) G') xs ds
def Nw.back {D:Addr->Prop} {G0 G G':Gp} {x:T} {d:PyData} (h:Nw D G G' x d) (e:Ex G0 G):Nw D G0 G' x d:=by
 rcases h with h|⟨p,xs,ds,a,b,c,r⟩
 ·exact .inl h
 refine .inr ⟨p,xs,ds,a,b,?_,r⟩;cases z:G0 p with
 |none=>rfl
 |some o=>rw [e _ _ z] at c;cases c
structure PuE (t:TE3) where
 f:Rho->Option PyData
 fv:List Nat
 nw:Bool
 ok:∀ {D τ ρ G} {q:Q3} {d},VJ fv D G τ ρ->Dom D G->f ρ=some d->(∀ x G',Ex G G'->Dq (rs D G') x d->(nw=true->Nw D G G' x d)->q x G')->t τ G q
structure PuC (t:TT3) where
 f:Rho->Option Bool
 fv:List Nat
 ok:∀ {D τ ρ G} {q:Bool->Gp->Prop} {k},VJ fv D G τ ρ->Dom D G->f ρ=some k->(∀ G',Ex G G'->q k G')->t τ G q
structure PuA (t:TA3) where
 f:Rho->Option (List PyData)
 fv:List Nat
 n:Nat
 ln:∀ {ρ d},f ρ=some d->d.length=n
 ok:∀ {D τ ρ G} {q:List T->Gp->Prop} {d},VJ fv D G τ ρ->Dom D G->f ρ=some d->(∀ x G',Ex G G'->Dqs (rs D G') x d->q x G')->t τ G q
structure PuO (t:TO3) where
 f:Rho->Option (Option Int)
 fv:List Nat
 ok:∀ {D τ ρ G} {q:Option Int->Gp->Prop} {k},VJ fv D G τ ρ->Dom D G->f ρ=some k->(∀ G',Ex G G'->q k G')->t τ G q
structure PuI (t:TI3) where
 f:Rho->Option (List PyData)
 fv:List Nat
 /-- numbers alone -/
 nm:Bool
 ok:∀ {D τ ρ G} {r:List T->(Gp->Prop)->Gp->Prop} {ds},VJ fv D G τ ρ->Dom D G->f ρ=some ds ->
  (∀ items stay G',Ex G G'->Dqs (rs D G') items ds->(∀ G'',(nm=true\/Ex (rs D G') G'')->stay G'')->(nm=true->∃ ns:List Int,ds=ns.map PyData.int)->r items stay G')->t τ G r
structure OpD (r:R3) where
 f:PyData->PyData->Option PyData
 nw:Bool
 ok:∀ {D G x y d e v} {q:Q3},Dq (rs D G) x d->Dq (rs D G) y e->Dom D G->f d e=some v->(∀ z G',Ex G G'->Dq (rs D G') z v->(nw=true->Nw D G G' z v)->q z G')->r x y G q
structure FnD (r:List T->Gp->Q3->Prop) where
 f:List PyData->Option PyData
 nw:Bool
 ok:∀ {D G xs ds v} {q:Q3},Dqs (rs D G) xs ds->Dom D G->f ds=some v->(∀ z G',Ex G G'->Dq (rs D G') z v->(nw=true->Nw D G G' z v)->q z G')->r xs G q
def bV (i:Nat):PuE (v3 i):=⟨λρ=>vw ρ i,[i],false,λhv hd hf k=>by
 obtain ⟨t,e,h⟩:=hv i (by simp) _ hf;unfold v3;rw [e];exact k t _ Ex.refl h (λz=>by cases z)⟩
def za (i:Int):PuE (c3 (.int i)):=⟨λ_=>some (.int i),[],false,λhv hd hf k=>by cases hf;exact k _ _ Ex.refl (.int i) (λz=>by cases z)⟩
def bBl (i:Bool):PuE (c3 (.bl i)):=⟨λ_=>some (.bool i),[],false,λhv hd hf k=>by cases hf;exact k _ _ Ex.refl (.bl i) (λz=>by cases z)⟩
def qdw (i:Str):PuE (c3 (.str i)):=⟨λ_=>some (.str i),[],false,λhv hd hf k=>by cases hf;exact k _ _ Ex.refl (.str i) (λz=>by cases z)⟩
def qel:PuE (c3 .non):=⟨λ_=>some .none,[],false,λhv hd hf k=>by cases hf;exact k _ _ Ex.refl .non (λz=>by cases z)⟩
def bO {r:R3} {ta tb:TE3} (R:OpD r) (a:PuE ta) (b:PuE tb):PuE (o3 r ta tb):=
 ⟨λρ=>(a.f ρ).bind λx=>(b.f ρ).bind λy=>R.f x y,a.fv++b.fv,R.nw,λhv hd hf k=>by
  obtain ⟨x,e1,hf⟩:=obb hf;obtain ⟨y,e2,hf⟩:=obb hf;exact a.ok hv.l hd e1 λx' G1 E1 D1 _=>b.ok (hv.r.up E1) (hd.up E1) e2 λy' G2 E2 D2 _=>R.ok (D1.up (jr E2)) D2 ((hd.up E1).up E2) hf λz G3 E3 D3 N3=>k z G3 ((E1.trans E2).trans E3) D3 λh=>(N3 h).back (E1.trans E2)⟩
def qD:PuA qk:=⟨λ_=>some [],[],0,(λh=>by cases h;rfl),λhv hd hf k=>by cases hf;exact k _ _ Ex.refl .nil⟩
def qg {ta:TE3} {tr:TA3} (a:PuE ta) (r:PuA tr):PuA (qc ta tr):=
 ⟨λρ=>(a.f ρ).bind λx=>(r.f ρ).bind λxs=>some (x::xs),a.fv++r.fv,r.n+1,(λhf=>by
  obtain ⟨x,e1,hf⟩:=obb hf;obtain ⟨xs,e2,hf⟩:=obb hf;cases hf;simp [r.ln e2]),λhv hd hf k=>by
  obtain ⟨x,e1,hf⟩:=obb hf;obtain ⟨xs,e2,hf⟩:=obb hf;cases hf;exact a.ok hv.l hd e1 λx' G1 E1 D1 _=>r.ok (hv.r.up E1) (hd.up E1) e2 λy' G2 E2 D2=>k _ G2 (E1.trans E2) (.cons (D1.up (jr E2)) D2)⟩
def few {n:Nat} (h:Tru (Nat.ble n 1000)):n<=sizeLine:=Nat.le_trans (Nat.le_of_ble_eq_true h.h) (by rw [sizeLine_eq];omega)
def W9 {t:TA3} (a:PuA t) (hn:Tru (Nat.ble a.n 1000)):PuE (YT t):=⟨λρ=>(a.f ρ).map .tuple,a.fv,false,λhv hd hf k=>by
 obtain ⟨xs,e1,rfl⟩:=Option.map_eq_some_iff.mp hf;exact a.ok hv hd e1 λx G1 E1 D1=>⟨by rw [D1.length,a.ln e1];exact few hn,k _ _ E1 (.tup D1) (λz=>by cases z)⟩⟩
def UU {D:Addr->Prop} {G:Gp} {p:Addr} {xs:List T} {ds:List PyData} (hp:G p=none) (h:Dqs (rs D G) xs ds):Nw D G (gu G p (.lst xs)) (.ref p) (.list ds):=
 .inr ⟨p,xs,ds,rfl,rfl,hp,qC,h.up λb o e=>by
  obtain ⟨n,e⟩:=qt e;have:b≠p:=by rintro rfl;rw [hp] at e;cases e
  rw [zX (by rintro (z|z);exact n z;exact this z),je this];exact e⟩
def ZD {D:Addr->Prop} {G:Gp} {p:Addr} {xs:List T} {ds:List PyData} (hd:Dom D G) (hp:G p=none) (h:Dqs (rs D G) xs ds):Dq (rs D (gu G p (.lst xs))) (.ref p) (.list ds):=
 .lst (qf2 hd hp) (h.up (jr (jn hp)))
def qdo {t:TA3} (a:PuA t) (hn:Tru (Nat.ble a.n 1000)):PuE (KM t):=⟨λρ=>(a.f ρ).map .list,a.fv,true,λhv hd hf k=>by
 obtain ⟨xs,e1,rfl⟩:=Option.map_eq_some_iff.mp hf;exact a.ok hv hd e1 λx G1 E1 D1=>⟨by rw [D1.length,a.ln e1];exact few hn,λp hp=>k _ _ (E1.trans (jn hp)) (ZD (hd.up E1) hp D1) λ_=>(UU hp D1).back E1⟩⟩
def qE {r:List T->Gp->Q3->Prop} {t:TA3} (R:FnD r) (a:PuA t):PuE (cb3 r t):=
 ⟨λρ=>(a.f ρ).bind R.f,a.fv,R.nw,λhv hd hf k=>by
  obtain ⟨x,e1,hf⟩:=obb hf;exact a.ok hv hd e1 λx' G1 E1 D1=>R.ok D1 (hd.up E1) hf λz G3 E3 D3 N3=>k z G3 (E1.trans E3) D3 λh=>(N3 h).back E1⟩
def asB:PyData->Option Bool
 |.bool b=>some b
 |_=>none
def asI:PyData->Option Int
 |.int b=>some b
 |_=>none
def TN {d:PyData} {b:Bool} (h:asB d=some b):d=.bool b:=by cases d<;>simp [asB] at h;subst h;rfl
def SJ {d:PyData} {b:Int} (h:asI d=some b):d=.int b:=by cases d<;>simp [asI] at h;subst h;rfl
def bTb {t:TE3} (a:PuE t):PuC (tb3 t):=⟨λρ=>(a.f ρ).bind asB,a.fv,λhv hd hf k=>by
 obtain ⟨x,e1,hf⟩:=obb hf;have:=TN hf;subst this;exact a.ok hv hd e1 λx' G1 E1 D1 _=>by cases D1;exact k G1 E1⟩
def bOr {t u:TT3} (a:PuC t) (b:PuC u):PuC (or3 t u):=⟨λρ=>(a.f ρ).bind λk=>if k then some true else b.f ρ,a.fv++b.fv,λhv hd hf k=>by
 obtain ⟨x,e1,hf⟩:=obb hf;refine a.ok hv.l hd e1 λG1 E1=>?_;cases x with
 |false=>exact b.ok (hv.r.up E1) (hd.up E1) hf λG2 E2=>k G2 (E1.trans E2)
 |true=>cases hf;exact k G1 E1⟩
def qdc {t:TT3} (a:PuC t):PuC (CO t):=⟨λρ=>(a.f ρ).map (! ·),a.fv,λhv hd hf k=>by
 obtain ⟨x,e1,hf⟩:=Option.map_eq_some_iff.mp hf;subst hf;exact a.ok hv hd e1 λG1 E1=>k G1 E1⟩
def bTt:PuC tt3:=⟨λ_=>some true,[],λhv hd hf k=>by cases hf;exact k _ Ex.refl⟩
def RM {ta tb:TE3} (a:PuE ta) (b:PuE tb):PuE (CA ta tb):=⟨λρ=>((a.f ρ).bind asB).bind λk=>if k then b.f ρ else some (.bool false),a.fv++b.fv,false,λhv hd hf k=>by
 obtain ⟨x,e1,hf⟩:=obb hf;obtain ⟨y,e1,e2⟩:=obb e1;have:=TN e2;subst this;refine a.ok hv.l hd e1 λx' G1 E1 D1 _=>?_;cases D1;cases x with
 |true=>exact b.ok (hv.r.up E1) (hd.up E1) hf λz G2 E2 D2 _=>k z G2 (E1.trans E2) D2 (λz=>by cases z)
 |false=>cases hf;exact k _ G1 E1 (.bl false) (λz=>by cases z)⟩
def qcu {ta:TE3} (a:PuE ta):PuE (C8 ta):=⟨λρ=>((a.f ρ).bind asB).map λk=>.bool (!k),a.fv,false,λhv hd hf k=>by
 obtain ⟨x,e1,hf⟩:=Option.map_eq_some_iff.mp hf;obtain ⟨y,e1,e2⟩:=obb e1;have:=TN e2;subst this;subst hf;refine a.ok hv hd e1 λx' G1 E1 D1 _=>?_;cases D1;exact k _ G1 E1 (.bl _) (λz=>by cases z)⟩
def qiy {ta:TE3} (a:PuE ta):PuE (u3 qdl ta):=⟨λρ=>((a.f ρ).bind asI).map λi=>.int (-i),a.fv,false,λhv hd hf k=>by
 obtain ⟨x,e1,hf⟩:=Option.map_eq_some_iff.mp hf;obtain ⟨y,e1,e2⟩:=obb e1;have:=SJ e2;subst this;subst hf;refine a.ok hv hd e1 λx' G1 E1 D1 _=>?_;cases D1;exact k _ G1 E1 (.int _) (λz=>by cases z)⟩
def tyD:PyData->Option String
 |.none=>some "NoneType" |.bool _=>some "bool" |.int _=>some "int" |.str _=>some "str" |.tuple _=>some "tuple" |.list _=>some "list" |.dict _=>none
def qbf {ta:TE3} (g:String->Bool) (a:PuE ta):PuE (KN g ta):=⟨λρ=>(a.f ρ).bind λd=>(tyD d).map λt=>.bool (g t),a.fv,false,λhv hd hf k=>by
 obtain ⟨x,e1,hf⟩:=obb hf;obtain ⟨y,e2,hf⟩:=Option.map_eq_some_iff.mp hf;subst hf;refine a.ok hv hd e1 λx' G1 E1 D1 _=>?_;have:tyT G1 x'=some y:=by
  cases D1 with
  |lst h _=>have g:=zb (qt h).2;simp [tyT,g];simpa [tyD] using e2
  |_=>simpa [tyT,tyD] using e2
 simp only [this];exact k _ G1 E1 (.bl _) (λz=>by cases z)⟩
def bNp:PuO np3:=⟨λ_=>some none,[],λhv hd hf k=>by cases hf;exact k _ Ex.refl⟩
def bSp {t:TE3} (a:PuE t):PuO (sp3 t):=⟨λρ=>((a.f ρ).bind asI).map some,a.fv,λhv hd hf k=>by
 obtain ⟨x,e1,hf⟩:=Option.map_eq_some_iff.mp hf;obtain ⟨y,e1,e2⟩:=obb e1;have:=SJ e2;subst this;subst hf;refine a.ok hv hd e1 λx' G1 E1 D1 _=>?_;cases D1;exact k G1 E1⟩
def Dqs.cut {G:Gp} {xs:List T} {ds:List PyData} (h:Dqs G xs ds) (lo hi:Option Int):Dqs G (US xs lo hi) (US ds lo hi):=by
 unfold US;rw [h.length];exact (h.drop _).take _
def QB:List PyData->Option (List Int)
 |[]=>some []
 |.int i::r=>(QB r).map (i::·)
 |_=>none
def YB (ns:List Int):QB (ns.map PyData.int)=some ns:=by
 induction ns with
 |nil=>rfl
 |cons n r ih=>simp [QB,ih]
def UJ:∀ {xs:List PyData} {ns:List Int},QB xs=some ns->xs=ns.map PyData.int
 |[],_,h=>by simp [QB] at h;subst h;rfl
 |.int i::r,ns,h=>by
  simp only [QB] at h;obtain ⟨ms,e,rfl⟩:=Option.map_eq_some_iff.mp h;rw [UJ e];rfl
 |.none::r,ns,h=>by simp [QB] at h
 |.bool _::r,ns,h=>by simp [QB] at h
 |.str _::r,ns,h=>by simp [QB] at h
 |.list _::r,ns,h=>by simp [QB] at h
 |.tuple _::r,ns,h=>by simp [QB] at h
 |.dict _::r,ns,h=>by simp [QB] at h
def opI (g:Int->Int->Int):OpD (iI g):=⟨λd e=>match d,e with|.int i,.int j=>some (.int (g i j))|_,_=>none,false,λ{D G x y d e v q} hx hy hd hf k=>by
 cases hx<;>try (simp at hf;done)
 cases hy<;>try (simp at hf;done)
 cases hf;exact k _ _ Ex.refl (.int _) (λz=>by cases z)⟩
def cI (C:Int->Int->Prop) (g:Int->Int->Int) (d e:PyData):Option PyData:=match d,e with|.int i,.int j=>cif (C i j) (some (.int (g i j))) none|_,_=>none
def opC (C:Int->Int->Prop) (g:Int->Int->Int):OpD (iC C g):=⟨cI C g,false,λ{D G x y d e v q} hx hy hd hf k=>by
 unfold cI at hf;cases hx<;>try (simp at hf;done)
 cases hy<;>try (simp at hf;done)
 simp only [cif] at hf;split at hf
 ·rename_i c;cases hf;exact ⟨c,k _ _ Ex.refl (.int _) (λz=>by cases z)⟩
 ·cases hf⟩
def opB (g:Int->Int->Bool):OpD (iB g):=⟨λd e=>match d,e with|.int i,.int j=>some (.bool (g i j))|_,_=>none,false,λ{D G x y d e v q} hx hy hd hf k=>by
 cases hx<;>try (simp at hf;done)
 cases hy<;>try (simp at hf;done)
 cases hf;exact k _ _ Ex.refl (.bl _) (λz=>by cases z)⟩
def K0:PyData->PyData->Option Bool
 |.none,.none=>some true|.none,.int _=>some false|.int _,.none=>some false|.none,.bool _=>some false|.bool _,.none=>some false|.none,.str _=>some false|.str _,.none=>some false
 |.int i,.int j=>some (decide (i=j))|.bool i,.bool j=>some (decide (i=j))|.str i,.str j=>some (decide (i=j))
 |.int _,.str _=>some false|.str _,.int _=>some false|.bool _,.str _=>some false|.str _,.bool _=>some false
 |_,_=>none
def RB {G:Gp} {x y:T} {d e:PyData} (hx:Dq G x d) (hy:Dq G y e):MD x y=K0 d e:=by
 cases hx<;>cases hy<;>rfl
def eqD (neg:Bool) (d e:PyData):Option PyData:=match K0 d e with
 |some k=>some (.bool (if neg then !k else k))
 |none=>cif (dpt d<=40/\dpt d≠0) ((zo d e).map λb=>.bool (if neg then !b else b)) none
def UQ (neg:Bool):OpD (YM neg):=⟨eqD neg,false,λ{D G x y d e v q} hx hy hd hf k=>by
 unfold YM;rw [RB hx hy];unfold eqD at hf;cases h:K0 d e with
 |some b=>rw [h] at hf;cases hf;exact k _ _ Ex.refl (.bl _) (λz=>by cases z)
 |none=>
  rw [h] at hf;simp only [cif] at hf ⊢;split at hf
  ·rename_i c;obtain ⟨b,e1,rfl⟩:=Option.map_eq_some_iff.mp hf;exact ⟨d,e,b,(hx.up JX).dp,(hy.up JX).dp,e1,c.1,c.2,k _ _ Ex.refl (.bl _) (λz=>by cases z)⟩
  ·cases hf⟩
def qid (neg:Bool) (d e:PyData):Option PyData:=match e with|.none=>some (.bool (match d with|.none=>!neg|_=>neg))|_=>none
def qgt (neg:Bool):OpD (qbB neg):=⟨qid neg,false,λ{D G x y d e v q} hx hy hd hf k=>by
 unfold qid at hf;cases hy<;>try (simp at hf;done)
 cases hf;unfold qbB;cases hx<;>exact k _ _ Ex.refl (.bl _) (λz=>by cases z)⟩
def qh5 (neg:Bool) (d e:PyData):Option PyData:=match d,e with|.bool i,.bool j=>some (.bool (if neg then i != j else i==j))|_,_=>none
def qfA (neg:Bool):OpD (qhW neg):=⟨qh5 neg,false,λ{D G x y d e v q} hx hy hd hf k=>by
 unfold qh5 at hf;cases hx<;>try (simp at hf;done)
 cases hy<;>try (simp at hf;done)
 cases hf;exact k _ _ Ex.refl (.bl _) (λz=>by cases z)⟩
def ixD (d e:PyData):Option PyData:=match d,e with
 |.tuple xs,.int i=>atI xs i
 |.list xs,.int i=>atI xs i
 |_,_=>none
def Dqs.atI {G:Gp} {xs:List T} {ds:List PyData} {i:Int} {d:PyData} (h:Dqs G xs ds) (e:L2.atI ds i=some d):∃ x,L2.atI xs i=some x/\Dq G x d:=by
 unfold L2.atI at e ⊢;rw [h.length];obtain ⟨j,e1,e2⟩:=obb e;obtain ⟨x,hx,r⟩:=h.get e2;exact ⟨x,by rw [e1];exact hx,r⟩
def YU:OpD ix3:=⟨ixD,false,λ{D G x y d e v q} hx hy hd hf k=>by
 unfold ixD at hf;cases hx with
 |tup hs=>
  cases hy<;>try (simp at hf;done)
  obtain ⟨x,e1,r⟩:=hs.atI hf;simp only [ix3,e1];exact k _ _ Ex.refl r (λz=>by cases z)
 |lst g hs=>
  cases hy<;>try (simp at hf;done)
  obtain ⟨x,e1,r⟩:=hs.atI hf;simp only [ix3,zb (qt g).2,e1];exact k _ _ Ex.refl r (λz=>by cases z)
 |_=>simp at hf⟩
def qeR (d e:PyData):Option PyData:=match d,e with
 |.tuple xs,.tuple ys=>cif (xs≠[]/\xs.length+ys.length<=sizeLine) (some (.tuple (xs++ys))) none
 |.list xs,.list ys=>cif (xs.length+ys.length<=sizeLine) (some (.list (xs++ys))) none
 |.int i,.int j=>some (.int (i+j))
 |_,_=>none
def D4:OpD JE:=⟨qeR,false,λ{D G x y d e v q} hx hy hd hf k=>by
  unfold qeR at hf;cases hx with
  | int i => cases hy <;> try (simp at hf;done)
             cases hf;exact k _ _ Ex.refl (.int _) (λz=>by cases z)
  |tup hs=>
    cases hy<;>try (simp at hf;done)
    rename_i hs2;simp only [cif] at hf;split at hf
    · rename_i c;cases hf;refine ⟨?_,by rw [hs.length,hs2.length];exact c.2,k _ _ Ex.refl (.tup (hs.append hs2)) (λz=>by cases z)⟩;rintro rfl;cases hs;exact c.1 rfl
    · cases hf
  |lst g hs=>
    cases hy<;>try (simp at hf;done)
    rename_i g2 hs2;simp only [cif] at hf;split at hf
    · rename_i c;cases hf;simp only [JE,(qt g).2,(qt g2).2];exact ⟨by rw [hs.length,hs2.length];exact c,λp hp=>k _ _ (jn hp) (ZD hd hp (hs.append hs2)) (λz=>by cases z)⟩
    · cases hf
  |_=>simp at hf⟩
def DI:PyData->Bool
 |.none=>true|.bool _=>true|.int _=>true|.str _=>true|_=>false
def RV:PyData->PyData->Bool
 |.none,.none=>true
 |.bool a,.bool b=>a==b
 |.bool a,.int b=>(if a then 1 else 0)==b
 |.int a,.bool b=>a==(if b then 1 else 0)
 |.int a,.int b=>a==b
 |.str a,.str b=>a==b
 |_,_=>false
def JO {G:Gp} {x:T} {d:PyData} (h:Dq G x d):J0 x=DI d:=by cases h<;>rfl
def ZT {G:Gp}:∀ {x:List T} {d:List PyData},Dqs G x d->x.all J0=d.all DI
 |_,_,.nil=>rfl
 |_,_,.cons a b=>by rw [List.all_cons,List.all_cons,JO a,ZT b]
def L4 {G:Gp} {x y:T} {d e:PyData} (h:Dq G x d) (h':Dq G y e):eqF x y=RV d e:=by cases h<;>cases h'<;>rfl
def JN {G:Gp} {x:T} {d:PyData} (h:Dq G x d):∀ {ys:List T} {es:List PyData},Dqs G ys es->(ys.any λy=>eqF y x)=es.any λy=>RV y d
 |_,_,.nil=>rfl
 |_,_,.cons a b=>by rw [List.any_cons,List.any_cons,L4 a h,JN h b]
def inD (neg:Bool) (d e:PyData):Option PyData:=match e with
 |.tuple ys=>cif (DI d=true/\ys.all DI=true) (some (.bool (if neg then !(ys.any λy=>RV y d) else (ys.any λy=>RV y d)))) none
 |.list ys=>cif (DI d=true/\ys.all DI=true) (some (.bool (if neg then !(ys.any λy=>RV y d) else (ys.any λy=>RV y d)))) none
 |_=>none
def qjT (neg:Bool):OpD (in3 neg):=⟨inD neg,false,λ{D G x y d e v q} hx hy hd hf k=>by
 unfold inD at hf;cases hy with
 |tup hs=>
  simp only [cif] at hf;split at hf
  ·rename_i c;cases hf;refine ⟨by rw [JO hx];exact c.1,by rw [ZT hs];exact c.2,?_⟩;rw [JN hx hs];exact k _ _ Ex.refl (.bl _) (λz=>by cases z)
  ·cases hf
 |lst g hs=>
  simp only [cif] at hf;split at hf
  ·rename_i c;cases hf;refine ⟨by rw [JO hx];exact c.1,?_⟩;simp only [zb (qt g).2];refine ⟨by rw [ZT hs];exact c.2,?_⟩;rw [JN hx hs];exact k _ _ Ex.refl (.bl _) (λz=>by cases z)
  ·cases hf
 |_=>simp at hf⟩
def qdQ:List PyData->Option PyData
 |[.tuple xs]=>some (.int xs.length)
 |[.list xs]=>some (.int xs.length)
 |_=>none
def DC:FnD Z6:=⟨qdQ,false,λ{D G xs ds v q} hx hd hf k=>by
 unfold qdQ at hf;split at hf
 ·cases hx with
  |cons a b=>cases b;cases a;rename_i hs;cases hf;simp only [Z6];rw [hs.length];exact k _ _ Ex.refl (.int _) (λz=>by cases z)
 ·cases hx with
  |cons a b=>cases b;cases a;rename_i g hs;cases hf;simp only [Z6,zb (qt g).2];rw [hs.length];exact k _ _ Ex.refl (.int _) (λz=>by cases z)
 ·cases hf⟩
def qia:List PyData->Option PyData
 |[.tuple xs]=>some (.tuple xs)
 |[.list xs]=>some (.tuple xs)
 |_=>none
def qaJ:FnD QQ:=⟨qia,false,λ{D G xs ds v q} hx hd hf k=>by
 unfold qia at hf;split at hf
 ·cases hx with
  |cons a b=>cases b;cases a;rename_i hs;cases hf;exact k _ _ Ex.refl (.tup hs) (λz=>by cases z)
 ·cases hx with
  |cons a b=>cases b;cases a;rename_i g hs;cases hf;simp only [QQ,zb (qt g).2];exact k _ _ Ex.refl (.tup hs) (λz=>by cases z)
 ·cases hf⟩
def qhZ:List PyData->Option PyData
 |[.tuple xs]=>some (.list xs)
 |[.list xs]=>some (.list xs)
 |_=>none
def qjW:FnD DO:=⟨qhZ,true,λ{D G xs ds v q} hx hd hf k=>by
 unfold qhZ at hf;split at hf
 ·cases hx with
  |cons a b=>cases b;cases a;rename_i hs;cases hf;exact λp hp=>k _ _ (jn hp) (ZD hd hp hs) λ_=>UU hp hs
 ·cases hx with
  |cons a b=>cases b;cases a;rename_i g hs;cases hf;simp only [DO,zb (qt g).2];exact λp hp=>k _ _ (jn hp) (ZD hd hp hs) λ_=>UU hp hs
 ·cases hf⟩
def XY:List PyData->Option (List Bool)
 |[]=>some []
 |.bool i::r=>(XY r).map (i::·)
 |_=>none
def LX (ns:List Bool):XY (ns.map PyData.bool)=some ns:=by
 induction ns with
 |nil=>rfl
 |cons n r ih=>simp [XY,ih]
def R0 {G:Gp}:∀ {xs:List T} {ds:List PyData} {ns:List Bool},Dqs G xs ds->XY ds=some ns->qdb xs=some (ns.all id)/\qiU xs=some (ns.any id)
 |_,_,_,.nil,h=>by simp [XY] at h;subst h;exact ⟨rfl,rfl⟩
 |_,.bool i::r,ns,.cons a b,h=>by
  simp only [XY] at h;obtain ⟨ms,e,rfl⟩:=Option.map_eq_some_iff.mp h;obtain ⟨h1,h2⟩:=R0 b e;cases a;simp [qdb,qiU,h1,h2]
 |_,.int _::r,ns,_,h=>by simp [XY] at h
 |_,.none::r,ns,_,h=>by simp [XY] at h
 |_,.str _::r,ns,_,h=>by simp [XY] at h
 |_,.list _::r,ns,_,h=>by simp [XY] at h
 |_,.tuple _::r,ns,_,h=>by simp [XY] at h
 |_,.dict _::r,ns,_,h=>by simp [XY] at h
def qdI:List PyData->Option PyData
 |[.list xs]=>(XY xs).map λns=>.bool (ns.all id)
 |_=>none
def qjk:FnD qdn:=⟨qdI,false,λ{D G xs ds v q} hx hd hf k=>by
 unfold qdI at hf;split at hf
 ·obtain ⟨ns,e,rfl⟩:=Option.map_eq_some_iff.mp hf;cases hx with
  |cons a b=>cases b;cases a;rename_i g hs;simp only [qdn,zb (qt g).2,(R0 hs e).1];exact k _ _ Ex.refl (.bl _) (λz=>by cases z)
 ·cases hf⟩
def UF:∀ {a b:List Int},a.Perm b->a.Pairwise (·<=·)->b.Pairwise (·<=·)->a=b
 |[],b,h,_,_=>h.nil_eq
 |x::a,[],h,_,_=>by simp at h
 |x::a,y::b,h,h1,h2=>by
  rw [List.pairwise_cons] at h1 h2;have hx:x∈y::b:=h.subset (by simp);have hy:y∈x::a:=h.symm.subset (by simp);have l1:y<=x:=by
   rcases mem_cons.mp hx with rfl|z
   ·exact Int.le_refl _
   ·exact h2.1 _ z
  have l2:x<=y:=by
   rcases mem_cons.mp hy with rfl|z
   ·exact Int.le_refl _
   ·exact h1.1 _ z
  have:x=y:=Int.le_antisymm l2 l1;subst this;rw [UF h.cons_inv h1.2 h2.2]
def srt (ns:List Int):List Int:=ns.mergeSort
def V8 (ns:List Int):(srt ns).Perm ns:=List.mergeSort_perm ns _
def qab (ns:List Int):(srt ns).Pairwise (·<=·):=by
 have:=List.pairwise_mergeSort (le:=λ(a b:Int)=>decide (a<=b)) (λa b c h1 h2=>by simp at *;omega) (λa b=>by simp;omega) ns;exact this.imp (by simp)
def PSp (F:List PyData->Option PyData) (fr:Bool):Sp3:=λts G q=>∃ (D:Addr->Prop) (ds:List PyData) (d:PyData),Dqs (rs D G) ts ds/\Dom D G/\F ds=some d/\∀ x G',Ex G G'->Dq (rs D G') x d->(fr=true->Nw D G G' x d)->q x G'
def ZE (F:List PyData->Option PyData) (fr:Bool):FnD (PSp F fr):=⟨F,fr,λ{D G xs ds v q} hx hd hf k=>⟨D,ds,v,hx,hd,hf,k⟩⟩
def T0:PyData->Option (List PyData)
 |.tuple xs=>some xs
 |.list xs=>some xs
 |_=>none
def qbk {t:TE3} (a:PuE t):PuI (V9 t):=⟨λρ=>(a.f ρ).bind T0,a.fv,false,λ{D τ ρ G r ds} hv hd hf k=>by
 obtain ⟨d,e1,hf⟩:=obb hf;refine a.ok hv hd e1 λx G1 E1 D1 _=>?_;unfold T0 at hf;cases D1 with
 |tup hs=>cases hf;exact k _ _ _ E1 hs (λ_ _=>trivial) (λz=>by cases z)
 |lst g hs=>
  cases hf;simp only [zb (qt g).2];refine k _ _ _ E1 hs (λG2 h=>?_) (λz=>by cases z);rcases h with h|h
  ·cases h
  ·exact zb (h _ _ g)
 |_=>simp at hf⟩
def UO (lo:Int) (n:Nat):List Int:=(List.range n).map λ(i:Nat)=>lo+(i:Int)
def qbd (lo:Int) (n:Nat):CT lo n=(UO lo n).map T.int:=by simp [CT,UO,map_map,Function.comp_def]
def qeG:List PyData->Option (List PyData)
 |[.int j]=>cif (-(2 ^ 62)<=j/\j<2 ^ 62) (some ((UO 0 j.toNat).map PyData.int)) none
 |[.int i,.int j]=>cif (-(2 ^ 62)<=i/\i<2 ^ 62/\-(2 ^ 62)<=j/\j<2 ^ 62) (some ((UO i (j-i).toNat).map PyData.int)) none
 |_=>none
def qbz {t:TA3} (a:PuA t):PuI (ZU t):=⟨λρ=>(a.f ρ).bind qeG,a.fv,true,λ{D τ ρ G r ds} hv hd hf k=>by
 obtain ⟨d,e1,hf⟩:=obb hf;refine a.ok hv hd e1 λx G1 E1 D1=>?_;unfold qeG at hf;split at hf
 ·unfold cif at hf;split at hf
  ·rename_i c;cases hf;cases D1 with
   |cons a b=>cases b;cases a;simp only;rw [qbd];exact ⟨c,k _ _ _ E1 (Dqs.ofInts _) (λ_ _=>trivial) λ_=>⟨_,rfl⟩⟩
  ·cases hf
 ·unfold cif at hf;split at hf
  ·rename_i c;cases hf;cases D1 with
   |cons a b=>cases b with
    |cons b c'=>cases c';cases a;cases b;simp only;rw [qbd];exact ⟨c,k _ _ _ E1 (Dqs.ofInts _) (λ_ _=>trivial) λ_=>⟨_,rfl⟩⟩
  ·cases hf
 ·cases hf⟩
def qbG (us vs:List PyData):List PyData:=(us.zip vs).map λp=>.tuple [p.1,p.2]
def Dqs.zip {G:Gp}:∀ {xs:List T} {ds:List PyData} {ys:List T} {es:List PyData},Dqs G xs ds->Dqs G ys es->Dqs G (LK xs ys) (qbG ds es)
 |_,_,_,_,.nil,_=>by simp [LK,qbG];exact .nil
 |_,_,_,_,.cons _ _,.nil=>by simp [LK,qbG];exact .nil
 |_,_,_,_,.cons a b,.cons c d=>.cons (.tup (.cons a (.cons c .nil))) (Dqs.zip b d)
def WK {G:Gp} {x:T} {d:PyData} {ds:List PyData} (h:Dq G x d) (e:T0 d=some ds):∃ us,ZY G x=some us/\Dqs G us ds:=by
 unfold T0 at e;cases h with
 |tup hs=>cases e;exact ⟨_,rfl,hs⟩
 |lst g hs=>cases e;exact ⟨_,zb g,hs⟩
 |_=>simp at e
def XF {G G':Gp} {x:T} {us:List T} (e:Ex G G') (h:ZY G x=some us):ZY G' x=some us:=by
 cases x with
 |tup xs=>exact h
 |ref p=>exact e.getL h
 |_=>cases h
def qiJ {t:TA3} (a:PuA t):PuI (KI t):=⟨λρ=>(a.f ρ).bind λds=>match ds with|[d,e]=>(T0 d).bind λus=>(T0 e).bind λvs=>some (qbG us vs)|_=>none,a.fv,false,λ{D τ ρ G r ds} hv hd hf k=>by
 obtain ⟨d,e1,hf⟩:=obb hf;refine a.ok hv hd e1 λx G1 E1 D1=>?_;split at hf
 ·obtain ⟨us,e2,hf⟩:=obb hf;obtain ⟨vs,e3,hf⟩:=obb hf;cases hf;cases D1 with
  |cons a b=>cases b with
   |cons b c=>
    cases c;obtain ⟨us',h1,h2⟩:=WK a e2;obtain ⟨vs',h3,h4⟩:=WK b e3;simp only [XF JX h1,XF JX h3];refine k _ _ _ E1 (h2.zip h4) (λG2 h=>?_) (λz=>by cases z);rcases h with h|h
    ·cases h
    ·exact ⟨XF h h1,XF h h3⟩
 ·cases hf⟩
inductive Bd (H:Gp):List (Nat×T)->List (Nat×PyData)->Prop
 |nil:Bd H [] []
 |cons {i:Nat} {x:T} {d:PyData} {ts:List (Nat×T)} {bs:List (Nat×PyData)}:Dq H x d->Bd H ts bs->Bd H ((i,x)::ts) ((i,d)::bs)
def Bd.append {H:Gp}:∀ {ts:List (Nat×T)} {bs:List (Nat×PyData)} {us:List (Nat×T)} {cs:List (Nat×PyData)},Bd H ts bs->Bd H us cs->Bd H (ts++us) (bs++cs)
 |_,_,_,_,.nil,h=>h
 |_,_,_,_,.cons a b,h=>.cons a (Bd.append b h)
def Bd.up {H H':Gp} (e:Ex H H'):∀ {ts:List (Nat×T)} {bs:List (Nat×PyData)},Bd H ts bs->Bd H' ts bs
 |_,_,.nil=>.nil
 |_,_,.cons a b=>.cons (a.up e) (Bd.up e b)
def sets:St3->List (Nat×T)->St3
 |τ,[]=>τ
 |τ,p::r=>sets (τ.set p.1 (some p.2)) r
def J9:Rho->List (Nat×PyData)->Rho
 |ρ,[]=>ρ
 |ρ,p::r=>J9 (ρ.set p.1 (.sh p.2)) r
def XB:∀ (τ:St3) (a b:List (Nat×T)),sets τ (a++b)=sets (sets τ a) b
 |τ,[],b=>rfl
 |τ,p::a,b=>by simp only [cons_append,sets];exact XB _ a b
structure PuG (g:TG3) where
 f:PyData->Option (List (Nat×PyData))
 tg:List Nat
 at':∀ {d bs},f d=some bs->∀ p∈bs,p.1∈tg
 ok:∀ {H x d bs},Dq H x d->f d=some bs->∃ ts,Bd H ts bs/\∀ τ G (q:St3->Gp->Prop),q (sets τ ts) G->g x τ G q
structure PuGs (g:DB) where
 f:List PyData->Option (List (Nat×PyData))
 tg:List Nat
 at':∀ {d bs},f d=some bs->∀ p∈bs,p.1∈tg
 ok:∀ {H x d bs},Dqs H x d->f d=some bs->∃ ts,Bd H ts bs/\∀ τ G (q:St3->Gp->Prop),q (sets τ ts) G->g x τ G q
def gN (i:Nat):PuG (gn3 i):=⟨λd=>some [(i,d)],[i],λh p hp=>by cases h;simp at hp;subst hp;simp,λhx h=>by cases h;exact ⟨_,.cons hx .nil,λτ G q hq=>hq⟩⟩
def qdf:PuGs U2:=⟨λds=>match ds with|[]=>some []|_=>none,[],(λh p hp=>by split at h;cases h;cases hp;cases h),λhx h=>by
 split at h
 ·cases h;cases hx;exact ⟨[],.nil,λτ G q hq=>hq⟩
 ·cases h⟩
def UA {t:TG3} {u:DB} (a:PuG t) (b:PuGs u):PuGs (jS t u):=⟨λds=>match ds with|d::r=>(a.f d).bind λx=>(b.f r).map λy=>x++y|[]=>none,a.tg++b.tg,(λh p hp=>by
 split at h
 ·obtain ⟨x,e1,h⟩:=obb h;obtain ⟨y,e2,rfl⟩:=Option.map_eq_some_iff.mp h;rcases List.mem_append.mp hp with z|z
  ·exact List.mem_append.mpr (.inl (a.at' e1 p z))
  ·exact List.mem_append.mpr (.inr (b.at' e2 p z))
 ·cases h),λhx h=>by
 split at h
 ·obtain ⟨x,e1,h⟩:=obb h;obtain ⟨y,e2,rfl⟩:=Option.map_eq_some_iff.mp h;cases hx with
  |cons hx hr=>
   obtain ⟨ts,b1,k1⟩:=a.ok hx e1;obtain ⟨us,b2,k2⟩:=b.ok hr e2;refine ⟨ts++us,b1.append b2,λτ G q hq=>k1 τ G _ (k2 _ G q ?_)⟩;rw [← XB];exact hq
 ·cases h⟩
def qdj {u:DB} (n:Nat) (b:PuGs u):PuG (U3 n u):=⟨λd=>match d with|.tuple ds=>if ds.length=n then b.f ds else none|_=>none,b.tg,(λh p hp=>by
 split at h
 ·split at h
  ·exact b.at' h p hp
  ·cases h
 ·cases h),λhx h=>by
 split at h
 ·split at h
  ·rename_i c;cases hx with
   |tup hs=>
    obtain ⟨ts,b1,k1⟩:=b.ok hs h;exact ⟨ts,b1,λτ G q hq=>⟨by rw [hs.length];exact c,k1 τ G q hq⟩⟩
  ·cases h
 ·cases h⟩
structure VA (D:Addr->Prop) (G:Gp) (τ:St3) (ρ:Rho):Prop where
 len:ρ.length=τ.length
 vw:∀ i d,vw ρ i=some d->∃ t,τ[i]?=some (some t)/\Dq (rs D G) t d
def VA.view {D:Addr->Prop} {G:Gp} {τ:St3} {ρ:Rho} (h:VA D G τ ρ) (fv:List Nat):VJ fv D G τ ρ:=λi _ d e=>h.vw i d e
def VA.upx {D:Addr->Prop} {G G':Gp} {τ:St3} {ρ:Rho} (h:VA D G τ ρ) (e:Ex (rs D G) (rs D G')):VA D G' τ ρ:=⟨h.len,λi d hd=>let ⟨t,a,b⟩:=h.vw i d hd;⟨t,a,b.up e⟩⟩
def VA.up {D:Addr->Prop} {G G':Gp} {τ:St3} {ρ:Rho} (h:VA D G τ ρ) (e:Ex G G'):VA D G' τ ρ:=h.upx (jr e)
def qgP {ρ:Rho} {i j:Nat} {s:Sl}:vw (ρ.set i s) j=if i=j then (if i<ρ.length then s.d else none) else vw ρ j:=by
 unfold vw;rw [getElem?_set];split
 ·subst j;split
  ·rfl
  ·rfl
 ·rfl
def VA.set {D:Addr->Prop} {G:Gp} {τ:St3} {ρ:Rho} (h:VA D G τ ρ) {i:Nat} {x:T} {d:PyData} (hx:Dq (rs D G) x d):VA D G (τ.set i (some x)) (ρ.set i (.sh d)):=by
 refine ⟨by simp [h.len],λj e he=>?_⟩;rw [qgP] at he;split at he
 ·subst j;split at he
  ·rename_i l;cases he;refine ⟨x,?_,hx⟩;rw [getElem?_set,if_pos rfl,if_pos (by rw [← h.len];exact l)]
  ·cases he
 ·rename_i n;obtain ⟨t,a,b⟩:=h.vw j e he;exact ⟨t,by rw [getElem?_set,if_neg n];exact a,b⟩
def VA.sets {D:Addr->Prop} {G:Gp}:∀ {ts:List (Nat×T)} {bs:List (Nat×PyData)} {τ:St3} {ρ:Rho},VA D G τ ρ->Bd (rs D G) ts bs->VA D G (Pu.sets τ ts) (J9 ρ bs)
 |_,_,_,_,h,.nil=>h
 |_,_,_,_,h,.cons a b=>by unfold Pu.sets J9;exact VA.sets (h.set a) b
def VA.keep {D:Addr->Prop} {G:Gp} {ρ:Rho}:∀ {ts:List (Nat×T)} {τ:St3},VA D G τ ρ->(∀ p∈ts,Pu.vw ρ p.1=none)->VA D G (Pu.sets τ ts) ρ
 |[],_,h,_=>h
 |p::r,τ,h,hn=>VA.keep (ts:=r) ⟨by rw [List.length_set];exact h.len,λj d hd=>by
   have:p.1≠j:=by rintro rfl;rw [hn p (by simp)] at hd;cases hd
   obtain ⟨t,a,b⟩:=h.vw j d hd;exact ⟨t,by rw [getElem?_set,if_neg this];exact a,b⟩⟩ λq hq=>hn q (by simp [hq])
def WL (m:List (Option Nat)) (ρ:Rho):Rho:=m.map λo=>match o with|some j=>(match vw ρ j with|some d=>.sh d|none=>.un)|none=>.un
def VA.cap {m:List (Option Nat)} {D:Addr->Prop} {G:Gp} {τ:St3} {ρ:Rho} (h:VJ (m.filterMap id) D G τ ρ):VA D G (L3.cap m τ) (WL m ρ):=by
 refine ⟨by simp [WL,L3.cap],λi d hd=>?_⟩;unfold Pu.vw WL at hd;rw [getElem?_map] at hd;cases e:m[i]? with
 |none=>rw [e] at hd;cases hd
 |some o=>
  rw [e] at hd;cases o with
  |none=>cases hd
  |some j=>
   simp only [Option.map_some,Option.bind_some] at hd;cases e2:Pu.vw ρ j with
   |none=>rw [e2] at hd;cases hd
   |some d'=>
    rw [e2] at hd;have hd':d'=d:=by simpa [Sl.d] using hd
    subst hd';obtain ⟨t,a,b⟩:=h j (List.mem_filterMap.mpr ⟨some j,mem_of_getElem? e,rfl⟩) d' e2;refine ⟨t,?_,b⟩;unfold L3.cap;rw [getElem?_map,e];simp [a]
def qcq {m:List (Option Nat)} {ρ:Rho} {i:Nat} (h:m[i]?=some none):vw (WL m ρ) i=none:=by
 unfold vw WL;rw [getElem?_map,h];rfl
def lcP (h:PyData->Option (Option PyData)):List PyData->Option (List PyData)
 |[]=>some []
 |d::r=>(h d).bind λo=>(lcP h r).bind λys=>some (match o with|some y=>y::ys|none=>ys)
def lcH (gf:PyData->Option (List (Nat×PyData))) (cf:Rho->Option Bool) (ef:Rho->Option PyData) (ρ:Rho) (d:PyData):Option (Option PyData):=
 (gf d).bind λbs=>(cf (J9 ρ bs)).bind λk=>if k then (ef (J9 ρ bs)).map some else some none
def YC {h:PyData->Option (Option PyData)} {α:Type} {g:α->PyData} {k:α->PyData} {xs:List α} (hh:∀ a∈xs,h (g a)=some (some (k a))):lcP h (xs.map g)=some (xs.map k):=by
 induction xs with
 |nil=>rfl
 |cons a r ih=>simp only [map_cons,lcP,hh a (by simp),Option.bind_some,ih λb hb=>hh b (by simp [hb])]
def YZ {h:PyData->Option (Option PyData)} {α:Type} {g:α->PyData} {k:α->PyData} {c:α->Bool} {xs:List α} (hh:∀ a∈xs,h (g a)=some (if c a then some (k a) else none)):lcP h (xs.map g)=some ((xs.filter c).map k):=by
 induction xs with
 |nil=>rfl
 |cons a r ih=>
  simp only [map_cons,lcP,hh a (by simp),Option.bind_some,ih λb hb=>hh b (by simp [hb])];cases e:c a with
  |true=>simp [e]
  |false=>simp [e]
def qf1 {H:Gp}:∀ {ts:List (Nat×T)} {bs:List (Nat×PyData)},Bd H ts bs->∀ p∈ts,∃ q∈bs,q.1=p.1
 |_,_,.nil,p,hp=>by cases hp
 |_,_,.cons a b,p,hp=>by
  rcases mem_cons.mp hp with rfl|hp
  ·exact ⟨_,List.mem_cons_self,rfl⟩
  ·obtain ⟨q,hq,e⟩:=qf1 b p hp;exact ⟨q,by simp [hq],e⟩
def qcH {stay:Gp->Prop} {g:TG3} {tif:TT3} {te:TE3} {q:Q3} (pg:PuG g) (pc:PuC tif) (pe:PuE te) {D:Addr->Prop} {ρ0:Rho} {G0:Gp} (hs:∀ G,Ex G0 G->stay G) (hm:∀ i∈pg.tg,vw ρ0 i=none) (fin:List PyData) (hfin:fin.length<=sizeLine)
  (k:∀ G ys,Ex G0 G->Dqs (rs D G) ys fin->∀ p,G p=none->q (.ref p) (gu G p (.lst ys))) :
  ∀ (ds:List PyData) (items ys:List T) (es fs:List PyData) (τ:St3) (G:Gp),Dqs (rs D G0) items ds->VA D G τ ρ0->Ex G0 G->Dom D G->Dqs (rs D G) ys es->lcP (lcH pg.f pc.f pe.f ρ0) ds=some fs->es++fs=fin->KO stay g tif te q items ys τ G
 |_,_,ys,es,fs,τ,G,.nil,va,E,hd,hy,hf,hl=>by
  cases hf;rw [List.append_nil] at hl;subst hl;exact ⟨hs G E,k G ys E hy⟩
 |d::ds,x::items,ys,es,fs,τ,G,.cons hx hr,va,E,hd,hy,hf,hl=>by
  unfold lcP at hf;obtain ⟨o,e1,hf⟩:=obb hf;obtain ⟨QR,e2,hf⟩:=obb hf;unfold lcH at e1;obtain ⟨bs,e3,e1⟩:=obb e1;obtain ⟨c,e4,e1⟩:=obb e1;obtain ⟨ts,bd,kg⟩:=pg.ok (hx.up (jr E)) e3;refine ⟨hs G E,kg τ G _ ?_⟩;have va1:=va.sets bd;have va2:=va.keep (ts:=ts) λp hp=>by
   obtain ⟨q,hq,e⟩:=qf1 bd p hp;rw [← e];exact hm _ (pg.at' e3 q hq)
  refine pc.ok (va1.view _) hd e4 λG1 E1=>?_;cases c with
  |true=>
   rw [if_pos rfl];rw [if_pos rfl] at e1;obtain ⟨y,e5,rfl⟩:=Option.map_eq_some_iff.mp e1;simp only [Option.some.injEq] at hf;subst hf;refine pe.ok ((va1.up E1).view _) (hd.up E1) e5 λz G2 E2 D2 _=>⟨?_,?_⟩
   ·rw [hy.length];rw [← hl] at hfin;simp at hfin;omega
   ·refine qcH pg pc pe hs hm fin hfin k ds items (ys++[z]) (es++[y]) QR _ G2 hr ((va2.up E1).up E2) (E.trans (E1.trans E2)) ((hd.up E1).up E2) (((hy.up (jr E1)).up (jr E2)).append (.cons D2 .nil)) e2 ?_;rw [← hl];simp
  |false=>
   rw [if_neg Bool.false_ne_true];simp at e1;subst e1;simp only [Option.some.injEq] at hf;subst hf;exact qcH pg pc pe hs hm fin hfin k ds items ys es QR _ G1 hr (va2.up E1) (E.trans E1) (hd.up E1) (hy.up (jr E1)) e2 hl
def lcF (pi:Rho->Option (List PyData)) (h:Rho->PyData->Option (Option PyData)) (m:List (Option Nat)) (ρ:Rho):Option PyData:=
 (pi ρ).bind λds=>(lcP (h (WL m ρ)) ds).bind λfs=>cif (fs.length<=sizeLine) (some (.list fs)) none
def bLc {wi:TI3} {g:TG3} {tif:TT3} {te:TE3} (pi:PuI wi) (pg:PuG g) (pc:PuC tif) (pe:PuE te) (m:List (Option Nat)) (hm:Tru (pg.tg.all λi=>m[i]?==some none)):PuE (lc3 wi g tif te m):=
 ⟨lcF pi.f (lcH pg.f pc.f pe.f) m,pi.fv++m.filterMap id,true,λ{D τ ρ G q d} hv hd hf k=>by
  unfold lcF at hf;obtain ⟨ds,e1,hf⟩:=obb hf;obtain ⟨fs,e2,hf⟩:=obb hf;unfold cif at hf;split at hf
  ·rename_i hl;cases hf;refine pi.ok hv.l hd e1 λitems stay G1 E1 D1 hs _=>?_;have va:=(VA.cap (m:=m) hv.r).up E1;refine qcH pg pc pe (D:=D) (ρ0:=WL m ρ) (G0:=G1) (λG2 E2=>hs G2 (.inr (JX.trans E2))) (λi hi=>qcq ?_) fs hl (λG2 ys E2 D2 p hp=>?_) ds items [] [] fs _ G1 D1 va Ex.refl (hd.up E1) .nil e2 (by simp)
   ·have:=List.all_eq_true.mp hm.h i hi;simpa using this
   ·exact k _ _ ((E1.trans E2).trans (jn hp)) (ZD ((hd.up E1).up E2) hp D2) λ_=>(UU hp D2).back (E1.trans E2)
  ·cases hf⟩
def AD (D:Addr->Prop) (A:Nat->Option Addr) (b:Addr):Prop:=D b\/∃ i,A i=some b
structure RS (D:Addr->Prop) (G0:Gp) (A:Nat->Option Addr) (τ:St3) (ρ:Rho) (G:Gp):Prop where
 ex:Ex G0 G
 dm:Dom D G0
 fr:∀ i p,A i=some p->G0 p=none
 da:∀ i p,A i=some p->G p≠none
 inj:∀ i j p,A i=some p->A j=some p->i=j
 len:ρ.length=τ.length
 sh:∀ (i:Nat) (d:PyData),ρ[i]?=some (Sl.sh d)->∃ t,τ[i]?=some (some t)/\Dq (rs (AD D A) G) t d
 ow:∀ (i:Nat) (ds:List PyData),ρ[i]?=some (Sl.ow ds)->∃ p xs,A i=some p/\τ[i]?=some (some (.ref p))/\G p=some (.lst xs)/\Dqs (rs (AD D A) G) xs ds
 dc:∀ (i:Nat) (kvs:List (Int×PyData)),ρ[i]?=some (Sl.dc kvs)->∃ p ks,A i=some p/\τ[i]?=some (some (.ref p))/\G p=some (.dct ks)/\ks.map (λq=>q.1)=kvs.map (λq=>q.1)/\Dqs (rs (AD D A) G) (ks.map λq=>q.2) (kvs.map λq=>q.2)
section
variable {D:Addr->Prop} {G0 G G':Gp} {A A':Nat->Option Addr} {τ:St3} {ρ:Rho}
def RS.nd (h:RS D G0 A τ ρ G) {i:Nat} {p:Addr} (e:A i=some p):¬ D p:=λz=>h.dm p z (h.fr i p e)
def RS.dom (h:RS D G0 A τ ρ G):Dom (AD D A) G:=λb hb=>by
 rcases hb with hb|⟨i,hi⟩
 ·exact (h.dm.up h.ex) b hb
 ·exact h.da i b hi
def RS.domD (h:RS D G0 A τ ρ G):Dom D G:=h.dm.up h.ex
def RS.up (h:RS D G0 A τ ρ G) (e:Ex G G'):RS D G0 A τ ρ G':=
 ⟨h.ex.trans e,h.dm,h.fr,λi p a z=>(h.da i p a) (by
  cases g:G p with
  |none=>rfl
  |some o=>rw [e _ _ g] at z;cases z),h.inj,h.len,λi d a=>let ⟨t,b,c⟩:=h.sh i d a;⟨t,b,c.up (jr e)⟩,λi ds a=>let ⟨p,xs,b,c,d,f⟩:=h.ow i ds a;⟨p,xs,b,c,e _ _ d,f.up (jr e)⟩,λi ds a=>let ⟨p,xs,b,c,d,k,f⟩:=h.dc i ds a;⟨p,xs,b,c,e _ _ d,k,f.up (jr e)⟩⟩
def RS.viewAll (h:RS D G0 A τ ρ G) (fv:List Nat):VJ fv D G τ ρ:=λi _ d hd=>by
 unfold vw at hd;obtain ⟨s,e,hd⟩:=obb hd;have less:Ex (rs (AD D A) G) (rs D G):=zh λb z=>.inl z;cases s with
 |un=>cases hd
 |sh d'=>
  cases hd;obtain ⟨t,b,c⟩:=h.sh i _ e;exact ⟨t,b,c.up less⟩
 |ow ds=>
  cases hd;obtain ⟨p,xs,b,c,g,f⟩:=h.ow i _ e;exact ⟨_,c,.lst (by rw [zX (h.nd b)];exact g) (f.up less)⟩
 |dc kvs=>cases hd
def RS.view (h:RS D G0 A τ ρ G) {fv:List Nat} (hn:∀ i∈fv,A i=none):VJ fv (AD D A) G τ ρ:=λi hi d hd=>by
 unfold vw at hd;obtain ⟨s,e,hd⟩:=obb hd;cases s with
 |un=>cases hd
 |sh d'=>
  cases hd;exact h.sh i _ e
 |ow ds=>
  obtain ⟨p,xs,b,_⟩:=h.ow i _ e;rw [hn i hi] at b;cases b
 |dc kvs=>cases hd
def Sl.dem:Sl->Sl
 |.ow ds=>.sh (.list ds)
 |.dc _=>.un
 |s=>s
def dm:List Bool->Rho->Rho
 |b::m,s::r=>(match b with|true=>s.dem|false=>s)::dm m r
 |_,r=>r
def mkb (m:List Bool) (i:Nat):Bool:=(m[i]?).getD false
def D0:∀ (m:List Bool) (ρ:Rho) (i:Nat),(dm m ρ)[i]?=(ρ[i]?).map λs=>if mkb m i=true then s.dem else s
 |[],ρ,i=>by simp [dm,mkb]
 |b::m,[],i=>by simp [dm]
 |b::m,s::r,0=>by cases b<;>simp [dm,mkb]
 |b::m,s::r,i+1=>by
  have:=D0 m r i;simp only [dm,getElem?_cons_succ,mkb] at this ⊢;exact this
def qij (s:Sl):s.dem.d=s.d:=by cases s<;>rfl
def qiG (m:List Bool) (ρ:Rho) (i:Nat):vw (dm m ρ) i=vw ρ i:=by
 unfold vw;rw [D0];cases ρ[i]? with
 |none=>rfl
 |some s=>
  simp only [Option.map_some,Option.bind_some];split
  ·exact qij s
  ·rfl
def qbq:∀ (m:List Bool) (ρ:Rho),(dm m ρ).length=ρ.length
 |[],ρ=>rfl
 |b::m,[]=>rfl
 |b::m,s::r=>by simp [dm,qbq m r]
def Ad (m:List Bool) (A:Nat->Option Addr):Nat->Option Addr:=λi=>if mkb m i=true then none else A i
def J4 {m:List Bool} {i:Nat} {p:Addr} (h:Ad m A i=some p):A i=some p/\mkb m i=false:=by
 unfold Ad at h;split at h
 ·cases h
 ·rename_i n;exact ⟨h,by simpa using n⟩
def RS.dem (h:RS D G0 A τ ρ G) (m:List Bool):RS D G0 (Ad m A) τ (Pu.dm m ρ) G:=by
 have less:Ex (rs (AD D A) G) (rs (AD D (Ad m A)) G):=zh λb z=>by
  rcases z with z|⟨i,z⟩
  ·exact .inl z
  ·exact .inr ⟨i,(J4 z).1⟩
 refine ⟨h.ex,h.dm,λi p e=>h.fr i p (J4 e).1,λi p e=>h.da i p (J4 e).1,λi j p a b=>h.inj i j p (J4 a).1 (J4 b).1,by rw [qbq];exact h.len,λi d e=>?_,λi ds e=>?_,λi kvs e=>?_⟩
 ·rw [D0] at e;obtain ⟨s,e1,e2⟩:=Option.map_eq_some_iff.mp e;cases s with
  |un=>split at e2<;>cases e2
  |sh d'=>
   have:d'=d:=by split at e2<;>(cases e2;rfl)
   subst this;obtain ⟨t,b,c⟩:=h.sh i _ e1;exact ⟨t,b,c.up less⟩
  |ow ds=>
   split at e2
   ·rename_i hm;cases e2;obtain ⟨p,xs,b,c,g,f⟩:=h.ow i _ e1;refine ⟨_,c,.lst ?_ (f.up less)⟩;rw [zX]
    ·exact g
    ·rintro (z|⟨j,z⟩)
     ·exact h.nd b z
     ·have:=h.inj i j p b (J4 z).1;subst this;rw [(J4 z).2] at hm;cases hm
   ·cases e2
  |dc kvs=>split at e2<;>cases e2
 ·rw [D0] at e;obtain ⟨s,e1,e2⟩:=Option.map_eq_some_iff.mp e;cases s with
  |un=>split at e2<;>cases e2
  |sh d'=>split at e2<;>cases e2
  |ow ds'=>
   split at e2
   ·cases e2
   ·rename_i hm;cases e2;obtain ⟨p,xs,b,c,g,f⟩:=h.ow i _ e1;exact ⟨p,xs,by unfold Ad;rw [if_neg hm];exact b,c,g,f.up less⟩
  |dc kvs=>split at e2<;>cases e2
 ·rw [D0] at e;obtain ⟨s,e1,e2⟩:=Option.map_eq_some_iff.mp e;cases s with
  |un=>split at e2<;>cases e2
  |sh d'=>split at e2<;>cases e2
  |ow ds'=>split at e2<;>cases e2
  |dc ds'=>
   split at e2
   ·cases e2
   ·rename_i hm;cases e2;obtain ⟨p,xs,b,c,g,k,f⟩:=h.dc i _ e1;exact ⟨p,xs,by unfold Ad;rw [if_neg hm];exact b,c,g,k,f.up less⟩
def RS.viewD (h:RS D G0 A τ ρ G) {m:List Bool} {fv:List Nat} (hm:Tru (fv.all (mkb m))):VJ fv (AD D (Ad m A)) G τ ρ:=by
 have:=(h.dem m).view (fv:=fv) λi hi=>by unfold Ad;rw [if_pos (List.all_eq_true.mp hm.h i hi)]
 intro i hi d hd;exact this i hi d (by rw [qiG];exact hd)
def Er (A:Nat->Option Addr) (i:Nat):Nat->Option Addr:=λj=>if j=i then none else A j
def J7 {i j:Nat} {p:Addr} (h:Er A i j=some p):A j=some p/\j≠i:=by
 unfold Er at h;split at h
 ·cases h
 ·rename_i n;exact ⟨h,n⟩
def RS.put (h:RS D G0 A τ ρ G) (i:Nat) {x:T} {d:PyData} (hx:Dq (rs (AD D A) G) x d):RS D G0 (Er A i) (τ.set i (some x)) (ρ.set i (.sh d)) G:=by
 have less:Ex (rs (AD D A) G) (rs (AD D (Er A i)) G):=zh λb z=>by
  rcases z with z|⟨j,z⟩
  ·exact .inl z
  ·exact .inr ⟨j,(J7 z).1⟩
 refine ⟨h.ex,h.dm,λj p e=>h.fr j p (J7 e).1,λj p e=>h.da j p (J7 e).1,λj k p a b=>h.inj j k p (J7 a).1 (J7 b).1,by simp [h.len],λj e he=>?_,λj ds e=>?_,λj ds e=>?_⟩
 ·rw [getElem?_set] at he ⊢;split at he
  ·rename_i hj;rw [if_pos hj];split at he
   ·rename_i hl;cases he;exact ⟨x,by rw [if_pos (by rw [← h.len];exact hl)],hx.up less⟩
   ·cases he
  ·rename_i hj;rw [if_neg hj];obtain ⟨t,b,c⟩:=h.sh j _ he;exact ⟨t,b,c.up less⟩
 ·rw [getElem?_set] at e ⊢;split at e
  ·split at e<;>cases e
  ·rename_i hj;rw [if_neg hj];obtain ⟨p,xs,b,c,g,f⟩:=h.ow j _ e;exact ⟨p,xs,by unfold Er;rw [if_neg (λz=>hj z.symm)];exact b,c,g,f.up less⟩
 ·rw [getElem?_set] at e ⊢;split at e
  ·split at e<;>cases e
  ·rename_i hj;rw [if_neg hj];obtain ⟨p,xs,b,c,g,k,f⟩:=h.dc j _ e;exact ⟨p,xs,by unfold Er;rw [if_neg (λz=>hj z.symm)];exact b,c,g,k,f.up less⟩
def RS.puts:∀ {ts:List (Nat×T)} {bs:List (Nat×PyData)} {A:Nat->Option Addr} {τ:St3} {ρ:Rho},RS D G0 A τ ρ G->Bd (rs (AD D A) G) ts bs->∃ A',RS D G0 A' (sets τ ts) (J9 ρ bs) G
 |_,_,A,_,_,h,.nil=>⟨A,h⟩
 |_,_,A,_,_,h,.cons (i:=i) a b=>by
  unfold sets J9;exact RS.puts (h.put i a) (b.up (zh λb z=>by
   rcases z with z|⟨j,z⟩
   ·exact .inl z
   ·exact .inr ⟨j,(J7 z).1⟩))
def RS.putN (h:RS D G0 A τ ρ G) (i:Nat) {x:T} {d:PyData} {ds:List PyData} (hd:d=.list ds) (E:Ex G G') (hx:Nw (AD D A) G G' x d):RS D G0 (λj=>if j=i then (match x with|.ref p=>some p|_=>none) else A j) (τ.set i (some x)) (ρ.set i (.ow ds)) G':=by
 rcases hx with hx|⟨p,xs,ds',rfl,e',gp,gp',hs⟩
 ·rw [hd] at hx;cases hx
 rw [hd] at e';cases e';have np:∀ {j q},A j=some q->q≠p:=λe=>by rintro rfl;exact h.da _ _ e gp
 have X1:Ex (rs (AD D A) G) (rs (AD D (λj=>if j=i then some p else A j)) G'):=λb o e=>by
  obtain ⟨n,e⟩:=qt e;rw [zX]
  ·exact E _ _ e
  ·rintro (z|⟨j,z⟩)
   ·exact n (.inl z)
   ·simp only at z;split at z
    ·cases z;rw [gp] at e;cases e
    ·exact n (.inr ⟨j,z⟩)
 refine ⟨h.ex.trans E,h.dm,λj q e=>?_,λj q e=>?_,λj k q a b=>?_,by simp [h.len],λj e he=>?_,λj es e=>?_,λj es e=>?_⟩
 ·simp only at e;split at e
  ·cases e;cases z:G0 p with
   |none=>rfl
   |some o=>rw [h.ex _ _ z] at gp;cases gp
  ·exact h.fr j q e
 ·simp only at e;split at e
  ·cases e;rw [gp'];simp
  ·exact (h.up E).da j q e
 ·simp only at a b;split at a
  ·cases a;split at b
   ·rename_i h1 h2;rw [h1,h2]
   ·exact absurd rfl (np b)
  ·split at b
   ·cases b;exact absurd rfl (np a)
   ·exact h.inj j k q a b
 ·rw [getElem?_set] at he ⊢;split at he
  ·split at he<;>cases he
  ·rename_i hj;rw [if_neg hj];obtain ⟨t,b,c⟩:=h.sh j _ he;exact ⟨t,b,c.up X1⟩
 ·rw [getElem?_set] at e ⊢;split at e
  ·rename_i hj;subst hj;split at e
   ·rename_i hl;cases e;refine ⟨p,xs,by simp,by rw [if_pos rfl,if_pos (by rw [← h.len];exact hl)],gp',hs.up (zh λb z=>?_)⟩;rcases z with z|⟨j,z⟩
    ·exact .inl (.inl z)
    ·simp only at z;split at z
     ·cases z;exact .inr rfl
     ·exact .inl (.inr ⟨j,z⟩)
   ·cases e
  ·rename_i hj;rw [if_neg hj];obtain ⟨q,ys,b,c,g,f⟩:=h.ow j _ e;exact ⟨q,ys,by rw [if_neg (λz=>hj z.symm)];exact b,c,E _ _ g,f.up X1⟩
 ·rw [getElem?_set] at e ⊢;split at e
  ·split at e<;>cases e
  ·rename_i hj;rw [if_neg hj];obtain ⟨q,ys,b,c,g,k,f⟩:=h.dc j _ e;exact ⟨q,ys,by rw [if_neg (λz=>hj z.symm)];exact b,c,E _ _ g,k,f.up X1⟩
def RS.wr (h:RS D G0 A τ ρ G) {i:Nat} {p:Addr} {xs:List T} {ds:List PyData} (hi:A i=some p) (ht:τ[i]?=some (some (.ref p))) (hs:Dqs (rs (AD D A) G) xs ds):RS D G0 A τ (ρ.set i (.ow ds)) (gu G p (.lst xs)):=by
 have X1:Ex (rs (AD D A) G) (rs (AD D A) (gu G p (.lst xs))):=λb o e=>by
  obtain ⟨n,e⟩:=qt e;rw [zX n,je (by rintro rfl;exact n (.inr ⟨i,hi⟩))];exact e
 refine ⟨λb o e=>?_,h.dm,h.fr,λj q e=>?_,h.inj,by simp [h.len],λj e he=>?_,λj es e=>?_,λj es e=>?_⟩
 ·rw [je (by rintro rfl;rw [h.fr i _ hi] at e;cases e)];exact h.ex _ _ e
 ·by_cases z:q=p
  ·subst z;rw [qC];simp
  ·rw [je z];exact h.da j q e
 ·rw [getElem?_set] at he;split at he
  ·split at he<;>cases he
  ·obtain ⟨t,b,c⟩:=h.sh j _ he;exact ⟨t,b,c.up X1⟩
 ·rw [getElem?_set] at e;split at e
  ·rename_i hj;subst hj;split at e
   ·cases e;exact ⟨p,xs,hi,ht,qC,hs.up X1⟩
   ·cases e
  ·rename_i hj;obtain ⟨q,ys,b,c,g,f⟩:=h.ow j _ e;exact ⟨q,ys,b,c,by rw [je (by rintro rfl;exact hj (h.inj i j _ hi b))];exact g,f.up X1⟩
 ·rw [getElem?_set] at e;split at e
  ·split at e<;>cases e
  ·rename_i hj;obtain ⟨q,ys,b,c,g,k,f⟩:=h.dc j _ e;exact ⟨q,ys,b,c,by rw [je (by rintro rfl;exact hj (h.inj i j _ hi b))];exact g,k,f.up X1⟩
def RS.base {Gb:Gp} (h:RS D Gb A τ ρ G) (e:Ex G0 Gb) (hd:Dom D G0):RS D G0 A τ ρ G:=
 ⟨e.trans h.ex,hd,(λi p a=>by
  cases z:G0 p with
  |none=>rfl
  |some o=>have:=h.fr i p a;rw [e _ _ z] at this;cases this),h.da,h.inj,h.len,h.sh,h.ow,h.dc⟩
end
inductive Ot where
 |nx (ρ:Rho)|bk (ρ:Rho)|ct (ρ:Rho)|rt (d:PyData) (fr:Bool)
def qdk (D:Addr->Prop) (G0:Gp) (e:Ends3):Ot->Prop
 |.nx ρ=>∀ A τ G,RS D G0 A τ ρ G->e.nx τ G
 |.bk ρ=>∀ A τ G,RS D G0 A τ ρ G->e.bk τ G
 |.ct ρ=>∀ A τ G,RS D G0 A τ ρ G->e.ct τ G
 |.rt d fr=>∀ x G,Ex G0 G->Dq (rs D G) x d->(fr=true->Nw D G0 G x d)->e.rt x G
def qdk.base {D:Addr->Prop} {G0 Gb:Gp} {e:Ends3} {o:Ot} (h:qdk D G0 e o) (x:Ex G0 Gb) (hd:Dom D G0):qdk D Gb e o:=by
 cases o with
 |nx ρ=>exact λA τ G r=>h A τ G (r.base x hd)
 |bk ρ=>exact λA τ G r=>h A τ G (r.base x hd)
 |ct ρ=>exact λA τ G r=>h A τ G (r.base x hd)
 |rt d fr=>exact λy G a b c=>h y G (x.trans a) b λz=>(c z).back x
structure PuS (t:TS3) where
 f:Nat->Rho->Option Ot
 ok:∀ {D G0 A τ ρ G n o} {e:Ends3},RS D G0 A τ ρ G->f n ρ=some o->qdk D G0 e o->t e τ G
def E7:PuS zf:=⟨λ_ ρ=>some (.nx ρ),λh hf k=>by cases hf;exact k _ _ _ h⟩
def qlq:PuS qdg:=⟨λ_ ρ=>none,λh hf k=>by cases hf⟩
def qh7 (a b:Nat->Rho->Option Ot) (n:Nat) (ρ:Rho):Option Ot:=(a n ρ).bind λo=>match o with|.nx ρ'=>b n ρ'|o=>some o
def VV {t u:TS3} (a:PuS t) (b:PuS u):PuS (qU t u):=⟨qh7 a.f b.f,λ{D G0 A τ ρ G n o e} h hf k=>by
 unfold qh7 at hf;obtain ⟨o1,e1,hf⟩:=obb hf;refine a.ok h e1 ?_;cases o1 with
 |nx ρ'=>exact λA' τ' G' h'=>b.ok h' hf k
 |bk ρ'=>cases hf;exact k
 |ct ρ'=>cases hf;exact k
 |rt d fr=>cases hf;exact k⟩
def sIf {c:TT3} {t u:TS3} (pc:PuC c) (a:PuS t) (b:PuS u):PuS (ZF c t u):=⟨λn ρ=>(pc.f ρ).bind λk=>if k then a.f n ρ else b.f n ρ,λh hf k=>by
 obtain ⟨o1,e1,hf⟩:=obb hf;refine pc.ok (h.viewAll _) h.domD e1 λG1 E1=>?_;cases o1 with
 |true=>exact a.ok (h.up E1) hf k
 |false=>exact b.ok (h.up E1) hf k⟩
def X7 {t:TE3} (a:PuE t):PuS (zI t):=⟨λ_ ρ=>(a.f ρ).map λd=>.rt d a.nw,λh hf k=>by
 obtain ⟨d,e1,rfl⟩:=Option.map_eq_some_iff.mp hf;exact a.ok (h.viewAll _) h.domD e1 λx G1 E1 D1 N1=>k x G1 (h.ex.trans E1) D1 λz=>(N1 z).back h.ex⟩
def qdd (ρ:Rho) (i:Nat):Option Ot:=match ρ[i]? with|some (.ow ds)=>some (.rt (.list ds) true)|some (.sh d)=>some (.rt d false)|_=>none
def qgA (i:Nat):PuS (zI (v3 i)):=⟨λ_ ρ=>qdd ρ i,λh hf k=>by
 unfold qdd at hf;split at hf
 ·rename_i ds e;cases hf;obtain ⟨p,xs,b,c,g,f⟩:=h.ow i _ e;simp only [zI,v3,c];refine k _ _ h.ex (.lst (by rw [zX (h.nd b)];exact g) (f.up (zh λb z=>.inl z))) λ_=>.inr ⟨p,xs,ds,rfl,rfl,h.fr i p b,g,f.up (zh λq z=>?_)⟩;rcases z with z|z
  ·exact .inl z
  ·subst z;exact .inr ⟨i,b⟩
 ·rename_i d e;cases hf;obtain ⟨t,b,c⟩:=h.sh i _ e;simp only [zI,v3,b];exact k _ _ h.ex (c.up (zh λb z=>.inl z)) (λz=>by cases z)
 ·cases hf⟩
def VM {H H':Gp} {x:T} {d:PyData} (h:Dq H x d) (s:SQ d=true):Dq H' x d:=by
 cases h<;>first|(constructor;done)|(simp [SQ] at s;done)
def qlU:PyData->Sl
 |.list ds=>.ow ds
 |d=>.sh d
def S7 (m:List Bool) (nw:Bool) (i:Nat) (d:PyData) (ρ:Rho):Rho:=if SQ d then ρ.set i (.sh d) else (dm m ρ).set i (if nw then qlU d else .sh d)
def CH {t:TE3} (a:PuE t) (i:Nat) (m:List Bool) (hm:Tru (a.fv.all (mkb m))):PuS (zG t (gn3 i)):=⟨λ_ ρ=>(a.f ρ).map λd=>.nx (S7 m a.nw i d ρ),λ{D G0 A τ ρ G n o e} h hf k=>by
 obtain ⟨d,e1,rfl⟩:=Option.map_eq_some_iff.mp hf;refine a.ok (h.viewD hm) (h.dem m).dom e1 λx G1 E1 D1 N1=>?_;unfold S7 at k;show e.nx (τ.set i (some x)) G1;split at k
 ·rename_i hs;exact k _ _ _ ((h.up E1).put i (VM D1 hs))
 ·split at k
  ·rename_i hn;have N:=N1 hn;rcases id N with h2|⟨p,xs,ds,h1,h2,_⟩
   ·exact absurd h2 (by assumption)
   subst h2;exact k _ _ _ ((h.dem m).putN i rfl E1 N)
  ·exact k _ _ _ (((h.dem m).up E1).put i D1)⟩
def qeL (i j:Nat) (m:List Bool) (ds:List PyData) (ρ:Rho):Option Ot:=match ds with
 |[d,e]=>if SQ d&&SQ e then some (.nx ((ρ.set i (.sh d)).set j (.sh e))) else some (.nx (((dm m ρ).set i (.sh d)).set j (.sh e)))
 |_=>none
def qfp {D:Addr->Prop} {A:Nat->Option Addr} {G:Gp} {i:Nat}:Ex (rs (AD D A) G) (rs (AD D (Er A i)) G):=zh λb z=>by
 rcases z with z|⟨j,z⟩
 ·exact .inl z
 ·exact .inr ⟨j,(J7 z).1⟩
def slot (ρ:Rho) (i:Nat):Option (List PyData):=match ρ[i]? with|some (.ow ds)=>some ds|_=>none
def QA {ρ:Rho} {i:Nat} {ds:List PyData} (h:slot ρ i=some ds):ρ[i]?=some (.ow ds):=by
 unfold slot at h;split at h
 ·rename_i e;cases h;exact e
 ·cases h
def dmS (m:List Bool) (d:PyData) (ρ:Rho):Rho:=if SQ d then ρ else dm m ρ
def RS.evalS {D:Addr->Prop} {G0 G:Gp} {A:Nat->Option Addr} {τ:St3} {ρ:Rho} (h:RS D G0 A τ ρ G) {t:TE3} (a:PuE t) (m:List Bool) (hm:Tru (a.fv.all (mkb m))) {d:PyData} (hf:a.f ρ=some d):∃ A1,RS D G0 A1 τ (dmS m d ρ) G/\∀ q:Q3,(∀ x G',Ex G G'->Dq (rs (AD D A1) G') x d->q x G')->t τ G q:=by
 unfold dmS;by_cases hs:SQ d=true
 ·rw [if_pos hs];exact ⟨A,h,λq k=>a.ok (h.viewAll _) h.domD hf λx G1 E1 D1 _=>k x G1 E1 (VM D1 hs)⟩
 ·rw [if_neg hs];exact ⟨Ad m A,h.dem m,λq k=>a.ok (h.viewD hm) (h.dem m).dom hf λx G1 E1 D1 _=>k x G1 E1 D1⟩
def qh0 (i:Nat) (k d:PyData) (ρ:Rho):Option Ot:=(asI k).bind λk=>(slot ρ i).bind λds=>(ixN ds.length k).bind λj=>some (.nx (ρ.set i (.ow (ds.set j d))))
def qjH {t ti:TE3} (a:PuE t) (i:Nat) (b:PuE ti) (m:List Bool) (hm:Tru (a.fv.all (mkb m))):PuS (zG t (Z4 (v3 i) ti)):=⟨λ_ ρ=>(a.f ρ).bind λd=>(b.f ρ).bind λk=>qh0 i k d (dmS m d ρ),λ{D G0 A τ ρ G n o e} h hf k=>by
 obtain ⟨d,e1,hf⟩:=obb hf;obtain ⟨kd,e3,hf⟩:=obb hf;obtain ⟨A1,h1,ev⟩:=h.evalS a m hm e1;unfold qh0 at hf;obtain ⟨kk,e4,hf⟩:=obb hf;obtain ⟨ds,e2,hf⟩:=obb hf;obtain ⟨j,e5,hf⟩:=obb hf;cases hf;have:=SJ e4;subst this;obtain ⟨p,xs,bb,c,g,f⟩:=h1.ow i _ (QA e2);refine ev _ λx G1 E1 D1=>?_;simp only [Z4,v3,c];refine b.ok ((h.up E1).viewAll _) (h.up E1).domD e3 λy G2 E2 D2 _=>?_;cases D2;simp only [N7,E2 _ _ (E1 _ _ g),f.length,e5];exact k _ _ _ (((h1.up E1).up E2).wr bb c (((f.up (jr E1)).up (jr E2)).set j (D1.up (jr E2))))⟩
def SK (gf:PyData->Option (List (Nat×PyData))) (bf:Rho->Option Ot):List PyData->Rho->Option Ot
 |[],ρ=>some (.nx ρ)
 |d::r,ρ=>(gf d).bind λbs=>(bf (J9 ρ bs)).bind λo=>match o with
  |.nx ρ'=>SK gf bf r ρ'
  |.ct ρ'=>SK gf bf r ρ'
  |.bk ρ'=>some (.nx ρ')
  |.rt d b=>some (.rt d b)
def WM {stay:Gp->Prop} {g:TG3} {tb:TS3} {e:Ends3} (pg:PuG g) (pb:PuS tb) {D:Addr->Prop} {G0:Gp} {n:Nat} {o:Ot} {items0:List T} (hs:∀ A τ ρ G,RS D G0 A τ ρ G->stay G) (k:qdk D G0 e o) :
  ∀ (ds:List PyData) (items:List T),(∀ A τ ρ G,RS D G0 A τ ρ G->Dqs (rs (AD D A) G) items ds)->∀ A τ ρ G,RS D G0 A τ ρ G->SK pg.f (pb.f n) ds ρ=some o->UC stay g tb e items τ G
 |[],items,hi,A,τ,ρ,G,h,hf=>by
  cases hf;have:=hi _ _ _ _ h;cases this;exact ⟨hs _ _ _ _ h,k _ _ _ h⟩
 |d::ds,items,hi,A,τ,ρ,G,h,hf=>by
  have hh:=hi _ _ _ _ h;cases hh with
  |cons hx hr=>
   rename_i x items;unfold SK at hf;obtain ⟨bs,e1,hf⟩:=obb hf;obtain ⟨o1,e2,hf⟩:=obb hf;obtain ⟨ts,bd,kg⟩:=pg.ok hx e1;refine ⟨hs _ _ _ _ h,kg _ _ _ ?_⟩;obtain ⟨A',h'⟩:=h.puts bd;refine pb.ok h' e2 ?_;have hi':∀ A τ ρ G,RS D G0 A τ ρ G->Dqs (rs (AD D A) G) items ds:=λA τ ρ G h=>by
    have:=hi _ _ _ _ h;cases this with
    |cons a b=>exact b
   cases o1 with
   |nx ρ'=>exact λA2 τ2 G2 h2=>WM (items0:=items0) pg pb hs k ds items hi' _ _ _ _ h2 hf
   |ct ρ'=>exact λA2 τ2 G2 h2=>WM (items0:=items0) pg pb hs k ds items hi' _ _ _ _ h2 hf
   |bk ρ'=>cases hf;exact k
   |rt d fr=>cases hf;exact k
def qh8 (pi:Rho->Option (List PyData)) (nm:Bool) (m:List Bool) (gf:PyData->Option (List (Nat×PyData))) (bf:Nat->Rho->Option Ot) (n:Nat) (ρ:Rho):Option Ot:=(pi ρ).bind λds=>SK gf (bf n) ds (if nm then ρ else dm m ρ)
def qk7 {wi:TI3} {g:TG3} {tb:TS3} (pi:PuI wi) (pg:PuG g) (pb:PuS tb) (m:List Bool) (hm:Tru (pi.fv.all (mkb m))):PuS (X2 wi g tb):=⟨qh8 pi.f pi.nm m pg.f pb.f,λ{D G0 A τ ρ G n o e} h hf k=>by
 unfold qh8 at hf;obtain ⟨ds,e1,hf⟩:=obb hf;refine pi.ok (h.viewD hm) (h.dem m).dom e1 λitems stay G1 E1 D1 hs hnm=>?_;cases hb:pi.nm with
 |true=>
  rw [hb,if_pos rfl] at hf;obtain ⟨ns,rfl⟩:=hnm hb;have:=D1.ints;subst this;exact WM (items0:=[]) pg pb (λ_ _ _ _ _=>hs _ (.inl hb)) k _ _ (λA τ ρ G _=>Dqs.ofInts _) _ _ _ _ (h.up E1) hf
 |false=>
  rw [hb,if_neg Bool.false_ne_true] at hf;have h1:=(h.dem m).up E1;have b1:Ex G0 (rs (λb=>∃ i,Ad m A i=some b) G1):=λb o e=>by
   rw [zX]
   ·exact h1.ex _ _ e
   ·rintro ⟨i,z⟩;rw [h1.fr i _ z] at e;cases e
  have h2:RS D (rs (λb=>∃ i,Ad m A i=some b) G1) (Ad m A) τ (dm m ρ) G1:=⟨JX,h.dm.up b1,λi p z=>by unfold rs;exact zn ⟨i,z⟩,h1.da,h1.inj,h1.len,h1.sh,h1.ow,h1.dc⟩
  have X:∀ A2 τ2 ρ2 G2,RS D (rs (λb=>∃ i,Ad m A i=some b) G1) A2 τ2 ρ2 G2->Ex (rs (AD D (Ad m A)) G1) (rs (AD D A2) G2):=λA2 τ2 ρ2 G2 r b o e=>by
   obtain ⟨n1,e⟩:=qt e;have eb:rs (λb=>∃ i,Ad m A i=some b) G1 b=some o:=by rw [zX (λz=>n1 (.inr z))];exact e
   rw [zX]
   ·exact r.ex _ _ eb
   ·rintro (z|⟨i,z⟩)
    ·exact n1 (.inl z)
    ·rw [r.fr i _ z] at eb;cases eb
  exact WM (items0:=[]) pg pb (λA2 τ2 ρ2 G2 r=>hs _ (.inr ((X _ _ _ _ r).trans JX))) (k.base b1 h.dm) _ _ (λA2 τ2 ρ2 G2 r=>D1.up (X _ _ _ _ r)) _ _ _ _ h2 hf⟩
def whP (cf:Rho->Option Bool) (bf:Rho->Option Ot):Nat->Rho->Option Ot
 |0,_=>none
 |n+1,ρ=>(cf ρ).bind λk=>if k then (bf ρ).bind λo=>match o with
   |.nx ρ'=>whP cf bf n ρ'
   |.ct ρ'=>whP cf bf n ρ'
   |.bk ρ'=>some (.nx ρ')
   |.rt d b=>some (.rt d b)
  else some (.nx ρ)
def sWh {c:TT3} {tb:TS3} (pc:PuC c) (pb:PuS tb):PuS (WI c tb):=⟨λn ρ=>whP pc.f (pb.f n) n ρ,λ{D G0 A τ ρ G n o e} h hf k=>by
 refine ⟨λm τ G=>∃ A ρ,RS D G0 A τ ρ G/\whP pc.f (pb.f n) m ρ=some o,⟨n,A,ρ,h,hf⟩,?_⟩;rintro m τ G ⟨A,ρ,h,hf⟩;cases m with
 |zero=>cases hf
 |succ m=>
  unfold whP at hf;obtain ⟨b,e1,hf⟩:=obb hf;refine pc.ok (h.viewAll _) h.domD e1 λG1 E1=>?_;cases b with
  |true=>
   rw [if_pos rfl] at hf ⊢;obtain ⟨o1,e2,hf⟩:=obb hf;cases o1 with
   |nx ρ'=>exact ⟨λτ' G'=>∃ A',RS D G0 A' τ' ρ' G',λτ' G' ⟨A',h'⟩=>⟨m,by omega,A',ρ',h',hf⟩,pb.ok (h.up E1) e2 λA' τ' G' h'=>⟨A',h'⟩⟩
   |ct ρ'=>exact ⟨λτ' G'=>∃ A',RS D G0 A' τ' ρ' G',λτ' G' ⟨A',h'⟩=>⟨m,by omega,A',ρ',h',hf⟩,pb.ok (h.up E1) e2 λA' τ' G' h'=>⟨A',h'⟩⟩
   |bk ρ'=>cases hf;exact ⟨λ_ _=>False,λ_ _ z=>z.elim,pb.ok (h.up E1) e2 k⟩
   |rt d fr=>cases hf;exact ⟨λ_ _=>False,λ_ _ z=>z.elim,pb.ok (h.up E1) e2 k⟩
  |false=>
   cases hf;rw [if_neg Bool.false_ne_true];exact k _ _ _ (h.up E1)⟩
def DQ (fr:Bool):Option Ot->Option PyData
 |some (.rt d b)=>if fr=true/\b=false then (match d with|.none=>some .none|_=>none) else some d
 |some (.nx _)=>if fr then none else some .none
 |_=>none
def st (ds:List PyData) (N:Nat):Rho:=ds.map Sl.sh++List.replicate (N-ds.length) .un
def run (f:Nat->Rho->Option Ot) (k N n:Nat) (fr:Bool) (ds:List PyData):Option PyData:=if ds.length=k then DQ fr (f n (st ds N)) else none
def jZ {t:TS3} (b:PuS t) (N:List Str) (k n:Nat) (fr:Bool):∀ ts G q,PSp (run b.f k N.length n fr) fr ts G q->ts.length=k/\t { nx:=λ_ G'=>q .non G',rt:=q } (ql N ts) G:=by
 rintro ts G q ⟨D,ds,d,hs,hd,hf,h⟩;unfold run at hf;split at hf
 ·rename_i hk;refine ⟨by rw [hs.length];exact hk,?_⟩;have r:RS D G (λ_=>none) (ql N ts) (st ds N.length) G:=by
   refine ⟨Ex.refl,hd,(λi p e=>by cases e),(λi p e=>by cases e),(λi j p e=>by cases e),(by simp [st,ql,hs.length]),λi d' e=>?_,λi es e=>?_,λi es e=>?_⟩
   ·unfold st at e;unfold ql;by_cases hi:i<ds.length
    ·rw [List.getElem?_append_left (by simpa using hi),getElem?_map] at e;obtain ⟨d2,e3,e4⟩:=Option.map_eq_some_iff.mp e;cases e4;obtain ⟨x,e5,hx⟩:=hs.get e3;refine ⟨x,?_,hx.up (zh λb z=>?_)⟩
     ·rw [List.getElem?_append_left (by simp [hs.length];exact hi),getElem?_map,e5];rfl
     ·rcases z with z|⟨i,z⟩
      ·exact z
      ·cases z
    ·rw [List.getElem?_append_right (by simpa using hi),List.getElem?_replicate] at e;split at e<;>cases e
   ·unfold st at e;by_cases hi:i<ds.length
    ·rw [List.getElem?_append_left (by simpa using hi),getElem?_map] at e;obtain ⟨d2,e3,e4⟩:=Option.map_eq_some_iff.mp e;cases e4
    ·rw [List.getElem?_append_right (by simpa using hi),List.getElem?_replicate] at e;split at e<;>cases e
   ·unfold st at e;by_cases hi:i<ds.length
    ·rw [List.getElem?_append_left (by simpa using hi),getElem?_map] at e;obtain ⟨d2,e3,e4⟩:=Option.map_eq_some_iff.mp e;cases e4
    ·rw [List.getElem?_append_right (by simpa using hi),List.getElem?_replicate] at e;split at e<;>cases e
  unfold DQ at hf;split at hf
  ·rename_i d' b' e;split at hf
   ·split at hf
    ·cases hf;exact b.ok r e λx G' a c z=>h x G' a c λ_=>.inl rfl
    ·cases hf
   ·rename_i hb;cases hf;exact b.ok r e λx G' a c z=>h x G' a c λw=>z (by
     cases b' with
     |true=>rfl
     |false=>exact absurd ⟨w,rfl⟩ hb)
  ·rename_i ρ' e;split at hf
   ·cases hf
   ·rename_i hb;cases hf;exact b.ok r e λA τ G' r'=>h .non G' r'.ex .non λw=>absurd w hb
  ·cases hf
 ·cases hf
def LJ {fr:Bool}:∀ ts G q,PSp (λ_=>none) fr ts G q->False:=λts G q ⟨_,_,_,_,_,h,_⟩=>by cases h
def Fn3.pz {P:Program} {w:World} {K:Frg} {mg:Str->Option Value} {base:Heap} {k:Nat} {x:Str} {sp:Sp3} (F:Fn3 P w K mg base k x sp) (fr:Bool):Fn3 P w K mg base k x (PSp (λ_=>none) fr):=F.imp λts G q h=>(LJ ts G q h).elim
def qle {i:Nat}:(bV i).f=λρ=>vw ρ i:=id rfl
def qal {i:Int}:(za i).f=λ_=>some (.int i):=id rfl
def qed {i:Bool}:(bBl i).f=λ_=>some (.bool i):=id rfl
def qaC {i:Str}:(qdw i).f=λ_=>some (.str i):=id rfl
def qa9:qel.f=λ_=>some .none:=id rfl
def qkV {r:R3} {ta tb:TE3} {R:OpD r} {a:PuE ta} {b:PuE tb}:(bO R a b).f=λρ=>(a.f ρ).bind λx=>(b.f ρ).bind λy=>R.f x y:=id rfl
def MV:qD.f=λ_=>some []:=id rfl
def SC {ta:TE3} {tr:TA3} {a:PuE ta} {r:PuA tr}:(qg a r).f=λρ=>(a.f ρ).bind λx=>(r.f ρ).bind λxs=>some (x::xs):=id rfl
def qaT {t:TA3} {a:PuA t} {hn:Tru (Nat.ble a.n 1000)}:(W9 a hn).f=λρ=>(a.f ρ).map .tuple:=id rfl
def MR {t:TA3} {a:PuA t} {hn:Tru (Nat.ble a.n 1000)}:(qdo a hn).f=λρ=>(a.f ρ).map .list:=id rfl
def KK {r:List T->Gp->Q3->Prop} {t:TA3} {R:FnD r} {a:PuA t}:(qE R a).f=λρ=>(a.f ρ).bind R.f:=id rfl
def qgO {t:TE3} {a:PuE t}:(bTb a).f=λρ=>(a.f ρ).bind asB:=id rfl
def qgs {t u:TT3} {a:PuC t} {b:PuC u}:(bOr a b).f=λρ=>(a.f ρ).bind λk=>if k then some true else b.f ρ:=id rfl
def qbm {t:TT3} {a:PuC t}:(qdc a).f=λρ=>(a.f ρ).map (! ·):=id rfl
def qg2:bTt.f=λ_=>some true:=id rfl
def TM {ta tb:TE3} {a:PuE ta} {b:PuE tb}:(RM a b).f=λρ=>((a.f ρ).bind asB).bind λk=>if k then b.f ρ else some (.bool false):=id rfl
def SO {ta:TE3} {a:PuE ta}:(qcu a).f=λρ=>((a.f ρ).bind asB).map λk=>.bool (!k):=id rfl
def qba {ta:TE3} {a:PuE ta}:(qiy a).f=λρ=>((a.f ρ).bind asI).map λi=>.int (-i):=id rfl
def qai {ta:TE3} {g:String->Bool} {a:PuE ta}:(qbf g a).f=λρ=>(a.f ρ).bind λd=>(tyD d).map λt=>.bool (g t):=id rfl
def qdz:bNp.f=λ_=>some none:=id rfl
def qfY {t:TE3} {a:PuE t}:(bSp a).f=λρ=>((a.f ρ).bind asI).map some:=id rfl
def qdC {wi:TI3} {g:TG3} {tif:TT3} {te:TE3} {pi:PuI wi} {pg:PuG g} {pc:PuC tif} {pe:PuE te} {m:List (Option Nat)} {hm:Tru (pg.tg.all λi=>m[i]?==some none)}:(bLc pi pg pc pe m hm).f=lcF pi.f (lcH pg.f pc.f pe.f) m:=id rfl
def M3:DC.f=qdQ:=id rfl
def qa5:qaJ.f=qia:=id rfl
def qbl:qjW.f=qhZ:=id rfl
def qa7:qjk.f=qdI:=id rfl
def CY {F:List PyData->Option PyData} {fr:Bool}:(ZE F fr).f=F:=id rfl
def qgS {g:Int->Int->Int} {i j:Int}:(opI g).f (.int i) (.int j)=some (.int (g i j)):=id rfl
def qgW {g:Int->Int->Bool} {i j:Int}:(opB g).f (.int i) (.int j)=some (.bool (g i j)):=id rfl
def qe1 {C:Int->Int->Prop} {g:Int->Int->Int}:(opC C g).f=cI C g:=id rfl
def N4 {n:Bool}:(UQ n).f=eqD n:=id rfl
def TL {n:Bool}:(qgt n).f=qid n:=id rfl
def RK {n:Bool}:(qfA n).f=qh5 n:=id rfl
def qaN {n:Bool}:(qjT n).f=inD n:=id rfl
def qa2:YU.f=ixD:=id rfl
def TC:D4.f=qeR:=id rfl
def qaZ {t:TE3} {a:PuE t}:(qbk a).f=λρ=>(a.f ρ).bind T0:=id rfl
def qbi {t:TA3} {a:PuA t}:(qbz a).f=λρ=>(a.f ρ).bind qeG:=id rfl
def N5 {t:TA3} {a:PuA t}:(qiJ a).f=λρ=>(a.f ρ).bind λds=>match ds with|[d,e]=>(T0 d).bind λus=>(T0 e).bind λvs=>some (qbG us vs)|_=>none:=id rfl
def TZ {t:TE3} {a:PuE t}:(qbk a).nm=false:=id rfl
def SE {t:TA3} {a:PuA t}:(qbz a).nm=true:=id rfl
def qkN {i:Nat}:(gN i).f=λd=>some [(i,d)]:=id rfl
def qaY:qdf.f []=some []:=id rfl
def RD {t:TG3} {u:DB} {a:PuG t} {b:PuGs u} {d:PyData} {r:List PyData}:(UA a b).f (d::r)=(a.f d).bind λx=>(b.f r).map λy=>x++y:=id rfl
def NU {u:DB} {n:Nat} {b:PuGs u} {ds:List PyData}:(qdj n b).f (.tuple ds)=if ds.length=n then b.f ds else none:=id rfl
def S9:E7.f=λ_ ρ=>some (.nx ρ):=id rfl
def qa8 {t u:TS3} {a:PuS t} {b:PuS u}:(VV a b).f=qh7 a.f b.f:=id rfl
def qdx {c:TT3} {t u:TS3} {pc:PuC c} {a:PuS t} {b:PuS u}:(sIf pc a b).f=λn ρ=>(pc.f ρ).bind λk=>if k then a.f n ρ else b.f n ρ:=id rfl
def qaS {t:TE3} {a:PuE t}:(X7 a).f=λ_ ρ=>(a.f ρ).map λd=>.rt d a.nw:=id rfl
def TH {i:Nat}:(qgA i).f=λ_ ρ=>qdd ρ i:=id rfl
def qat {t:TE3} {a:PuE t} {i:Nat} {m:List Bool} {hm:Tru (a.fv.all (mkb m))}:(CH a i m hm).f=λ_ ρ=>(a.f ρ).map λd=>.nx (S7 m a.nw i d ρ):=id rfl
def R7 {t ti:TE3} {a:PuE t} {b:PuE ti} {i:Nat} {m:List Bool} {hm:Tru (a.fv.all (mkb m))}:(qjH a i b m hm).f=λ_ ρ=>(a.f ρ).bind λd=>(b.f ρ).bind λk=>qh0 i k d (dmS m d ρ):=id rfl
def NQ {wi:TI3} {g:TG3} {tb:TS3} {pi:PuI wi} {pg:PuG g} {pb:PuS tb} {m:List Bool} {hm:Tru (pi.fv.all (mkb m))}:(qk7 pi pg pb m hm).f=qh8 pi.f pi.nm m pg.f pb.f:=id rfl
def qgJ {c:TT3} {tb:TS3} {pc:PuC c} {pb:PuS tb}:(sWh pc pb).f=λn ρ=>whP pc.f (pb.f n) n ρ:=id rfl
def qfx {i:Nat}:(bV i).nw=false:=id rfl
def qav {i:Bool}:(bBl i).nw=false:=id rfl
def qd3 {r:R3} {ta tb:TE3} {R:OpD r} {a:PuE ta} {b:PuE tb}:(bO R a b).nw=R.nw:=id rfl
def SZ {t:TA3} {a:PuA t} {hn:Tru (Nat.ble a.n 1000)}:(W9 a hn).nw=false:=id rfl
def XO {r:List T->Gp->Q3->Prop} {t:TA3} {R:FnD r} {a:PuA t}:(qE R a).nw=R.nw:=id rfl
def WU {F:List PyData->Option PyData} {fr:Bool}:(ZE F fr).nw=fr:=id rfl
def WJ {ta tb:TE3} {a:PuE ta} {b:PuE tb}:(RM a b).nw=false:=id rfl
def NC {wi:TI3} {g:TG3} {tif:TT3} {te:TE3} {pi:PuI wi} {pg:PuG g} {pc:PuC tif} {pe:PuE te} {m:List (Option Nat)} {hm:Tru (pg.tg.all λi=>m[i]?==some none)}:(bLc pi pg pc pe m hm).nw=true:=id rfl
def RU:qaJ.nw=false:=id rfl
def SM:YU.nw=false:=id rfl
def WV:D4.nw=false:=id rfl
def TK {n:Bool}:(UQ n).nw=false:=id rfl
def qaW {C:Int->Int->Prop} {g:Int->Int->Int}:(opC C g).nw=false:=id rfl
def qlk {s:Sl} {r:Rho}:vw (s::r) 0=s.d:=id rfl
def qk5 {s:Sl} {r:Rho} {i:Nat}:vw (s::r) (i+1)=vw r i:=id rfl
def qeO {d:PyData}:(Sl.sh d).d=some d:=id rfl
def qea {ds:List PyData}:(Sl.ow ds).d=some (.list ds):=id rfl
def CW {r:Rho} {ds:List PyData}:qdd (.ow ds::r) 0=some (.rt (.list ds) true):=id rfl
def MZ {s:Sl} {r:Rho} {i:Nat}:qdd (s::r) (i+1)=qdd r i:=id rfl
def qg1 {xs:List PyData} {i:Int}:ixD (.tuple xs) (.int i)=L2.atI xs i:=id rfl
def qdF {xs:List PyData} {i:Int}:ixD (.list xs) (.int i)=L2.atI xs i:=id rfl
def at0 {α:Type} {a:α} {r:List α}:L2.atI (a::r) 0=some a:=by simp [L2.atI,ixN]
def at3 {α:Type} {a b c d:α} {r:List α}:L2.atI (a::b::c::d::r) 3=some d:=by
 have h:ixN (a::b::c::d::r).length 3=some 3:=by unfold ixN;rw [if_pos (by omega),if_pos (by simp;omega)];rfl
 unfold L2.atI;rw [h];rfl
def atN {α:Type} {xs:List α} {k:Nat} (h:k<xs.length):L2.atI xs (k:Int)=xs[k]?:=by
 have e:ixN xs.length (k:Int)=some k:=by unfold ixN;rw [if_pos (by omega),if_pos (by omega)];rfl
 unfold L2.atI;rw [e];rfl
def eqI {n:Bool} {a b:Int}:eqD n (.int a) (.int b)=some (.bool (if n then !decide (a=b) else decide (a=b))):=id rfl
def eqB {n:Bool} {a b:Bool}:eqD n (.bool a) (.bool b)=some (.bool (if n then !decide (a=b) else decide (a=b))):=id rfl
def qbs {C:Int->Int->Prop} {g:Int->Int->Int} {i j:Int} (h:C i j):cI C g (.int i) (.int j)=some (.int (g i j)):=by simp only [cI];exact zn h
def R5 {i j:Int} (h:-1000000<i/\i<1000000):cI UP (·*·) (.int i) (.int j)=some (.int (i*j)):=qbs (.inl ⟨by omega,by omega⟩)
def CV {i j:Int} (h:0<j):cI (λ_ j=>0<j) (·%·) (.int i) (.int j)=some (.int (i%j)):=qbs h
def C7 {i j:Int} (h:0<j/\j<1073741824):cI EB (·/·) (.int i) (.int j)=some (.int (i/j)):=qbs h
def qkI {i j:Int}:qeR (.int i) (.int j)=some (.int (i+j)):=id rfl
def qhH {j:Int} (h:-1000000000<=j/\j<1000000000):qeG [.int j]=some ((UO 0 j.toNat).map PyData.int):=by simp only [qeG];exact zn ⟨by omega,by omega⟩
def ZC {pi:Rho->Option (List PyData)} {h:Rho->PyData->Option (Option PyData)} {m:List (Option Nat)} {ρ:Rho} {ds fs:List PyData} (h1:pi ρ=some ds) (h2:lcP (h (WL m ρ)) ds=some fs) (h3:fs.length<=16777216):lcF pi h m ρ=some (.list fs):=by unfold lcF;rw [h1];simp only [Option.bind_some,h2];exact zn h3
def MO {gf:PyData->Option (List (Nat×PyData))} {bf:Rho->Option Ot} {α:Type} {g:α->PyData} (xs:List α) (I:Nat->Rho->Prop) {ρ:Rho} (h0:I 0 ρ)
  (hs:∀ i x ρ,xs[i]?=some x->I i ρ->∃ bs ρ',gf (g x)=some bs/\(bf (J9 ρ bs)=some (.nx ρ')\/bf (J9 ρ bs)=some (.ct ρ'))/\I (i+1) ρ'):∃ ρ',SK gf bf (xs.map g) ρ=some (.nx ρ')/\I xs.length ρ':=by
 have key:∀ (r:List α) (i:Nat) (ρ:Rho),xs.drop i=r->i<=xs.length->I i ρ->∃ ρ',SK gf bf (r.map g) ρ=some (.nx ρ')/\I xs.length ρ':=by
  intro r;induction r with
  |nil=>
   intro i ρ e hi h;have:i=xs.length:=by
    have:=congrArg List.length e;simp at this;omega
   subst this;exact ⟨ρ,rfl,h⟩
  |cons x r ih=>
   intro i ρ e hi h;have hl:i<xs.length:=by
    have:=congrArg List.length e;simp at this;omega
   have e':=List.drop_eq_getElem_cons hl;rw [e] at e';injection e' with e1 e2;obtain ⟨bs,ρ',h1,h2,h3⟩:=hs i x ρ (by rw [getElem?_eq_getElem hl,e1]) h;obtain ⟨ρ2,h4,h5⟩:=ih (i+1) ρ' e2.symm hl h3;refine ⟨ρ2,?_,h5⟩;simp only [map_cons,SK,h1,Option.bind_some];rcases h2 with h2|h2<;>(rw [h2];exact h4)
 exact key xs 0 ρ (by simp) (Nat.zero_le _) h0
def sqk (b:Nat->Rho->Option Ot) (n:Nat) (o:Ot):Option Ot:=match o with|.nx ρ'=>b n ρ'|o=>some o
def qbb {a b:Nat->Rho->Option Ot} {n:Nat} {ρ:Rho}:qh7 a b n ρ=(a n ρ).bind (sqk b n):=id rfl
def NG {b:Nat->Rho->Option Ot} {n:Nat} {ρ:Rho}:sqk b n (.nx ρ)=b n ρ:=id rfl
def qbg {b:Nat->Rho->Option Ot} {n:Nat} {d:PyData} {f:Bool}:sqk b n (.rt d f)=some (.rt d f):=id rfl
def TV {d:PyData}:DQ true (some (.rt d true))=some d:=id rfl
def MT {d:PyData} {b:Bool}:DQ false (some (.rt d b))=some d:=by simp [DQ]
def qgn {b:Bool}:asB (.bool b)=some b:=id rfl
def qgB {b:Int}:asI (.int b)=some b:=id rfl
def M8 {xs:List PyData}:qdQ [.tuple xs]=some (.int xs.length):=id rfl
def NK {xs:List PyData}:qdQ [.list xs]=some (.int xs.length):=id rfl
def NX {xs:List PyData}:qia [.list xs]=some (.tuple xs):=id rfl
def qan {xs:List PyData}:qhZ [.tuple xs]=some (.list xs):=id rfl
def Y9 {xs:List Bool}:qdI [.list (xs.map PyData.bool)]=some (.bool (xs.all id)):=by simp only [qdI,LX,Option.map_some]
def qaB {xs:List PyData}:T0 (.tuple xs)=some xs:=id rfl
def NO {xs:List PyData}:T0 (.list xs)=some xs:=id rfl
def qd7 {i:Int}:tyD (.int i)=some "int" := id rfl
def qhR {i:Bool}:tyD (.bool i)=some "bool" := id rfl
def qeN:tyD .none=some "NoneType" := id rfl
def qeq {i:Str}:tyD (.str i)=some "str" := id rfl
def qdN {i:List PyData}:tyD (.tuple i)=some "tuple" := id rfl
def qew {i:List PyData}:tyD (.list i)=some "list" := id rfl
def qbn {n a b:Bool}:qh5 n (.bool a) (.bool b)=some (.bool (if n then a != b else a==b)):=id rfl
def qeH {m:List Bool} {nw:Bool} {i:Nat} {v:Int} {ρ:Rho}:S7 m nw i (.int v) ρ=ρ.set i (.sh (.int v)):=id rfl
def qhn {m:List Bool} {nw:Bool} {i:Nat} {v:List PyData} {ρ:Rho}:S7 m nw i (.tuple v) ρ=(dm m ρ).set i (.sh (.tuple v)):=by cases nw<;>rfl
def NT {m:List Bool} {i:Nat} {v:List PyData} {ρ:Rho}:S7 m true i (.list v) ρ=(dm m ρ).set i (.ow v):=id rfl
def qfb {m:List Bool} {v:Int} {ρ:Rho}:dmS m (.int v) ρ=ρ:=id rfl
def qk0 {ρ:Rho}:dm [] ρ=ρ:=id rfl
def qkW {m:List Bool} {s:Sl} {ρ:Rho}:dm (true::m) (s::ρ)=s.dem::dm m ρ:=id rfl
def qlg {m:List Bool} {s:Sl} {ρ:Rho}:dm (false::m) (s::ρ)=s::dm m ρ:=id rfl
def qeA {ds:List PyData}:(Sl.ow ds).dem=.sh (.list ds):=id rfl
def qhN {d:PyData}:(Sl.sh d).dem=.sh d:=id rfl
def qeV {ρ:Rho}:WL [] ρ=[]:=id rfl
def qdA {m:List (Option Nat)} {ρ:Rho}:WL (none::m) ρ=.un::WL m ρ:=id rfl
def cp (o:Option PyData):Sl:=match o with|some d=>.sh d|none=>.un
def qdq {m:List (Option Nat)} {j:Nat} {ρ:Rho}:WL (some j::m) ρ=cp (vw ρ j)::WL m ρ:=id rfl
def qlb {d:PyData}:cp (some d)=.sh d:=id rfl
def qhO {i j:Nat} {m:List Bool} {x y:Int} {ρ:Rho}:qeL i j m [.int x,.int y] ρ=some (.nx ((ρ.set i (.sh (.int x))).set j (.sh (.int y)))):=id rfl
def NL {pi:Rho->Option (List PyData)} {m:List Bool} {gf:PyData->Option (List (Nat×PyData))} {bf:Nat->Rho->Option Ot} {n:Nat} {ρ:Rho}:qh8 pi true m gf bf n ρ=(pi ρ).bind λds=>SK gf (bf n) ds ρ:=id rfl
def qaK {ρ:Rho}:J9 ρ []=ρ:=id rfl
def M0 {ρ:Rho} {i:Nat} {d:PyData} {r:List (Nat×PyData)}:J9 ρ ((i,d)::r)=J9 (ρ.set i (.sh d)) r:=id rfl
def QM {gf:PyData->Option (List (Nat×PyData))} {cf:Rho->Option Bool} {ef:Rho->Option PyData} {ρ:Rho} {d:PyData}:lcH gf cf ef ρ d=(gf d).bind λbs=>(cf (J9 ρ bs)).bind λk=>if k then (ef (J9 ρ bs)).map some else some none:=id rfl
def Nx (o:Option Ot) (P:Rho->Prop):Prop:=match o with|some (.nx ρ)=>P ρ|some (.ct ρ)=>P ρ|_=>False
def qd2 {ρ:Rho} {P:Rho->Prop}:Nx (some (.nx ρ)) P=P ρ:=id rfl
def qeY {o:Option Ot} {P:Rho->Prop} (h:Nx o P):∃ ρ,(o=some (.nx ρ)\/o=some (.ct ρ))/\P ρ:=by
 unfold Nx at h;split at h
 ·exact ⟨_,.inl rfl,h⟩
 ·exact ⟨_,.inr rfl,h⟩
 ·exact h.elim
section
variable {gf:PyData->Option (List (Nat×PyData))} {bf:Rho->Option Ot} {α:Type} {g:α->PyData} {ρ:Rho} {Q:Option Ot->Prop} {F:Ot->Option Ot}
def LQ (xs:List α) (I:Nat->Rho->Prop) (h0:I 0 ρ) (hs:∀ i x ρ,xs[i]?=some x->I i ρ->Nx ((gf (g x)).bind λbs=>bf (J9 ρ bs)) (I (i+1))) (k:∀ ρ',I xs.length ρ'->Q (some (.nx ρ'))):Q (SK gf bf (xs.map g) ρ):=by
 obtain ⟨ρ',e,h⟩:=MO (gf:=gf) (bf:=bf) (g:=g) xs I h0 λi x ρ hx hi=>by
  obtain ⟨ρ2,e,h⟩:=qeY (hs i x ρ hx hi);cases e1:gf (g x) with
  |none=>rw [e1] at e;rcases e with e|e<;>cases e
  |some bs=>rw [e1] at e;exact ⟨bs,ρ2,rfl,e,h⟩
 rw [e];exact k ρ' h
def qcl (xs:List α) (I:Nat->Rho->Prop) (h0:I 0 ρ) (hs:∀ i x ρ,xs[i]?=some x->I i ρ->Nx ((gf (g x)).bind λbs=>bf (J9 ρ bs)) (I (i+1))) (k:∀ ρ',I xs.length ρ'->Q (F (.nx ρ'))):Q ((SK gf bf (xs.map g) ρ).bind F):=
 LQ (Q:=λo=>Q (o.bind F)) xs I h0 hs k
def qfM {cf:Rho->Option Bool} {N:Nat} (n:Nat) (hn:n<N) (I:Nat->Rho->Prop) (h0:I 0 ρ) (hc:∀ i ρ,i<n->I i ρ->cf ρ=some true) (hs:∀ i ρ,i<n->I i ρ->Nx (bf ρ) (I (i+1))) (he:∀ ρ,I n ρ->cf ρ=some false) (k:∀ ρ',I n ρ'->Q (F (.nx ρ'))):Q ((whP cf bf N ρ).bind F):=by
 have key:∀ (k i M:Nat) (ρ:Rho),i+k=n->k<M->I i ρ->∃ ρ',whP cf bf M ρ=some (.nx ρ')/\I n ρ':=by
  intro k;induction k with
  |zero=>
   intro i M ρ e hM h;have:i=n:=by omega
   subst this;cases M with
   |zero=>omega
   |succ M=>exact ⟨ρ,by unfold whP;rw [he ρ h];rfl,h⟩
  |succ k ih=>
   intro i M ρ e hM h;cases M with
   |zero=>omega
   |succ M=>
    have h1:=hc i ρ (by omega) h;obtain ⟨ρ',h2,h3⟩:=qeY (hs i ρ (by omega) h);obtain ⟨ρ2,h4,h5⟩:=ih (i+1) M ρ' (by omega) (by omega) h3;refine ⟨ρ2,?_,h5⟩;unfold whP;rw [h1];rcases h2 with h2|h2<;>(simp only [Option.bind_some,if_pos,h2];exact h4)
 obtain ⟨ρ',e,h⟩:=key n 0 N ρ (by omega) hn h0;rw [e];exact k ρ' h
end
def qbo {α:Type} {us:List α} (h:us.length=1):∃ a0,us=[a0]:=List.length_eq_one_iff.mp h
def qcX {α:Type} {us:List α} (h:us.length=2):∃ a0 a1,us=[a0,a1]:=by
 obtain ⟨a0,r,rfl⟩:=List.exists_cons_of_length_pos (show 0<us.length by omega);obtain ⟨a1,rfl⟩:=qbo (show r.length=1 by simpa using h);exact ⟨a0,a1,rfl⟩
def KP (d e:PyData):Option PyData:=match d,e with
 |.tuple xs,.tuple ys=>cif (xs.length+ys.length<=sizeLine) (some (.tuple (xs++ys))) none
 |.list xs,.list ys=>cif (xs.length+ys.length<=sizeLine) (some (.list (xs++ys))) none
 |.int i,.int j=>some (.int (i+j))
 |_,_=>none
def zS:OpD jX:=⟨KP,false,λ{D G x y d e v q} hx hy hd hf k=>by
  unfold KP at hf;cases hx with
  | int i => cases hy <;> try (simp at hf;done)
             cases hf;exact k _ _ Ex.refl (.int _) (λz=>by cases z)
  |tup hs=>
    cases hy<;>try (simp at hf;done)
    rename_i hs2;simp only [cif] at hf;split at hf
    · rename_i c;cases hf;exact ⟨by rw [hs.length,hs2.length];exact c,k _ _ Ex.refl (.tup (hs.append hs2)) (λz=>by cases z)⟩
    · cases hf
  |lst g hs=>
    cases hy<;>try (simp at hf;done)
    rename_i g2 hs2;simp only [cif] at hf;split at hf
    · rename_i c;cases hf;simp only [jX,(qt g).2,(qt g2).2];exact ⟨by rw [hs.length,hs2.length];exact c,λp hp=>k _ _ (jn hp) (ZD hd hp (hs.append hs2)) (λz=>by cases z)⟩
    · cases hf
  |_=>simp at hf⟩
def slA (d:PyData) (lo hi:Option Int):Option PyData:=match d with
 |.tuple xs=>some (.tuple (US xs lo hi))
 |.list xs=>some (.list (US xs lo hi))
 |_=>none
def NH {te:TE3} {tl th:TO3} (a:PuE te) (l:PuO tl) (h:PuO th):PuE (UG te tl th):=⟨λρ=>(a.f ρ).bind λd=>(l.f ρ).bind λlo=>(h.f ρ).bind λhi=>slA d lo hi,a.fv++(l.fv++h.fv),false,λhv hd hf k=>by
 obtain ⟨d,e1,hf⟩:=obb hf;obtain ⟨lo,e2,hf⟩:=obb hf;obtain ⟨hi,e3,hf⟩:=obb hf;refine a.ok hv.l hd e1 λx' G1 E1 D1 _=>l.ok (hv.r.l.up E1) (hd.up E1) e2 λG2 E2=>h.ok (hv.r.r.up (E1.trans E2)) (hd.up (E1.trans E2)) e3 λG3 E3=>?_;have E:=(E1.trans E2).trans E3;have D3:=(D1.up (jr E2)).up (jr E3);unfold slA at hf;cases D3 with
 |tup hs=>
  simp only at hf;cases hf;exact k _ _ E (.tup (hs.cut _ _)) (λz=>by cases z)
 |lst g hs=>
  simp only at hf;cases hf;simp only [qiY,zb (qt g).2];intro p hp;exact k _ _ (E.trans (jn hp)) (ZD (hd.up E) hp (hs.cut _ _)) (λz=>by cases z)
 |_=>simp at hf⟩
def jH:zS.f=KP:=id rfl
def R6:zS.nw=false:=id rfl
def VF {te:TE3} {tl th:TO3} {a:PuE te} {l:PuO tl} {h:PuO th}:(NH a l h).f=λρ=>(a.f ρ).bind λd=>(l.f ρ).bind λlo=>(h.f ρ).bind λhi=>slA d lo hi:=id rfl
def LU {xs:List PyData} {lo hi:Option Int}:slA (.tuple xs) lo hi=some (.tuple (US xs lo hi)):=id rfl
def VN {xs ys:List PyData} (h:xs.length+ys.length<=16777216):KP (.tuple xs) (.tuple ys)=some (.tuple (xs++ys)):=zn h
end Pu
namespace Pv
open PySem L2 L3 Pu
end Pv
namespace Pu
open PySem L2 L3
open Bk (Lf Ext)
section
variable {D:Addr->Prop} {a:Addr} {G G' G0:Gp} {n n':Nat} {fv gv:List Nat} {l:Nat} {τ:St3} {ρ:Rho}
def ET (e:Ext a G G') (h:D a):Ex (rs D G) (rs D G'):=λb o x=>by
 obtain ⟨n,x⟩:=qt x;rw [zX n];exact e b o (by rintro rfl;exact n h) x
def YK {k:Int} (h:Lf G a k):G a≠none:=by
 obtain ⟨o,c,m,e,_⟩:=h;rw [e];simp
def YD {k:Int} (hd:Dom D G) (e:Ext a G G') (lf:Lf G' a k):Dom D G':=λb hb z=>by
 by_cases h:b=a
 ·subst h;exact YK lf z
 ·cases g:G b with
  |none=>exact hd b hb g
  |some o=>rw [e b o h g] at z;cases z
def Nw.backx {x:T} {d:PyData} {k:Int} (h:Nw D G G' x d) (e:Ext a G0 G) (lf:Lf G a k):Nw D G0 G' x d:=by
 rcases h with h|⟨p,xs,ds,h1,h2,c,r⟩
 ·exact .inl h
 refine .inr ⟨p,xs,ds,h1,h2,?_,r⟩;cases z:G0 p with
 |none=>rfl
 |some o=>
  by_cases hp:p=a
  ·subst hp;exact absurd c (YK lf)
  ·rw [e p o hp z] at c;cases c
structure Ln (fv:List Nat) (l:Nat) (D:Addr->Prop) (G:Gp) (τ:St3) (ρ:Rho) (a:Addr) (n:Nat):Prop where
 v:VJ fv D G τ ρ
 d:Dom D G
 da:D a
 tl:τ[l]?=some (some (.ref a))
 ul:vw ρ l=none
 lf:Lf G a n
def Ln.up (h:Ln fv l D G τ ρ a n) (e:Ext a G G') (lf:Lf G' a n'):Ln fv l D G' τ ρ a n':=
 ⟨λi hi d hd=>let ⟨t,x,y⟩:=h.v i hi d hd;⟨t,x,y.up (ET e h.da)⟩,YD h.d e lf,h.da,h.tl,h.ul,lf⟩
def Ln.fst (h:Ln (fv++gv) l D G τ ρ a n):Ln fv l D G τ ρ a n:=⟨h.v.l,h.d,h.da,h.tl,h.ul,h.lf⟩
def Ln.snd (h:Ln (fv++gv) l D G τ ρ a n):Ln gv l D G τ ρ a n:=⟨h.v.r,h.d,h.da,h.tl,h.ul,h.lf⟩
end
abbrev QD:=PyData->Nat->Prop
structure PwE (l:Nat) (t:TE3) where
 w:Rho->Nat->QD->Prop
 fv:List Nat
 nw:Bool
 mono:∀ {ρ n} {Q Q':QD},w ρ n Q->(∀ d m,Q d m->Q' d m)->w ρ n Q'
 ok:∀ {D τ ρ G a n} {q:Q3} {Q:QD},Ln fv l D G τ ρ a n->w ρ n Q->(∀ x d G' n',Q d n'->Ext a G G'->Lf G' a n'->Dq (rs D G') x d->(nw=true->Nw D G G' x d)->q x G')->t τ G q
structure PwC (l:Nat) (t:TT3) where
 w:Rho->Nat->(Bool->Nat->Prop)->Prop
 fv:List Nat
 mono:∀ {ρ n} {Q Q':Bool->Nat->Prop},w ρ n Q->(∀ d m,Q d m->Q' d m)->w ρ n Q'
 ok:∀ {D τ ρ G a n} {q:Bool->Gp->Prop} {Q:Bool->Nat->Prop},Ln fv l D G τ ρ a n->w ρ n Q->(∀ k G' n',Q k n'->Ext a G G'->Lf G' a n'->q k G')->t τ G q
structure PwA (l:Nat) (t:TA3) where
 w:Rho->Nat->(List PyData->Nat->Prop)->Prop
 fv:List Nat
 k:Nat
 mono:∀ {ρ n} {Q Q':List PyData->Nat->Prop},w ρ n Q->(∀ d m,Q d m->Q' d m)->w ρ n Q'
 ok:∀ {D τ ρ G a n} {q:List T->Gp->Prop} {Q:List PyData->Nat->Prop},Ln fv l D G τ ρ a n->w ρ n Q->(∀ x d G' n',Q d n'->d.length=k->Ext a G G'->Lf G' a n'->Dqs (rs D G') x d->q x G')->t τ G q
structure PwI (l:Nat) (t:TI3) where
 w:Rho->Nat->(List PyData->Nat->Prop)->Prop
 fv:List Nat
 nm:Bool
 mono:∀ {ρ n} {Q Q':List PyData->Nat->Prop},w ρ n Q->(∀ d m,Q d m->Q' d m)->w ρ n Q'
 ok:∀ {D τ ρ G a n} {r:List T->(Gp->Prop)->Gp->Prop} {Q:List PyData->Nat->Prop},Ln fv l D G τ ρ a n->w ρ n Q ->
  (∀ items stay ds G' n',Q ds n'->Ext a G G'->Lf G' a n'->Dqs (rs D G') items ds->(∀ G'',(nm=true\/Ex (rs D G') G'')->stay G'')->(nm=true->∃ ns:List Int,ds=ns.map PyData.int)->r items stay G')->t τ G r
structure DrD (r:List T->Gp->Q3->Prop) where
 W:List PyData->Nat->QD->Prop
 nw:Bool
 mono:∀ {ds n} {Q Q':QD},W ds n Q->(∀ d m,Q d m->Q' d m)->W ds n Q'
 ok:∀ {D:Addr->Prop} {G:Gp} {a:Addr} {n:Nat} {ts:List T} {ds:List PyData} {q:Q3} {Q:QD},Lf G a n->D a->Dom D G->Dqs (rs D G) ts ds->W ds n Q->(∀ x d G' n',Q d n'->Ext a G G'->Lf G' a n'->Dq (rs D G') x d->(nw=true->Nw D G G' x d)->q x G')->r (.ref a::ts) G q
section
variable {l:Nat}
def eOf {t:TE3} (b:PuE t):PwE l t:=⟨λρ n Q=>∃ d,b.f ρ=some d/\Q d n,b.fv,b.nw,λ⟨d,h1,h2⟩ h=>⟨d,h1,h _ _ h2⟩,λh ⟨d,h1,h2⟩ k=>
 b.ok h.v h.d h1 λx G1 E1 D1 N1=>k x d G1 _ h2 (Bk.Z9 E1) (h.lf.ex E1) D1 N1⟩
def cOf {t:TT3} (b:PuC t):PwC l t:=⟨λρ n Q=>∃ d,b.f ρ=some d/\Q d n,b.fv,λ⟨d,h1,h2⟩ h=>⟨d,h1,h _ _ h2⟩,λh ⟨d,h1,h2⟩ k=>
 b.ok h.v h.d h1 λG1 E1=>k d G1 _ h2 (Bk.Z9 E1) (h.lf.ex E1)⟩
def aOf {t:TA3} (b:PuA t):PwA l t:=⟨λρ n Q=>∃ d,b.f ρ=some d/\Q d n,b.fv,b.n,λ⟨d,h1,h2⟩ h=>⟨d,h1,h _ _ h2⟩,λh ⟨d,h1,h2⟩ k=>
 b.ok h.v h.d h1 λx G1 E1 D1=>k x d G1 _ h2 (b.ln h1) (Bk.Z9 E1) (h.lf.ex E1) D1⟩
def iOf {t:TI3} (b:PuI t):PwI l t:=⟨λρ n Q=>∃ d,b.f ρ=some d/\Q d n,b.fv,b.nm,λ⟨d,h1,h2⟩ h=>⟨d,h1,h _ _ h2⟩,λh ⟨d,h1,h2⟩ k=>
 b.ok h.v h.d h1 λitems stay G1 E1 D1 s nm=>k items stay d G1 _ h2 (Bk.Z9 E1) (h.lf.ex E1) D1 s nm⟩
def eO {r:R3} {ta tb:TE3} (R:OpD r) (a:PwE l ta) (b:PwE l tb):PwE l (o3 r ta tb):=
 ⟨λρ n Q=>a.w ρ n λx n1=>b.w ρ n1 λy n2=>∃ v,R.f x y=some v/\Q v n2,a.fv++b.fv,R.nw,λh k=>a.mono h λx n1 h=>b.mono h λy n2 ⟨v,h1,h2⟩=>⟨v,h1,k _ _ h2⟩,λh hw k=>
  a.ok h.fst hw λx dx G1 n1 h1 E1 L1 D1 _=>b.ok (h.snd.up E1 L1) h1 λy dy G2 n2 ⟨v,e,hq⟩ E2 L2 D2 _=>R.ok (D1.up (ET E2 h.da)) D2 (YD (YD h.d E1 L1) E2 L2) e λz G3 E3 D3 N3=>k z v G3 n2 hq ((E1.trans E2).trans (Bk.Z9 E3)) (L2.ex E3) D3 λz=>(N3 z).backx (E1.trans E2) L2⟩
def D5 {ta:TE3} {tr:TA3} (a:PwE l ta) (r:PwA l tr):PwA l (qc ta tr):=
 ⟨λρ n Q=>a.w ρ n λx n1=>r.w ρ n1 λxs n2=>Q (x::xs) n2,a.fv++r.fv,r.k+1,λh k=>a.mono h λx n1 h=>r.mono h λxs n2 h=>k _ _ h,λh hw k=>
  a.ok h.fst hw λx dx G1 n1 h1 E1 L1 D1 _=>r.ok (h.snd.up E1 L1) h1 λy dy G2 n2 hq hl E2 L2 D2=>k _ _ G2 n2 hq (by simp [hl]) (E1.trans E2) L2 (.cons (D1.up (ET E2 h.da)) D2)⟩
def qim {t:TA3} (b:PwA l t) (hn:Tru (Nat.ble b.k 1000)):PwE l (YT t):=⟨λρ n Q=>b.w ρ n λxs n1=>Q (.tuple xs) n1,b.fv,false,λh k=>b.mono h λxs n1 h=>k _ _ h,λh hw k=>
 b.ok h hw λx dx G1 n1 h1 hl E1 L1 D1=>⟨by rw [D1.length,hl];exact few hn,k _ _ _ _ h1 E1 L1 (.tup D1) (λz=>by cases z)⟩⟩
def qc5 {r:List T->Gp->Q3->Prop} {t:TA3} (R:FnD r) (b:PwA l t):PwE l (cb3 r t):=⟨λρ n Q=>b.w ρ n λxs n1=>∃ v,R.f xs=some v/\Q v n1,b.fv,R.nw,λh k=>b.mono h λxs n1 ⟨v,h1,h2⟩=>⟨v,h1,k _ _ h2⟩,λh hw k=>
 b.ok h hw λx dx G1 n1 ⟨v,e,hq⟩ hl E1 L1 D1=>R.ok D1 (YD h.d E1 L1) e λz G3 E3 D3 N3=>k z v G3 n1 hq (E1.trans (Bk.Z9 E3)) (L1.ex E3) D3 λz=>(N3 z).backx E1 L1⟩
def eDr {r:List T->Gp->Q3->Prop} {t:TA3} (R:DrD r) (b:PwA l t):PwE l (cb3 r (qc (v3 l) t)):=⟨λρ n Q=>b.w ρ n λxs n1=>R.W xs n1 Q,b.fv,R.nw,λh k=>b.mono h λxs n1 h=>R.mono h k,λ{D τ ρ G a n q Q} h hw k=>by
 simp only [cb3,qc,v3,h.tl];exact b.ok h hw λx dx G1 n1 hW hl E1 L1 D1=>R.ok L1 h.da (YD h.d E1 L1) D1 hW λz d G3 n3 hq E3 L3 D3 N3=>k z d G3 n3 hq (E1.trans E3) L3 D3 λz=>(N3 z).backx E1 L1⟩
def eIf {t:TT3} {ta tb:TE3} (c:PwC l t) (a:PwE l ta) (b:PwE l tb):PwE l (if3 t ta tb):=⟨λρ n Q=>c.w ρ n λk n1=>if k then a.w ρ n1 Q else b.w ρ n1 Q,c.fv++(a.fv++b.fv),false,λh k=>c.mono h λj m h=>by
  cases j with
  |true=>rw [if_pos rfl] at h ⊢;exact a.mono h k
  |false=>exact b.mono h k,λh hw k=>c.ok h.fst hw λj G1 n1 hj E1 L1=>by
  cases j with
  |true=>rw [if_pos rfl] at hj ⊢;exact a.ok (h.snd.fst.up E1 L1) hj λx d G2 n2 hq E2 L2 D2 _=>k _ _ _ _ hq (E1.trans E2) L2 D2 (λz=>by cases z)
  |false=>exact b.ok (h.snd.snd.up E1 L1) hj λx d G2 n2 hq E2 L2 D2 _=>k _ _ _ _ hq (E1.trans E2) L2 D2 (λz=>by cases z)⟩
end
def VA.ext {D:Addr->Prop} {a:Addr} {G G':Gp} {τ:St3} {ρ:Rho} (h:VA D G τ ρ) (e:Ext a G G') (da:D a):VA D G' τ ρ:=h.upx (ET e da)
structure RL (l:Nat) (a:Addr) (z0:Option (Option T)×Nat) (D:Addr->Prop) (G0:Gp) (A:Nat->Option Addr) (τ:St3) (ρ:Rho) (G:Gp) (n:Nat):Prop where
 r:RS D G0 A τ ρ G
 al:A l=some a
 tl:τ[l]?=some (some (.ref a))
 ul:ρ[l]?=some Sl.un
 lf:Lf G a n
 tz:τ[0]?=z0.1/\τ.length=z0.2
section
variable {l:Nat} {a:Addr} {z0:Option (Option T)×Nat} {D:Addr->Prop} {G0 G G':Gp} {A:Nat->Option Addr} {τ:St3} {ρ:Rho} {n n':Nat}
def RL.vl (h:RL l a z0 D G0 A τ ρ G n):vw ρ l=none:=by unfold vw;rw [h.ul];rfl
def RL.up (h:RL l a z0 D G0 A τ ρ G n) (e:Ext a G G') (lf:Lf G' a n'):RL l a z0 D G0 A τ ρ G' n':=by
 have X:Ex (rs (AD D A) G) (rs (AD D A) G'):=ET e (.inr ⟨l,h.al⟩);refine ⟨⟨λb o x=>e b o (by rintro rfl;rw [h.r.fr l _ h.al] at x;cases x) (h.r.ex b o x),h.r.dm,h.r.fr,λi p hp z=>?_,h.r.inj,h.r.len,λi d x=>let ⟨t,y,z⟩:=h.r.sh i d x;⟨t,y,z.up X⟩,λi ds x=>?_,λi ds x=>?_⟩,h.al,h.tl,h.ul,lf,h.tz⟩
 ·by_cases c:p=a
  ·subst c;exact YK lf z
  ·cases g:G p with
   |none=>exact h.r.da i p hp g
   |some o=>rw [e p o c g] at z;cases z
 ·obtain ⟨p,xs,y1,y2,y3,y4⟩:=h.r.ow i ds x;refine ⟨p,xs,y1,y2,e p _ ?_ y3,y4.up X⟩;rintro rfl;have:=h.r.inj i l _ y1 h.al;subst this;rw [h.ul] at x;cases x
 ·obtain ⟨p,xs,y1,y2,y3,yk,y4⟩:=h.r.dc i ds x;refine ⟨p,xs,y1,y2,e p _ ?_ y3,yk,y4.up X⟩;rintro rfl;have:=h.r.inj i l _ y1 h.al;subst this;rw [h.ul] at x;cases x
def RL.all (h:RL l a z0 D G0 A τ ρ G n) (fv:List Nat):Ln fv l (λb=>D b\/b=a) G τ ρ a n:=by
 refine ⟨λi _ d hd=>?_,λb hb=>?_,.inr rfl,h.tl,h.vl,h.lf⟩
 ·unfold vw at hd;obtain ⟨s,e,hd⟩:=obb hd;have less:Ex (rs (AD D A) G) (rs (λb=>D b\/b=a) G):=zh λb z=>by
   rcases z with z|z
   ·exact .inl z
   ·subst z;exact .inr ⟨l,h.al⟩
  cases s with
  |un=>cases hd
  |sh d'=>
   cases hd;obtain ⟨t,b,c⟩:=h.r.sh i _ e;exact ⟨t,b,c.up less⟩
  |ow ds=>
   cases hd;obtain ⟨p,xs,b,c,g,f⟩:=h.r.ow i _ e;refine ⟨_,c,.lst ?_ (f.up less)⟩;rw [zX]
   ·exact g
   ·rintro (z|z)
    ·exact h.r.nd b z
    ·subst z;have:=h.r.inj i l _ b h.al;subst this;rw [h.ul] at e;cases e
  |dc kvs=>cases hd
 ·rcases hb with hb|hb
  ·exact h.r.domD b hb
  ·subst hb;exact YK h.lf
def qkT {m:List Bool} (hm:mkb m l=false) (al:A l=some a):Ad m A l=some a:=by unfold Ad;rw [if_neg (by rw [hm];simp)];exact al
def RL.dem (h:RL l a z0 D G0 A τ ρ G n) {m:List Bool} (hm:mkb m l=false):RL l a z0 D G0 (Ad m A) τ (Pu.dm m ρ) G n:=
 ⟨h.r.dem m,qkT hm h.al,h.tl,by rw [D0,h.ul];simp [hm],h.lf,h.tz⟩
def RL.ln (h:RL l a z0 D G0 A τ ρ G n) {m:List Bool} {fv:List Nat} (hm:mkb m l=false) (hf:Tru (fv.all (mkb m))):Ln fv l (AD D (Ad m A)) G τ ρ a n:=
 ⟨h.r.viewD hf,(h.r.dem m).dom,.inr ⟨l,qkT hm h.al⟩,h.tl,h.vl,h.lf⟩
def RL.put (h:RL l a z0 D G0 A τ ρ G n) {i:Nat} (hi:i≠l) (h0:i≠0) {x:T} {d:PyData} (hx:Dq (rs (AD D A) G) x d):RL l a z0 D G0 (Er A i) (τ.set i (some x)) (ρ.set i (.sh d)) G n:=
 ⟨h.r.put i hx,by unfold Er;rw [if_neg (λz=>hi z.symm)];exact h.al,by rw [getElem?_set,if_neg hi];exact h.tl,by rw [getElem?_set,if_neg hi];exact h.ul,h.lf,⟨by rw [getElem?_set,if_neg h0];exact h.tz.1,by rw [List.length_set];exact h.tz.2⟩⟩
def RL.puts:∀ {ts:List (Nat×T)} {bs:List (Nat×PyData)} {A:Nat->Option Addr} {τ:St3} {ρ:Rho},RL l a z0 D G0 A τ ρ G n->Bd (rs (AD D A) G) ts bs->(∀ p∈bs,p.1≠l/\p.1≠0)->∃ A',RL l a z0 D G0 A' (sets τ ts) (J9 ρ bs) G n
 |_,_,A,_,_,h,.nil,_=>⟨A,h⟩
 |_,_,A,_,_,h,.cons x b,hn=>by
  unfold sets J9;exact RL.puts (h.put (hn _ List.mem_cons_self).1 (hn _ List.mem_cons_self).2 x) (b.up qfp) (λp hp=>hn p (List.mem_cons_of_mem _ hp))
def RL.putN (h:RL l a z0 D G0 A τ ρ G n) {i:Nat} (hi:i≠l) (h0:i≠0) {x:T} {d:PyData} {ds:List PyData} (hd:d=.list ds) (E:Ext a G G') (lf:Lf G' a n') (hx:Nw (AD D A) G G' x d):∃ A',RL l a z0 D G0 A' (τ.set i (some x)) (ρ.set i (.ow ds)) G' n':=by
 have h1:=h.up E lf;rcases hx with hx|⟨p,xs,ds',rfl,e',gp,gp',hs⟩
 ·rw [hd] at hx;cases hx
 rw [hd] at e';cases e';have np:∀ {j q},A j=some q->q≠p:=λe=>by rintro rfl;exact h.r.da _ _ e gp
 have X1:Ex (rs (AD D A) G) (rs (AD D (λj=>if j=i then some p else A j)) G'):=λb o e=>by
  obtain ⟨n,e⟩:=qt e;rw [zX]
  ·exact E b o (by rintro rfl;exact n (.inr ⟨l,h.al⟩)) e
  ·rintro (z|⟨j,z⟩)
   ·exact n (.inl z)
   ·simp only at z;split at z
    ·cases z;rw [gp] at e;cases e
    ·exact n (.inr ⟨j,z⟩)
 refine ⟨λj=>if j=i then some p else A j,⟨h1.r.ex,h.r.dm,λj q e=>?_,λj q e=>?_,λj k q x y=>?_,by simp [h.r.len],λj e he=>?_,λj es e=>?_,λj es e=>?_⟩,by rw [if_neg (λz=>hi z.symm)];exact h.al,by rw [getElem?_set,if_neg hi];exact h.tl,by rw [getElem?_set,if_neg hi];exact h.ul,lf,⟨by rw [getElem?_set,if_neg h0];exact h.tz.1,by rw [List.length_set];exact h.tz.2⟩⟩
 ·split at e
  ·cases e;cases z:G0 p with
   |none=>rfl
   |some o=>rw [h.r.ex _ _ z] at gp;cases gp
  ·exact h.r.fr j q e
 ·split at e
  ·cases e;rw [gp'];simp
  ·exact h1.r.da j q e
 ·split at x
  ·cases x;split at y
   ·rename_i h1 h2;rw [h1,h2]
   ·exact absurd rfl (np y)
  ·split at y
   ·cases y;exact absurd rfl (np x)
   ·exact h.r.inj j k q x y
 ·rw [getElem?_set] at he ⊢;split at he
  ·split at he<;>cases he
  ·rename_i hj;rw [if_neg hj];obtain ⟨t,b,c⟩:=h.r.sh j _ he;exact ⟨t,b,c.up X1⟩
 ·rw [getElem?_set] at e ⊢;split at e
  ·rename_i hj;subst hj;split at e
   ·rename_i hl;cases e;refine ⟨p,xs,by simp,by rw [if_pos rfl,if_pos (by rw [← h.r.len];exact hl)],gp',hs.up (zh λb z=>?_)⟩;rcases z with z|⟨j,z⟩
    ·exact .inl (.inl z)
    ·simp only at z;split at z
     ·cases z;exact .inr rfl
     ·exact .inl (.inr ⟨j,z⟩)
   ·cases e
  ·rename_i hj;rw [if_neg hj];obtain ⟨q,ys,b,c,g,f⟩:=h1.r.ow j _ e;obtain ⟨q',ys',b',c',g',f'⟩:=h.r.ow j _ e;rw [b] at b';cases b';have:G' q=some (.lst ys'):=E q _ (by rintro rfl;have:=h.r.inj j l _ b h.al;subst this;rw [h.ul] at e;cases e) g';exact ⟨q,ys',by rw [if_neg (λz=>hj z.symm)];exact b,c,this,f'.up X1⟩
 ·rw [getElem?_set] at e ⊢;split at e
  ·split at e<;>cases e
  ·rename_i hj;rw [if_neg hj];obtain ⟨q,ys,b,c,g,k,f⟩:=h.r.dc j _ e;have:G' q=some (.dct ys):=E q _ (by rintro rfl;have:=h.r.inj j l _ b h.al;subst this;rw [h.ul] at e;cases e) g;exact ⟨q,ys,by rw [if_neg (λz=>hj z.symm)];exact b,c,this,k,f.up X1⟩
def RL.wr (h:RL l a z0 D G0 A τ ρ G n) {i:Nat} {p:Addr} {xs:List T} {ds ds0:List PyData} (ho:ρ[i]?=some (Sl.ow ds0)) (hi:A i=some p) (ht:τ[i]?=some (some (.ref p))) (hs:Dqs (rs (AD D A) G) xs ds):RL l a z0 D G0 A τ (ρ.set i (.ow ds)) (gu G p (.lst xs)) n:=by
 have il:i≠l:=by rintro rfl;rw [h.ul] at ho;cases ho
 have pa:p≠a:=by rintro rfl;exact il (h.r.inj i l _ hi h.al)
 exact ⟨h.r.wr hi ht hs,h.al,h.tl,by rw [getElem?_set,if_neg il];exact h.ul,h.lf.new pa,h.tz⟩
end
abbrev QO:=Ot->Nat->Prop
def SD (l:Nat) (a:Addr) (z0:Option (Option T)×Nat) (D:Addr->Prop) (G0:Gp) (e:Ends3):Ot->Nat->Prop
 |.nx ρ,n=>∀ A τ G,RL l a z0 D G0 A τ ρ G n->e.nx τ G
 |.bk ρ,n=>∀ A τ G,RL l a z0 D G0 A τ ρ G n->e.bk τ G
 |.ct ρ,n=>∀ A τ G,RL l a z0 D G0 A τ ρ G n->e.ct τ G
 |.rt d fr,n=>∀ x G,Ex G0 G->Lf G a n->Dq (rs (λb=>D b\/b=a) G) x d->(fr=true->Nw (λb=>D b\/b=a) G0 G x d)->e.rt x G
structure PwS (l:Nat) (t:TS3) where
 w:Rho->Nat->QO->Prop
 mono:∀ {ρ n} {Q Q':QO},w ρ n Q->(∀ o m,Q o m->Q' o m)->w ρ n Q'
 ok:∀ {a z0 D G0 A τ ρ G n} {e:Ends3} {Q:QO},RL l a z0 D G0 A τ ρ G n->w ρ n Q->(∀ o m,Q o m->SD l a z0 D G0 e o m)->t e τ G
section
variable {l:Nat}
def YX:PwS l zf:=⟨λρ n Q=>Q (.nx ρ) n,λh k=>k _ _ h,λh hw k=>k _ _ hw _ _ _ h⟩
def sqw (b:Rho->Nat->QO->Prop) (Q:QO):QO:=λo n=>match o with|.nx ρ'=>b ρ' n Q|o=>Q o n
def UR {t u:TS3} (x:PwS l t) (y:PwS l u):PwS l (qU t u):=⟨λρ n Q=>x.w ρ n (sqw y.w Q),λh k=>x.mono h λo m h=>by
  cases o with
  |nx ρ=>exact y.mono h k
  |bk ρ=>exact k _ _ h
  |ct ρ=>exact k _ _ h
  |rt d f=>exact k _ _ h,λh hw k=>x.ok h hw λo m h=>by
  cases o with
  |nx ρ=>exact λA τ G r=>y.ok r h k
  |bk ρ=>exact k _ _ h
  |ct ρ=>exact k _ _ h
  |rt d f=>exact k _ _ h⟩
def wIf {c:TT3} {t u:TS3} (pc:PwC l c) (x:PwS l t) (y:PwS l u):PwS l (ZF c t u):=⟨λρ n Q=>pc.w ρ n λk n1=>if k then x.w ρ n1 Q else y.w ρ n1 Q,λh k=>pc.mono h λj m h=>by
  cases j with
  |true=>rw [if_pos rfl] at h ⊢;exact x.mono h k
  |false=>exact y.mono h k,λh hw k=>pc.ok (h.all _) hw λj G1 n1 hj E1 L1=>by
  cases j with
  |true=>rw [if_pos rfl] at hj ⊢;exact x.ok (h.up E1 L1) hj k
  |false=>exact y.ok (h.up E1 L1) hj k⟩
def qbY {a:Addr} {z0:Option (Option T)×Nat} {D:Addr->Prop} {G0 G G':Gp} {A:Nat->Option Addr} {τ:St3} {ρ:Rho} {n:Nat} (h:RL l a z0 D G0 A τ ρ G n) (e:Ext a G G'):Ex G0 G':=λb o x=>e b o (by rintro rfl;rw [h.r.fr l _ h.al] at x;cases x) (h.r.ex b o x)
def CB {t:TE3} (x:PwE l t):PwS l (zI t):=⟨λρ n Q=>x.w ρ n λd n1=>Q (.rt d x.nw) n1,λh k=>x.mono h λd m h=>k _ _ h,λh hw k=>x.ok (h.all _) hw λy d G1 n1 hq E1 L1 D1 N1=>k _ _ hq y G1 (qbY h E1) L1 D1 λz=>(N1 z).back h.r.ex⟩
def qfi {t:TE3} (x:PwE l t) (i:Nat) (m:List Bool) (hm:Tru (x.fv.all (mkb m))) (hl:Tru (!mkb m l&&(i != l&&i != 0))):PwS l (zG t (gn3 i)):=⟨λρ n Q=>x.w ρ n λd n1=>Q (.nx (S7 m x.nw i d ρ)) n1,λh k=>x.mono h λd m h=>k _ _ h,λ{a z0 D G0 A τ ρ G n e Q} h hw k=>by
 have hl':mkb m l=false/\i≠l/\i≠0:=by simpa using hl.h
 refine x.ok (h.ln hl'.1 hm) hw λy d G1 n1 hq E1 L1 D1 N1=>?_;have k:=k _ _ hq;unfold S7 at k;show e.nx (τ.set i (some y)) G1;split at k
 ·rename_i hs;exact k _ _ _ ((h.up E1 L1).put hl'.2.1 hl'.2.2 (VM D1 hs))
 ·split at k
  ·rename_i hn;have N:=N1 hn;rcases id N with h2|⟨p,xs,ds,h1,h2,_⟩
   ·exact absurd h2 (by assumption)
   subst h2;obtain ⟨A',r⟩:=(h.dem hl'.1).putN hl'.2.1 hl'.2.2 rfl E1 L1 N;exact k _ _ _ r
  ·exact k _ _ _ (((h.dem hl'.1).up E1 L1).put hl'.2.1 hl'.2.2 D1)⟩
def qhh {t:TE3} {g:TG3} (x:PwE l t) (pg:PuG g) (m:List Bool) (hm:Tru (x.fv.all (mkb m))) (hl:Tru (!mkb m l&&pg.tg.all (λi=>i != l&&i != 0))):PwS l (zG t g):=⟨λρ n Q=>x.w ρ n λd n1=>∃ bs,pg.f d=some bs/\Q (.nx (J9 (dm m ρ) bs)) n1,λh k=>x.mono h λd m ⟨bs,h1,h2⟩=>⟨bs,h1,k _ _ h2⟩,λ{a z0 D G0 A τ ρ G n e Q} h hw k=>by
 have hl':mkb m l=false/\∀ i∈pg.tg,i≠l/\i≠0:=by simpa using hl.h
 refine x.ok (h.ln hl'.1 hm) hw λy d G1 n1 ⟨bs,e2,hq⟩ E1 L1 D1 N1=>?_;obtain ⟨ts,bd,kg⟩:=pg.ok D1 e2;refine kg _ _ _ ?_;obtain ⟨A',h'⟩:=((h.dem hl'.1).up E1 L1).puts bd (λp hp=>hl'.2 _ (pg.at' e2 p hp));exact k _ _ hq _ _ _ h'⟩
def qjE {t:TA3} (x:PwA l t) (i j:Nat) (m:List Bool) (hm:Tru (x.fv.all (mkb m))) (hl:Tru (!mkb m l&&((i != l&&i != 0)&&(j != l&&j != 0)))):PwS l (M9 i j t):=⟨λρ n Q=>x.w ρ n λds n1=>∃ o,qeL i j m ds ρ=some o/\Q o n1,λh k=>x.mono h λd m ⟨bs,h1,h2⟩=>⟨bs,h1,k _ _ h2⟩,λ{a z0 D G0 A τ ρ G n e Q} h hw k=>by
 have hl':mkb m l=false/\(i≠l/\i≠0)/\j≠l/\j≠0:=by simpa using hl.h
 refine x.ok (h.ln hl'.1 hm) hw λy d G1 n1 ⟨o,e2,hq⟩ hlen E1 L1 D1=>?_;unfold qeL at e2;split at e2
 ·cases D1 with
  |cons x1 b=>cases b with
   |cons x2 c=>
    cases c;split at e2
    ·rename_i hs;cases e2;rw [Bool.and_eq_true] at hs;exact k _ _ hq _ _ _ (((h.up E1 L1).put hl'.2.1.1 hl'.2.1.2 (VM x1 hs.1)).put hl'.2.2.1 hl'.2.2.2 (VM x2 hs.2))
    ·cases e2;exact k _ _ hq _ _ _ ((((h.dem hl'.1).up E1 L1).put hl'.2.1.1 hl'.2.1.2 x1).put hl'.2.2.1 hl'.2.2.2 (x2.up qfp))
 ·cases e2⟩
def RL.evalS {a:Addr} {z0:Option (Option T)×Nat} {D:Addr->Prop} {G0 G:Gp} {A:Nat->Option Addr} {τ:St3} {ρ:Rho} {n:Nat} (h:RL l a z0 D G0 A τ ρ G n) {t:TE3} (x:PwE l t) (m:List Bool) (hm:Tru (x.fv.all (mkb m))) (hl:mkb m l=false) {Q:QD} (hw:x.w ρ n Q) (q:Q3) (k:∀ y d G' n' A1,Q d n'->RL l a z0 D G0 A1 τ (dmS m d ρ) G' n'->Ext a G G'->Dq (rs (AD D A1) G') y d->q y G'):t τ G q:=by
 refine x.ok (h.ln hl hm) hw λy d G1 n1 hq E1 L1 D1 _=>?_;by_cases hs:SQ d=true
 ·exact k y d G1 n1 A hq (by unfold dmS;rw [if_pos hs];exact h.up E1 L1) E1 (VM D1 hs)
 ·exact k y d G1 n1 _ hq (by unfold dmS;rw [if_neg hs];exact (h.dem hl).up E1 L1) E1 D1
def LA (gf:PyData->Option (List (Nat×PyData))) (bw:Rho->Nat->QO->Prop):List PyData->Rho->Nat->QO->Prop
 |[],ρ,n,Q=>Q (.nx ρ) n
 |d::r,ρ,n,Q=>∃ bs,gf d=some bs/\bw (J9 ρ bs) n λo n1=>match o with
  |.nx ρ'=>LA gf bw r ρ' n1 Q
  |.ct ρ'=>LA gf bw r ρ' n1 Q
  |.bk ρ'=>Q (.nx ρ') n1
  |.rt d b=>Q (.rt d b) n1
def JY {g:TG3} {tb:TS3} (pg:PuG g) (pb:PwS l tb):∀ {ds:List PyData} {ρ:Rho} {n:Nat} {Q Q':QO},LA pg.f pb.w ds ρ n Q->(∀ o m,Q o m->Q' o m)->LA pg.f pb.w ds ρ n Q'
 |[],_,_,_,_,h,k=>k _ _ h
 |d::r,_,_,_,_,⟨bs,e,h⟩,k=>⟨bs,e,pb.mono h λo m h=>by
   cases o with
   |nx ρ=>exact JY pg pb h k
   |ct ρ=>exact JY pg pb h k
   |bk ρ=>exact k _ _ h
   |rt d b=>exact k _ _ h⟩
def V5 {stay:Gp->Prop} {g:TG3} {tb:TS3} {e:Ends3} (pg:PuG g) (pb:PwS l tb) {a:Addr} {z0:Option (Option T)×Nat} {D:Addr->Prop} {G0:Gp} {Q:QO} (hl:∀ i∈pg.tg,i≠l/\i≠0) (hs:∀ A τ ρ G n,RL l a z0 D G0 A τ ρ G n->stay G) (k:∀ o m,Q o m->SD l a z0 D G0 e o m) :
  ∀ (ds:List PyData) (items:List T),(∀ A τ ρ G n,RL l a z0 D G0 A τ ρ G n->Dqs (rs (AD D A) G) items ds)->∀ A τ ρ G n,RL l a z0 D G0 A τ ρ G n->LA pg.f pb.w ds ρ n Q->UC stay g tb e items τ G
 |[],items,hi,A,τ,ρ,G,n,h,hw=>by
  have:=hi _ _ _ _ _ h;cases this;exact ⟨hs _ _ _ _ _ h,k _ _ hw _ _ _ h⟩
 |d::ds,items,hi,A,τ,ρ,G,n,h,⟨bs,e1,hw⟩=>by
  have hh:=hi _ _ _ _ _ h;cases hh with
  |cons hx hr=>
   rename_i x items;obtain ⟨ts,bd,kg⟩:=pg.ok hx e1;refine ⟨hs _ _ _ _ _ h,kg _ _ _ ?_⟩;obtain ⟨A',h'⟩:=h.puts bd λp hp=>hl _ (pg.at' e1 p hp);have hi':∀ A τ ρ G n,RL l a z0 D G0 A τ ρ G n->Dqs (rs (AD D A) G) items ds:=λA τ ρ G n h=>by
    have:=hi _ _ _ _ _ h;cases this with
    |cons a b=>exact b
   refine pb.ok h' hw λo m hq=>?_;cases o with
   |nx ρ'=>exact λA2 τ2 G2 h2=>V5 pg pb hl hs k ds items hi' _ _ _ _ _ h2 hq
   |ct ρ'=>exact λA2 τ2 G2 h2=>V5 pg pb hl hs k ds items hi' _ _ _ _ _ h2 hq
   |bk ρ'=>exact k _ _ hq
   |rt d fr=>exact k _ _ hq
def RL.base {a:Addr} {z0:Option (Option T)×Nat} {D:Addr->Prop} {G0 Gb G:Gp} {A:Nat->Option Addr} {τ:St3} {ρ:Rho} {n:Nat} (h:RL l a z0 D Gb A τ ρ G n) (e:Ex G0 Gb) (hd:Dom D G0):RL l a z0 D G0 A τ ρ G n:=⟨h.r.base e hd,h.al,h.tl,h.ul,h.lf,h.tz⟩
def SD.base {a:Addr} {z0:Option (Option T)×Nat} {D:Addr->Prop} {G0 Gb:Gp} {e:Ends3} {o:Ot} {n:Nat} (h:SD l a z0 D G0 e o n) (x:Ex G0 Gb) (hd:Dom D G0):SD l a z0 D Gb e o n:=by
 cases o with
 |nx ρ=>exact λA τ G r=>h A τ G (r.base x hd)
 |bk ρ=>exact λA τ G r=>h A τ G (r.base x hd)
 |ct ρ=>exact λA τ G r=>h A τ G (r.base x hd)
 |rt d fr=>exact λy G p q r z=>h y G (x.trans p) q r λw=>(z w).back x
def qhY {wi:TI3} {g:TG3} {tb:TS3} (pi:PwI l wi) (pg:PuG g) (pb:PwS l tb) (m:List Bool) (hm:Tru (pi.fv.all (mkb m))) (hl:Tru (!mkb m l&&pg.tg.all (λi=>i != l&&i != 0))):PwS l (X2 wi g tb):=⟨λρ n Q=>pi.w ρ n λds n1=>LA pg.f pb.w ds (if pi.nm then ρ else dm m ρ) n1 Q,λh k=>pi.mono h λd m h=>JY pg pb h k,λ{a z0 D G0 A τ ρ G n e Q} h hw k=>by
 have hl':mkb m l=false/\∀ i∈pg.tg,i≠l/\i≠0:=by simpa using hl.h
 refine pi.ok (h.ln hl'.1 hm) hw λitems stay ds G1 n1 hq E1 L1 D1 hs hnm=>?_;cases hb:pi.nm with
 |true=>
  rw [hb,if_pos rfl] at hq;obtain ⟨ns,rfl⟩:=hnm hb;have:=D1.ints;subst this;exact V5 pg pb hl'.2 (λ_ _ _ _ _ _=>hs _ (.inl hb)) k _ _ (λA τ ρ G _ _=>Dqs.ofInts _) _ _ _ _ _ (h.up E1 L1) hq
 |false=>
  rw [hb,if_neg Bool.false_ne_true] at hq;have h1:=(h.dem hl'.1).up E1 L1;have b1:Ex G0 (rs (λb=>∃ i,Ad m A i=some b) G1):=λb o e=>by
   rw [zX]
   ·exact h1.r.ex _ _ e
   ·rintro ⟨i,z⟩;rw [h1.r.fr i _ z] at e;cases e
  have h2:RL l a z0 D (rs (λb=>∃ i,Ad m A i=some b) G1) (Ad m A) τ (dm m ρ) G1 n1:=⟨⟨JX,h.r.dm.up b1,λi p z=>by unfold rs;exact zn ⟨i,z⟩,h1.r.da,h1.r.inj,h1.r.len,h1.r.sh,h1.r.ow,h1.r.dc⟩,h1.al,h1.tl,h1.ul,h1.lf,h1.tz⟩
  have X:∀ A2 τ2 ρ2 G2,RS D (rs (λb=>∃ i,Ad m A i=some b) G1) A2 τ2 ρ2 G2->Ex (rs (AD D (Ad m A)) G1) (rs (AD D A2) G2):=λA2 τ2 ρ2 G2 r b o e=>by
   obtain ⟨n1,e⟩:=qt e;have eb:rs (λb=>∃ i,Ad m A i=some b) G1 b=some o:=by rw [zX (λz=>n1 (.inr z))];exact e
   rw [zX]
   ·exact r.ex _ _ eb
   ·rintro (z|⟨i,z⟩)
    ·exact n1 (.inl z)
    ·rw [r.fr i _ z] at eb;cases eb
  exact V5 pg pb hl'.2 (λA2 τ2 ρ2 G2 n2 r=>hs _ (.inr ((X _ _ _ _ r.r).trans JX))) (λo m hq=>(k o m hq).base b1 h.r.dm) _ _ (λA2 τ2 ρ2 G2 n2 r=>D1.up (X _ _ _ _ r.r)) _ _ _ _ _ h2 hq⟩
end
def DSp (W:List PyData->Nat->QD->Prop) (fr:Bool):Sp3:=λts G q=>∃ (D:Addr->Prop) (a:Addr) (n:Nat) (ts':List T) (ds:List PyData) (Q:QD),ts=.ref a::ts'/\Lf G a n/\D a/\Dom D G/\Dqs (rs D G) ts' ds/\W ds n Q/\∀ x d G' n',Q d n'->Ext a G G'->Lf G' a n'->Dq (rs D G') x d->(fr=true->Nw D G G' x d)->q x G'
structure Wm where
 W:List PyData->Nat->QD->Prop
 mono:∀ {ds n} {Q Q':QD},W ds n Q->(∀ d m,Q d m->Q' d m)->W ds n Q'
def dSp (w:Wm) (fr:Bool):DrD (DSp w.W fr):=⟨w.W,fr,w.mono,λ{D G a n ts ds q Q} lf da hd hs hw k=>⟨D,a,n,ts,ds,Q,rfl,lf,da,hd,hs,hw,k⟩⟩
def qha (fr:Bool) (Q:QD):QO:=λo n=>match o with
 |.rt d b=>(fr=true->b=true)/\∃ m,n<=m/\Q d m
 |.nx _=>fr=false/\∃ m,n<=m/\Q .none m
 |_=>False
def qhX {t:TS3} (b:PwS 0 t) (k N:Nat) (fr:Bool):Wm:=⟨λds n Q=>ds.length+1=k/\b.w (.un::(ds.map Sl.sh++List.replicate (N-(ds.length+1)) .un)) n (qha fr Q),λ⟨h1,h2⟩ k=>⟨h1,b.mono h2 λo m h=>by
 cases o with
 |rt d f=>obtain ⟨h1,m,h2,h3⟩:=h;exact ⟨h1,m,h2,k _ _ h3⟩
 |nx ρ=>obtain ⟨h1,m,h2,h3⟩:=h;exact ⟨h1,m,h2,k _ _ h3⟩
 |bk ρ=>exact h
 |ct ρ=>exact h⟩⟩
def DP {t:TS3} (b:PwS 0 t) (N:List Str) (k:Nat) (fr:Bool):∀ ts G q,DSp (qhX b k N.length fr).W fr ts G q->ts.length=k/\t { nx:=λ_ G'=>q .non G',rt:=q } (ql N ts) G:=by
 rintro ts G q ⟨D,a,n,ts',ds,Q,rfl,lf,da,hd,hs,⟨hk,hw⟩,h⟩;refine ⟨by simp [hs.length];omega,?_⟩;have DD:∀ b,(D b/\b≠a)\/b=a↔D b:=λb=>by
  by_cases e:b=a
  ·subst e;simp [da]
  ·simp [e]
 have rr:∀ H,rs (λb=>(D b/\b≠a)\/b=a) H=rs D H:=λH=>by
  have:(λb=>(D b/\b≠a)\/b=a)=D:=funext λb=>propext (DD b);rw [this]
 have ad:AD (λb=>D b/\b≠a) (λi=>if i=0 then some a else none)=D:=funext λb=>propext ⟨(λz=>by
   rcases z with z|⟨i,z⟩
   ·exact z.1
   ·simp only at z;split at z
    ·cases z;exact da
    ·cases z),(λz=>by
   by_cases e:b=a
   ·subst e;exact .inr ⟨0,rfl⟩
   ·exact .inl ⟨z,e⟩)⟩
 have ga:G a≠none:=YK lf;have r:RL 0 a (some (some (.ref a)),(ql N (.ref a::ts')).length) (λb=>D b/\b≠a) (rs (λb=>b=a) G) (λi=>if i=0 then some a else none) (ql N (.ref a::ts')) (.un::(ds.map Sl.sh++List.replicate (N.length-(ds.length+1)) .un)) G n:=by
  refine ⟨⟨JX,λb hb=>by rw [zX (D:=λb=>b=a) hb.2];exact hd b hb.1,λi p e=>?_,λi p e=>?_,λi j p e e'=>?_,by simp [ql,hs.length],λi d' e=>?_,λi es e=>?_,λi es e=>?_⟩,rfl,by simp [ql],rfl,lf,⟨by simp [ql],rfl⟩⟩
  ·split at e
   ·cases e;unfold rs;exact zn rfl
   ·cases e
  ·split at e
   ·cases e;exact ga
   ·cases e
  ·split at e
   ·split at e'
    ·rename_i h1 h2;rw [h1,h2]
    ·cases e'
   ·cases e
  ·rw [ad];cases i with
   |zero=>cases e
   |succ i=>
    rw [getElem?_cons_succ] at e;by_cases hi:i<ds.length
    ·rw [List.getElem?_append_left (by simpa using hi),getElem?_map] at e;obtain ⟨d2,e3,e4⟩:=Option.map_eq_some_iff.mp e;cases e4;obtain ⟨x,e5,hx⟩:=hs.get e3;refine ⟨x,?_,hx⟩;unfold ql;rw [List.getElem?_append_left (by simp [hs.length];exact hi),getElem?_map,getElem?_cons_succ,e5];rfl
    ·rw [List.getElem?_append_right (by simpa using hi),List.getElem?_replicate] at e;split at e<;>cases e
  ·cases i with
   |zero=>cases e
   |succ i=>
    rw [getElem?_cons_succ] at e;by_cases hi:i<ds.length
    ·rw [List.getElem?_append_left (by simpa using hi),getElem?_map] at e;obtain ⟨d2,e3,e4⟩:=Option.map_eq_some_iff.mp e;cases e4
    ·rw [List.getElem?_append_right (by simpa using hi),List.getElem?_replicate] at e;split at e<;>cases e
  ·cases i with
   |zero=>cases e
   |succ i=>
    rw [getElem?_cons_succ] at e;by_cases hi:i<ds.length
    ·rw [List.getElem?_append_left (by simpa using hi),getElem?_map] at e;obtain ⟨d2,e3,e4⟩:=Option.map_eq_some_iff.mp e;cases e4
    ·rw [List.getElem?_append_right (by simpa using hi),List.getElem?_replicate] at e;split at e<;>cases e
 have xe:∀ {G'},Ex (rs (λb=>b=a) G) G'->Ext a G G':=λe b o n x=>e b o (by rw [zX (D:=λb=>b=a) n];exact x);refine b.ok r hw λo m hq=>?_;cases o with
 |rt d f=>
  intro x G' E L Dx0 N;have Dx:=Dx0;rw [rr] at Dx;obtain ⟨hq1,m2,hm,hq2⟩:=hq;refine h x d G' m2 hq2 (xe E) (L.mono (by omega)) Dx λz=>?_;rcases N (hq1 z) with h2|⟨p,xs,ds',h1,h2,c,g,f'⟩
  ·exact .inl h2
  have np:p≠a:=by
   rintro rfl;rw [h1] at Dx0;cases Dx0 with
   |lst g0 _=>exact (qt g0).1 (.inr rfl)
  refine .inr ⟨p,xs,ds',h1,h2,by rw [zX (D:=λb=>b=a) np] at c;exact c,g,f'.up (zh λb z=>?_)⟩;rcases z with z|z
  ·exact .inl ((DD b).mpr z)
  ·exact .inr z
 |nx ρ=>
  obtain ⟨hq1,m2,hm,hq2⟩:=hq;exact λA τ G' r'=>h .non .none G' m2 hq2 (xe r'.r.ex) (r'.lf.mono (by omega)) .non λz=>by rw [hq1] at z;cases z
 |bk ρ=>exact hq.elim
 |ct ρ=>exact hq.elim
def okW:QO:=λo _=>match o with|.nx _=>True|.ct _=>True|_=>False
def qkM (K:Int):TE3:=o3 JE (c3 (.int 1)) (cb3 qe4 (qc (c3 (.int K)) (qc (cb3 Z6 (qc (v3 0) qk)) qk)))
def qgc {i:Nat} {τ:St3} {t:T} {G:Gp} {q:Q3} (h:τ[i]?=some (some t)):v3 i τ G q=q t G:=by unfold v3;rw [h]
def qk4 (K:Int) (R:TS3):TS3:=qU (X2 (ZU (qc (qkM K) qk)) (gn3 1) (qU (zG (cb3 Bk.jJ (qc (v3 0) (qc (v3 1) qk))) (gn3 2)) R)) (zI (c3 (.bl true)))
def LI {R:TS3} (b:PwS 2 R) (N:List Str) (K:Int) (M:Nat) (hK:0<=K/\K<=60) (hN:N.length=M+3) (h:∀ k:Nat,k<=60->b.w ([.un,.sh (.int k),.un]++List.replicate M .un) 0 okW):∀ ts G q,VO ts G q->ts.length=1/\qk4 K R { nx:=λ_ G'=>q .non G',rt:=q } (ql N ts) G:=by
 rintro ts G q ⟨a,ns,rfl,hG,hl,hq⟩;refine ⟨rfl,?_⟩;have s0:(ql N [T.ref a])[0]?=some (some (.ref a)):=by simp [ql]
 have gl:getL G a=some (ns.map T.int):=by unfold getL;rw [hG]
 simp only [qk4,qU,X2,ZU,qkM,qc,qk,o3,c3,cb3,v3,s0,Z6,gl,qe4,JE,length_map];have cnt:((1+(if ((ns.length:Nat):Int)<K then ((ns.length:Nat):Int) else K)).toNat)<=61:=by split<;>omega
 refine ⟨⟨by split<;>omega,by split<;>omega⟩,?_⟩;refine T3 _ (λ_ τ G'=>G' a=some (.frz (ns.map T.int))/\τ[0]?=some (some (.ref a))/\τ.length=M+3) ⟨hG,s0,by simp [ql,hN]⟩ (λ_ _ _ _ _=>True.intro) ?_ ?_
 ·rintro i z τ G' nx hz ⟨gA,t0,tl⟩ hn;obtain ⟨hi,rfl⟩:=qbr hz;have hi2:i<=60:=by omega
  have t1:(τ.set 1 (some (T.int (0+(i:Int)))))[0]?=some (some (.ref a)):=by rw [getElem?_set,if_neg (by omega)];exact t0
  have t2:(τ.set 1 (some (T.int (0+(i:Int)))))[1]?=some (some (T.int (0+(i:Int)))):=by rw [getElem?_set,if_pos rfl,if_pos (by omega)]
  show v3 0 (τ.set 1 (some (T.int (0+(i:Int))))) G' (λx G1=>v3 1 (τ.set 1 (some (T.int (0+(i:Int))))) G1 λy G2=>Bk.jJ [x,y] G2 λz G3=>R _ ((τ.set 1 (some (T.int (0+(i:Int))))).set 2 (some z)) G3);rw [qgc t1,qgc t2];refine ⟨a,_,ns,rfl,gA,hl,by omega,by omega,λp o c hp ho=>?_⟩;have pa:a≠p:=by rintro rfl;rw [gA] at hp;cases hp
  have r:RL 2 p (some (some (.ref a)),M+3) (λ_=>False) G' (λj=>if j=2 then some p else none) ((τ.set 1 (some (T.int (0+(i:Int))))).set 2 (some (.ref p))) ([.un,.sh (.int i),.un]++List.replicate M .un) (gu G' p (.lst [.int o,.int c,.int 0])) 0:=by
   refine ⟨⟨jn hp,λb z=>z.elim,λj q e=>?_,λj q e=>?_,λj k q e e'=>?_,by simp [tl],λj d e=>?_,λj ds e=>?_,λj ds e=>?_⟩,rfl,by rw [getElem?_set,if_pos rfl,if_pos (by simp;omega)],rfl,⟨o,c,0,qC,ho,by omega,by omega⟩,⟨by rw [getElem?_set,if_neg (by omega)];exact t1,by simp [tl]⟩⟩
   ·split at e
    ·cases e;exact hp
    ·cases e
   ·split at e
    ·cases e;rw [qC];simp
    ·cases e
   ·split at e
    ·split at e'
     ·rename_i h1 h2;rw [h1,h2]
     ·cases e'
    ·cases e
   ·match j,e with
    |0,e=>cases e
    |1,e=>
     cases e;refine ⟨.int (0+(i:Int)),by rw [getElem?_set,if_neg (by omega)];exact t2,?_⟩;rw [Int.zero_add];exact .int _
    |2,e=>cases e
    |j+3,e=>
     simp only [cons_append,List.nil_append,getElem?_cons_succ,List.getElem?_replicate] at e;split at e<;>cases e
   ·match j,e with
    |0,e=>cases e
    |1,e=>cases e
    |2,e=>cases e
    |j+3,e=>
     simp only [cons_append,List.nil_append,getElem?_cons_succ,List.getElem?_replicate] at e;split at e<;>cases e
   ·match j,e with
    |0,e=>cases e
    |1,e=>cases e
    |2,e=>cases e
    |j+3,e=>
     simp only [cons_append,List.nil_append,getElem?_cons_succ,List.getElem?_replicate] at e;split at e<;>cases e
  refine b.ok r (h i hi2) λo' m ho'=>?_;cases o' with
  |nx ρ'=>exact λA τ' G2 r2=>hn _ _ ⟨r2.r.ex _ _ gA,r2.tz.1,r2.tz.2⟩
  |ct ρ'=>exact λA τ' G2 r2=>hn _ _ ⟨r2.r.ex _ _ gA,r2.tz.1,r2.tz.2⟩
  |bk ρ'=>exact ho'.elim
  |rt d f=>exact ho'.elim
 ·rintro τ G' ⟨gA,t0,tl⟩;exact hq G'
def qir {G:Gp} {ts:List T} {i:Int} (h:Dqs G ts [.int i]):ts=[.int i]:=by
 cases h with
 |cons a b=>cases b;cases a;rfl
def lfc {G:Gp} {a:Addr} {n c:Nat} (h:Lf G a ((n:Int)+(c:Int))):Lf G a ((n+c:Nat):Int):=by rw [Int.natCast_add];exact h
def YJ:DrD Bk.qQ:=⟨λds n Q=>∃ m:Int,ds=[.int m]/\(1<=m/\m<1073741824)/\n<1000000000/\∀ d:Int,0<=d->d<m->Q (.int d) (n+1),false,
 λ⟨m,h1,h2,h3,h4⟩ k=>⟨m,h1,h2,h3,λd x y=>k _ _ (h4 d x y)⟩,λ{D G a n ts ds q Q} lf da hd hs ⟨m,h1,h2,h3,h4⟩ k=>by
 subst h1;have:=qir hs;subst this;exact ⟨a,n,m,rfl,h2.1,h2.2,lf,by omega,λd G' x y L E=>k _ _ G' (n+1) (h4 d x y) E (lfc (c:=1) L) (.int d) (λz=>by cases z)⟩⟩
def qgq {l:Nat} {t:TE3} {b:PuE t}:(eOf (l:=l) b).w=λρ n Q=>∃ d,b.f ρ=some d/\Q d n:=id rfl
def qgL {l:Nat} {t:TT3} {b:PuC t}:(cOf (l:=l) b).w=λρ n Q=>∃ d,b.f ρ=some d/\Q d n:=id rfl
def qge {l:Nat} {t:TA3} {b:PuA t}:(aOf (l:=l) b).w=λρ n Q=>∃ d,b.f ρ=some d/\Q d n:=id rfl
def qdY {l:Nat} {t:TI3} {b:PuI t}:(iOf (l:=l) b).w=λρ n Q=>∃ d,b.f ρ=some d/\Q d n:=id rfl
def qkO {l:Nat} {r:R3} {ta tb:TE3} {R:OpD r} {a:PwE l ta} {b:PwE l tb}:(eO R a b).w=λρ n Q=>a.w ρ n λx n1=>b.w ρ n1 λy n2=>∃ v,R.f x y=some v/\Q v n2:=id rfl
def SW {l:Nat} {ta:TE3} {tr:TA3} {a:PwE l ta} {r:PwA l tr}:(D5 a r).w=λρ n Q=>a.w ρ n λx n1=>r.w ρ n1 λxs n2=>Q (x::xs) n2:=id rfl
def qad {l:Nat} {t:TA3} {b:PwA l t} {hn:Tru (Nat.ble b.k 1000)}:(qim b hn).w=λρ n Q=>b.w ρ n λxs n1=>Q (.tuple xs) n1:=id rfl
def KB {l:Nat} {r:List T->Gp->Q3->Prop} {t:TA3} {R:FnD r} {b:PwA l t}:(qc5 R b).w=λρ n Q=>b.w ρ n λxs n1=>∃ v,R.f xs=some v/\Q v n1:=id rfl
def qgC {l:Nat} {r:List T->Gp->Q3->Prop} {t:TA3} {R:DrD r} {b:PwA l t}:(eDr R b).w=λρ n Q=>b.w ρ n λxs n1=>R.W xs n1 Q:=id rfl
def qfX {l:Nat} {t:TT3} {ta tb:TE3} {c:PwC l t} {a:PwE l ta} {b:PwE l tb}:(eIf c a b).w=λρ n Q=>c.w ρ n λk n1=>if k then a.w ρ n1 Q else b.w ρ n1 Q:=id rfl
def M7 {l:Nat} {t:TI3} {b:PuI t}:(iOf (l:=l) b).nm=b.nm:=id rfl
def qam {l:Nat} {t:TE3} {b:PuE t}:(eOf (l:=l) b).nw=b.nw:=id rfl
def qgT {l:Nat} {r:R3} {ta tb:TE3} {R:OpD r} {a:PwE l ta} {b:PwE l tb}:(eO R a b).nw=R.nw:=id rfl
def WO {l:Nat} {r:List T->Gp->Q3->Prop} {t:TA3} {R:FnD r} {b:PwA l t}:(qc5 R b).nw=R.nw:=id rfl
def NM {l:Nat} {r:List T->Gp->Q3->Prop} {t:TA3} {R:DrD r} {b:PwA l t}:(eDr R b).nw=R.nw:=id rfl
def qaG {l:Nat} {t:TT3} {ta tb:TE3} {c:PwC l t} {a:PwE l ta} {b:PwE l tb}:(eIf c a b).nw=false:=id rfl
def TQ {l:Nat}:(YX (l:=l)).w=λρ n Q=>Q (.nx ρ) n:=id rfl
def W0 {b:Rho->Nat->QO->Prop} {Q:QO} {ρ:Rho} {n:Nat}:sqw b Q (.nx ρ) n=b ρ n Q:=id rfl
def MY {b:Rho->Nat->QO->Prop} {Q:QO} {d:PyData} {f:Bool} {n:Nat}:sqw b Q (.rt d f) n=Q (.rt d f) n:=id rfl
def qfF {l:Nat} {c:TT3} {t u:TS3} {pc:PwC l c} {x:PwS l t} {y:PwS l u}:(wIf pc x y).w=λρ n Q=>pc.w ρ n λk n1=>if k then x.w ρ n1 Q else y.w ρ n1 Q:=id rfl
def M6 {l:Nat} {t:TE3} {x:PwE l t}:(CB x).w=λρ n Q=>x.w ρ n λd n1=>Q (.rt d x.nw) n1:=id rfl
def qaF {l:Nat} {t:TE3} {x:PwE l t} {i:Nat} {m:List Bool} {hm:Tru (x.fv.all (mkb m))} {hl:Tru (!mkb m l&&(i != l&&i != 0))}:(qfi x i m hm hl).w=λρ n Q=>x.w ρ n λd n1=>Q (.nx (S7 m x.nw i d ρ)) n1:=id rfl
def KD {l:Nat} {t:TE3} {g:TG3} {x:PwE l t} {pg:PuG g} {m:List Bool} {hm:Tru (x.fv.all (mkb m))} {hl:Tru (!mkb m l&&pg.tg.all (λi=>i != l&&i != 0))}:(qhh x pg m hm hl).w=λρ n Q=>x.w ρ n λd n1=>∃ bs,pg.f d=some bs/\Q (.nx (J9 (dm m ρ) bs)) n1:=id rfl
def qa0 {l:Nat} {t:TA3} {x:PwA l t} {i j:Nat} {m:List Bool} {hm:Tru (x.fv.all (mkb m))} {hl:Tru (!mkb m l&&((i != l&&i != 0)&&(j != l&&j != 0)))}:(qjE x i j m hm hl).w=λρ n Q=>x.w ρ n λds n1=>∃ o,qeL i j m ds ρ=some o/\Q o n1:=id rfl
def qap {l:Nat} {wi:TI3} {g:TG3} {tb:TS3} {pi:PwI l wi} {pg:PuG g} {pb:PwS l tb} {m:List Bool} {hm:Tru (pi.fv.all (mkb m))} {hl:Tru (!mkb m l&&pg.tg.all (λi=>i != l&&i != 0))}:(qhY pi pg pb m hm hl).w=λρ n Q=>pi.w ρ n λds n1=>LA pg.f pb.w ds (if pi.nm then ρ else dm m ρ) n1 Q:=id rfl
def TF {ds:List PyData} {n:Nat} {Q:QD}:YJ.W ds n Q=(∃ m:Int,ds=[.int m]/\(1<=m/\m<1073741824)/\n<1000000000/\∀ d:Int,0<=d->d<m->Q (.int d) (n+1)):=id rfl
def qhk {w:Wm} {fr:Bool}:(dSp w fr).W=w.W:=id rfl
def NR {w:Wm} {fr:Bool}:(dSp w fr).nw=fr:=id rfl
def C9 {Q:QD} {d:PyData} {b:Bool} {n:Nat}:qha false Q (.rt d b) n=∃ m,n<=m/\Q d m:=propext ⟨λh=>h.2,λh=>⟨λz=>(Bool.false_ne_true z).elim,h⟩⟩
def NA {ρ:Rho} {n:Nat}:okW (.nx ρ) n=True:=id rfl
def qhu {α:Type} {v:α} {P:α->Prop}:(∃ d,some v=some d/\P d)=P v:=propext ⟨λ⟨d,h1,h2⟩=>by cases h1;exact h2,λh=>⟨v,rfl,h⟩⟩
def qaL {v:Int} {P:Int->Prop}:(∃ m:Int,[PyData.int v]=[.int m]/\P m)=P v:=propext ⟨λ⟨d,h1,h2⟩=>by cases h1;exact h2,λh=>⟨v,rfl,h⟩⟩
def QE {l:Nat} {t u:TS3} {x:PwS l t} {y:PwS l u} {ρ:Rho} {n:Nat} {Q:QO} (h:∀ Y:Rho->Nat->QO->Prop,Y=y.w->x.w ρ n (sqw Y Q)):(UR x y).w ρ n Q:=h _ rfl
structure Mn (bw:Rho->Nat->QO->Prop):Prop where
 h:∀ ρ n (Q Q':QO),bw ρ n Q->(∀ o m,Q o m->Q' o m)->bw ρ n Q'
def PwS.mn {l:Nat} {t:TS3} (b:PwS l t):Mn b.w:=⟨λ_ _ _ _ h k=>b.mono h k⟩
section
variable {l:Nat} {g:TG3} {tb:TS3}
def UM {gf:PyData->Option (List (Nat×PyData))} {bw:Rho->Nat->QO->Prop} {α:Type} {f:α->PyData} (xs:List α) (mono:Mn bw) (I:Nat->Rho->Nat->Prop) {ρ:Rho} {n:Nat} {Q:QO} (h0:I 0 ρ n)
  (hs:∀ i x ρ n,xs[i]?=some x->I i ρ n->∃ bs,gf (f x)=some bs/\bw (J9 ρ bs) n λo m=>match o with|.nx ρ'=>I (i+1) ρ' m|.ct ρ'=>I (i+1) ρ' m|.bk ρ'=>Q (.nx ρ') m|.rt d b=>Q (.rt d b) m)
  (k:∀ ρ n,I xs.length ρ n->Q (.nx ρ) n):LA gf bw (xs.map f) ρ n Q:=by
 have key:∀ (r:List α) (i:Nat) (ρ:Rho) (n:Nat),xs.drop i=r->i<=xs.length->I i ρ n->LA gf bw (r.map f) ρ n Q:=by
  intro r;induction r with
  |nil=>
   intro i ρ n e hi h;have:i=xs.length:=by
    have:=congrArg List.length e;simp at this;omega
   subst this;exact k ρ n h
  |cons x r ih=>
   intro i ρ n e hi h;have hl:i<xs.length:=by
    have:=congrArg List.length e;simp at this;omega
   have e':=List.drop_eq_getElem_cons hl;rw [e] at e';injection e' with e1 e2;obtain ⟨bs,h1,h2⟩:=hs i x ρ n (by rw [getElem?_eq_getElem hl,e1]) h;refine ⟨bs,h1,mono.h _ _ _ _ h2 λo m h=>?_⟩;cases o with
   |nx ρ'=>exact ih (i+1) ρ' m e2.symm hl h
   |ct ρ'=>exact ih (i+1) ρ' m e2.symm hl h
   |bk ρ'=>exact h
   |rt d b=>exact h
 exact key xs 0 ρ n (by simp) (Nat.zero_le _) h0
end
def C0 {α β:Type} {x:α} {f:α->Option β}:(some x).bind f=f x:=id rfl
def qah {α β:Type} {x:α} {f:α->β}:(some x).map f=some (f x):=id rfl
def qeZ {α:Type} {x:α} {r:List α}:(x::r).length=r.length+1:=id rfl
def qey {α:Type}:([]:List α).length=0:=id rfl
def qfL {α:Type} {x y:α} {r:List α}:(x::r).set 0 y=y::r:=id rfl
def qgN {α:Type} {x y:α} {r:List α} {i:Nat}:(x::r).set (i+1) y=x::r.set i y:=id rfl
def qdV {α:Type} {r:List α}:r++[]=r:=List.append_nil r
def qdH {α:Type} {x:α} {r s:List α}:(x::r)++s=x::(r++s):=id rfl
def qgX {α:Type} {s:List α}:[]++s=s:=id rfl
def qhL {n:Nat}:0+n=n:=Nat.zero_add n
def qg3 {α:Type} {a b:α} {i:Decidable True}:@ite α True i a b=a:=if_pos trivial
def qgU {α:Type} {a b:α} {i:Decidable False}:@ite α False i a b=b:=if_neg not_false
def qer:(false=true)=False:=Bool.false_eq_true
def qgw:(!true)=false:=id rfl
def qfD:(!false)=true:=id rfl
def qgK {i:Decidable True}:@decide True i=true:=decide_true i
def qhq {i:Decidable False}:@decide False i=false:=decide_false i
def ai{a b:Prop}(x:a)(y:b):a/\b:=⟨x,y⟩
def pwA:=(ai (ai (ai (ai (ai (ai (ai @Pu.qgq @Pu.qgL) (ai @Pu.qge (ai @Pu.qdY @Pu.qkO))) (ai (ai @Pu.SW @Pu.qad) (ai @Pu.KB (ai @Pu.qgC @Pu.qfX)))) (ai (ai (ai @Pu.M7 @Pu.qam) (ai @Pu.qgT (ai @Pu.WO @Pu.NM))) (ai (ai @Pu.qaG (ai @Pu.TQ @Pu.W0)) (ai @Pu.MY (ai @Pu.qfF @Pu.M6))))) (ai (ai (ai (ai @Pu.qaF @Pu.KD) (ai @Pu.qa0 (ai @Pu.qap @Pu.TF))) (ai (ai @Pu.qhk @Pu.NR) (ai @Pu.C9 (ai @Pu.NA @Pu.qaL)))) (ai (ai (ai @Pu.qd2 @Pu.qle) (ai @Pu.qal (ai @Pu.qed @Pu.qaC))) (ai (ai @Pu.qa9 (ai @Pu.qkV @Pu.MV)) (ai @Pu.SC (ai @Pu.qaT @Pu.MR)))))) (ai (ai (ai (ai (ai @Pu.KK @Pu.qgO) (ai @Pu.qgs (ai @Pu.qbm @Pu.qg2))) (ai (ai @Pu.TM @Pu.SO) (ai @Pu.qba (ai @Pu.qai @Pu.qdz)))) (ai (ai (ai @Pu.qfY @Pu.qdC) (ai @Pu.M3 (ai @Pu.qa5 @Pu.qbl))) (ai (ai @Pu.qa7 (ai @Pu.CY @Pu.qgS)) (ai @Pu.qgW (ai @Pu.qe1 @Pu.N4))))) (ai (ai (ai (ai @Pu.TL @Pu.RK) (ai @Pu.qaN (ai @Pu.qa2 @Pu.TC))) (ai (ai @Pu.qaZ @Pu.qbi) (ai @Pu.N5 (ai @Pu.TZ @Pu.SE)))) (ai (ai (ai @Pu.qkN @Pu.qaY) (ai @Pu.RD (ai @Pu.NU @Pu.S9))) (ai (ai @Pu.qa8 (ai @Pu.qdx @Pu.qaS)) (ai @Pu.TH (ai @Pu.qat @Pu.R7))))))) (ai (ai (ai (ai (ai (ai @Pu.NQ @Pu.qgJ) (ai @Pu.qfx (ai @Pu.qav @Pu.qd3))) (ai (ai @Pu.SZ @Pu.XO) (ai @Pu.WU (ai @Pu.WJ @Pu.NC)))) (ai (ai (ai @Pu.RU @Pu.SM) (ai @Pu.WV (ai @Pu.TK @Pu.qaW))) (ai (ai @Pu.qlk (ai @Pu.qk5 @Pu.qeO)) (ai @Pu.qea (ai @Pu.CW @Pu.MZ))))) (ai (ai (ai (ai @Pu.qg1 @Pu.qdF) (ai @Pu.at0 (ai @Pu.at3 @Pu.eqI))) (ai (ai @Pu.eqB @Pu.qkI) (ai @Pu.qbb (ai @Pu.NG @Pu.qbg)))) (ai (ai (ai @Pu.TV @Pu.MT) (ai @Pu.qgn (ai @Pu.qgB @Pu.M8))) (ai (ai @Pu.NK (ai @Pu.NX @Pu.qan)) (ai @Pu.Y9 (ai @Pu.qaB @Pu.NO)))))) (ai (ai (ai (ai (ai @Pu.qd7 @Pu.qhR) (ai @Pu.qeN (ai @Pu.qeq @Pu.qdN))) (ai (ai @Pu.qew @Pu.qbn) (ai @Pu.qeH (ai @Pu.qhn @Pu.NT)))) (ai (ai (ai @Pu.qfb @Pu.qk0) (ai @Pu.qkW (ai @Pu.qlg @Pu.qeA))) (ai (ai @Pu.qhN (ai @Pu.qeV @Pu.qdA)) (ai @Pu.qdq (ai @Pu.qlb @Pu.qhO))))) (ai (ai (ai (ai @Pu.NL @Pu.qaK) (ai @Pu.M0 (ai @Pu.qhu @Pu.C0))) (ai (ai @Pu.qah @Pu.qeZ) (ai @Pu.qey (ai @Pu.qfL @Pu.qgN)))) (ai (ai (ai @Pu.qdV @Pu.qdH) (ai @Pu.qgX (ai @Pu.qhL @Pu.qg3))) (ai (ai @Pu.qgU (ai @Pu.qer @Pu.qgw)) (ai @Pu.qfD (ai @Pu.qgK @Pu.qhq))))))))
end Pu
namespace Bk
open PySem L2 L3
end Bk
namespace Pu
open PySem L2 L3
open Bk (Lf Ext)
def the (S:PyData->Prop):Option PyData:=@dite _ (∃ v,S v) (Classical.propDecidable _) (λh=>some (Classical.choose h)) λ_=>none
end Pu
namespace Pu
open PySem L2 L3
def qbH (st:Bool):List PyData->Option PyData
 |[.none]=>some (.str "None")
 |[.bool b]=>some (.str (if b=true then Str.ofString "True" else Str.ofString "False"))
 |[.int i]=>cif (i.natAbs.log2<1920) (some (.str (Str.ofString (toString i)))) none
 |[.str x]=>match st with
  |true=>some (.str x)
  |false=>cif ((reprText x).length<=sizeLine) (some (.str (reprText x))) none
 |[.list ds]=>cif (ShW (.list ds)) (some (.str (PyData.list ds).shown)) none
 |[.tuple ds]=>cif (ShW (.tuple ds)) (some (.str (PyData.tuple ds).shown)) none
 |_=>none
def QC {α:Type} {c:Prop} {x:α} {d:α} (h:cif c (some x) none=some d):c/\x=d:=by
 unfold cif at h;split at h
 ·rename_i z;exact ⟨z,Option.some.inj h⟩
 ·cases h
def qf0 (st:Bool):FnD (LH st):=⟨qbH st,false,λ{D G xs ds v q} hx hd hf k=>by
 cases hx with
 |nil=>cases hf
 |cons a b=>
  cases b with
  |cons b1 b2=>cases a<;>cases hf
  |nil=>
   have dp:=(a.up JX).dp;have fin:∀ (x:Str) {w:PyData},w=v->w=.str x->q (.str x) G:=λx w e1 e2=>k _ _ Ex.refl (by rw [← e1,e2];exact .str _) (λz=>by cases z);cases a with
   |non=>exact fin _ (Option.some.inj hf) rfl
   |bl b=>exact fin _ (Option.some.inj hf) rfl
   |int i=>exact ⟨(QC hf).1,fin _ (QC hf).2 rfl⟩
   |str x=>
    cases st with
    |true=>exact fin _ (Option.some.inj hf) rfl
    |false=>exact ⟨(QC hf).1,fin _ (QC hf).2 rfl⟩
   |tup hs=>exact ⟨_,dp,(QC hf).1,fin _ (QC hf).2 rfl⟩
   |lst g hs=>exact ⟨_,dp,(QC hf).1,fin _ (QC hf).2 rfl⟩⟩
def qbP {st:Bool}:(qf0 st).f=qbH st:=id rfl
def log2_lt {n k:Nat} (h:n<2 ^ k) (hk:0<k):n.log2<k:=by
 rcases Nat.eq_zero_or_pos n with z|z
 ·subst z;simpa using hk
 ·exact (Nat.log2_lt (by omega)).mpr h
def qfP {st:Bool} {i:Int} (h:-1000000000<=i/\i<=1000000000):qbH st [.int i]=some (.str (Str.ofString (toString i))):=zn (Nat.lt_of_lt_of_le (log2_lt (k:=30) (by omega) (by decide)) (by decide))
def MU:∀ ks:List Int,qcs (ks.map PyData.int)=0
 |[]=>rfl
 |k::ks=>by simp only [map_cons,qcs,dpt,MU ks];rfl
def qfS:∀ ks js:List Int,j1 (ks.map PyData.int) (js.map PyData.int)=some (decide (ks=js))
 |[],[]=>rfl
 |[],_::_=>by simp [j1]
 |_::_,[]=>by simp [j1]
 |k::ks,j::js=>by
  simp only [map_cons,j1,zo,qfS ks js];congr 1;by_cases h1:k=j<;>by_cases h2:ks=js<;>simp [h1,h2]
def RX (n:Bool) (ks js:List Int):eqD n (.list (ks.map PyData.int)) (.list (js.map PyData.int))=some (.bool (if n then !decide (ks=js) else decide (ks=js))):=by
 have h:K0 (.list (ks.map PyData.int)) (.list (js.map PyData.int))=none:=rfl;unfold eqD;rw [h];simp only;rw [zn (by simp [dpt,MU])];simp only [zo,qfS,Option.map_some]
def VH {ds:List PyData} {r:Int} (h0:0<=r) (h1:r<(ds.length:Int)):∃ v∈ds,L2.atI ds r=some v:=by
 obtain ⟨j,rfl⟩:=Int.eq_ofNat_of_zero_le h0;have hj:j<ds.length:=by omega
 exact ⟨ds[j],List.getElem_mem hj,by rw [atN hj,getElem?_eq_getElem hj]⟩
def ssD (d:PyData) (l k:Option Int):Option PyData:=match d,l with
 |.list xs,some i=>cif (k=some 2/\0<=i/\i<=xs.length) (some (.list (ev (xs.drop i.toNat)))) none
 |_,_=>none
def Dqs.ev {G:Gp}:∀ {xs:List T} {ds:List PyData},Dqs G xs ds->Dqs G (L3.ev xs) (L3.ev ds)
 |_,_,.nil=>by simp only [L3.ev];exact .nil
 |_,_,.cons r .nil=>by simp only [L3.ev];exact .cons r .nil
 |_,_,.cons r (.cons _ t)=>by simp only [L3.ev];exact .cons r (Dqs.ev t)
def qkQ {te:TE3} {tl tk:TO3} (a:PuE te) (l:PuO tl) (h:PuO tk):PuE (qiC te tl tk):=⟨λρ=>(a.f ρ).bind λd=>(l.f ρ).bind λlo=>(h.f ρ).bind λhi=>ssD d lo hi,a.fv++(l.fv++h.fv),false,λhv hd hf k=>by
 obtain ⟨d,e1,hf⟩:=obb hf;obtain ⟨lo,e2,hf⟩:=obb hf;obtain ⟨hi,e3,hf⟩:=obb hf;refine a.ok hv.l hd e1 λx' G1 E1 D1 _=>l.ok (hv.r.l.up E1) (hd.up E1) e2 λG2 E2=>h.ok (hv.r.r.up (E1.trans E2)) (hd.up (E1.trans E2)) e3 λG3 E3=>?_;have E:=(E1.trans E2).trans E3;have D3:=(D1.up (jr E2)).up (jr E3);unfold ssD at hf;cases D3 with
 |lst g hs=>
  cases lo with
  |none=>simp at hf
  |some i=>
  simp only [cif] at hf;split at hf
  ·rename_i c;cases hf;refine ⟨c.1,?_⟩;simp only [zb (qt g).2];refine ⟨c.2.1,by rw [hs.length];exact c.2.2,λp hp=>?_⟩;exact k _ _ (E.trans (jn hp)) (ZD (hd.up E) hp (hs.drop _).ev) (λz=>by cases z)
  ·cases hf
 |_=>simp at hf⟩
def qgu {te:TE3} {tl th:TO3} {a:PuE te} {l:PuO tl} {h:PuO th} {ρ:Rho}:(qkQ a l h).f ρ=(a.f ρ).bind λd=>(l.f ρ).bind λlo=>(h.f ρ).bind λhi=>ssD d lo hi:=id rfl
def qlA {xs:List PyData} {i:Nat} (h:i<=xs.length):ssD (.list xs) (some (i:Int)) (some 2)=some (.list (ev (xs.drop i))):=by
 refine (zn ⟨rfl,by omega,by omega⟩).trans ?_;rw [Int.toNat_natCast]
open Bk (Lf Ext)
def qi3 {m:List Bool} {ρ:Rho} {i:Nat}:vw (dm m ρ) i=vw ρ i:=by
 unfold vw;rw [D0];cases ρ[i]? with
 |none=>rfl
 |some s=>
  simp only [Option.map_some,Option.bind_some];split
  ·cases s<;>rfl
  ·rfl
def qhD {l:Nat} {t1 t2:TE3} (a:PuE t1) (b:PuE t2) (i j:Nat) (m:List Bool) (ha:Tru a.nw) (hb:Tru b.nw) (h1:Tru (a.fv.all (mkb m))) (h2:Tru (b.fv.all (mkb m))) (hi:Tru (b.fv.all (· != i))) (hl:Tru (!mkb m l&&((i != l&&i != 0)&&(j != l&&j != 0)))):PwS l (M9 i j (qc t1 (qc t2 qk))):=
 ⟨λρ n Q=>∃ ds es,a.f ρ=some (.list ds)/\b.f ρ=some (.list es)/\Q (.nx ((dm m ((dm m ρ).set i (.ow ds))).set j (.ow es))) n,λ⟨ds,es,x,y,z⟩ k=>⟨ds,es,x,y,k _ _ z⟩,λ{a0 z0 D G0 A τ ρ G n e Q} h ⟨ds,es,e1,e2,hq⟩ k=>by
 have hl':mkb m l=false/\(i≠l/\i≠0)/\j≠l/\j≠0:=by simpa using hl.h
 have hd:=h.dem hl'.1;unfold M9 qc;refine a.ok (h.r.viewD h1) hd.r.dom e1 λx G1 E1 D1 N1=>?_;obtain ⟨A1,r1⟩:=hd.putN hl'.2.1.1 hl'.2.1.2 rfl (Bk.Z9 E1) (h.lf.ex E1) (N1 ha.h);have V:=r1.r.viewD h2;refine b.ok (D:=AD D (Ad m A1)) (λv hv d hd'=>?_) (r1.r.dem m).dom e2 λy G2 E2 D2 N2=>?_
 ·have vi:v≠i:=by simpa using List.all_eq_true.mp hi.h v hv
  have e3:vw ((dm m ρ).set i (.ow ds)) v=some d:=by
   have:vw ((dm m ρ).set i (.ow ds)) v=vw (dm m ρ) v:=by
    unfold vw;rw [getElem?_set,if_neg (λz=>vi z.symm)]
   rw [this,qi3];exact hd'
  obtain ⟨t,y1,y2⟩:=V v hv d e3;rw [getElem?_set,if_neg (λz=>vi z.symm)] at y1;exact ⟨t,y1,y2⟩
 ·obtain ⟨A2,r2⟩:=(r1.dem hl'.1).putN hl'.2.2.1 hl'.2.2.2 rfl (Bk.Z9 E2) (r1.lf.ex E2) (N2 hb.h);exact k _ _ hq _ _ _ r2⟩
def qc9 {l:Nat} {t1 t2:TE3} {a:PuE t1} {b:PuE t2} {i j:Nat} {m:List Bool} {ha:Tru a.nw} {hb:Tru b.nw} {h1:Tru (a.fv.all (mkb m))} {h2:Tru (b.fv.all (mkb m))} {hi:Tru (b.fv.all (· != i))} {hl:Tru (!mkb m l&&((i != l&&i != 0)&&(j != l&&j != 0)))}:(qhD (l:=l) a b i j m ha hb h1 h2 hi hl).w=λρ n Q=>∃ ds es,a.f ρ=some (.list ds)/\b.f ρ=some (.list es)/\Q (.nx ((dm m ((dm m ρ).set i (.ow ds))).set j (.ow es))) n:=id rfl
end Pu
namespace Pu
open PySem L2 L3
section
variable {D:Addr->Prop} {G0 G G':Gp} {A A':Nat->Option Addr} {τ:St3} {ρ:Rho}
end
def XU (d:PyData) (es:List PyData):Option PyData:=match d,es with
 |.tuple ds,[.int k]=>(QB ds).bind λns=>if k∈ns then some (.int (List.idxOf k ns:Nat)) else none
 |_,_=>none
def qc6 {te:TE3} {t:TA3} (b:PuE te) (a:PuA t):PuE (KU te t):=⟨λρ=>(b.f ρ).bind λd=>(a.f ρ).bind λes=>XU d es,b.fv++a.fv,false,λhv hd hf k=>by
 obtain ⟨d,e1,hf⟩:=obb hf;obtain ⟨es,e2,hf⟩:=obb hf;unfold XU at hf;split at hf
 ·obtain ⟨ns,e3,hf⟩:=obb hf;split at hf
  ·rename_i hk;cases hf;have:=UJ e3;subst this;refine b.ok hv.l hd e1 λx G1 E1 D1 _=>?_;cases D1 with
   |tup hs=>
    have:=hs.ints;subst this;refine ⟨trivial,a.ok (hv.r.up E1) (hd.up E1) e2 λys G2 E2 D2=>?_⟩;cases D2 with
    |cons y1 y2=>
     cases y1;cases y2;simp only [U4];exact ⟨hk,k _ _ (E1.trans E2) (.int _) (λz=>by cases z)⟩
  ·cases hf
 ·cases hf⟩
def DH {te:TE3} {t:TA3} {b:PuE te} {a:PuA t}:(qc6 b a).f=λρ=>(b.f ρ).bind λd=>(a.f ρ).bind λes=>XU d es:=id rfl
def qcG {ns:List Int} {k:Int} (h:k∈ns):XU (.tuple (ns.map PyData.int)) [.int k]=some (.int (List.idxOf k ns:Nat)):=by
 simp only [XU,YB,Option.bind_some,if_pos h]
def qb4 (d:PyData):Option PyData:=match d with
 |.int k=>if 0<=k/\k<=1000000 then some (.list ((List.range k.toNat).map λ(i:Nat)=>PyData.int (i:Int))) else none
 |_=>none
def UE {G:Gp}:∀ xs:List Nat,Dqs G (xs.map λ(i:Nat)=>T.int (i:Int)) (xs.map λ(i:Nat)=>PyData.int (i:Int))
 |[]=>.nil
 |x::xs=>.cons (.int _) (UE xs)
def qh3 {te:TE3} (a:PuE te):PuE (YF te):=⟨λρ=>(a.f ρ).bind qb4,a.fv,true,λ{D τ ρ G q d} hv hd hf k=>by
 obtain ⟨x,e1,hf⟩:=obb hf;unfold qb4 at hf;split at hf
 ·split at hf
  ·rename_i n hb;cases hf;refine a.ok hv hd e1 λx G1 E1 D1 _=>?_;cases D1;refine ⟨hb,λp gp=>?_⟩;have hdp:¬ D p:=λz=>(hd.up E1) p z gp;refine k _ _ (E1.trans (jn gp)) (.lst (by rw [zX hdp];exact qC) (UE _)) λ_=>.inr ⟨p,_,_,rfl,rfl,?_,qC,UE _⟩;cases z:G p with
   |none=>rfl
   |some o=>rw [E1 _ _ z] at gp;cases gp
  ·cases hf
 ·cases hf⟩
def RZ {te:TE3} {a:PuE te}:(qh3 a).f=λρ=>(a.f ρ).bind qb4:=id rfl
def evI (lo:Int) (n:Nat):List Int:=(List.range n).map λ(i:Nat)=>lo+(i:Int)*2
def qjp (lo:Int) (n:Nat):evT lo n=(evI lo n).map T.int:=by simp [evT,evI,map_map,Function.comp_def]
def evD:List PyData->Option (List PyData)
 |[.int i,.int j,.int k]=>cif (k=2/\(-(2 ^ 62)<=i/\i<2 ^ 62/\-(2 ^ 62)<=j/\j<2 ^ 62)) (some ((evI i ((j-i+1)/2).toNat).map PyData.int)) none
 |_=>none
def iEv {t:TA3} (a:PuA t):PuI (qiz t):=⟨λρ=>(a.f ρ).bind evD,a.fv,true,λ{D τ ρ G r ds} hv hd hf k=>by
 obtain ⟨d,e1,hf⟩:=obb hf;refine a.ok hv hd e1 λx G1 E1 D1=>?_;unfold evD at hf;split at hf
 ·unfold cif at hf;split at hf
  ·rename_i c;cases hf;cases D1 with
   |cons a b=>cases b with
    |cons a2 b=>cases b with
     |cons a3 b=>
      cases b;cases a;cases a2;cases a3;simp only;rw [qjp];exact ⟨c.1,c.2,k _ _ _ E1 (Dqs.ofInts _) (λ_ _=>trivial) λ_=>⟨_,rfl⟩⟩
  ·cases hf
 ·cases hf⟩
def qjc {t:TA3} {a:PuA t}:(iEv a).f=λρ=>(a.f ρ).bind evD:=id rfl
def qjw {n:Int} (h:0<=n/\n<=1000):evD [.int 0,.int n,.int 2]=some ((evI 0 ((n-0+1)/2).toNat).map PyData.int):=zn (by omega)
def CS:List PyData->Option PyData
 |[.tuple xs]=>(QB xs).bind λns=>cif (ns.length<64) (some (.list ((srt ns).map PyData.int))) none
 |_=>none
def qcK:FnD VD:=⟨CS,true,λ{D G xs ds v q} hx hd hf k=>by
 unfold CS at hf;split at hf
 ·obtain ⟨ns,e,hf⟩:=obb hf;unfold cif at hf;split at hf
  ·rename_i c;cases hf;cases hx with
   |cons a b=>
    cases b;cases a;rename_i hs;have:=UJ e;subst this;have:=hs.ints;subst this;simp only [VD,U4];refine ⟨c,λl ms hl hp hs=>?_⟩;have:ms=srt ns:=UF (hp.trans (V8 ns).symm) hs (qab ns);subst this;exact k _ _ (jn hl) (ZD hd hl (Dqs.ofInts _)) λ_=>UU hl (Dqs.ofInts _)
  ·cases hf
 ·cases hf⟩
def SI:qcK.f=CS:=id rfl
def M1 {xs:List Int} (h:xs.length<64):CS [.tuple (xs.map PyData.int)]=some (.list ((srt xs).map PyData.int)):=by simp only [CS,YB,Option.bind_some];exact zn h
def qh6:List PyData->Option PyData
 |[.int k]=>cif (0<=k/\k<=1000000) (some (.tuple ((List.range k.toNat).map λ(i:Nat)=>PyData.int (i:Int)))) none
 |_=>none
def qi4:FnD qkD:=⟨qh6,false,λ{D G xs ds v q} hx hd hf k=>by
 unfold qh6 at hf;split at hf
 ·unfold cif at hf;split at hf
  ·rename_i c;cases hf;cases hx with
   |cons a b=>cases b;cases a;exact ⟨c,k _ _ Ex.refl (.tup (UE _)) λz=>by cases z⟩
  ·cases hf
 ·cases hf⟩
def qgb:qi4.f=qh6:=id rfl
def qbL:qi4.nw=false:=id rfl
def qek {k:Int} (h:0<=k/\k<=1000000):qh6 [.int k]=some (.tuple ((List.range k.toNat).map λ(i:Nat)=>PyData.int (i:Int))):=zn h
def EJ {G:Gp}:∀ {xs:List T} {ds:List PyData} (k:Nat),Dqs G xs ds->Dqs G (xs.eraseIdx k) (ds.eraseIdx k)
 |_,_,_,.nil=>by simp;exact .nil
 |_,_,0,.cons a b=>b
 |_,_,k+1,.cons a b=>.cons a (EJ k b)
def C6 {l:Nat} {t:TE3} (x:PwE l t) (i j:Nat) (m:List Bool) (hm:Tru (x.fv.all (mkb m))) (hl:Tru (!mkb m l)):PwS l (CP (bm3 qbU (v3 i) (qc (bm3 qda (v3 j) (qc t qk)) qk))):=
  ⟨λρ n Q=>i≠j/\∃ ds es,slot ρ i=some ds/\slot ρ j=some es/\ds.length<16777216/\x.w ρ n λd n1=>∃ (k:Nat) (e:PyData),d=.int (k:Int)/\es[k]?=some e/\Q (.nx ((ρ.set j (.ow (es.eraseIdx k))).set i (.ow (ds++[e])))) n1,
   λ⟨h0,ds,es,h1,h2,h3,h4⟩ k=>⟨h0,ds,es,h1,h2,h3,x.mono h4 λd n1 ⟨kk,e,a,b,c⟩=>⟨kk,e,a,b,k _ _ c⟩⟩,
   λ{a z0 D G0 A τ ρ G n e Q} h ⟨h0,ds,es,h1,h2,h3,hw⟩ k=>by
    have hl':mkb m l=false:=by simpa using hl.h
    obtain ⟨p,xs,b,c,g,f⟩:=h.r.ow i _ (QA h1);obtain ⟨p',ys,b',c',g',f'⟩:=h.r.ow j _ (QA h2);simp only [CP,bm3,v3,qc,c,c',zb g,zb g'];refine ⟨rfl,rfl,h.evalS x m hm hl' hw _ λy d G1 n1 A1 ⟨kk,e',hd,he,hq⟩ r E1 D1=>?_⟩;subst hd;cases D1;have r':RL l a z0 D G0 A1 τ ρ G1 n1:=r;obtain ⟨p1,xs1,b1,c1,g1,f1⟩:=r'.r.ow i _ (QA h1);obtain ⟨p2,ys2,b2,c2,g2,f2⟩:=r'.r.ow j _ (QA h2);rw [c] at c1;cases c1;rw [c'] at c2;cases c2;obtain ⟨t,ht,dt⟩:=f2.get he;simp only [qk,qda,g2,Int.toNat_natCast,ht];refine ⟨by omega,?_⟩;have r2:=r'.wr (QA h2) b2 c' (EJ kk f2);have X:Ex (rs (AD D A1) G1) (rs (AD D A1) (gu G1 p' (.lst (ys2.eraseIdx kk)))):=λb o hb=>by
      obtain ⟨nb,e⟩:=qt hb;rw [zX nb,je (λz=>nb (.inr ⟨j,by rw [z];exact b2⟩))];exact e
    have sl2:slot (ρ.set j (.ow (es.eraseIdx kk))) i=some ds:=by
      unfold slot;rw [List.getElem?_set_ne (Ne.symm h0)];exact h1
    obtain ⟨p3,xs3,b3,c3,g3,f3⟩:=r2.r.ow i _ (QA sl2);rw [c] at c3;cases c3;simp only [qbU,g3];exact ⟨by rw [f3.length,sizeLine_eq];exact h3,k _ _ hq _ _ _ (r2.wr (QA sl2) b3 c (f3.append (.cons (dt.up X) .nil)))⟩⟩
def SG {l:Nat} {t:TE3} {x:PwE l t} {i j:Nat} {m:List Bool} {hm:Tru (x.fv.all (mkb m))} {hl:Tru (!mkb m l)}:(C6 x i j m hm hl).w=λρ n Q=>i≠j/\∃ ds es,slot ρ i=some ds/\slot ρ j=some es/\ds.length<16777216/\x.w ρ n λd n1=>∃ (k:Nat) (e:PyData),d=.int (k:Int)/\es[k]?=some e/\Q (.nx ((ρ.set j (.ow (es.eraseIdx k))).set i (.ow (ds++[e])))) n1:=id rfl
end Pu
namespace Pv
open PySem L2 L3 Pu
def zJ {lo:Int} {n i:Nat} {x:Int} (h:(UO lo n)[i]?=some x):i<n/\x=lo+i:=by
 unfold UO at h;rw [getElem?_map] at h;obtain ⟨k,e1,e2⟩:=Option.map_eq_some_iff.mp h;obtain ⟨hl,hk⟩:=List.getElem?_eq_some_iff.mp e1;simp at hl hk;subst hk;exact ⟨hl,e2.symm⟩
def qW (lo:Int) (n:Nat):(UO lo n).length=n:=by simp [UO]
def LM {n m:Int} (hn:0<=n) (hm:0<=m):Builtin.bitAnd n m=2*Builtin.bitAnd (n/2) (m/2)+n%2*(m%2):=by
 rw [PySem.W.kbt_halves n m];have h1:n%2=0\/n%2=1:=by omega
 have h2:m%2=0\/m%2=1:=by omega
 rcases h1 with h1|h1<;>rcases h2 with h2|h2<;>simp [h1,h2]
def ML {x y:Int} (hx:0<=x) (hy:0<=y):0<=Builtin.bitXor x y/\Builtin.bitXor x y%2=(x%2+y%2)%2/\Builtin.bitXor x y/2=Builtin.bitXor (x/2) (y/2):=by
 have a:=LM hx hy;have b:=PyProof.Rows.bitXor_and x y;have c:=PyProof.Rows.bitXor_and (x/2) (y/2);have r:=PyProof.Rows.bitAnd_range (x/2) (show 0<=y/2 by omega);have r2:=PyProof.Rows.bitAnd_range (y/2) (show 0<=x/2 by omega);have h1:x%2=0\/x%2=1:=by omega
 have h2:y%2=0\/y%2=1:=by omega
 have p:x%2*(y%2)=0/\(x%2=0\/y%2=0)\/x%2*(y%2)=1/\x%2=1/\y%2=1:=by rcases h1 with h1|h1<;>rcases h2 with h2|h2<;>simp [h1,h2]
 have s:=PyProof.Rows.bitAnd_range x hy;have cm:Builtin.bitAnd x y=Builtin.bitAnd y x:=by
  have:=PyProof.Rows.bitXor_and y x;exact PyProof.Rows.bitAnd_comm x y
 have s2:=PyProof.Rows.bitAnd_range y hx;omega
end Pv
namespace Hd
open PySem L2 L3 PySem.W
def inC:Stmt->Stmt
 |.ClassDef _ _ _ (b::_) _ _ _ _ _ _ _=>b
 |s=>s
def oF (x:Str) (st:Stmt) (pm cd:Value):Obj:=⟨.type "function",none,.func (PySem.W.fnOf x x (zq st) (qH st) (qf st) .none .none .none pm none cd .none),#[]⟩
def oG (x:Str) (st:Stmt):Obj:=⟨.none,none,.func { name:=x,qualname:=x,params:=zq st,body:=.stmts (qH st),scope:=qf st,globals:=0,closure:=[],defaults:=.none,kwdefaults:=.none },#[]⟩
def oC (vs:List Value):Obj:=⟨.type "code",none,.fields vs.toArray,#[]⟩
def oT (vs:List Value):Obj:=⟨.type "tuple",none,.seq vs.toArray 0,#[]⟩
def eD (P:Params):Value×Value->DictEntry
 | (.str x t,v)=>⟨PyData.keyHash P x,.str x t,v⟩
 | (u,v)=>⟨0,u,v⟩
def oD (P:Params) (n:Nat) (es:List (Value×Value)):Obj:=⟨.type "dict",none,.dict (es.map (eD P)).toArray n,#[]⟩
def oK (x:Str) (t l n m:Nat) (a b:Addr) (u v z:Value) (e y q:Nat):Obj:=oC [.str x t,.str x (t+1),.str "/claim/cut.py" (t+2),.int l 0,.int n 0,.int 0 0,.int 0 0,.int 3 0,.ref a,.bool true,.int m 0,.ref b,u,v,z,.ref e,.int y 0,.int l 0,.str "/claim/cut.py" q]
def nmV:List Str->Nat->List Value
 |[],_=>[]
 |x::r,t=>.str x t::nmV r (t+1)
def oN (xs:List Str) (t:Nat):Obj:=oT (nmV xs t)
abbrev nd (o:Obj) (l r:PySem.W.BT):PySem.W.BT:=.node o l r
abbrev lf (o:Obj):PySem.W.BT:=.node o .nil .nil
def QX {K:Frg} (x:Str) (st:Stmt) (f:Addr) (pm cd:Value) (l:K.lookup f=some (oF x st pm cd)) (c:PySem.W.codeIn K cd x=true) (k:PySem.W.keepIn K (.ref f)=true) :
  Fun K x x st f (PySem.W.fnOf x x (zq st) (qH st) (qf st) .none .none .none pm none cd .none):=qfd l c k
def zF {K:Frg} {h:Heap} {mg:Str->Option Value} (X:K.In h) (G:h.Ns mainGlobals mg) (n:Str) (v:Value) (e:PySem.W.nsIn K mainGlobals n=some (some v)):mg n=some v:=PySem.W.mg_of X G e
def Q6 {K:Frg} {h:Heap} {mg:Str->Option Value} (X:K.In h) (G:h.Ns mainGlobals mg) (n:Str) (e:PySem.W.nsIn K mainGlobals n=some none):mg n=none:=PySem.W.mg_none_of X G e
def head {l:OpenLaw} {q:Program} {loose:List Str} {K:Params->Frag} {as:List Addr} {d:DefRec} {N:Nat} {k:Nat} {x:Str} (ha:∀ P,as=(K P).map (·.1))
  (ok:l.wellSaid=true)
  (left:LeftO l.prog q loose (λs=>xlAt q [] s&&recOk [] s) (λs=>as.map s.heap.get?) (λw=>(K w.params).map λp=>some p.2) N)
  (hdef:defOf q l.name=some (d,[])) (hp:l.prog.theDef l.name=some (d.params,d.body,d.scope)) (hk:kwWritten? d.params.kwonlyargs d.params.kw_defaults=some [])
  (hwr:(!l.row.writes||l.row.records.isEmpty)=true) (ok2:(chainsOk q&&opensWell l.prog&&(frees l.row.toRowW&&l.row.within.isEmpty))=true) (hb:l.prog.bare) (hw:l.row.toRowW.promised)
  (hn:l.most=some 63) (hdf:d.params.defaults=[]) (hr:Room k callerA) (hK:∀ w:World,ZR (K w.params)=true)
  (F:∀ (w:World) (mg:Str->Option Value) (fa:Addr) (h:Heap),(K w.params).In h->h.Ns mainGlobals mg->mg d.name=some (.ref fa) ->
   ∃ fd:FuncData,(∀ (s:Shared) (u:Value),BindsTo s fd ⟨[u],[]⟩ [(x,u)])/\∀ base:Heap,(K w.params).In base->base.Ns mainGlobals mg->FnOk l.prog w (K w.params) mg base CX0 k fa fd [x] (lSp (K w.params) VO)):l.Holds:=by
 refine holds_law ok λsaid=>?_;exact holds_open (q:=q) (loose:=loose) (Xt:=λs=>xlAt q [] s&&recOk [] s) (XP:=XL q []) (Yf:=Hook.obs (kHook K as ha)) (Ya:=Hook.val (kHook K as ha)) (YP:=Hook.says (kHook K as ha)) (N:=N) left
  (Hook.of (kHook K as ha)) (Hook.keeps (kHook K as ha)) (λs e=>xl_of s (Bool.and_eq_true_iff.mp e).1) XL.keeps hdef hp hk (λs e=>recFacts_of (Bool.and_eq_true_iff.mp e).2) hwr said ok2 hb hw
  (L3.qi2 (l:=l) (k:=k) (x:=x) hn hdf hr (λw h Y=>kIn_of Y) hK F)
end Hd
namespace L3
open PySem PySem.Spec PyProof.Rows L2
def qcY:bootBuiltins "ValueError" = some (.type "ValueError"):=by first|kernel_rfl|decide +kernel
def XD.nil {K:Frg} {cs:List Value}:XD K cs []:=λ_ z=>nomatch z
def XD.cons {K:Frg} {cs:List Value} {o:Option Addr} {b:Bool} {D:List (Option Addr×Bool)} (h1:∀ C,o=some C->ExK K C) (h2:PySem.W.kitAny K (tyv o) cs=some b) (h:XD K cs D):XD K cs ((o,b)::D):=λp hp=>by
 rcases mem_cons.mp hp with rfl|hp
 ·exact ⟨h1,h2⟩
 ·exact h p hp
end L3
namespace Hd
open PySem PySem.Spec PyProof.Rows L2 L3 PySem.W
def oX (nm:Str) (C N:Addr) (bs bm sub:List Value) (tb:Addr) (t1 t2:Nat) (nw:String):Obj:=excClassObj nm nm C N bs bm true [] sub false none none (some (.ref tb)) none (some (.str nm t1)) (some (.str nm t2)) (some (.bool true)) nw
def qej (K:Frag) (C:Addr) (mro:List Value):Bool:=match K.lookup C with
 |some ⟨.type "type",_,.cls cd,sl⟩=>cd.mro==mro&&!cd.hasDel&&match mro,sl.toList with|.ref C'::_,[_,_,_,_,some (.builtin _),_]=>C'==C|_,_=>false
 |_=>false
def qfO {K:Frag} {h:Heap} {C:Addr} {mro:List Value} (X:K.In h) (q:qej K C mro=true):ExC h C mro:=by
 unfold qej at q;split at q
 ·rename_i dd cd sl ho;simp only [Bool.and_eq_true,beq_iff_eq,Bool.not_eq_true'] at q;obtain ⟨⟨h1,h2⟩,h3⟩:=q;split at h3
  ·rename_i C' bm k0 k1 k2 k3 n k5 hs;obtain ⟨nm,bs,mro,ns,qn,hd,sn,sub,ab,col,del⟩:=cd;dsimp only at h1 h2;subst h2;have e3:C'=C:=beq_iff_eq.mp h3;subst e3;subst h1;have hsl:sl=#[k0,k1,k2,k3,some (.builtin n),k5]:=by
    obtain ⟨l⟩:=sl;exact congrArg Array.mk hs
   subst hsl;exact ⟨nm,qn,ns,bs,bm,hd,sn,sub,ab,col,dd,k0,k1,k2,k3,k5,n,X _ _ ho,rfl⟩
  ·cases h3
 ·cases q
def qcC {base:Heap} {B C:Addr} {mro:List Value} {cs:List Addr} (h1:ExC base C mro) (h2:mro.contains (.ref B)=true) (h:∀ C∈cs,Ct base B C):∀ D∈C::cs,Ct base B D:=λD hD=>by
 rcases mem_cons.mp hD with rfl|hD
 ·exact ⟨mro,h1,h2⟩
 ·exact h D hD
def qjj {K:Frag} {h:Heap} {mg:Str->Option Value} {x:Str} {C N tb:Addr} {nm:Str} {bs bm sub:List Value} {t1 t2:Nat} (X:K.In h) (hb:mg x=some (.ref C)) (l:K.lookup C=some (oX nm C N bs bm sub tb t1 t2 "ValueError.__new__"))
  (t:tailIn K [.type "ValueError",.type "Exception",.type "BaseException",.type "object"] bm=true) (n:nsOkIn K N=true) (i:nsIn K N "__init__" = some none):RaX mg h x C:=
 ⟨⟨hb,bm,N,nm,nm,bs,true,[],sub,false,none,none,_,_,_,_,_,_,X _ _ l,.of_isNs (isNs_of_in X n),nsMap_none_of_in X n i,tail_of_in X t⟩⟩
end Hd
namespace Pu
open PySem L2 L3
structure PzS (t:X3->TS3) where
 f:Nat->Rho->Option (Addr ⊕ Ot)
 okx:∀ {D G0 A τ ρ G n C} {dx:X3} {e:Ends3},RS D G0 A τ ρ G->f n ρ=some (.inl C)->(∀ G',Ex G0 G'->dx C G')->t dx e τ G
 okn:∀ {D G0 A τ ρ G n o} {dx:X3} {e:Ends3},RS D G0 A τ ρ G->f n ρ=some (.inr o)->qdk D G0 e o->t dx e τ G
def zP {t:TS3} (a:PuS t):PzS (λ_=>t) where
 f:=λn ρ=>(a.f n ρ).map .inr
 okx:=λh hf k=>by
  obtain ⟨o,e1,e2⟩:=Option.map_eq_some_iff.mp hf;cases e2
 okn:=λh hf k=>by
  obtain ⟨o,e1,e2⟩:=Option.map_eq_some_iff.mp hf;cases e2;exact a.ok h e1 k
def qlK:PzS (λ_=>qdg) where
 f:=λ_ _=>none
 okx:=λh hf k=>by cases hf
 okn:=λh hf k=>by cases hf
def qaM {t:TA3} (C:Addr) (a:PuA t) (hn:Tru (Nat.ble a.n 1000)):PzS (λdx=>WZ C dx t) where
 f:=λ_ ρ=>(a.f ρ).map λ_=>.inl C
 okx:=λh hf k=>by
  obtain ⟨d,e1,e2⟩:=Option.map_eq_some_iff.mp hf;cases e2;exact a.ok (h.viewAll _) h.domD e1 λxs G' E Q=>⟨by rw [Q.length,a.ln e1];exact few hn,k G' (h.ex.trans E)⟩
 okn:=λh hf k=>by
  obtain ⟨d,e1,e2⟩:=Option.map_eq_some_iff.mp hf;cases e2
def zIf {c:TT3} {t u:X3->TS3} (pc:PuC c) (a:PzS t) (b:PzS u):PzS (λdx=>ZF c (t dx) (u dx)) where
 f:=λn ρ=>(pc.f ρ).bind λk=>if k then a.f n ρ else b.f n ρ
 okx:=λh hf k=>by
  obtain ⟨o1,e1,hf⟩:=obb hf;refine pc.ok (h.viewAll _) h.domD e1 λG1 E1=>?_;cases o1 with
  |true=>exact a.okx (h.up E1) hf k
  |false=>exact b.okx (h.up E1) hf k
 okn:=λh hf k=>by
  obtain ⟨o1,e1,hf⟩:=obb hf;refine pc.ok (h.viewAll _) h.domD e1 λG1 E1=>?_;cases o1 with
  |true=>exact a.okn (h.up E1) hf k
  |false=>exact b.okn (h.up E1) hf k
def qcJ (a b:Nat->Rho->Option (Addr ⊕ Ot)) (n:Nat) (ρ:Rho):Option (Addr ⊕ Ot):=(a n ρ).bind λo=>match o with|.inl C=>some (.inl C)|.inr (.nx ρ')=>b n ρ'|.inr o=>some (.inr o)
def qlc {t u:X3->TS3} (a:PzS t) (b:PzS u):PzS (λdx=>qU (t dx) (u dx)) where
 f:=qcJ a.f b.f
 okx:=λ{D G0 A τ ρ G n C dx e} h hf k=>by
  unfold qcJ at hf;obtain ⟨o1,e1,hf⟩:=obb hf;cases o1 with
  |inl C'=>cases hf;exact a.okx h e1 k
  |inr o=>
   refine a.okn h e1 ?_;cases o with
   |nx ρ'=>exact λA' τ' G' h'=>b.okx h' hf k
   |bk ρ'=>cases hf
   |ct ρ'=>cases hf
   |rt d fr=>cases hf
 okn:=λ{D G0 A τ ρ G n o dx e} h hf k=>by
  unfold qcJ at hf;obtain ⟨o1,e1,hf⟩:=obb hf;cases o1 with
  |inl C'=>cases hf
  |inr o=>
   refine a.okn h e1 ?_;cases o with
   |nx ρ'=>exact λA' τ' G' h'=>b.okn h' hf k
   |bk ρ'=>cases hf;exact k
   |ct ρ'=>cases hf;exact k
   |rt d fr=>cases hf;exact k
def PXp (X:List PyData->Option Addr):Spx:=λts G dx=>∃ (D:Addr->Prop) (ds:List PyData) (C:Addr),Dqs (rs D G) ts ds/\Dom D G/\X ds=some C/\∀ G',Ex G G'->dx C G'
def qjA:Option (Addr ⊕ Ot)->Option Addr
 |some (.inl C)=>some C
 |_=>none
def qkf (f:Nat->Rho->Option (Addr ⊕ Ot)) (k N n:Nat) (ds:List PyData):Option Addr:=if ds.length=k then qjA (f n (st ds N)) else none
def qjz {D:Addr->Prop} {G:Gp} {ts:List T} {ds:List PyData} (N:List Str) (hs:Dqs (rs D G) ts ds) (hd:Dom D G):RS D G (λ_=>none) (ql N ts) (st ds N.length) G:=by
 refine ⟨Ex.refl,hd,(λi p e=>by cases e),(λi p e=>by cases e),(λi j p e=>by cases e),(by simp [st,ql,hs.length]),λi d' e=>?_,λi es e=>?_,λi es e=>?_⟩
 ·unfold st at e;unfold ql;by_cases hi:i<ds.length
  ·rw [List.getElem?_append_left (by simpa using hi),getElem?_map] at e;obtain ⟨d2,e3,e4⟩:=Option.map_eq_some_iff.mp e;cases e4;obtain ⟨x,e5,hx⟩:=hs.get e3;refine ⟨x,?_,hx.up (zh λb z=>?_)⟩
   ·rw [List.getElem?_append_left (by simp [hs.length];exact hi),getElem?_map,e5];rfl
   ·rcases z with z|⟨i,z⟩
    ·exact z
    ·cases z
  ·rw [List.getElem?_append_right (by simpa using hi),List.getElem?_replicate] at e;split at e<;>cases e
 ·unfold st at e;by_cases hi:i<ds.length
  ·rw [List.getElem?_append_left (by simpa using hi),getElem?_map] at e;obtain ⟨d2,e3,e4⟩:=Option.map_eq_some_iff.mp e;cases e4
  ·rw [List.getElem?_append_right (by simpa using hi),List.getElem?_replicate] at e;split at e<;>cases e
 ·unfold st at e;by_cases hi:i<ds.length
  ·rw [List.getElem?_append_left (by simpa using hi),getElem?_map] at e;obtain ⟨d2,e3,e4⟩:=Option.map_eq_some_iff.mp e;cases e4
  ·rw [List.getElem?_append_right (by simpa using hi),List.getElem?_replicate] at e;split at e<;>cases e
def qcx {t:X3->TS3} (b:PzS t) (N:List Str) (k n:Nat):∀ ts G dx,PXp (qkf b.f k N.length n) ts G dx->ts.length=k/\t dx { nx:=λ_ _=>False,rt:=λ_ _=>False } (ql N ts) G:=by
 rintro ts G dx ⟨D,ds,C,hs,hd,hf,h⟩;unfold qkf at hf;split at hf
 ·rename_i hk;refine ⟨by rw [hs.length];exact hk,?_⟩;cases e:b.f n (st ds N.length) with
  |none=>rw [e] at hf;cases hf
  |some o=>
   cases o with
   |inl C'=>rw [e] at hf;cases hf;exact b.okx (qjz N hs hd) e h
   |inr o=>rw [e] at hf;cases hf
 ·cases hf
def qlE {t:TS3} {a:PuS t} {n:Nat} {ρ:Rho}:(zP a).f n ρ=(a.f n ρ).map .inr:=id rfl
def LY {t:TA3} {C:Addr} {a:PuA t} {hn:Tru (Nat.ble a.n 1000)} {n:Nat} {ρ:Rho}:(qaM C a hn).f n ρ=(a.f ρ).map λ_=>.inl C:=id rfl
def qj4 {c:TT3} {t u:X3->TS3} {pc:PuC c} {a:PzS t} {b:PzS u} {n:Nat} {ρ:Rho}:(zIf pc a b).f n ρ=(pc.f ρ).bind λk=>if k then a.f n ρ else b.f n ρ:=id rfl
def qgg {t u:X3->TS3} {a:PzS t} {b:PzS u} {n:Nat} {ρ:Rho}:(qlc a b).f n ρ=(a.f n ρ).bind λo=>match o with|.inl C=>some (.inl C)|.inr (.nx ρ')=>b.f n ρ'|.inr o=>some (.inr o):=id rfl
def qeB {C:Addr}:qjA (some (.inl C))=some C:=id rfl
end Pu
namespace Ben
structure Inv2 (N:Nat) (a:Nat->Nat):Prop where
 lt:∀ {x},x<N->a x<N
 two:∀ {x},x<N->a (a x)=x
 ne:∀ {x},x<N->a x≠x
section
variable {N:Nat} {a b:Nat->Nat} (ha:Inv2 N a) (hb:Inv2 N b)
def Inv2.inj {N:Nat} {a:Nat->Nat} (h:Inv2 N a) {x y:Nat} (hx:x<N) (hy:y<N) (e:a x=a y):x=y:=by
 rw [← h.two hx,← h.two hy,e]
def LO (N:Nat) (a b:Nat->Nat) (c:Nat->Option Nat):Prop:=∀ x,x<N->∀ v,c x=some v->v<2/\c (a x)=some (1-v)/\c (b x)=some (1-v)
def ks (a b:Nat->Nat) (k:Nat):Nat->Nat
 |0=>k
 |i+1=>b (a (ks a b k i))
structure St (N:Nat) (a b:Nat->Nat) (c0:Nat->Option Nat) (k:Nat) (i:Nat) (c:Nat->Option Nat):Prop where
 lt:∀ j,j<=i->ks a b k j<N
 new:∀ j,j<i->c0 (ks a b k j)=none
 dis:∀ j l,j<i->l<i->ks a b k j≠a (ks a b k l)
 inj:∀ j l,j<i->l<i->ks a b k j=ks a b k l->j=l
 on:∀ j,j<i->c (ks a b k j)=some 0/\c (a (ks a b k j))=some 1
 off:∀ x,(∀ j,j<i->x≠ks a b k j/\x≠a (ks a b k j))->c x=c0 x
def St.zero {c0:Nat->Option Nat} {k:Nat} (hk:k<N):St N a b c0 k 0 c0:=
 ⟨λj hj=>by obtain rfl:j=0:=(by omega);exact hk,λj hj=>absurd hj (Nat.not_lt_zero j),λj l hj=>absurd hj (Nat.not_lt_zero j),λj l hj=>absurd hj (Nat.not_lt_zero j),λj hj=>absurd hj (Nat.not_lt_zero j),λx _=>rfl⟩
def up (c:Nat->Option Nat) (x v:Nat):Nat->Option Nat:=λy=>if y=x then some v else c y
def WE {c:Nat->Option Nat} {x v:Nat}:up c x v x=some v:=if_pos rfl
def U8 {c:Nat->Option Nat} {x v y:Nat} (h:y≠x):up c x v y=c y:=if_neg h
include ha hb in
def St.step {c0 c:Nat->Option Nat} {k i:Nat} (s:St N a b c0 k i c) (h:c (ks a b k i)=none):St N a b c0 k (i+1) (up (up c (ks a b k i) 0) (a (ks a b k i)) 1):=by
 have li:=s.lt i (Nat.le_refl _);have fr:∀ j,j<i->ks a b k i≠ks a b k j/\ks a b k i≠a (ks a b k j):=λj hj=>by
  constructor
  ·intro e;rw [e,(s.on j hj).1] at h;cases h
  ·intro e;rw [e,(s.on j hj).2] at h;cases h
 refine ⟨λj hj=>?_,λj hj=>?_,λj l hj hl=>?_,λj l hj hl e=>?_,λj hj=>?_,λx hx=>?_⟩
 ·rcases Nat.lt_or_ge j (i+1) with z|z
  ·exact s.lt j (by omega)
  ·have:j=i+1:=by omega
   subst this;exact hb.lt (ha.lt li)
 ·rcases Nat.lt_or_ge j i with z|z
  ·exact s.new j z
  ·have:j=i:=by omega
   subst this;rw [← s.off _ fr];exact h
 ·rcases Nat.lt_or_ge j i with z|z
  ·rcases Nat.lt_or_ge l i with y|y
   ·exact s.dis j l z y
   ·have:l=i:=by omega
    subst this;intro e;have lj:=s.lt j (by omega);have e2:a (ks a b k j)=ks a b k l:=by rw [e,ha.two li]
    exact (fr j z).2 e2.symm
  ·have:j=i:=by omega
   subst this;rcases Nat.lt_or_ge l j with y|y
   ·exact (fr l y).2
   ·have:l=j:=by omega
    subst this;exact λe=>ha.ne li e.symm
 ·rcases Nat.lt_or_ge j i with z|z
  ·rcases Nat.lt_or_ge l i with y|y
   ·exact s.inj j l z y e
   ·have:l=i:=by omega
    subst this;exact absurd e.symm (fr j z).1
  ·have:j=i:=by omega
   subst this;rcases Nat.lt_or_ge l j with y|y
   ·exact absurd e (fr l y).1
   ·omega
 ·rcases Nat.lt_or_ge j i with z|z
  ·have n1:ks a b k j≠a (ks a b k i):=λe=>by
    have e2:a (ks a b k j)=ks a b k i:=by rw [e,ha.two li]
    exact (fr j z).2 e2.symm
   have n2:a (ks a b k j)≠a (ks a b k i):=λe=>(fr j z).1 (ha.inj (s.lt j (by omega)) li e).symm;exact ⟨by rw [U8 n1,U8 (fr j z).1.symm];exact (s.on j z).1,by rw [U8 n2,U8 (fr j z).2.symm];exact (s.on j z).2⟩
  ·have:j=i:=by omega
   subst this;exact ⟨by rw [U8 (λe=>ha.ne li e.symm)];exact WE,WE⟩
 ·rw [U8 (hx i (by omega)).2,U8 (hx i (by omega)).1];exact s.off x λj hj=>hx j (by omega)
include ha hb in
def St.done {c0 c:Nat->Option Nat} {k i:Nat} (g:LO N a b c0) (s:St N a b c0 k i c) (h:c (ks a b k i)≠none):LO N a b c/\c k≠none/\∀ x,c0 x≠none->c x≠none:=by
 have li:=s.lt i (Nat.le_refl _);have keep:∀ x,c0 x≠none->c x≠none:=λx hx=>by
  by_cases z:∃ j,j<i/\(x=ks a b k j\/x=a (ks a b k j))
  ·obtain ⟨j,hj,rfl|rfl⟩:=z
   ·rw [(s.on j hj).1];simp
   ·rw [(s.on j hj).2];simp
  ·rw [s.off x λj hj=>⟨λe=>z ⟨j,hj,.inl e⟩,λe=>z ⟨j,hj,.inr e⟩⟩];exact hx
 cases i with
 |zero=>
  have e:c=c0:=funext λx=>s.off x λj hj=>absurd hj (Nat.not_lt_zero j);subst e;exact ⟨g,h,keep⟩
 |succ i=>
  have lp:=s.lt i (by omega);have la:=ha.lt lp;have hk:ks a b k (i+1)=b (a (ks a b k i)):=rfl;have old:∀ x,x<N->c0 x≠none->c0 (a x)≠none/\c0 (b x)≠none:=λx hx hc=>by
   cases e:c0 x with
   |none=>exact absurd e hc
   |some v=>
    obtain ⟨_,h1,h2⟩:=g x hx v e;exact ⟨by rw [h1];simp,by rw [h2];simp⟩
  have back:ks a b k (i+1)=k:=by
   by_cases z:∃ j,j<i+1/\(ks a b k (i+1)=ks a b k j\/ks a b k (i+1)=a (ks a b k j))
   ·obtain ⟨j,hj,e|e⟩:=z
    ·cases j with
     |zero=>exact e
     |succ j=>
      have e2:b (a (ks a b k i))=b (a (ks a b k j)):=e;have lj:=s.lt j (by omega);have:=ha.inj lp lj (hb.inj la (ha.lt lj) e2);have:=s.inj i j (by omega) (by omega) this;omega
    ·exfalso;have lj:=s.lt j (by omega);have e2:a (ks a b k i)=b (a (ks a b k j)):=by rw [← e,hk,hb.two la]
     rcases Nat.lt_or_ge j i with y|y
     ·exact s.dis (j+1) i (by omega) (by omega) e2.symm
     ·have:j=i:=by omega
      subst this;exact hb.ne la e2.symm
   ·exfalso;have e0:c (ks a b k (i+1))=c0 (ks a b k (i+1)):=s.off _ λj hj=>⟨λe=>z ⟨j,hj,.inl e⟩,λe=>z ⟨j,hj,.inr e⟩⟩
    rw [e0] at h;have h1:=(old _ li h).2;rw [hk,hb.two la] at h1;have h2:=(old _ la h1).1;rw [ha.two lp] at h2;exact h2 (s.new i (by omega))
  refine ⟨λx hx v hv=>?_,by rw [← back];exact h,keep⟩;have nxt:∀ j,j<i+1->c (b (a (ks a b k j)))=some 0:=λj hj=>by
   show c (ks a b k (j+1))=some 0;rcases Nat.lt_or_ge (j+1) (i+1) with y|y
   ·exact (s.on (j+1) y).1
   ·have:j=i:=by omega
    subst this;rw [back];exact (s.on 0 (by omega)).1
  by_cases z:∃ j,j<i+1/\(x=ks a b k j\/x=a (ks a b k j))
  ·obtain ⟨j,hj,rfl|rfl⟩:=z
   ·rw [(s.on j hj).1] at hv;cases hv;refine ⟨by omega,(s.on j hj).2,?_⟩;have lj:=s.lt j (by omega);cases j with
    |zero=>
     have:b k=a (ks a b k i):=by
      have e:=congrArg b back;rw [hk,hb.two la] at e;exact e.symm
     show c (b k)=some 1;rw [this];exact (s.on i (by omega)).2
    |succ j=>
     have lj':=s.lt j (by omega);show c (b (b (a (ks a b k j))))=some 1;rw [hb.two (ha.lt lj')];exact (s.on j (by omega)).2
   ·rw [(s.on j hj).2] at hv;cases hv;have lj:=s.lt j (by omega);refine ⟨by omega,?_,nxt j hj⟩;rw [ha.two lj];exact (s.on j hj).1
  ·have e0:c x=c0 x:=s.off x λj hj=>⟨λe=>z ⟨j,hj,.inl e⟩,λe=>z ⟨j,hj,.inr e⟩⟩
   rw [e0] at hv;obtain ⟨h1,h2,h3⟩:=g x hx v hv;have same:∀ y,c0 y≠none->c y=c0 y:=λy hy=>by
    refine s.off y λj hj=>?_;have lj:=s.lt j (by omega);constructor
    ·rintro rfl;exact hy (s.new j hj)
    ·rintro rfl;have:=(old _ (ha.lt lj) hy).1;rw [ha.two lj] at this;exact this (s.new j hj)
   exact ⟨h1,by rw [same _ (by rw [h2];simp)];exact h2,by rw [same _ (by rw [h3];simp)];exact h3⟩
def cs (a b:Nat->Nat) (c0:Nat->Option Nat) (k:Nat):Nat->Nat->Option Nat
 |0=>c0
 |i+1=>up (up (cs a b c0 k i) (ks a b k i) 0) (a (ks a b k i)) 1
include ha hb in
def qbt {c0:Nat->Option Nat} {k:Nat} (hk:k<N):∀ i,(∀ j,j<i->cs a b c0 k j (ks a b k j)=none)->St N a b c0 k i (cs a b c0 k i)
 |0,_=>St.zero hk
 |i+1,h=>(qbt hk i λj hj=>h j (by omega)).step ha hb (h i (by omega))
def S8:∀ (N i:Nat) (f:Nat->Nat),(∀ j,j<i->f j<N)->(∀ j l,j<i->l<i->f j=f l->j=l)->i<=N
 |0,i,f,h1,h2=>by
  rcases Nat.eq_zero_or_pos i with z|z
  ·omega
  ·exact absurd (h1 0 z) (Nat.not_lt_zero _)
 |N+1,i,f,h1,h2=>by
  by_cases z:∃ j,j<i/\f j=N
  ·obtain ⟨j0,hj0,e0⟩:=z;have:=S8 N (i-1) (λj=>f (if j<j0 then j else j+1)) (λj hj=>by
    have lt:(if j<j0 then j else j+1)<i:=by split<;>omega
    have l1:=h1 _ lt;have ne:f (if j<j0 then j else j+1)≠N:=λe=>by
     have:=h2 _ _ lt hj0 (e.trans e0.symm);split at this<;>omega
    skip
    omega) (λj l hj hl e=>by
    have l1:(if j<j0 then j else j+1)<i:=by split<;>omega
    have l2:(if l<j0 then l else l+1)<i:=by split<;>omega
    have:=h2 _ _ l1 l2 e;split at this<;>split at this<;>omega)
   omega
  ·have:=S8 N i f (λj hj=>by
    have:=h1 j hj;have ne:f j≠N:=λe=>z ⟨j,hj,e⟩;omega) h2
   omega
def qjZ {P:Nat->Prop}:∀ n,P n->∃ m,m<=n/\P m/\∀ j,j<m->¬ P j:=by
 intro n;induction n using Nat.strongRecOn with
 |ind n ih=>
  intro h;by_cases z:∃ j,j<n/\P j
  ·obtain ⟨j,hj,hp⟩:=z;obtain ⟨m,h1,h2,h3⟩:=ih j hj hp;exact ⟨m,by omega,h2,h3⟩
  ·exact ⟨n,Nat.le_refl _,h,λj hj hp=>z ⟨j,hj,hp⟩⟩
include ha hb in
def qdO {c0:Nat->Option Nat} {k:Nat} (hk:k<N) (g:LO N a b c0):∃ n,n<=N/\(∀ i,i<n->cs a b c0 k i (ks a b k i)=none)/\(∀ i,i<=n->ks a b k i<N)/\cs a b c0 k n (ks a b k n)≠none/\LO N a b (cs a b c0 k n)/\cs a b c0 k n k≠none/\∀ x,c0 x≠none->cs a b c0 k n x≠none:=by
 have ex:∃ n,n<=N/\cs a b c0 k n (ks a b k n)≠none:=by
  apply Classical.byContradiction;intro z;have all:∀ n,n<=N->cs a b c0 k n (ks a b k n)=none:=λn hn=>by
   apply Classical.byContradiction;intro y;exact z ⟨n,hn,y⟩
  have s:=qbt ha hb (c0:=c0) hk (N+1) λj hj=>all j (by omega);have:=S8 N (N+1) (ks a b k) (λj hj=>s.lt j (by omega)) s.inj;omega
 obtain ⟨n0,h0,h1⟩:=ex;obtain ⟨n,h2,h3,h4⟩:=qjZ (P:=λn=>cs a b c0 k n (ks a b k n)≠none) n0 h1;have nn:∀ i,i<n->cs a b c0 k i (ks a b k i)=none:=λi hi=>by
  apply Classical.byContradiction;intro y;exact h4 i hi y
 have s:=qbt ha hb (c0:=c0) hk n nn;obtain ⟨d1,d2,d3⟩:=s.done ha hb g h3;exact ⟨n,by omega,nn,s.lt,h3,d1,d2,d3⟩
end
def x1 (k:Nat):Nat:=k ^^^ 1
def qdm (k:Nat):x1 k/2=k/2:=by
 unfold x1;rw [Nat.xor_div_two];simp
def qde (k:Nat):x1 k%2=(k+1)%2:=by
 unfold x1;have h:=Nat.testBit_xor (x:=k) (y:=1) (i:=0);rw [Nat.testBit_zero,Nat.testBit_zero,Nat.testBit_zero] at h;rcases Nat.mod_two_eq_zero_or_one k with z|z<;>rcases Nat.mod_two_eq_zero_or_one (k ^^^ 1) with y|y<;>rw [z,y] at h<;>first|omega|(exfalso;revert h;decide)
def qfr (t:Nat):x1 (2*t)=2*t+1:=by have:=qdm (2*t);have:=qde (2*t);omega
def qk2 (t:Nat):x1 (2*t+1)=2*t:=by have:=qdm (2*t+1);have:=qde (2*t+1);omega
def W5 (h:Nat):Inv2 (2*h) x1:=
 ⟨λ{x} hx=>by have:=qdm x;omega,λ{x} hx=>by have:=qdm x;have:=qde x;have:=qdm (x1 x);have:=qde (x1 x);omega,λ{x} hx=>by have:=qde x;intro e;rw [e] at this;omega⟩
structure Pm (N:Nat) (o v:Nat->Nat):Prop where
 lt:∀ {x},x<N->o x<N
 ilt:∀ {y},y<N->v y<N
 vo:∀ {x},x<N->v (o x)=x
 ov:∀ {y},y<N->o (v y)=y
def bb (o v:Nat->Nat) (x:Nat):Nat:=v (x1 (o x))
def SA {h:Nat} {o v:Nat->Nat} (p:Pm (2*h) o v):Inv2 (2*h) (bb o v):=by
 have X:=W5 h;refine ⟨λ{x} hx=>p.ilt (X.lt (p.lt hx)),λ{x} hx=>?_,λ{x} hx e=>?_⟩
 ·unfold bb;rw [p.ov (X.lt (p.lt hx)),X.two (p.lt hx),p.vo hx]
 ·have:=congrArg o e;unfold bb at this;rw [p.ov (X.lt (p.lt hx))] at this;exact X.ne (p.lt hx) this
structure Pt (h:Nat) (o v c:Nat->Nat):Prop where
 two:∀ {x},x<2*h->c x<2
 a:∀ {x},x<2*h->c (x1 x)=1-c x
 b:∀ {x},x<2*h->c (bb o v x)=1-c x
section
variable {h:Nat} {o v c:Nat->Nat} (p:Pm (2*h) o v) (q:Pt h o v c)
def kap (c:Nat->Nat) (s t:Nat):Nat:=if c (2*t)=s then 2*t else 2*t+1
def oS (o c:Nat->Nat) (s t:Nat):Nat:=o (kap c s t)/2
def vK (v c:Nat->Nat) (s y:Nat):Nat:=if c (v (2*y))=s then v (2*y) else v (2*y+1)
def vS (v c:Nat->Nat) (s y:Nat):Nat:=vK v c s y/2
include q in
def TB {s t:Nat} (hs:s<2) (ht:t<h):kap c s t<2*h/\kap c s t/2=t/\c (kap c s t)=s:=by
 have h2:=q.two (x:=2*t) (by omega);have ha:=q.a (x:=2*t) (by omega);rw [qfr] at ha;unfold kap;split
 ·exact ⟨by omega,by omega,by assumption⟩
 ·exact ⟨by omega,by omega,by omega⟩
include q in
def qaw {k:Nat} (hk:k<2*h):kap c (c k) (k/2)=k:=by
 have ha:=q.a (x:=2*(k/2)) (by omega);have h2:=q.two (x:=2*(k/2)) (by omega);rw [qfr] at ha;unfold kap;rcases Nat.mod_two_eq_zero_or_one k with z|z
 ·have e:2*(k/2)=k:=by omega
  rw [e];simp
 ·have e:2*(k/2)+1=k:=by omega
  rw [e] at ha ⊢;split
  ·omega
  ·rfl
include p q in
def qfl {s y:Nat} (hs:s<2) (hy:y<h):vK v c s y<2*h/\c (vK v c s y)=s/\o (vK v c s y)/2=y:=by
 have l1:=p.ilt (y:=2*y) (by omega);have l2:=p.ilt (y:=2*y+1) (by omega);have o1:=p.ov (y:=2*y) (by omega);have o2:=p.ov (y:=2*y+1) (by omega);have hb:=q.b l1;have h2:=q.two l1;unfold bb at hb;rw [o1,qfr] at hb;unfold vK;split
 ·exact ⟨l1,by assumption,by omega⟩
 ·exact ⟨l2,by omega,by omega⟩
include p q in
def Pm.side {s:Nat} (hs:s<2):Pm h (oS o c s) (vS v c s):=by
 refine ⟨λ{t} ht=>?_,λ{y} hy=>?_,λ{t} ht=>?_,λ{y} hy=>?_⟩
 ·obtain ⟨k1,k2,k3⟩:=TB q hs ht;have:=p.lt k1;unfold oS;omega
 ·obtain ⟨k1,_⟩:=qfl p q hs hy;unfold vS;omega
 ·obtain ⟨k1,k2,k3⟩:=TB q hs ht;have l:=p.lt k1;have hb:=q.b k1;have h2:=q.two k1;unfold bb at hb;unfold vS vK oS;generalize kap c s t=k at *;rcases Nat.mod_two_eq_zero_or_one (o k) with z|z
  ·have e:2*(o k/2)=o k:=by omega
   rw [e,p.vo k1,if_pos k3];exact k2
  ·have e:2*(o k/2)+1=o k:=by omega
   have e2:x1 (o k)=2*(o k/2):=by
    have:=qk2 (o k/2);rw [e] at this;exact this
   rw [e2] at hb;rw [if_neg (by omega),e,p.vo k1];exact k2
 ·obtain ⟨k1,k2,k3⟩:=qfl p q hs hy;unfold oS vS;have:=qaw q k1;rw [k2] at this;rw [this];exact k3
end
inductive Nt where
 |leaf (b:Nat)
 |node (f:List Nat) (u l:Nt) (g:List Nat)
def bt (f:List Nat) (k:Nat):Nat:=f.getD k 0
def Nt.Ok:Nat->Nt->Prop
 |0,.leaf b=>b<2
 |m+1,.node f u l g=>f.length=2 ^ (m+1)/\g.length=2 ^ (m+1)/\(∀ s∈f,s<2)/\(∀ s∈g,s<2)/\Nt.Ok m u/\Nt.Ok m l
 |_,_=>False
def Nt.lane:Nt->Nat->Nat
 |.leaf b,k=>(k+b)%2
 |.node f u l g,k=>2*(if (k+bt f (k/2))%2=0 then u.lane (k/2) else l.lane (k/2))+((k+bt f (k/2))%2+bt g (if (k+bt f (k/2))%2=0 then u.lane (k/2) else l.lane (k/2)))%2
def MW {h t:Nat} {f:Nat->Nat} (ht:t<h):bt ((List.range h).map f) t=f t:=by
 unfold bt;simp [ht]
def U9 {h:Nat} {o v c:Nat->Nat} (p:Pm (2*h) o v) (q:Pt h o v c) {u l:Nt} (hu:∀ t,t<h->u.lane t=oS o c 0 t) (hl:∀ t,t<h->l.lane t=oS o c 1 t) {k:Nat} (hk:k<2*h) :
  (Nt.node ((List.range h).map λt=>c (2*t)) u l ((List.range h).map λt=>c (v (2*t)))).lane k=o k:=by
 have t2:k/2<h:=by omega
 have ck:=q.two hk;have ha:=q.a (x:=2*(k/2)) (by omega);have h2:=q.two (x:=2*(k/2)) (by omega);rw [qfr] at ha;have side:(k+c (2*(k/2)))%2=c k:=by
  rcases Nat.mod_two_eq_zero_or_one k with z|z
  ·have e:2*(k/2)=k:=by omega
   rw [e] at h2 ⊢;omega
  ·have e:2*(k/2)+1=k:=by omega
   rw [e] at ha;omega
 have at':(if c k=0 then u.lane (k/2) else l.lane (k/2))=o k/2:=by
  have kk:=qaw q hk;split
  ·rename_i z;rw [hu _ t2];unfold oS;rw [z] at kk;rw [kk]
  ·rename_i z;have z1:c k=1:=by omega
   rw [hl _ t2];unfold oS;rw [z1] at kk;rw [kk]
 have ol:=p.lt hk;have lst:(c k+c (v (2*(o k/2))))%2=o k%2:=by
  have hb:=q.b hk;unfold bb at hb;rcases Nat.mod_two_eq_zero_or_one (o k) with z|z
  ·have e:2*(o k/2)=o k:=by omega
   rw [e,p.vo hk];omega
  ·have e:2*(o k/2)+1=o k:=by omega
   have e2:x1 (o k)=2*(o k/2):=by
    have:=qk2 (o k/2);rw [e] at this;exact this
   rw [e2] at hb;omega
 simp only [Nt.lane];rw [MW t2,side,at',MW (show o k/2<h by omega),lst];omega
end Ben
namespace K58
open PySem L2 L3 Bk
def top (i : Nat) : Stmt := PySem.Challenge.pw_bankwalk_k58_orders_refused.main.body.getD i (.Pass ⟨0,0,0,0⟩)
variable {P:Program} {w:World} {K:Frg} {mg:Str->Option Value} {base:Heap} {f:Addr} {fd:FuncData} {k:Nat} {sp:Sp3}
abbrev zC:Stmt:=top 1
abbrev jC:List Str:=["thing"]
abbrev QY:List Str:=["thing"]
def U5:FnScope jC QY (qf zC):=⟨rfl,rfl,rfl,by decide +kernel,rfl,by decide +kernel,by decide +kernel⟩
def EW (F:Fun K "is_number" "is_number" zC f fd) (bd:zz K fd QY []) (hm:mg "is_number" = some (.ref f))   (m_isinstance:mg "isinstance" = none) (m_bool:mg "bool" = none) (m_int:mg "int" = none)
  (read:Rd sp 1 (Bk.jN) jC):Fn3 P w K mg base (k+1) "is_number" sp:=
 zk (t3:=(Bk.jN)) F U5 bd hm (λcdv A outer s H E hr=>(qm (qu (CK (YG (qb 0) rfl m_isinstance rfl m_int PyProof.Rows.boot_int) (RA (qaE (YG (qb 0) rfl m_isinstance rfl m_bool PyProof.Rows.boot_bool))))))) read
abbrev zD:Stmt:=top 14
abbrev jI:List Str:=["order","comers","halves","begin","k"]
abbrev QZ:List Str:=["order"]
def zc:FnScope jI QZ (qf zD):=⟨rfl,rfl,rfl,by decide +kernel,rfl,by decide +kernel,by decide +kernel⟩
def jM:TS3:=(qU (zG (lc3 (ZU (qc (cb3 Z6 (qc (v3 0) qk)) qk)) (gn3 0) tt3 (KU (v3 1) (qc (v3 0) qk)) [none,some 0]) (gn3 1)) (qU (zG (lc3 (V9 (v3 0)) (gn3 0) tt3 (c3 .non) [none]) (gn3 2)) (qU (X2 (ZU (qc (cb3 Z6 (qc (v3 0) qk)) qk)) (gn3 3) (qU (zG (v3 3) (gn3 4)) (WI (tb3 (o3 (qbB false) (o3 ix3 (v3 2) (v3 4)) (c3 .non))) (qU (zG (c3 (.int 0)) (Z4 (v3 2) (v3 4))) (qU (zG (c3 (.int 1)) (Z4 (v3 2) (o3 (iI Builtin.bitXor) (v3 4) (c3 (.int 1))))) (zG (o3 ix3 (v3 1) (o3 (iI Builtin.bitXor) (o3 ix3 (v3 0) (o3 (iI Builtin.bitXor) (v3 4) (c3 (.int 1)))) (c3 (.int 1)))) (gn3 4))))))) (zI (v3 2)))))
def EN (F:Fun K "halves_of" "halves_of" zD f fd) (bd:zz K fd QZ []) (hm:mg "halves_of" = some (.ref f))   (m_len:mg "len" = none) (m_range:mg "range" = none)
  (read:Rd sp 1 (jM) jI):Fn3 P w K mg base (k+1) "halves_of" sp:=
 zk (t3:=(jM)) F zc bd hm (λcdv A outer s H E hr=>(qh (XG 1 ["lane","order"] [none,some 0] rfl zc.nd (jt rfl m_range (qa (qp qA qK rfl m_len PySem.boot_len (qa (qb 0) qd)) qd) (h1:=by intro _ _ _ h;simpa [qc,qk] using h)) (λ_ _ _=>(jgn 0)) (λ_ _ _=>JV) (λ_ _ _=>(E6 (qb 1) (qa (qb 0) qd))) (by kernel_rfl) (by kernel_rfl) rfl rfl) (qh (XG 2 ["thing"] [none] rfl zc.nd (EY (qb 0)) (λ_ _ _=>(jgn 0)) (λ_ _ _=>JV) (λ_ _ _=>JB) (by kernel_rfl) (by kernel_rfl) rfl rfl) (qh (EI PassesOwn.never rfl (jt rfl m_range (qa (qp qA qK rfl m_len PySem.boot_len (qa (qb 0) qd)) qd) (h1:=by intro _ _ _ h;simpa [qc,qk] using h)) (jh (i:=3) (zc.nd)) (qh (qZ 4 zc.nd (qb 3)) (qm (LN PassesOwn.never (zd qbp SS (zH (qb 2) (qb 4)) JB (qX _)) (qh (VB qe (XQ (qb 2) (qb 4))) (qh (VB qe (XQ (qb 2) (TW (qb 4) qe))) (qm (qZ 4 zc.nd (zH (qb 1) (TW (zH (qb 0) (TW (qb 4) qe)) qe)))))))))) (qm (qu (qb 2))))))) read
abbrev j5:Stmt:=top 15
abbrev JK:List Str:=["order","halves","first","last","upper","lower"]
abbrev UN:List Str:=["order"]
def jw:FnScope JK UN (qf j5):=⟨rfl,rfl,rfl,by decide +kernel,rfl,by decide +kernel,by decide +kernel⟩
def JM (S_halves_of:Sp3) (S_net_by:Sp3):TS3:=(qU (ZF (tb3 (o3 (YM false) (cb3 Z6 (qc (v3 0) qk)) (c3 (.int 2)))) (zI (o3 ix3 (v3 0) (c3 (.int 0)))) zf) (qU (zG (cb3 S_halves_of (qc (v3 0) qk)) (gn3 1)) (qU (zG (cb3 QQ (qc (qiC (v3 1) (sp3 (c3 (.int 0))) (sp3 (c3 (.int 2)))) qk)) (gn3 2)) (qU (zG (cb3 QQ (qc (lc3 (qiz (qc (c3 (.int 0)) (qc (cb3 Z6 (qc (v3 0) qk)) (qc (c3 (.int 2)) qk)))) (gn3 0) tt3 (o3 ix3 (v3 1) (KU (v3 2) (qc (v3 0) qk))) [none,some 1,some 0]) qk)) (gn3 3)) (qU (zG (cb3 QQ (qc (lc3 (KI (qc (v3 0) (qc (v3 1) qk))) (U3 2 (jS (gn3 0) (jS (gn3 1) U2))) (tb3 (o3 (YM false) (v3 1) (c3 (.int 0)))) (o3 (iC EB (·/·)) (v3 0) (c3 (.int 2))) [none,none]) qk)) (gn3 4)) (qU (zG (cb3 QQ (qc (lc3 (KI (qc (v3 0) (qc (v3 1) qk))) (U3 2 (jS (gn3 0) (jS (gn3 1) U2))) (tb3 (o3 (YM false) (v3 1) (c3 (.int 1)))) (o3 (iC EB (·/·)) (v3 0) (c3 (.int 2))) [none,none]) qk)) (gn3 5)) (zI (YT (qc (v3 2) (qc (cb3 S_net_by (qc (v3 4) qk)) (qc (cb3 S_net_by (qc (v3 5) qk)) (qc (v3 3) qk))))))))))))
def ZB {S_halves_of:Sp3} {S_net_by:Sp3} (F:Fun K "net_by" "net_by" j5 f fd) (bd:zz K fd UN []) (hm:mg "net_by" = some (.ref f)) (qP:Fn3 P w K mg base k "halves_of" S_halves_of) (F_net_by:Fn3 P w K mg base k "net_by" S_net_by)  (m_len:mg "len" = none) (m_tuple:mg "tuple" = none) (m_range:mg "range" = none) (m_zip:mg "zip" = none)
  (read:Rd sp 1 (JM S_halves_of S_net_by) JK):Fn3 P w K mg base (k+1) "net_by" sp:=
 zk (t3:=(JM S_halves_of S_net_by)) F jw bd hm (λcdv A outer s H E hr=>(qh (jE (zd (jv hr.units) zu (qp qA qK rfl m_len PySem.boot_len (qa (qb 0) qd)) qe (qX _)) (qm (qu (zH (qb 0) qe))) zg) (qh (qZ 1 jw.nd (qq qP hr rfl (qa (qb 0) qd))) (qh (qZ 2 jw.nd (zj qR jp rfl m_tuple PyProof.Rows.boot_tuple (qa (qd0 (qb 1) (jO qe) (jO qe) (ops:=λ_ _=>_) (by intro _ _;with_unfolding_all rfl)) qd))) (qh (qZ 3 jw.nd (zj qR jp rfl m_tuple PyProof.Rows.boot_tuple (qa (WD ["lane","halves","order"] [none,some 1,some 0] rfl (qjO rfl m_range (qa qe (qa (qp qA qK rfl m_len PySem.boot_len (qa (qb 0) qd)) (qa qe qd)))) (λ_ _ _=>(jgn 0)) (λ_ _ _=>JV) (λ_ _ _=>(zH (qb 1) (E6 (qb 2) (qa (qb 0) qd)))) (by kernel_rfl) (by kernel_rfl)) qd))) (qh (qZ 4 jw.nd (zj qR jp rfl m_tuple PyProof.Rows.boot_tuple (qa (WD ["lane","half"] [none,none] rfl (qa3 rfl m_zip (qa (qb 0) (qa (qb 1) qd))) (λ_ _ _=>(WX rfl (jV (jgn 0) (jV (jgn 1) W6)))) (λ_ _ _=>N9 (zd (jv hr.units) zu (qb 1) qe (qX _))) (λ_ _ _=>(VX (qb 0) qe)) (by kernel_rfl) (by kernel_rfl)) qd))) (qh (qZ 5 jw.nd (zj qR jp rfl m_tuple PyProof.Rows.boot_tuple (qa (WD ["lane","half"] [none,none] rfl (qa3 rfl m_zip (qa (qb 0) (qa (qb 1) qd))) (λ_ _ _=>(WX rfl (jV (jgn 0) (jV (jgn 1) W6)))) (λ_ _ _=>N9 (zd (jv hr.units) zu (qb 1) qe (qX _))) (λ_ _ _=>(VX (qb 0) qe)) (by kernel_rfl) (by kernel_rfl)) qd))) (qm (qu (zY (qa (qb 2) (qa (qq F_net_by hr rfl (qa (qb 4) qd)) (qa (qq F_net_by hr rfl (qa (qb 5) qd)) (qa (qb 3) qd)))))))))))))) read
abbrev zZ:Stmt:=top 16
abbrev ju:List Str:=["thing"]
abbrev Z3:List Str:=["thing"]
def DL:FnScope ju Z3 (qf zZ):=⟨rfl,rfl,rfl,by decide +kernel,rfl,by decide +kernel,by decide +kernel⟩
def QI (S_is_number:Sp3):TS3:=(qU (ZF (or3 (CO (tb3 (KN (λt=>jb t "tuple") (v3 0)))) (tb3 (o3 (in3 true) (cb3 Z6 (qc (v3 0) qk)) (YT (qc (c3 (.int 2)) (qc (c3 (.int 4)) (qc (c3 (.int 8)) (qc (c3 (.int 16)) qk)))))))) (zI (c3 (.bl false))) zf) (zI (CA (cb3 qdn (qc (lc3 (V9 (v3 0)) (gn3 0) tt3 (cb3 S_is_number (qc (v3 0) qk)) [none]) qk)) (o3 (YM false) (cb3 VD (qc (v3 0) qk)) (YF (cb3 Z6 (qc (v3 0) qk)))))))
def DU {S_is_number:Sp3} (F:Fun K "is_order" "is_order" zZ f fd) (bd:zz K fd Z3 []) (hm:mg "is_order" = some (.ref f)) (qL:Fn3 P w K mg base k "is_number" S_is_number)  (m_len:mg "len" = none) (m_isinstance:mg "isinstance" = none) (m_tuple:mg "tuple" = none) (m_sorted:mg "sorted" = none) (m_list:mg "list" = none) (m_range:mg "range" = none) (m_all:mg "all" = none)
  (read:Rd sp 1 (QI S_is_number) ju):Fn3 P w K mg base (k+1) "is_order" sp:=
 zk (t3:=(QI S_is_number)) F DL bd hm (λcdv A outer s H E hr=>(qh (jE (jpt (MK (YI (Q7 (YG (qb 0) rfl m_isinstance rfl m_tuple PyProof.Rows.boot_tuple))) (SX (zd Z8 qaX (qp qA qK rfl m_len PySem.boot_len (qa (qb 0) qd)) (zY (qa qe (qa qe (qa qe (qa qe qd))))) (by with_unfolding_all rfl))))) (qm (qu YY)) zg) (qm (qu (CK (qp (QS rfl) R4 rfl m_all PyProof.Rows.boot_all (qa (WD ["lane"] [none] rfl (EY (qb 0)) (λ_ _ _=>(jgn 0)) (λ_ _ _=>JV) (λ_ _ _=>(qq qL hr rfl (qa (qb 0) qd))) (by kernel_rfl) (by kernel_rfl)) qd)) (RA (WY (jv hr.units) zu (qp Z7 ES rfl m_sorted PyProof.Rows.boot_sorted (qa (qb 0) qd)) (JQ rfl rfl m_list rfl m_range (qp qA qK rfl m_len PySem.boot_len (qa (qb 0) qd))) (qX _)))))))) read
abbrev zQ:Stmt:=top 17
abbrev zE:List Str:=["order"]
abbrev ZK:List Str:=["order"]
def VL:FnScope zE ZK (qf zQ):=⟨rfl,rfl,rfl,by decide +kernel,rfl,by decide +kernel,by decide +kernel⟩
def ZG (S_is_order:Sp3) (S_net_by:Sp3):TS3:=(qU (ZF (CO (tb3 (cb3 S_is_order (qc (v3 0) qk)))) qdg zf) (zI (cb3 S_net_by (qc (v3 0) qk))))
def X6 {S_is_order:Sp3} {S_net_by:Sp3} (F:Fun K "net_for" "net_for" zQ f fd) (bd:zz K fd ZK []) (hm:mg "net_for" = some (.ref f)) (qy:Fn3 P w K mg base k "is_order" S_is_order) (F_net_by:Fn3 P w K mg base k "net_by" S_net_by)  
  (read:Rd sp 1 (ZG S_is_order S_net_by) zE):Fn3 P w K mg base (k+1) "net_for" sp:=
 zk (t3:=(ZG S_is_order S_net_by)) F VL bd hm (λcdv A outer s H E hr=>(qh (jE (YI (Q7 (qq qy hr rfl (qa (qb 0) qd)))) W1 zg) (qm (qu (qq F_net_by hr rfl (qa (qb 0) qd)))))) read
def QG (S_is_order:Sp3) (dx:X3):TS3:=(qU (ZF (CO (tb3 (cb3 S_is_order (qc (v3 0) qk)))) (WZ 80 dx (qc (c3 (.str "this is no order of 2, 4, 8 or 16 lanes")) qk)) zf) qdg)
def D6 {sx:Spx} {S_is_order:Sp3} (F:Fun K "net_for" "net_for" zQ f fd) (bd:zz K fd ZK []) (hm:mg "net_for" = some (.ref f)) (qy:Fn3 P w K mg base k "is_order" S_is_order)  (r_NoOrder:RaX mg base "NoOrder" 80)
  (read:∀ ts G dx,sx ts G dx->ts.length=1/\(QG S_is_order) dx { nx:=λ_ _=>False,rt:=λ_ _=>False } (ql zE ts) G):Fnx P w K mg base (k+1) "net_for" sx:=
 qbN (t3:=λdx=>(QG S_is_order) dx) F VL bd hm (λdx cdv A outer s H E hE hr=>(qh (jE (YI (Q7 (qq qy hr rfl (qa (qb 0) qd)))) (qm (MI hE r_NoOrder rfl rfl (qa W7 qd))) zg) W1)) read
abbrev jk:Stmt:=top 19
abbrev J5:List Str:=["_law_cell","_law_k","_law_m"]
abbrev J1:List Str:=["_law_cell","_law_k"]
def VW:FnScope J5 J1 (qf jk):=⟨rfl,rfl,rfl,by decide +kernel,rfl,by decide +kernel,by decide +kernel⟩
def X8 (F:Fun K "_law_mix" "_law_mix" jk f fd) (bd:zz K fd J1 []) (hm:mg "_law_mix" = some (.ref f))   
  (read:Rd sp 2 (Bk.ZJ) J5):Fn3 P w K mg base (k+1) "_law_mix" sp:=
 zk (t3:=(Bk.ZJ)) F VW bd hm (λcdv A outer s H E hr=>(qh (qZ 2 VW.nd (Z5 (J3 (zT (zT (Z5 (qb 0) qe) (J3 (J3 (qb 1) (qb 1)) qe)) qe) qe) qe)) (qm (qu (Z5 (J3 (qb 2) (qb 2)) qe))))) read
abbrev zW:Stmt:=top 20
abbrev ZM:List Str:=["_law_script","_law_k","_law_cell","_law_own"]
abbrev ZS:List Str:=["_law_script","_law_k"]
def QW:FnScope ZM ZS (qf zW):=⟨rfl,rfl,rfl,by decide +kernel,rfl,by decide +kernel,by decide +kernel⟩
def D7 (F:Fun K "_law_left" "_law_left" zW f fd) (bd:zz K fd ZS []) (hm:mg "_law_left" = some (.ref f))   (m_len:mg "len" = none) (m_abs:mg "abs" = none)
  (read:Rd sp 2 (Bk.QK) ZM):Fn3 P w K mg base (k+1) "_law_left" sp:=
 zk (t3:=(Bk.QK)) F QW bd hm (λcdv A outer s H E hr=>(qh (qZ 2 QW.nd (qcF (zd qbT EF (qb 1) (qp qA qK rfl m_len PySem.boot_len (qa (qb 0) qd)) (qX _)) (zH (qb 0) (qb 1)) qe)) (qh (qZ 3 QW.nd (qcF (zd qki EF (qp WN RC rfl m_abs PyProof.Rows.boot_abs (qa (qb 2) qd)) (qfv qe qe) (qX _)) (qp WN RC rfl m_abs PyProof.Rows.boot_abs (qa (qb 2) qd)) qe)) (qm (qu (VC (qa (qb 3) (qa (zT (qb 2) (J3 qe (qb 1))) (qa qe qd))))))))) read
abbrev zR:Stmt:=top 21
abbrev ZV:List Str:=["_law_left_here","_law_many","_law_digit"]
abbrev ZW:List Str:=["_law_left_here","_law_many"]
def J6:FnScope ZV ZW (qf zR):=⟨rfl,rfl,rfl,by decide +kernel,rfl,by decide +kernel,by decide +kernel⟩
def DG {S_law_mix:Sp3} (F:Fun K "_law_pick" "_law_pick" zR f fd) (bd:zz K fd ZW []) (hm:mg "_law_pick" = some (.ref f)) (F_law_mix:Fn3 P w K mg base k "_law_mix" S_law_mix)  
  (read:Rd sp 2 (Bk.QJ S_law_mix) ZV):Fn3 P w K mg base (k+1) "_law_pick" sp:=
 zk (t3:=(Bk.QJ S_law_mix)) F J6 bd hm (λcdv A outer s H E hr=>(qh (VB (zT (zH (qb 0) qe) qe) (XQ (qb 0) qe)) (qh (jE (zd qil EF (zH (qb 0) qe) qe (qX _)) (qh (qZ 2 J6.nd (Z5 (zH (qb 0) qe) (qb 1))) (qh (VB (VX (zH (qb 0) qe) (qb 1)) (XQ (qb 0) qe)) (qm (qu (qb 2))))) zg) (qm (qu (Z5 (VX (qq F_law_mix hr rfl (qa (qq F_law_mix hr rfl (qa (zH (qb 0) qe) (qa (zH (qb 0) qe) qd))) (qa (zT (zH (qb 0) qe) qe) qd))) qe) (qb 1))))))) read
abbrev z3:Stmt:=top 22
abbrev jl:List Str:=["_law_net","_law_k","_law_side","_law_at"]
abbrev ZZ:List Str:=["_law_net","_law_k"]
def QV:FnScope jl ZZ (qf z3):=⟨rfl,rfl,rfl,by decide +kernel,rfl,by decide +kernel,by decide +kernel⟩
def QH (S_law_lane:Sp3):TS3:=(qU (ZF (tb3 (KN (λt=>jb t "int") (v3 0))) (zI (o3 (iC (λ_ j=>0<j) (·%·)) (o3 JE (v3 1) (v3 0)) (c3 (.int 2)))) zf) (qU (zG (o3 (iC (λ_ j=>0<j) (·%·)) (o3 JE (v3 1) (o3 ix3 (o3 ix3 (v3 0) (c3 (.int 0))) (o3 (iC EB (·/·)) (v3 1) (c3 (.int 2))))) (c3 (.int 2))) (gn3 2)) (qU (zG (cb3 S_law_lane (qc (o3 ix3 (v3 0) (o3 JE (c3 (.int 1)) (v3 2))) (qc (o3 (iC EB (·/·)) (v3 1) (c3 (.int 2))) qk))) (gn3 3)) (zI (o3 JE (o3 (iC UP (·*·)) (c3 (.int 2)) (v3 3)) (o3 (iC (λ_ j=>0<j) (·%·)) (o3 JE (v3 2) (o3 ix3 (o3 ix3 (v3 0) (c3 (.int 3))) (v3 3))) (c3 (.int 2))))))))
def jL {S_law_lane:Sp3} (F:Fun K "_law_lane" "_law_lane" z3 f fd) (bd:zz K fd ZZ []) (hm:mg "_law_lane" = some (.ref f)) (F_law_lane:Fn3 P w K mg base k "_law_lane" S_law_lane)  (m_isinstance:mg "isinstance" = none) (m_int:mg "int" = none)
  (read:Rd sp 2 (QH S_law_lane) jl):Fn3 P w K mg base (k+1) "_law_lane" sp:=
 zk (t3:=(QH S_law_lane)) F QV bd hm (λcdv A outer s H E hr=>(qh (jE (Q7 (YG (qb 0) rfl m_isinstance rfl m_int PyProof.Rows.boot_int)) (qm (qu (Z5 (zT (qb 1) (qb 0)) qe))) zg) (qh (qZ 2 QV.nd (Z5 (zT (qb 1) (zH (zH (qb 0) qe) (VX (qb 1) qe))) qe)) (qh (qZ 3 QV.nd (qq F_law_lane hr rfl (qa (zH (qb 0) (zT qe (qb 2))) (qa (VX (qb 1) qe) qd)))) (qm (qu (zT (J3 qe (qb 3)) (Z5 (zT (qb 2) (zH (zH (qb 0) qe) (qb 3))) qe)))))))) read
abbrev zA:Stmt:=top 23
abbrev zV:List Str:=["_law_left_here","_law_lanes","_law_rest","_law_found","_law_k"]
abbrev Q0:List Str:=["_law_left_here","_law_lanes"]
def j2:FnScope zV Q0 (qf zA):=⟨rfl,rfl,rfl,by decide +kernel,rfl,by decide +kernel,by decide +kernel⟩
def jG (S_law_pick:Sp3):TS3:=(qU (M9 2 3 (qc (YF (v3 1)) (qc (KM qk) qk))) (qU (X2 (ZU (qc (v3 1) qk)) (gn3 4) (CP (bm3 qbU (v3 3) (qc (bm3 qda (v3 2) (qc (cb3 S_law_pick (qc (v3 0) (qc (cb3 Z6 (qc (v3 2) qk)) qk))) qk)) qk)))) (zI (cb3 QQ (qc (v3 3) qk)))))
def ED {S_law_pick:Sp3} (F:Fun K "_law_order" "_law_order" zA f fd) (bd:zz K fd Q0 []) (hm:mg "_law_order" = some (.ref f)) (F_law_pick:Fn3 P w K mg base k "_law_pick" S_law_pick)  (m_list:mg "list" = none) (m_range:mg "range" = none) (m_len:mg "len" = none) (m_tuple:mg "tuple" = none)
  (read:Rd sp 2 (jG S_law_pick) zV):Fn3 P w K mg base (k+1) "_law_order" sp:=
 zk (t3:=(jG S_law_pick)) F j2 bd hm (λcdv A outer s H E hr=>(qh (T4 (i:=2) (j:=3) rfl j2.nd rfl rfl (by decide) rfl rfl (qa (JQ rfl rfl m_list rfl m_range (qb 1)) (qa (VC qd) qd))) (qh (EI PassesOwn.never rfl (jt rfl m_range (qa (qb 1) qd) (h1:=by intro _ _ _ h;simpa [qc,qk] using h)) (jh (i:=4) (j2.nd)) (qm (qbJ (RG (qb 3) (qa (qf7 (qb 2) (qa (qq F_law_pick hr rfl (qa (qb 0) (qa (qp qA qK rfl m_len PySem.boot_len (qa (qb 2) qd)) qd))) qd)) qd))))) (qm (qu (zj qR jp rfl m_tuple PyProof.Rows.boot_tuple (qa (qb 3) qd))))))) read
abbrev zB:Stmt:=top 24
abbrev zU:List Str:=["_law_left_here","_law_order_here","_law_way","_law_at","_law_one","_law_rest","_law_more"]
abbrev Q2:List Str:=["_law_left_here","_law_order_here"]
def jd:FnScope zU Q2 (qf zB):=⟨rfl,rfl,rfl,by decide +kernel,rfl,by decide +kernel,by decide +kernel⟩
def jQ (S_law_pick:Sp3):TS3:=(qU (M9 2 3 (qc (cb3 S_law_pick (qc (v3 0) (qc (c3 (.int 8)) qk))) (qc (cb3 S_law_pick (qc (v3 0) (qc (cb3 Z6 (qc (v3 1) qk)) qk))) qk))) (qU (M9 4 5 (qc (o3 ix3 (v3 1) (v3 3)) (qc (UG (v3 1) (sp3 (o3 jX (v3 3) (c3 (.int 1)))) np3) qk))) (qU (ZF (tb3 (o3 (YM false) (v3 2) (c3 (.int 0)))) (zI (o3 jX (UG (v3 1) np3 (sp3 (v3 3))) (v3 5))) zf) (qU (ZF (tb3 (o3 (YM false) (v3 2) (c3 (.int 1)))) (zI (o3 jX (o3 jX (UG (v3 1) np3 (sp3 (v3 3))) (YT (qc (v3 4) (qc (v3 4) qk)))) (v3 5))) zf) (qU (ZF (tb3 (o3 (YM false) (v3 2) (c3 (.int 2)))) (zI (o3 jX (o3 jX (UG (v3 1) np3 (sp3 (v3 3))) (YT (qc (o3 ix3 (v3 1) (cb3 S_law_pick (qc (v3 0) (qc (cb3 Z6 (qc (v3 1) qk)) qk)))) qk))) (v3 5))) zf) (qU (ZF (tb3 (o3 (YM false) (v3 2) (c3 (.int 3)))) (zI (o3 jX (v3 1) (YT (qc (cb3 Z6 (qc (v3 1) qk)) qk)))) zf) (qU (ZF (tb3 (o3 (YM false) (v3 2) (c3 (.int 4)))) (zI (cb3 qkD (qc (cb3 S_law_pick (qc (v3 0) (qc (c3 (.int 33)) qk))) qk))) zf) (qU (zG (o3 ix3 (KM (qc (c3 (.int 1)) (qc (u3 qdl (c3 (.int 1))) (qc (o3 (iI (·-·)) (u3 qdl (c3 (.int 1))) (o3 (iC UP (·*·)) (c3 (.int 2)) (v3 4))) (qc (cb3 Z6 (qc (v3 1) qk)) qk))))) (cb3 S_law_pick (qc (v3 0) (qc (c3 (.int 4)) qk)))) (gn3 6)) (zI (o3 jX (o3 jX (UG (v3 1) np3 (sp3 (v3 3))) (YT (qc (o3 jX (v3 4) (v3 6)) qk))) (v3 5)))))))))))
def U7 {S_law_pick:Sp3} (F:Fun K "_law_other" "_law_other" zB f fd) (bd:zz K fd Q2 []) (hm:mg "_law_other" = some (.ref f)) (F_law_pick:Fn3 P w K mg base k "_law_pick" S_law_pick)  (m_len:mg "len" = none) (m_tuple:mg "tuple" = none) (m_range:mg "range" = none)
  (read:Rd sp 2 (jQ S_law_pick) zU):Fn3 P w K mg base (k+1) "_law_other" sp:=
 zk (t3:=(jQ S_law_pick)) F jd bd hm (λcdv A outer s H E hr=>(qh (T4 (i:=2) (j:=3) rfl jd.nd rfl rfl (by decide) rfl rfl (qa (qq F_law_pick hr rfl (qa (qb 0) (qa qe qd))) (qa (qq F_law_pick hr rfl (qa (qb 0) (qa (qp qA qK rfl m_len PySem.boot_len (qa (qb 1) qd)) qd))) qd))) (qh (T4 (i:=4) (j:=5) rfl jd.nd rfl rfl (by decide) rfl rfl (qa (zH (qb 1) (qb 3)) (qa (ja (qb 1) (jO (qV (qb 3) qe)) QT) qd))) (qh (jE (zd (jv hr.units) zu (qb 2) qe (qX _)) (qm (qu (qV (ja (qb 1) QT (jO (qb 3))) (qb 5)))) zg) (qh (jE (zd (jv hr.units) zu (qb 2) qe (qX _)) (qm (qu (qV (qV (ja (qb 1) QT (jO (qb 3))) (zY (qa (qb 4) (qa (qb 4) qd)))) (qb 5)))) zg) (qh (jE (zd (jv hr.units) zu (qb 2) qe (qX _)) (qm (qu (qV (qV (ja (qb 1) QT (jO (qb 3))) (zY (qa (zH (qb 1) (qq F_law_pick hr rfl (qa (qb 0) (qa (qp qA qK rfl m_len PySem.boot_len (qa (qb 1) qd)) qd)))) qd))) (qb 5)))) zg) (qh (jE (zd (jv hr.units) zu (qb 2) qe (qX _)) (qm (qu (qV (qb 1) (zY (qa (qp qA qK rfl m_len PySem.boot_len (qa (qb 1) qd)) qd))))) zg) (qh (jE (zd (jv hr.units) zu (qb 2) qe (qX _)) (qm (qu (S4 rfl rfl m_tuple rfl m_range (qq F_law_pick hr rfl (qa (qb 0) (qa qe qd)))))) zg) (qh (qZ 6 jd.nd (zH (VC (qa qe (qa (qa4 qe) (qa (qd5 (qa4 qe) (J3 qe (qb 4))) (qa (qp qA qK rfl m_len PySem.boot_len (qa (qb 1) qd)) qd))))) (qq F_law_pick hr rfl (qa (qb 0) (qa qe qd))))) (qm (qu (qV (qV (ja (qb 1) QT (jO (qb 3))) (zY (qa (qV (qb 4) (qb 6)) qd))) (qb 5))))))))))))) read
abbrev q5:Stmt:=top 25
abbrev zN:List Str:=["_law_left_here","_law_order_here","_law_way","_law_at","_law_odd"]
abbrev jP:List Str:=["_law_left_here","_law_order_here"]
def zv:FnScope zN jP (qf q5):=⟨rfl,rfl,rfl,by decide +kernel,rfl,by decide +kernel,by decide +kernel⟩
def zM (S_law_pick:Sp3):TS3:=(qU (zG (YT (qc (cb3 S_law_pick (qc (v3 0) (qc (c3 (.int 5)) qk))) (qc (cb3 S_law_pick (qc (v3 0) (qc (cb3 Z6 (qc (v3 1) qk)) qk))) qk))) (U3 2 (jS (gn3 2) (jS (gn3 3) U2)))) (qU (zG (o3 ix3 (KM (qc (c3 (.bl true)) (qc (c3 (.bl false)) (qc (c3 .non) (qc (c3 (.str "")) (qc (c3 (.str "0")) (qc (YT qk) (qc (YT (qc (c3 (.int 0)) qk)) (qc (KM (qc (c3 (.int 0)) qk)) (qc (cb3 (LH true) (qc (o3 ix3 (v3 1) (v3 3)) qk)) qk)))))))))) (cb3 S_law_pick (qc (v3 0) (qc (c3 (.int 9)) qk)))) (gn3 4)) (qU (ZF (tb3 (o3 (iB λi j=>decide (i<j)) (v3 2) (c3 (.int 3)))) (zI (o3 jX (o3 jX (UG (v3 1) np3 (sp3 (v3 3))) (YT (qc (v3 4) qk))) (UG (v3 1) (sp3 (o3 jX (v3 3) (c3 (.int 1)))) np3))) zf) (qU (ZF (tb3 (o3 (YM false) (v3 2) (c3 (.int 3)))) (zI (o3 ix3 (KM (qc (cb3 DO (qc (v3 1) qk)) (qc (c3 .non) (qc (c3 (.str "01")) (qc (c3 (.int 1)) (qc (YT (qc (YT (qc (c3 (.int 0)) (qc (c3 (.int 1)) qk))) qk)) qk)))))) (cb3 S_law_pick (qc (v3 0) (qc (c3 (.int 5)) qk))))) zf) (zI (cb3 QQ (qc (lc3 (V9 (v3 1)) (gn3 0) tt3 (o3 (YM false) (v3 0) (o3 ix3 (v3 1) (v3 2))) [none,some 1,some 3]) qk)))))))
def YW {S_law_pick:Sp3} (F:Fun K "_law_strange" "_law_strange" q5 f fd) (bd:zz K fd jP []) (hm:mg "_law_strange" = some (.ref f)) (F_law_pick:Fn3 P w K mg base k "_law_pick" S_law_pick)  (m_len:mg "len" = none) (m_str:mg "str" = none) (m_list:mg "list" = none) (m_tuple:mg "tuple" = none)
  (read:Rd sp 2 (zM S_law_pick) zN):Fn3 P w K mg base (k+1) "_law_strange" sp:=
 zk (t3:=(zM S_law_pick)) F zv bd hm (λcdv A outer s H E hr=>(qh (VB (zY (qa (qq F_law_pick hr rfl (qa (qb 0) (qa qe qd))) (qa (qq F_law_pick hr rfl (qa (qb 0) (qa (qp qA qK rfl m_len PySem.boot_len (qa (qb 1) qd)) qd))) qd))) (WX rfl (jV (jh (i:=2) (zv.nd)) (jV (jh (i:=3) (zv.nd)) W6)))) (qh (qZ 4 zv.nd (zH (VC (qa YY (qa YY (qa JB (qa W7 (qa W7 (qa (zY qd) (qa (zY (qa qe qd)) (qa (VC (qa qe qd)) (qa (zj (DX hr.gd hr.units) MP rfl m_str PyProof.Rows.boot_str (qa (zH (qb 1) (qb 3)) qd)) qd)))))))))) (qq F_law_pick hr rfl (qa (qb 0) (qa qe qd))))) (qh (jE (zd qbT EF (qb 2) qe (qX _)) (qm (qu (qV (qV (ja (qb 1) QT (jO (qb 3))) (zY (qa (qb 4) qd))) (ja (qb 1) (jO (qV (qb 3) qe)) QT)))) zg) (qh (jE (zd (jv hr.units) zu (qb 2) qe (qX _)) (qm (qu (zH (VC (qa (zj JA XJ rfl m_list PyProof.Rows.boot_list (qa (qb 1) qd)) (qa JB (qa W7 (qa qe (qa (zY (qa (zY (qa qe (qa qe qd))) qd)) qd)))))) (qq F_law_pick hr rfl (qa (qb 0) (qa qe qd)))))) zg) (qm (qu (zj qR jp rfl m_tuple PyProof.Rows.boot_tuple (qa (WD ["_law_one","_law_order_here","_law_at"] [none,some 1,some 3] rfl (EY (qb 1)) (λ_ _ _=>(jgn 0)) (λ_ _ _=>JV) (λ_ _ _=>(WY (jv hr.units) zu (qb 0) (zH (qb 1) (qb 2)) (qX _))) (by kernel_rfl) (by kernel_rfl)) qd))))))))) read
abbrev qO:Stmt:=top 26
abbrev zx:List Str:=["_law_thing"]
abbrev jf:List Str:=["_law_thing"]
def JP:FnScope zx jf (qf qO):=⟨rfl,rfl,rfl,by decide +kernel,rfl,by decide +kernel,by decide +kernel⟩
def zy:TS3:=(qU (ZF (or3 (CO (tb3 (KN (λt=>jb t "tuple") (v3 0)))) (tb3 (o3 (in3 true) (cb3 Z6 (qc (v3 0) qk)) (YT (qc (c3 (.int 2)) (qc (c3 (.int 4)) (qc (c3 (.int 8)) (qc (c3 (.int 16)) qk)))))))) (zI (c3 (.bl false))) zf) (qU (ZF (CO (tb3 (cb3 qdn (qc (lc3 (V9 (v3 0)) (gn3 0) tt3 (CA (KN (λt=>jb t "int") (v3 0)) (C8 (KN (λt=>jb t "bool") (v3 0)))) [none]) qk)))) (zI (c3 (.bl false))) zf) (zI (o3 (YM false) (cb3 VD (qc (v3 0) qk)) (YF (cb3 Z6 (qc (v3 0) qk)))))))
def JU (F:Fun K "_law_is_order" "_law_is_order" qO f fd) (bd:zz K fd jf []) (hm:mg "_law_is_order" = some (.ref f))   (m_len:mg "len" = none) (m_isinstance:mg "isinstance" = none) (m_tuple:mg "tuple" = none) (m_bool:mg "bool" = none) (m_int:mg "int" = none) (m_all:mg "all" = none) (m_sorted:mg "sorted" = none) (m_list:mg "list" = none) (m_range:mg "range" = none)
  (read:Rd sp 1 (zy) zx):Fn3 P w K mg base (k+1) "_law_is_order" sp:=
 zk (t3:=(zy)) F JP bd hm (λcdv A outer s H E hr=>(qh (jE (jpt (MK (YI (Q7 (YG (qb 0) rfl m_isinstance rfl m_tuple PyProof.Rows.boot_tuple))) (SX (zd Z8 qaX (qp qA qK rfl m_len PySem.boot_len (qa (qb 0) qd)) (zY (qa qe (qa qe (qa qe (qa qe qd))))) (by with_unfolding_all rfl))))) (qm (qu YY)) zg) (qh (jE (YI (Q7 (qp (QS rfl) R4 rfl m_all PyProof.Rows.boot_all (qa (WD ["_law_one"] [none] rfl (EY (qb 0)) (λ_ _ _=>(jgn 0)) (λ_ _ _=>JV) (λ_ _ _=>(CK (YG (qb 0) rfl m_isinstance rfl m_int PyProof.Rows.boot_int) (RA (qaE (YG (qb 0) rfl m_isinstance rfl m_bool PyProof.Rows.boot_bool))))) (by kernel_rfl) (by kernel_rfl)) qd)))) (qm (qu YY)) zg) (qm (qu (WY (jv hr.units) zu (qp Z7 ES rfl m_sorted PyProof.Rows.boot_sorted (qa (qb 0) qd)) (JQ rfl rfl m_list rfl m_range (qp qA qK rfl m_len PySem.boot_len (qa (qb 0) qd))) (qX _))))))) read
abbrev z9:Stmt:=top 27
abbrev ZQ:List Str:=["_law_order_here","_law_found","_law_caught","error","_law_others"]
abbrev ZO:List Str:=["_law_order_here"]
def qM:FnScope ZQ ZO (qf z9):=⟨rfl,rfl,rfl,by decide +kernel,rfl,by decide +kernel,by decide +kernel⟩
def jx (S_net_for:Sp3) (S_law_lane:Sp3) (Sx_net_for:Spx):TS3:=(qU (zG (YT (qc (c3 .non) (qc (c3 .non) qk))) (U3 2 (jS (gn3 1) (jS (gn3 2) U2)))) (qU (qkP 3 [80] (zG (cb3 S_net_for (qc (v3 0) qk)) (gn3 1)) (qcQ Sx_net_for (qc (v3 0) qk)) (zG (v3 3) (gn3 2))) (qU (ZF (tb3 (o3 (qbB false) (v3 2) (c3 .non))) (zI (o3 (YM false) (lc3 (ZU (qc (cb3 Z6 (qc (v3 0) qk)) qk)) (gn3 0) tt3 (cb3 S_law_lane (qc (v3 1) (qc (v3 0) qk))) [none,some 1]) (cb3 DO (qc (v3 0) qk)))) zf) (qU (zG (qb7 [(none,false),(some 80,false)] (v3 2)) (gn3 4)) (qU (ZF (or3 (tb3 (v3 4)) (or3 (CO (tb3 (qb7 [(none,false),(some 80,true)] (v3 2)))) (CO (tb3 (qb7 [(none,false),(some 80,true)] (v3 2)))))) (zI (c3 .non)) zf) (zI (c3 (.bl false))))))))
def DE {S_net_for:Sp3} {S_law_lane:Sp3} {Sx_net_for:Spx} (F:Fun K "_law_told" "_law_told" z9 f fd) (bd:zz K fd ZO []) (hm:mg "_law_told" = some (.ref f)) (q0:Fn3 P w K mg base k "net_for" S_net_for) (F_law_lane:Fn3 P w K mg base k "_law_lane" S_law_lane) (Fx_net_for:Fnx P w K mg base k "net_for" Sx_net_for) (m_BankError:mg "BankError" = some (.ref 31)) (b_BankError:ExC base 31 [.ref 31,.type "ValueError",.type "Exception",.type "BaseException",.type "object"]) (c_BankError:∀ C∈[80],Ct base 31 C) (m_len:mg "len" = none) (m_range:mg "range" = none) (m_list:mg "list" = none) (m_isinstance:mg "isinstance" = none) (m_BadRow:mg "BadRow" = some (.ref 154)) (m_BadText:mg "BadText" = some (.ref 116)) (m_Clash:mg "Clash" = some (.ref 92)) (m_NoAsk:mg "NoAsk" = some (.ref 135)) (m_NoStart:mg "NoStart" = some (.ref 56)) (m_NotSquare:mg "NotSquare" = some (.ref 104)) (m_NoWalk:mg "NoWalk" = some (.ref 68)) (m_NoWord:mg "NoWord" = some (.ref 44)) (x_0:XD K [.ref 154,.ref 116,.ref 92,.ref 135,.ref 56,.ref 104,.ref 68,.ref 44] [(none,false),(some 80,false)]) (m_ValueError:mg "ValueError" = none) (x_1:XD K [.type "ValueError"] [(none,false),(some 80,true)]) (m_NoOrder:mg "NoOrder" = some (.ref 80)) (x_2:XD K [.ref 80] [(none,false),(some 80,true)])
  (read:Rd sp 1 (jx S_net_for S_law_lane Sx_net_for) ZQ):Fn3 P w K mg base (k+1) "_law_told" sp:=
 zk (t3:=(jx S_net_for S_law_lane Sx_net_for)) F qM bd hm (λcdv A outer s H E hr=>(qh (VB (zY (qa JB (qa JB qd))) (WX rfl (jV (jh (i:=1) (qM.nd)) (jV (jh (i:=2) (qM.nd)) W6)))) (qh (qf9 (i:=3) [80] rfl rfl rfl rfl m_BankError b_BankError (by kernel_rfl) c_BankError qM.nd rfl rfl rfl (qm (qZ 1 qM.nd (qq q0 hr rfl (qa (qb 0) qd)))) (qfU 1 qM.nd (qc0 Fx_net_for hr rfl (λ_ _ _=>(qa (qb 0) qd)))) (λ_=>(qm (qZ 2 qM.nd (qb 3))))) (qh (jE (zd qbp SS (qb 2) JB (qX _)) (qm (qu (WY (jv hr.units) zu (WD ["_law_k","_law_found"] [none,some 1] rfl (jt rfl m_range (qa (qp qA qK rfl m_len PySem.boot_len (qa (qb 0) qd)) qd) (h1:=by intro _ _ _ h;simpa [qc,qk] using h)) (λ_ _ _=>(jgn 0)) (λ_ _ _=>JV) (λ_ _ _=>(qq F_law_lane hr rfl (qa (qb 1) (qa (qb 0) qd)))) (by kernel_rfl) (by kernel_rfl)) (zj JA XJ rfl m_list PyProof.Rows.boot_list (qa (qb 0) qd)) (qX _)))) zg) (qh (qZ 4 qM.nd (qcO (qb 2) rfl m_isinstance (.cons (jy rfl m_BadRow) rfl (.cons (jy rfl m_BadText) rfl (.cons (jy rfl m_Clash) rfl (.cons (jy rfl m_NoAsk) rfl (.cons (jy rfl m_NoStart) rfl (.cons (jy rfl m_NotSquare) rfl (.cons (jy rfl m_NoWalk) rfl (.cons (jy rfl m_NoWord) rfl .nil)))))))) (by decide) x_0)) (qh (jE (jpt (MK (Q7 (qb 4)) (MK (YI (Q7 (qbe (qb 2) rfl m_isinstance (jy rfl m_NoOrder) x_2))) (SX (YI (Q7 (qbe (qb 2) rfl m_isinstance (qgx rfl m_ValueError L3.qcY) x_1))))))) (qm (qu JB)) zg) (qm (qu YY)))))))) read
abbrev j7:Stmt:=top 28
abbrev S5:List Str:=["_law_script","_law_k","_law_left_here","_law_lanes","_law_order_here","_law_turn","_law_odd"]
abbrev qdB:List Str:=["_law_script"]
def JT:FnScope S5 qdB (qf j7):=⟨rfl,rfl,rfl,by decide +kernel,rfl,by decide +kernel,by decide +kernel⟩
def qcR (S_law_left:Sp3) (S_law_order:Sp3) (S_law_other:Sp3) (S_law_strange:Sp3) (S_law_told:Sp3) (S_law_is_order:Sp3):TS3:=(qU (X2 (ZU (qc (o3 JE (c3 (.int 1)) (cb3 qe4 (qc (c3 (.int 8)) (qc (cb3 Z6 (qc (v3 0) qk)) qk)))) qk)) (gn3 1) (qU (zG (cb3 S_law_left (qc (v3 0) (qc (v3 1) qk))) (gn3 2)) (X2 (V9 (YT (qc (c3 (.int 2)) (qc (c3 (.int 4)) (qc (c3 (.int 8)) (qc (c3 (.int 16)) qk)))))) (gn3 3) (qU (zG (cb3 S_law_order (qc (v3 2) (qc (v3 3) qk))) (gn3 4)) (qU (X2 (ZU (qc (c3 (.int 14)) qk)) (gn3 5) (qU (zG (if3 (tb3 (o3 (iB λi j=>decide (i<j)) (v3 5) (c3 (.int 10)))) (cb3 S_law_other (qc (v3 2) (qc (v3 4) qk))) (cb3 S_law_strange (qc (v3 2) (qc (v3 4) qk)))) (gn3 6)) (ZF (tb3 (o3 (YM true) (cb3 S_law_told (qc (v3 6) qk)) (cb3 S_law_is_order (qc (v3 6) qk)))) (zI (c3 (.bl false))) zf))) (ZF (tb3 (o3 (qhW true) (cb3 S_law_told (qc (v3 4) qk)) (c3 (.bl true)))) (zI (c3 (.bl false))) zf)))))) (zI (c3 (.bl true))))
def qfq {S_law_left:Sp3} {S_law_order:Sp3} {S_law_other:Sp3} {S_law_strange:Sp3} {S_law_told:Sp3} {S_law_is_order:Sp3} (F:Fun K "law" "law" j7 f fd) (F_law_left:Fn3 P w K mg base k "_law_left" S_law_left) (F_law_order:Fn3 P w K mg base k "_law_order" S_law_order) (F_law_other:Fn3 P w K mg base k "_law_other" S_law_other) (F_law_strange:Fn3 P w K mg base k "_law_strange" S_law_strange) (qx:Fn3 P w K mg base k "_law_told" S_law_told) (qv:Fn3 P w K mg base k "_law_is_order" S_law_is_order)  (m_len:mg "len" = none) (m_min:mg "min" = none) (m_range:mg "range" = none)
  (read:Rd sp 1 (qcR S_law_left S_law_order S_law_other S_law_strange S_law_told S_law_is_order) S5):FnOk P w K mg base CX0 (k+1) f fd qdB (lSp K sp):=
 LB (t3:=(qcR S_law_left S_law_order S_law_other S_law_strange S_law_told S_law_is_order)) F JT (λcdv A outer s H E hr=>(qh (EI PassesOwn.never rfl (jt rfl m_range (qa (zT qe (qp (T9 rfl) qcA rfl m_min PyProof.Rows.boot_min (qa qe (qa (qp qA qK rfl m_len PySem.boot_len (qa (qb 0) qd)) qd)))) qd) (h1:=by intro _ _ _ h;simpa [qc,qk] using h)) (jh (i:=1) (JT.nd)) (qh (qZ 2 JT.nd (qq F_law_left hr rfl (qa (qb 0) (qa (qb 1) qd)))) (qm (EI PassesOwn.never rfl (EY (zY (qa qe (qa qe (qa qe (qa qe qd)))))) (jh (i:=3) (JT.nd)) (qh (qZ 4 JT.nd (qq F_law_order hr rfl (qa (qb 2) (qa (qb 3) qd)))) (qh (EI PassesOwn.never rfl (jt rfl m_range (qa qe qd) (h1:=by intro _ _ _ h;simpa [qc,qk] using h)) (jh (i:=5) (JT.nd)) (qh (qZ 6 JT.nd (qcF (zd qbT EF (qb 5) qe (qX _)) (qq F_law_other hr rfl (qa (qb 2) (qa (qb 4) qd))) (qq F_law_strange hr rfl (qa (qb 2) (qa (qb 4) qd))))) (qm (jE (zd (qgo hr.units) qcM (qq qx hr rfl (qa (qb 6) qd)) (qq qv hr rfl (qa (qb 6) qd)) (qX _)) (qm (qu YY)) zg)))) (qm (jE (zd qb3 L6 (qq qx hr rfl (qa (qb 4) qd)) YY (qX _)) (qm (qu YY)) zg)))))))) (qm (qu YY)))) read
end K58
namespace K58
open PySem L2 L3 Pu
def qI:PuS (Bk.jN):=(X7 (RM (qbf (λt=>jb t "int") (bV 0)) (qcu (qbf (λt=>jb t "bool") (bV 0)))))
def qL:List PyData->Option PyData:=Pu.run qI.f 1 1 1000000000 false
def EM:Rd (PSp qL false) 1 (Bk.jN) jC:=jZ qI jC 1 1000000000 false
def E8 {x0:PyData}:qL [x0]=DQ false (qI.f 1000000000 [.sh x0]):=id rfl
def jA:PuS (K58.jM):=(VV (CH (bLc (qbz (qg (qE DC (qg (bV 0) qD)) qD)) (gN 0) bTt (qc6 (bV 1) (qg (bV 0) qD)) [none,some 0] ⟨rfl⟩) 1 [true] ⟨rfl⟩) (VV (CH (bLc (qbk (bV 0)) (gN 0) bTt qel [none] ⟨rfl⟩) 2 [true] ⟨rfl⟩) (VV (qk7 (qbz (qg (qE DC (qg (bV 0) qD)) qD)) (gN 3) (VV (CH (bV 3) 4 [false,false,false,true] ⟨rfl⟩) (sWh (bTb (bO (qgt false) (bO YU (bV 2) (bV 4)) qel)) (VV (qjH (za 0) 2 (bV 4) [] ⟨rfl⟩) (VV (qjH (za 1) 2 (bO (opI Builtin.bitXor) (bV 4) (za 1)) [] ⟨rfl⟩) (CH (bO YU (bV 1) (bO (opI Builtin.bitXor) (bO YU (bV 0) (bO (opI Builtin.bitXor) (bV 4) (za 1))) (za 1))) 4 [true,true,false,false,true] ⟨rfl⟩))))) [true] ⟨rfl⟩) (qgA 2))))
def qP:List PyData->Option PyData:=Pu.run jA.f 1 5 1000000000 true
def U0:Rd (PSp qP true) 1 (K58.jM) jI:=jZ jA jI 1 1000000000 true
def E5 {x0:PyData}:qP [x0]=DQ true (jA.f 1000000000 [.sh x0,.un,.un,.un,.un]):=id rfl
def QL (Ff:List PyData->Option PyData):PuS (K58.JM (PSp qP true) (PSp Ff false)):=(VV (sIf (bTb (bO (UQ false) (qE DC (qg (bV 0) qD)) (za 2))) (X7 (bO YU (bV 0) (za 0))) E7) (VV (CH (qE (ZE qP true) (qg (bV 0) qD)) 1 [true] ⟨rfl⟩) (VV (CH (qE qaJ (qg (qkQ (bV 1) (bSp (za 0)) (bSp (za 2))) qD)) 2 [false,true] ⟨rfl⟩) (VV (CH (qE qaJ (qg (bLc (iEv (qg (za 0) (qg (qE DC (qg (bV 0) qD)) (qg (za 2) qD)))) (gN 0) bTt (bO YU (bV 1) (qc6 (bV 2) (qg (bV 0) qD))) [none,some 1,some 0] ⟨rfl⟩) qD)) 3 [true,true] ⟨rfl⟩) (VV (CH (qE qaJ (qg (bLc (qiJ (qg (bV 0) (qg (bV 1) qD))) (qdj 2 (UA (gN 0) (UA (gN 1) qdf))) (bTb (bO (UQ false) (bV 1) (za 0))) (bO (opC EB (·/·)) (bV 0) (za 2)) [none,none] ⟨rfl⟩) qD)) 4 [true,true] ⟨rfl⟩) (VV (CH (qE qaJ (qg (bLc (qiJ (qg (bV 0) (qg (bV 1) qD))) (qdj 2 (UA (gN 0) (UA (gN 1) qdf))) (bTb (bO (UQ false) (bV 1) (za 1))) (bO (opC EB (·/·)) (bV 0) (za 2)) [none,none] ⟨rfl⟩) qD)) 5 [true,true] ⟨rfl⟩) (X7 (W9 (qg (bV 2) (qg (qE (ZE Ff false) (qg (bV 4) qD)) (qg (qE (ZE Ff false) (qg (bV 5) qD)) (qg (bV 3) qD)))) ⟨rfl⟩))))))))
def zi:Nat->List PyData->Option PyData
 |0=>λ_=>none
 |j+1=>Pu.run (QL (zi j)).f 1 6 1000000000 false
def ZH (j:Nat):Rd (PSp (zi (j+1)) false) 1 (K58.JM (PSp qP true) (PSp (zi j) false)) JK:=jZ (QL (zi j)) JK 1 1000000000 false
def UY {j:Nat} {x0:PyData}:zi (j+1) [x0]=DQ false ((QL (zi j)).f 1000000000 [.sh x0,.un,.un,.un,.un,.un]):=id rfl
def qS:PuS (K58.QI (PSp qL false)):=(VV (sIf (bOr (qdc (bTb (qbf (λt=>jb t "tuple") (bV 0)))) (bTb (bO (qjT true) (qE DC (qg (bV 0) qD)) (W9 (qg (za 2) (qg (za 4) (qg (za 8) (qg (za 16) qD)))) ⟨rfl⟩)))) (X7 (bBl false)) E7) (X7 (RM (qE qjk (qg (bLc (qbk (bV 0)) (gN 0) bTt (qE (ZE qL false) (qg (bV 0) qD)) [none] ⟨rfl⟩) qD)) (bO (UQ false) (qE qcK (qg (bV 0) qD)) (qh3 (qE DC (qg (bV 0) qD)))))))
def qy:List PyData->Option PyData:=Pu.run qS.f 1 1 1000000000 false
def DM:Rd (PSp qy false) 1 (K58.QI (PSp qL false)) ju:=jZ qS ju 1 1000000000 false
def WB {x0:PyData}:qy [x0]=DQ false (qS.f 1000000000 [.sh x0]):=id rfl
def jW:PuS (K58.ZG (PSp qy false) (PSp (zi 4) false)):=(VV (sIf (qdc (bTb (qE (ZE qy false) (qg (bV 0) qD)))) qlq E7) (X7 (qE (ZE (zi 4) false) (qg (bV 0) qD))))
def q0:List PyData->Option PyData:=Pu.run jW.f 1 1 1000000000 false
def XW:Rd (PSp q0 false) 1 (K58.ZG (PSp qy false) (PSp (zi 4) false)) zE:=jZ jW zE 1 1000000000 false
def VQ {x0:PyData}:q0 [x0]=DQ false (jW.f 1000000000 [.sh x0]):=id rfl
def Q8:PzS (λdx=>QG (PSp qy false) dx):=(qlc (zIf (qdc (bTb (qE (ZE qy false) (qg (bV 0) qD)))) (qaM 80 (qg (qdw "this is no order of 2, 4, 8 or 16 lanes") qD) ⟨rfl⟩) (zP E7)) qlK)
def jm:List PyData->Option Addr:=Pu.qkf Q8.f 1 1 1000000000
def XZ:∀ ts G dx,PXp jm ts G dx->ts.length=1/\QG (PSp qy false) dx { nx:=λ_ _=>False,rt:=λ_ _=>False } (ql zE ts) G:=qcx Q8 zE 1 1000000000
def DY {x0:PyData}:jm [x0]=qjA (Q8.f 1000000000 [.sh x0]):=id rfl
def jj (Ff:List PyData->Option PyData):PuS (K58.QH (PSp Ff false)):=(VV (sIf (bTb (qbf (λt=>jb t "int") (bV 0))) (X7 (bO (opC (λ_ j=>0<j) (·%·)) (bO D4 (bV 1) (bV 0)) (za 2))) E7) (VV (CH (bO (opC (λ_ j=>0<j) (·%·)) (bO D4 (bV 1) (bO YU (bO YU (bV 0) (za 0)) (bO (opC EB (·/·)) (bV 1) (za 2)))) (za 2)) 2 [true,true] ⟨rfl⟩) (VV (CH (qE (ZE Ff false) (qg (bO YU (bV 0) (bO D4 (za 1) (bV 2))) (qg (bO (opC EB (·/·)) (bV 1) (za 2)) qD))) 3 [true,true,true] ⟨rfl⟩) (X7 (bO D4 (bO (opC UP (·*·)) (za 2) (bV 3)) (bO (opC (λ_ j=>0<j) (·%·)) (bO D4 (bV 2) (bO YU (bO YU (bV 0) (za 3)) (bV 3))) (za 2)))))))
def qG:Nat->List PyData->Option PyData
 |0=>λ_=>none
 |j+1=>Pu.run (jj (qG j)).f 2 4 1000000000 false
def jF (j:Nat):Rd (PSp (qG (j+1)) false) 2 (K58.QH (PSp (qG j) false)) jl:=jZ (jj (qG j)) jl 2 1000000000 false
def JZ {j:Nat} {x0 x1:PyData}:qG (j+1) [x0,x1]=DQ false ((jj (qG j)).f 1000000000 [.sh x0,.sh x1,.un,.un]):=id rfl
def jg:=((C6 (eDr YJ (aOf (qg (qE DC (qg (bV 2) qD)) qD))) 3 2 [false,false,true] ⟨rfl⟩ ⟨rfl⟩):PwS 0 _)
def jD:PwS 0 (K58.jG Bk.qQ):=(UR (qhD (qh3 (bV 1)) (qdo qD ⟨rfl⟩) 2 3 [false,true] ⟨rfl⟩ ⟨rfl⟩ ⟨rfl⟩ ⟨rfl⟩ ⟨rfl⟩ ⟨rfl⟩) (UR (qhY (iOf (qbz (qg (bV 1) qD))) (gN 4) jg [false,true] ⟨rfl⟩ ⟨rfl⟩) (CB (eOf (qE qaJ (qg (bV 3) qD))))))
def zr:Wm:=qhX jD 2 5 false
def U6:Rd (DSp zr.W false) 2 (K58.jG Bk.qQ) zV:=DP jD zV 2 false
def EU {x0:PyData} {n:Nat} {Q:QD}:zr.W [x0] n Q=(2=2/\jD.w [.un,.sh x0,.un,.un,.un] n (qha false Q)):=id rfl
def jz:PwS 0 (K58.jQ Bk.qQ):=(UR (qjE (D5 (eDr YJ (aOf (qg (za 8) qD))) (D5 (eDr YJ (aOf (qg (qE DC (qg (bV 1) qD)) qD))) (aOf qD))) 2 3 [false,true] ⟨rfl⟩ ⟨rfl⟩) (UR (qjE (aOf (qg (bO YU (bV 1) (bV 3)) (qg (NH (bV 1) (bSp (bO zS (bV 3) (za 1))) bNp) qD))) 4 5 [false,true,false,true] ⟨rfl⟩ ⟨rfl⟩) (UR (wIf (cOf (bTb (bO (UQ false) (bV 2) (za 0)))) (CB (eOf (bO zS (NH (bV 1) bNp (bSp (bV 3))) (bV 5)))) YX) (UR (wIf (cOf (bTb (bO (UQ false) (bV 2) (za 1)))) (CB (eOf (bO zS (bO zS (NH (bV 1) bNp (bSp (bV 3))) (W9 (qg (bV 4) (qg (bV 4) qD)) ⟨rfl⟩)) (bV 5)))) YX) (UR (wIf (cOf (bTb (bO (UQ false) (bV 2) (za 2)))) (CB (eO zS (eO zS (eOf (NH (bV 1) bNp (bSp (bV 3)))) (qim (D5 (eO YU (eOf (bV 1)) (eDr YJ (aOf (qg (qE DC (qg (bV 1) qD)) qD)))) (aOf qD)) ⟨rfl⟩)) (eOf (bV 5)))) YX) (UR (wIf (cOf (bTb (bO (UQ false) (bV 2) (za 3)))) (CB (eOf (bO zS (bV 1) (W9 (qg (qE DC (qg (bV 1) qD)) qD) ⟨rfl⟩)))) YX) (UR (wIf (cOf (bTb (bO (UQ false) (bV 2) (za 4)))) (CB (qc5 qi4 (D5 (eDr YJ (aOf (qg (za 33) qD))) (aOf qD)))) YX) (UR (qfi (eO YU (eOf (qdo (qg (za 1) (qg (qiy (za 1)) (qg (bO (opI (·-·)) (qiy (za 1)) (bO (opC UP (·*·)) (za 2) (bV 4))) (qg (qE DC (qg (bV 1) qD)) qD)))) ⟨rfl⟩)) (eDr YJ (aOf (qg (za 4) qD)))) 6 [false,true,false,false,true] ⟨rfl⟩ ⟨rfl⟩) (CB (eOf (bO zS (bO zS (NH (bV 1) bNp (bSp (bV 3))) (W9 (qg (bO zS (bV 4) (bV 6)) qD) ⟨rfl⟩)) (bV 5))))))))))))
def zt:Wm:=qhX jz 2 7 false
def UT:Rd (DSp zt.W false) 2 (K58.jQ Bk.qQ) zU:=DP jz zU 2 false
def EH {x0:PyData} {n:Nat} {Q:QD}:zt.W [x0] n Q=(2=2/\jz.w [.un,.sh x0,.un,.un,.un,.un,.un] n (qha false Q)):=id rfl
def zL:PwS 0 (K58.zM Bk.qQ):=(UR (qhh (qim (D5 (eDr YJ (aOf (qg (za 5) qD))) (D5 (eDr YJ (aOf (qg (qE DC (qg (bV 1) qD)) qD))) (aOf qD))) ⟨rfl⟩) (qdj 2 (UA (gN 2) (UA (gN 3) qdf))) [false,true] ⟨rfl⟩ ⟨rfl⟩) (UR (qfi (eO YU (eOf (qdo (qg (bBl true) (qg (bBl false) (qg qel (qg (qdw "") (qg (qdw "0") (qg (W9 qD ⟨rfl⟩) (qg (W9 (qg (za 0) qD) ⟨rfl⟩) (qg (qdo (qg (za 0) qD) ⟨rfl⟩) (qg (qE (qf0 true) (qg (bO YU (bV 1) (bV 3)) qD)) qD))))))))) ⟨rfl⟩)) (eDr YJ (aOf (qg (za 9) qD)))) 4 [false,true,false,true] ⟨rfl⟩ ⟨rfl⟩) (UR (wIf (cOf (bTb (bO (opB λi j=>decide (i<j)) (bV 2) (za 3)))) (CB (eOf (bO zS (bO zS (NH (bV 1) bNp (bSp (bV 3))) (W9 (qg (bV 4) qD) ⟨rfl⟩)) (NH (bV 1) (bSp (bO zS (bV 3) (za 1))) bNp)))) YX) (UR (wIf (cOf (bTb (bO (UQ false) (bV 2) (za 3)))) (CB (eO YU (eOf (qdo (qg (qE qjW (qg (bV 1) qD)) (qg qel (qg (qdw "01") (qg (za 1) (qg (W9 (qg (W9 (qg (za 0) (qg (za 1) qD)) ⟨rfl⟩) qD) ⟨rfl⟩) qD))))) ⟨rfl⟩)) (eDr YJ (aOf (qg (za 5) qD))))) YX) (CB (eOf (qE qaJ (qg (bLc (qbk (bV 1)) (gN 0) bTt (bO (UQ false) (bV 0) (bO YU (bV 1) (bV 2))) [none,some 1,some 3] ⟨rfl⟩) qD))))))))
def qT:Wm:=qhX zL 2 5 false
def YO:Rd (DSp qT.W false) 2 (K58.zM Bk.qQ) zN:=DP zL zN 2 false
def YV {x0:PyData} {n:Nat} {Q:QD}:qT.W [x0] n Q=(2=2/\zL.w [.un,.sh x0,.un,.un,.un] n (qha false Q)):=id rfl
def qr:PuS (K58.zy):=(VV (sIf (bOr (qdc (bTb (qbf (λt=>jb t "tuple") (bV 0)))) (bTb (bO (qjT true) (qE DC (qg (bV 0) qD)) (W9 (qg (za 2) (qg (za 4) (qg (za 8) (qg (za 16) qD)))) ⟨rfl⟩)))) (X7 (bBl false)) E7) (VV (sIf (qdc (bTb (qE qjk (qg (bLc (qbk (bV 0)) (gN 0) bTt (RM (qbf (λt=>jb t "int") (bV 0)) (qcu (qbf (λt=>jb t "bool") (bV 0)))) [none] ⟨rfl⟩) qD)))) (X7 (bBl false)) E7) (X7 (bO (UQ false) (qE qcK (qg (bV 0) qD)) (qh3 (qE DC (qg (bV 0) qD)))))))
def qv:List PyData->Option PyData:=Pu.run qr.f 1 1 1000000000 false
def YL:Rd (PSp qv false) 1 (K58.zy) zx:=jZ qr zx 1 1000000000 false
def J8 {x0:PyData}:qv [x0]=DQ false (qr.f 1000000000 [.sh x0]):=id rfl
def XH:PuS (zI (o3 (YM false) (lc3 (ZU (qc (cb3 Z6 (qc (v3 0) qk)) qk)) (gn3 0) tt3 (cb3 (PSp (qG 4) false) (qc (v3 1) (qc (v3 0) qk))) [none,some 1]) (cb3 DO (qc (v3 0) qk)))):=(X7 (bO (UQ false) (bLc (qbz (qg (qE DC (qg (bV 0) qD)) qD)) (gN 0) bTt (qE (ZE (qG 4) false) (qg (bV 1) (qg (bV 0) qD))) [none,some 1] ⟨rfl⟩) (qE qjW (qg (bV 0) qD))))
def qac:List PyData->Option PyData:=Pu.run XH.f 3 5 1000000000 false
def qb9 {x0 x1 x2:PyData}:qac [x0,x1,x2]=DQ false (XH.f 1000000000 [.sh x0,.sh x1,.sh x2,.un,.un]):=id rfl
def qx:List PyData->Option PyData:=λds=>match q0 ds with|some d=>(match ds with|[o]=>qac [o,d,.none]|_=>none)|none=>(jm ds).bind λC=>if C=80 then some (.bool false) else none
def qi1 (S_law_order:Sp3) (S_law_other:Sp3) (S_law_strange:Sp3) (S_law_told:Sp3) (S_law_is_order:Sp3):TS3:=(X2 (V9 (YT (qc (c3 (.int 2)) (qc (c3 (.int 4)) (qc (c3 (.int 8)) (qc (c3 (.int 16)) qk)))))) (gn3 3) (qU (zG (cb3 S_law_order (qc (v3 2) (qc (v3 3) qk))) (gn3 4)) (qU (X2 (ZU (qc (c3 (.int 14)) qk)) (gn3 5) (qU (zG (if3 (tb3 (o3 (iB λi j=>decide (i<j)) (v3 5) (c3 (.int 10)))) (cb3 S_law_other (qc (v3 2) (qc (v3 4) qk))) (cb3 S_law_strange (qc (v3 2) (qc (v3 4) qk)))) (gn3 6)) (ZF (tb3 (o3 (YM true) (cb3 S_law_told (qc (v3 6) qk)) (cb3 S_law_is_order (qc (v3 6) qk)))) (zI (c3 (.bl false))) zf))) (ZF (tb3 (o3 (qhW true) (cb3 S_law_told (qc (v3 4) qk)) (c3 (.bl true)))) (zI (c3 (.bl false))) zf))))
def V6:=((UR (qfi (eIf (cOf (bTb (bO (opB λi j=>decide (i<j)) (bV 5) (za 10)))) (eDr (dSp zt false) (aOf (qg (bV 4) qD))) (eDr (dSp qT false) (aOf (qg (bV 4) qD)))) 6 [false,false,false,false,true,true] ⟨rfl⟩ ⟨rfl⟩) (wIf (cOf (bTb (bO (UQ true) (qE (ZE qx false) (qg (bV 6) qD)) (qE (ZE qv false) (qg (bV 6) qD))))) (CB (eOf (bBl false))) YX)):PwS 2 _)
def V7:=((UR (qfi (eDr (dSp zr false) (aOf (qg (bV 3) qD))) 4 [false,false,false,true] ⟨rfl⟩ ⟨rfl⟩) (UR (qhY (iOf (qbz (qg (za 14) qD))) (gN 5) V6 [] ⟨rfl⟩ ⟨rfl⟩) (wIf (cOf (bTb (bO (qfA true) (qE (ZE qx false) (qg (bV 4) qD)) (bBl true)))) (CB (eOf (bBl false))) YX))):PwS 2 _)
def KY:PwS 2 (qi1 (DSp zr.W false) (DSp zt.W false) (DSp qT.W false) (PSp qx false) (PSp qv false)):=(qhY (iOf (qbk (W9 (qg (za 2) (qg (za 4) (qg (za 8) (qg (za 16) qD)))) ⟨rfl⟩))) (gN 3) V7 [] ⟨rfl⟩ ⟨rfl⟩)
def qen (h:∀ k:Nat,k<=60->KY.w [.un,.sh (.int k),.un,.un,.un,.un,.un] 0 okW):Rd VO 1 (K58.qcR Bk.jJ (DSp zr.W false) (DSp zt.W false) (DSp qT.W false) (PSp qx false) (PSp qv false)) S5:=LI KY S5 8 4 ⟨by decide,by decide⟩ rfl h
open Pv (zJ qW)
open Ben (x1 bb Pm Pt LO cs ks up Inv2 W5 SA qdO)
def bx (k:Nat):Builtin.bitXor (k:Int) 1=((x1 k:Nat):Int):=by
 obtain ⟨h1,h2,h3⟩:=Pv.ML (x:=(k:Int)) (y:=1) (by omega) (by omega);have h4:Builtin.bitXor ((k:Int)/2) ((1:Int)/2)=(k:Int)/2:=PyProof.Rows.bitXor_zero _;have:=Ben.qdm k;have:=Ben.qde k;rw [h4] at h3;omega
def oL (N:Nat) (o:Nat->Nat):List PyData:=(List.range N).map λx=>PyData.int ((o x:Nat):Int)
def enc:Option Nat->PyData
 |none=>.none
 |some v=>.int (v:Int)
def hL (N:Nat) (c:Nat->Option Nat):List PyData:=(List.range N).map λx=>enc (c x)
def TU {N k:Nat} {f:Nat->PyData} (h:k<N):L2.atI ((List.range N).map f) (k:Int)=some (f k):=by
 rw [K9 (by omega) (by simp;omega),Int.toNat_natCast,getElem?_map,List.getElem?_range h];rfl
def qiN {N k:Nat} {o:Nat->Nat} (h:k<N):L2.atI (oL N o) (k:Int)=some (.int ((o k:Nat):Int)):=TU h
def qkX {N k:Nat} {c:Nat->Option Nat} (h:k<N):L2.atI (hL N c) (k:Int)=some (enc (c k)):=TU h
def qg9 {N k v:Nat} {c:Nat->Option Nat} (h:k<N):(hL N c).set k (.int (v:Int))=hL N (up c k v):=by
 refine List.ext_getElem? λi=>?_;unfold hL;rw [getElem?_set,getElem?_map,getElem?_map];by_cases e:k=i
 ·subst e;rw [if_pos rfl,List.getElem?_range h];simp [h,Ben.WE,enc]
 ·rw [if_neg e];by_cases l:i<N
  ·rw [List.getElem?_range l];simp [Ben.U8 (c:=c) (v:=v) (λz=>e z.symm)]
  ·rw [List.getElem?_eq_none (by simp;omega)];simp
def qga {N k:Nat} {c:Nat->Option Nat} (h:k<N):(hL N c).set k (.int 0)=hL N (up c k 0):=qg9 (v:=0) h
def qe3 {N k:Nat} {c:Nat->Option Nat} (h:k<N):(hL N c).set k (.int 1)=hL N (up c k 1):=qg9 (v:=1) h
def qcV {N:Nat} {c:Nat->Option Nat}:(hL N c).length=N:=by simp [hL]
def UL {N:Nat} {o:Nat->Nat}:(oL N o).length=N:=by simp [oL]
def RN {i k:Nat} {d:PyData} {ρ:Rho} {ds:List PyData} (h:slot ρ i=some ds) (hk:k<ds.length):qh0 i (.int (k:Int)) d ρ=some (.nx (ρ.set i (.ow (ds.set k d)))):=by
 show (slot ρ i).bind _=_;rw [h];have:ixN ds.length (k:Int)=some k:=by
  unfold ixN;rw [if_pos (by omega),if_pos (by omega)];simp
 simp only [Option.bind_some,this]
def qku {N y:Nat} {o v:Nat->Nat} (p:Pm N o v) (hy:y<N):(y:Int)∈(List.range N).map (λx=>((o x:Nat):Int))/\List.idxOf (y:Int) ((List.range N).map λx=>((o x:Nat):Int))=v y:=by
 have hm:(y:Int)∈(List.range N).map (λx=>((o x:Nat):Int)):=mem_map.mpr ⟨v y,mem_range.mpr (p.ilt hy),by rw [p.ov hy]⟩;refine ⟨hm,?_⟩;have hj:=List.idxOf_lt_length_iff.mpr hm;have e:=List.getElem_idxOf hj;rw [length_map,length_range] at hj;rw [List.getElem_map,List.getElem_range] at e;have e2:o (List.idxOf (y:Int) ((List.range N).map λx=>((o x:Nat):Int)))=y:=by omega
 have e3:=p.vo hj;rw [e2] at e3;exact e3.symm
def qja {N:Nat} {o:Nat->Nat}:oL N o=((List.range N).map λx=>((o x:Nat):Int)).map PyData.int:=by unfold oL;rw [map_map];rfl
def qaA {N y:Nat} {o v:Nat->Nat} (p:Pm N o v) (hy:y<N):XU (.tuple (oL N o)) [.int (y:Int)]=some (.int ((v y:Nat):Int)):=by
 obtain ⟨h1,h2⟩:=qku p hy;rw [qja,qcG h1,h2]
def XR {c:Option Nat}:qid false (enc c) .none=some (.bool (decide (c=none))):=by
 cases c<;>rfl
def qbw {cf:Rho->Option Bool} {bf:Rho->Option Ot} {ρ:Rho} {Q:Option Ot->Prop} {N:Nat} (n:Nat) (hn:n<N) (I:Nat->Rho->Prop) (h0:I 0 ρ) (hc:∀ i ρ,i<n->I i ρ->cf ρ=some true) (hs:∀ i ρ,i<n->I i ρ->Nx (bf ρ) (I (i+1))) (he:∀ ρ,I n ρ->cf ρ=some false) (k:∀ ρ',I n ρ'->Q (some (.nx ρ'))):Q (whP cf bf N ρ):=by
 have e:whP cf bf N ρ=(whP cf bf N ρ).bind some:=by simp
 rw [e];exact qfM (F:=some) n hn I h0 hc hs he k
def qjX {h:Nat} {o v:Nat->Nat} (p:Pm (2*h) o v) (hb:h<=1000):∃ c:Nat->Option Nat,qP [.tuple (oL (2*h) o)]=some (.list (hL (2*h) c))/\LO (2*h) x1 (bb o v) c/\∀ x,x<2*h->c x≠none:=by
 rw [E5]
 try simp only [Pu.pwA,jA,DH,UL]
 rw [ZC (ds:=(UO 0 (2*h)).map PyData.int) (fs:=oL (2*h) v)]
 rotate_left
 ·try simp (disch:=omega) only [Pu.pwA,UL,qhH,Int.toNat_natCast]
 ·unfold UO oL;rw [map_map];refine YC λy hy=>?_;have:=qaA p (mem_range.mp hy);unfold oL at this
  try simp only [Pu.pwA,QM,DH,Int.zero_add,this,Function.comp_def]
 ·rw [UL];omega
 try simp only [Pu.pwA]
 rw [ZC (ds:=oL (2*h) o) (fs:=hL (2*h) λ_=>none)]
 rotate_left
 ·try simp only [Pu.pwA]
 ·unfold oL hL;refine YC λy hy=>?_
  try simp only [Pu.pwA,QM,enc]
 ·rw [qcV];omega
 try simp (disch:=omega) only [Pu.pwA,UL,qhH,Int.toNat_natCast]
 have ia:=W5 h;have ib:=SA p;refine qcl (Q:=λo'=>∃ c:Nat->Option Nat,DQ true o'=some (.list (hL (2*h) c))/\LO (2*h) x1 (bb o v) c/\∀ x,x<2*h->c x≠none) (UO 0 (2*h)) (λi ρ=>∃ (c:Nat->Option Nat) (s3 s4:Sl),ρ=[.sh (.tuple (oL (2*h) o)),.ow (oL (2*h) v),.ow (hL (2*h) c),s3,s4]/\LO (2*h) x1 (bb o v) c/\∀ x,x<i->c x≠none) ⟨_,_,_,rfl,(λx hx v hv=>by cases hv),λx hx=>absurd hx (Nat.not_lt_zero x)⟩ ?_ ?_
 ·rintro i x ρ hx ⟨c0,s3,s4,rfl,g,al⟩;obtain ⟨hi,rfl⟩:=zJ hx;obtain ⟨n,n1,n2,n3,n4,n5,n6,n7⟩:=qdO ia ib (c0:=c0) hi g
  try simp only [Pu.pwA,Int.zero_add]
  refine qbw (Q:=λo'=>Nx o' _) n (by omega) (λj ρ=>ρ=[.sh (.tuple (oL (2*h) o)),.ow (oL (2*h) v),.ow (hL (2*h) (cs x1 (bb o v) c0 i j)),.sh (.int (i:Int)),.sh (.int ((ks x1 (bb o v) i j:Nat):Int))]) rfl ?_ ?_ ?_ ?_
  ·rintro j ρ hj rfl;have lk:=n3 j (by omega)
   try simp only [Pu.pwA,qkX lk,XR,n2 j hj,decide_true]
  ·rintro j ρ hj rfl;have lk:=n3 j (by omega);have lx:=ia.lt lk;have lo:=p.lt lx;have ly:=ia.lt lo
   try simp only [Pu.pwA,R7,dmS,SQ,if_true]
   rw [RN (ds:=hL (2*h) (cs x1 (bb o v) c0 i j)) rfl (by rw [qcV];exact lk)]
   try simp only [Pu.pwA,bx,dmS,SQ,if_true]
   rw [qga lk];rw [RN (ds:=hL (2*h) (up (cs x1 (bb o v) c0 i j) (ks x1 (bb o v) i j) 0)) rfl (by rw [qcV];exact lx),qe3 lx]
   try simp only [Pu.pwA,bx,qiN lx,qiN ly]
   try rfl
  ·rintro ρ rfl;have lk:=n3 n (by omega)
   try simp only [Pu.pwA,qkX lk,XR,n4,decide_false]
  ·rintro ρ' rfl;exact ⟨_,_,_,rfl,n5,λx hx=>by
    rcases Nat.lt_or_ge x i with z|z
    ·exact n7 x (al x z)
    ·have:x=i:=by omega
     subst this;exact n6⟩
 ·rintro ρ ⟨c,s3,s4,rfl,g,al⟩
  try simp only [Pu.pwA]
  rw [qW] at al;exact ⟨c,rfl,g,al⟩
end K58
namespace K58
open PySem L2 L3 Pu
open Pv (zJ qW)
open Ben (x1 bb Pm Pt LO oS vS kap TB U9 Nt bt)
def sD (s:Nat):PyData:=.int (s:Int)
def nD:Nt->PyData
 |.leaf b=>sD b
 |.node f u l g=>.tuple [.tuple (f.map sD),nD u,nD l,.tuple (g.map sD)]
def flt {h:Nat} {o v c:Nat->Nat} (q:Pt h o v c) {s:Nat} (hs:s<2):∀ n,n<=h->(List.range (2*n)).filter (λx=>decide (c x=s))=(List.range n).map (kap c s)
 |0,_=>rfl
 |n+1,hn=>by
  have h2:=q.two (x:=2*n) (by omega);have ha:=q.a (x:=2*n) (by omega);rw [Ben.qfr] at ha;rw [show 2*(n+1)=2*n+1+1 by omega,List.range_succ,List.range_succ,List.filter_append,List.filter_append,flt q hs n (by omega),List.range_succ (n:=n),List.map_append,List.append_assoc];congr 1;unfold kap;by_cases e:c (2*n)=s
  ·have e2:¬ c (2*n+1)=s:=by omega
   simp [e,e2]
  ·have e2:c (2*n+1)=s:=by omega
   simp [e,e2]
def qa6 {f:Nat->PyData}:∀ n k,ev ((List.range' k (2*n)).map f)=(List.range' 0 n).map λt=>f (k+2*t)
 |0,k=>rfl
 |n+1,k=>by
  rw [show 2*(n+1)=2*n+1+1 by omega,List.range'_succ,List.range'_succ,map_cons,map_cons,ev,qa6 n (k+1+1),List.range'_succ,map_cons];congr 1;rw [show (0:Nat)+1=0+1 from rfl,List.range'_eq_map_range,List.range'_eq_map_range,map_map,map_map];refine List.map_congr_left λt _=>?_;simp only [Function.comp_def];congr 1;omega
def DR {f g:Nat->PyData}:∀ xs:List Nat,qbG (xs.map f) (xs.map g)=xs.map λx=>PyData.tuple [f x,g x]
 |[]=>rfl
 |x::xs=>by
  have:=DR (f:=f) (g:=g) xs;unfold qbG at this ⊢;rw [map_cons,map_cons,List.zip_cons_cons,map_cons,this];rfl
def qbW:∀ (m j:Nat) (o v:Nat->Nat),Pm (2 ^ (m+1)) o v->m<j->m<=3->∃ n:Nt,zi j [.tuple (oL (2 ^ (m+1)) o)]=some (nD n)/\n.Ok m/\∀ k,k<2 ^ (m+1)->n.lane k=o k
 |0,j+1,o,v,p,_,_=>by
  have p:Pm 2 o v:=p;have l0:=p.lt (x:=0) (by omega);have l1:=p.lt (x:=1) (by omega);have v0:=p.vo (x:=0) (by omega);have v1:=p.vo (x:=1) (by omega);have ne:o 0≠o 1:=λe=>by rw [e,v1] at v0;cases v0
  have a0:=qiN (N:=2) (k:=0) (o:=o) (by omega);refine ⟨.leaf (o 0),?_,l0,λk hk=>?_⟩
  ·rw [UY];show DQ false ((QL (zi j)).f 1000000000 [.sh (.tuple (oL 2 o)),.un,.un,.un,.un,.un])=_;have e2:decide (((oL 2 o).length:Int)=2)=true:=by rw [UL];rfl
   have a0':L2.atI (oL 2 o) 0=some (.int ((o 0:Nat):Int)):=a0
   try simp only [Pu.pwA,QL,e2,a0',nD,sD]
  ·have hk:k<2:=hk;simp only [Nt.lane];have:k=0\/k=1:=by omega
   rcases this with rfl|rfl<;>omega
 |m+1,j+1,o,v,p,hj,hm=>by
  obtain ⟨h,hh⟩:∃ h,h=2 ^ (m+1):=⟨_,rfl⟩
  have e1:2 ^ (m+1+1)=2*h:=by rw [hh,Nat.pow_succ];omega
  have hb:h<=8:=by
   have:2 ^ (m+1)<=2 ^ 3:=Nat.pow_le_pow_right (by decide) (by omega);omega
  have h2:2<=h:=by
   have:2 ^ 1<=2 ^ (m+1):=Nat.pow_le_pow_right (by decide) (by omega);omega
  rw [e1] at p ⊢;obtain ⟨c0,f1,g,al⟩:=qjX p (by omega);obtain ⟨c,hc⟩:∃ c:Nat->Nat,∀ x,x<2*h->c0 x=some (c x):=⟨λx=>(c0 x).getD 0,λx hx=>by
   have:=al x hx;cases e:c0 x with
   |none=>exact absurd e this
   |some w=>show some w=some ((c0 x).getD 0);rw [e];rfl⟩
  have q:Pt h o v c:=by
   refine ⟨λ{x} hx=>(g x hx _ (hc x hx)).1,λ{x} hx=>?_,λ{x} hx=>?_⟩
   ·have h1:=(g x hx _ (hc x hx)).2.1;rw [hc _ ((Ben.W5 h).lt hx)] at h1;exact Option.some.inj h1
   ·have h1:=(g x hx _ (hc x hx)).2.2;rw [hc _ ((Ben.SA p).lt hx)] at h1;exact Option.some.inj h1
  have hL':hL (2*h) c0=(List.range (2*h)).map λx=>sD (c x):=List.map_congr_left λx hx=>by rw [hc x (mem_range.mp hx)];rfl
  have p0:=p.side q (s:=0) (by omega);have p1:=p.side q (s:=1) (by omega);obtain ⟨u,u1,u2,u3⟩:=qbW m j (oS o c 0) (vS v c 0) (hh▸p0) (by omega) (by omega);obtain ⟨l,l1,l2,l3⟩:=qbW m j (oS o c 1) (vS v c 1) (hh▸p1) (by omega) (by omega);rw [← hh] at u1 u3 l1 l3;refine ⟨.node ((List.range h).map λt=>c (2*t)) u l ((List.range h).map λt=>c (v (2*t))),?_,⟨by simp [hh],by simp [hh],?_,?_,u2,l2⟩,λk hk=>U9 p q u3 l3 hk⟩
  ·rw [UY];have nl:¬ (((oL (2*h) o).length:Int)=2):=by rw [UL];omega
   rw [hL'] at f1;have ss:ssD (.list ((List.range (2*h)).map λx=>sD (c x))) (some ((0:Nat):Int)) (some 2)=some (.list ((List.range h).map λt=>sD (c (2*t)))):=by
    rw [qlA (by omega),List.drop_zero,List.range_eq_range',qa6];rw [List.range_eq_range'];simp only [Nat.zero_add]
   have ss':ssD (.list ((List.range (2*h)).map λx=>sD (c x))) (some 0) (some 2)=some (.list ((List.range h).map λt=>sD (c (2*t)))):=ss
   try simp only [Pu.pwA,QL,nl,f1,qgu,ss',decide_false]
   have en:((((2*h:Nat):Int)-0+1)/2).toNat=h:=by omega
   rw [ZC (ds:=(evI 0 h).map PyData.int) (fs:=(List.range h).map λt=>sD (c (v (2*t))))]
   rotate_left
   ·try simp only [Pu.pwA,qjc,UL]
    rw [qjw (by omega),en]
   ·unfold evI;rw [map_map];refine YC λt ht=>?_;have tl:=mem_range.mp ht;have ix:=qaA p (y:=2*t) (by omega);have e0:(0:Int)+(t:Int)*2=((2*t:Nat):Int):=by omega
    have a1:=TU (N:=2*h) (k:=v (2*t)) (f:=λx=>sD (c x)) (p.ilt (by omega))
    try simp only [Pu.pwA,QM,DH,e0,ix,a1,Function.comp_def]
   ·simp;omega
   try simp only [Pu.pwA]
   rw [ZC (ds:=(List.range (2*h)).map λx=>PyData.tuple [.int ((o x:Nat):Int),sD (c x)]) (fs:=oL h (oS o c 0))]
   rotate_left
   ·try simp only [Pu.pwA,oL]
    rw [DR]
   ·rw [YZ (c:=λx=>decide (c x=0)) (k:=λx=>PyData.int ((o x/2:Nat):Int)),flt q (by omega) h (Nat.le_refl _),map_map]
    ·rfl
    ·intro x hx;have cx:=q.two (mem_range.mp hx);have dv:cI EB (·/·) (.int ((o x:Nat):Int)) (.int 2)=some (.int ((o x/2:Nat):Int)):=by rw [C7 (by omega)];rfl
     have:c x=0\/c x=1:=by omega
     rcases this with e|e
     ·have d1:decide (((0:Nat):Int)=0)=true:=rfl
      try simp only [Pu.pwA,QM,sD,e,d1,dv,decide_true]
     ·have d1:decide (((1:Nat):Int)=0)=false:=rfl;have d2:decide ((1:Nat)=0)=false:=rfl
      try simp only [Pu.pwA,QM,sD,e,d1,d2,dv,decide_true]
   ·rw [UL];omega
   try simp only [Pu.pwA]
   rw [ZC (ds:=(List.range (2*h)).map λx=>PyData.tuple [.int ((o x:Nat):Int),sD (c x)]) (fs:=oL h (oS o c 1))]
   rotate_left
   ·try simp only [Pu.pwA,oL]
    rw [DR]
   ·rw [YZ (c:=λx=>decide (c x=1)) (k:=λx=>PyData.int ((o x/2:Nat):Int)),flt q (by omega) h (Nat.le_refl _),map_map]
    ·rfl
    ·intro x hx;have cx:=q.two (mem_range.mp hx);have dv:cI EB (·/·) (.int ((o x:Nat):Int)) (.int 2)=some (.int ((o x/2:Nat):Int)):=by rw [C7 (by omega)];rfl
     have:c x=0\/c x=1:=by omega
     rcases this with e|e
     ·have d1:decide (((0:Nat):Int)=1)=false:=rfl;have d2:decide ((0:Nat)=1)=false:=rfl
      try simp only [Pu.pwA,QM,sD,e,d1,d2,dv,decide_true]
     ·have d1:decide (((1:Nat):Int)=1)=true:=rfl
      try simp only [Pu.pwA,QM,sD,e,d1,dv,decide_true]
   ·rw [UL];omega
   try simp only [Pu.pwA,u1,l1]
   simp only [nD,map_map,Function.comp_def]
  ·intro s hs;obtain ⟨t,ht,rfl⟩:=mem_map.mp hs;have:=mem_range.mp ht;exact q.two (by omega)
  ·intro s hs;obtain ⟨t,ht,rfl⟩:=mem_map.mp hs;have:=mem_range.mp ht;exact q.two (p.ilt (by omega))
end K58
namespace K58
open PySem L2 L3 Pu
open Pv (zJ qW)
open Ben (Pm Nt bt)
def V4:∀ {m:Nat} {n:Nt},n.Ok m->∀ {k:Nat},k<2 ^ (m+1)->n.lane k<2 ^ (m+1)
 |0,.leaf b,h,k,hk=>by simp only [Nt.lane];exact Nat.mod_lt _ (by decide)
 |m+1,.node f u l g,⟨h1,h2,h3,h4,h5,h6⟩,k,hk=>by
  have e:2 ^ (m+1+1)=2*2 ^ (m+1):=by rw [Nat.pow_succ];omega
  have hk2:k/2<2 ^ (m+1):=by omega
  have a:=V4 h5 hk2;have b:=V4 h6 hk2;simp only [Nt.lane];split<;>omega
 |0,.node ..,h,_,_=>h.elim
 |m+1,.leaf _,h,_,_=>h.elim
def TD:∀ {m j:Nat} {n:Nt},n.Ok m->m<j->∀ {k:Nat},k<2 ^ (m+1)->qG j [nD n,.int (k:Int)]=some (.int ((n.lane k:Nat):Int))
 |0,j+1,.leaf b,h,_,k,hk=>by
  rw [JZ];have a:jb "int" "int" = true:=rfl;have md:cI (λ_ j=>0<j) (·%·) (.int ((k:Int)+(b:Int))) (.int 2)=some (.int (((k+b)%2:Nat):Int)):=by
   rw [CV (by omega)];congr 2
  try simp only [Pu.pwA,jj,nD,sD,Nt.lane,a,md]
 |m+1,j+1,.node f u l g,⟨h1,h2,h3,h4,h5,h6⟩,hj,k,hk=>by
  have e1:2 ^ (m+1+1)=2*2 ^ (m+1):=by rw [Nat.pow_succ];omega
  have hk2:k/2<2 ^ (m+1):=by omega
  have r1:=TD h5 (show m<j by omega) hk2;have r2:=TD h6 (show m<j by omega) hk2;have w1:=V4 h5 hk2;have w2:=V4 h6 hk2;have a:jb "tuple" "int" = false:=rfl;have at':∀ (ss:List Nat) (i:Nat),i<ss.length->L2.atI (ss.map sD) (i:Int)=some (.int ((bt ss i:Nat):Int)):=λss i hi=>by
   rw [atN (by simpa using hi),getElem?_map,getElem?_eq_getElem hi];unfold bt;rw [getD_eq_getElem?_getD,getElem?_eq_getElem hi];rfl
  have dv:cI EB (·/·) (.int (k:Int)) (.int 2)=some (.int ((k/2:Nat):Int)):=by
   rw [C7 (by omega)];rfl
  have i1:=at' f (k/2) (by omega);generalize hs:(k+bt f (k/2))%2=s;have s2:s<2:=by rw [← hs];exact Nat.mod_lt _ (by decide)
  have md:cI (λ_ j=>0<j) (·%·) (.int ((k:Int)+(bt f (k/2):Nat))) (.int 2)=some (.int ((s:Nat):Int)):=by
   rw [CV (by omega),← hs];rfl
  generalize ht:(if s=0 then u.lane (k/2) else l.lane (k/2))=t;have tl:t<2 ^ (m+1):=by rw [← ht];split<;>assumption
  have i3:=at' g t (by omega);have md2:cI (λ_ j=>0<j) (·%·) (.int ((s:Int)+(bt g t:Nat))) (.int 2)=some (.int (((s+bt g t)%2:Nat):Int)):=by
   rw [CV (by omega)];rfl
  have ml:cI UP (·*·) (.int 2) (.int (t:Int))=some (.int ((2*t:Nat):Int)):=by rw [R5 (by omega)];rfl
  have ix:∃ w,L2.atI [PyData.tuple (f.map sD),nD u,nD l,.tuple (g.map sD)] (1+(s:Int))=some w/\qG j [w,.int ((k/2:Nat):Int)]=some (.int (t:Int)):=by
   rw [← ht]
   match s,s2 with
   |0,_=>exact ⟨nD u,rfl,r1⟩
   |1,_=>exact ⟨nD l,rfl,r2⟩
  obtain ⟨w,iw,rw'⟩:=ix;have fin:(Nt.node f u l g).lane k=2*t+(s+bt g t)%2:=by simp only [Nt.lane,hs,ht]
  rw [JZ,fin];have c1:qeR (.int 1) (.int (s:Int))=some (.int (1+(s:Int))):=id rfl
  try simp only [Pu.pwA,jj,nD,a,dv,i1,md,c1,iw,rw',ml,i3,md2]
  rfl
 |0,_,.node ..,h,_,_,_=>h.elim
 |m+1,_,.leaf _,h,_,_,_=>h.elim
 |_,0,_,_,h,_,_=>by omega
def qlf:jb "int" "int" = true:=id rfl
def qkS:jb "int" "bool" = false:=id rfl
def qk3:jb "tuple" "tuple" = true:=id rfl
def qj5 {N:Nat} {L:List Nat} (h:L.Perm (List.range N)):∃ o v,Pm N o v/\L.map sD=oL N o:=by
 have hl:L.length=N:=by rw [h.length_eq,length_range]
 have nd:L.Nodup:=h.nodup_iff.mpr List.nodup_range;refine ⟨λx=>L.getD x 0,λy=>L.idxOf y,⟨λ{x} hx=>?_,λ{y} hy=>?_,λ{x} hx=>?_,λ{y} hy=>?_⟩,?_⟩
 ·have:L.getD x 0∈L:=by rw [getD_eq_getElem?_getD,getElem?_eq_getElem (by omega)];exact List.getElem_mem _
  exact mem_range.mp (h.mem_iff.mp this)
 ·have:y∈L:=h.mem_iff.mpr (mem_range.mpr hy);have:=List.idxOf_lt_length_iff.mpr this;omega
 ·have hx':x<L.length:=by omega
  simp only [getD_eq_getElem?_getD,getElem?_eq_getElem hx',Option.getD_some];exact nd.idxOf_getElem x hx'
 ·have hm:y∈L:=h.mem_iff.mpr (mem_range.mpr hy);have hi:=List.idxOf_lt_length_iff.mpr hm;simp only [getD_eq_getElem?_getD,getElem?_eq_getElem hi,Option.getD_some];exact List.getElem_idxOf hi
 ·refine List.ext_getElem? λi=>?_;unfold oL;rw [getElem?_map,getElem?_map];by_cases c:i<N
  ·rw [List.getElem?_range c,getElem?_eq_getElem (by omega)];simp [sD,hl,c]
  ·rw [List.getElem?_eq_none (by omega),List.getElem?_eq_none (by simp;omega)];rfl
def qct {L:List Nat}:L.map sD=(L.map λ(x:Nat)=>(x:Int)).map PyData.int:=by rw [map_map];rfl
def qcr {N:Nat} {L:List Nat} (h:L.Perm (List.range N)):srt (L.map λ(x:Nat)=>(x:Int))=(List.range N).map λ(x:Nat)=>(x:Int):=by
 refine UF ((V8 _).trans (h.map _)) (qab _) ?_;rw [List.pairwise_map];exact List.Pairwise.imp (λh=>by omega) List.pairwise_lt_range
def isI:PyData->Bool
 |.int _=>true
 |_=>false
def Nd (d:PyData):Prop:=∀ x,d≠.dict x
def qke {d:PyData} (h:Nd d):qL [d]=some (.bool (isI d)):=by
 rw [E8];cases d with
 |int i=>try simp only [Pu.pwA,qI,isI,qlf,qkS,Bool.not_false]
 |bool b=>try simp only [Pu.pwA,qI,isI,show jb "bool" "int" = true from rfl,show jb "bool" "bool" = true from rfl,Bool.not_true]
 |none=>try simp only [Pu.pwA,qI,isI,show jb "NoneType" "int" = false from rfl]
 |str s=>try simp only [Pu.pwA,qI,isI,show jb "str" "int" = false from rfl]
 |tuple ds=>try simp only [Pu.pwA,qI,isI,show jb "tuple" "int" = false from rfl]
 |list ds=>try simp only [Pu.pwA,qI,isI,show jb "list" "int" = false from rfl]
 |dict x=>exact (h x rfl).elim
def EA:∀ {ds:List PyData},ds.all isI=false->QB ds=none
 |[],h=>by cases h
 |.int i::r,h=>by
  have:r.all isI=false:=by simpa [isI] using h
  simp [QB,EA this]
 |.none::r,h=>rfl
 |.bool _::r,h=>rfl
 |.str _::r,h=>rfl
 |.list _::r,h=>rfl
 |.tuple _::r,h=>rfl
 |.dict _::r,h=>rfl
def JL:∀ {ds:List PyData},ds.all isI=true->∃ ns:List Int,ds=ns.map PyData.int
 |[],h=>⟨[],rfl⟩
 |.int i::r,h=>by
  obtain ⟨ns,e⟩:=JL (ds:=r) (by simpa [isI] using h);exact ⟨i::ns,by rw [e];rfl⟩
 |.none::r,h=>by simp [isI] at h
 |.bool _::r,h=>by simp [isI] at h
 |.str _::r,h=>by simp [isI] at h
 |.list _::r,h=>by simp [isI] at h
 |.tuple _::r,h=>by simp [isI] at h
 |.dict _::r,h=>by simp [isI] at h
def MM (n:Nat):Bool:=decide (n=2)||(decide (n=4)||(decide (n=8)||decide (n=16)))
def isO:PyData->Bool
 |.tuple ds=>MM ds.length&&(match QB ds with|some ns=>decide (srt ns=(List.range ds.length).map λ(x:Nat)=>(x:Int))|none=>false)
 |_=>false
def T5 {n:Nat}:inD true (.int (n:Int)) (.tuple [.int 2,.int 4,.int 8,.int 16])=some (.bool (!MM n)):=by
 refine (zn ⟨rfl,by simp [DI]⟩).trans ?_;have e:∀ k:Nat,RV (.int (k:Int)) (.int (n:Int))=decide (n=k):=λk=>by
  show decide ((k:Int)=(n:Int))=_;by_cases c:n=k
  ·subst c;simp
  ·rw [decide_eq_false c,decide_eq_false (by omega)]
 have e2:RV (.int 2) (.int (n:Int))=decide (n=2):=e 2;have e4:RV (.int 4) (.int (n:Int))=decide (n=4):=e 4;have e8:RV (.int 8) (.int (n:Int))=decide (n=8):=e 8;have e16:RV (.int 16) (.int (n:Int))=decide (n=16):=e 16;unfold MM;simp only [List.any_cons,List.any_nil,e2,e4,e8,e16,if_true,Bool.or_false]
def NI {ds:List PyData} {H:PyData->Option (Option PyData)} (hh:∀ d∈ds,H d=some (some (.bool (isI d)))):lcP H ds=some ((ds.map isI).map PyData.bool):=by
 have:=YC (g:=id) (xs:=ds) (k:=λd=>PyData.bool (isI d)) hh;rw [List.map_id] at this;rw [this,map_map];rfl
def KS {ds:List PyData}:(ds.map isI).all id=ds.all isI:=by rw [List.all_map];rfl
def qkU {N:Nat} (h:N<64):qb4 (.int (N:Int))=some (.list (((List.range N).map λ(x:Nat)=>(x:Int)).map PyData.int)):=by
 unfold qb4;simp only;rw [if_pos (by omega),Int.toNat_natCast,map_map];rfl
def K2 {ns:List Int} (c:MM ns.length=true):isO (.tuple (ns.map PyData.int))=decide (srt ns=(List.range ns.length).map λ(x:Nat)=>(x:Int)):=by
 simp only [isO,length_map,c,YB,Bool.true_and]
def qch {ds:List PyData} (h:ds.all isI=false):isO (.tuple ds)=false:=by
 simp only [isO,EA h,Bool.and_false]
def qca {ds:List PyData} (h:MM ds.length=false):isO (.tuple ds)=false:=by
 simp only [isO,h,Bool.false_and]
def MX {ns:List Int} {N:Nat}:eqD false (.list ((srt ns).map PyData.int)) (.list (((List.range N).map λ(x:Nat)=>(x:Int)).map PyData.int))=some (.bool (decide (srt ns=(List.range N).map λ(x:Nat)=>(x:Int)))):=by
 have:=RX false (srt ns) ((List.range N).map λ(x:Nat)=>(x:Int));rw [this];simp
def qbI {d:PyData} (h:Nd d) (hs:∀ ds,d=.tuple ds->ds.length<64/\∀ x∈ds,Nd x):qy [d]=some (.bool (isO d)):=by
 rw [WB];cases d with
 |tuple ds=>
  obtain ⟨hl,hn⟩:=hs ds rfl
  try simp only [Pu.pwA,qS,qk3,T5,Bool.not_true]
  cases c:MM ds.length with
  |false=>try simp only [Pu.pwA,Bool.not_false,qca c]
  |true=>
   try simp only [Pu.pwA,Bool.not_true]
   rw [ZC (ds:=ds) (fs:=(ds.map isI).map PyData.bool)]
   rotate_left
   ·try simp only [Pu.pwA]
   ·refine NI λd hd=>?_
    try simp only [Pu.pwA,QM,qke (hn d hd)]
   ·simp;omega
   cases ca:ds.all isI with
   |false=>try simp only [Pu.pwA,Y9,KS,ca,qch ca]
   |true=>
    obtain ⟨ns,rfl⟩:=JL ca;rw [length_map] at c hl
    try simp only [Pu.pwA,Y9,KS,ca,SI,M1 hl,RZ,length_map,qkU hl,MX,K2 c]
 |int i=>try simp only [Pu.pwA,qS,isO,show jb "int" "tuple" = false from rfl,Bool.not_false]
 |bool b=>try simp only [Pu.pwA,qS,isO,show jb "bool" "tuple" = false from rfl,Bool.not_false]
 |none=>try simp only [Pu.pwA,qS,isO,show jb "NoneType" "tuple" = false from rfl,Bool.not_false]
 |str s=>try simp only [Pu.pwA,qS,isO,show jb "str" "tuple" = false from rfl,Bool.not_false]
 |list ds=>try simp only [Pu.pwA,qS,isO,show jb "list" "tuple" = false from rfl,Bool.not_false]
 |dict x=>exact (h x rfl).elim
def qgd {d:PyData} (h:Nd d) (hs:∀ ds,d=.tuple ds->ds.length<64/\∀ x∈ds,Nd x):qv [d]=some (.bool (isO d)):=by
 rw [J8];cases d with
 |tuple ds=>
  obtain ⟨hl,hn⟩:=hs ds rfl
  try simp only [Pu.pwA,qr,qk3,T5,Bool.not_true]
  cases c:MM ds.length with
  |false=>try simp only [Pu.pwA,Bool.not_false,qca c]
  |true=>
   try simp only [Pu.pwA,Bool.not_true]
   rw [ZC (ds:=ds) (fs:=(ds.map isI).map PyData.bool)]
   rotate_left
   ·try simp only [Pu.pwA]
   ·refine NI λd hd=>?_;cases d with
    |int i=>try simp only [Pu.pwA,QM,isI,qlf,qkS,Bool.not_false]
    |bool b=>try simp only [Pu.pwA,QM,isI,show jb "bool" "int" = true from rfl,show jb "bool" "bool" = true from rfl,Bool.not_true]
    |none=>try simp only [Pu.pwA,QM,isI,show jb "NoneType" "int" = false from rfl]
    |str s=>try simp only [Pu.pwA,QM,isI,show jb "str" "int" = false from rfl]
    |tuple ds=>try simp only [Pu.pwA,QM,isI,show jb "tuple" "int" = false from rfl]
    |list ds=>try simp only [Pu.pwA,QM,isI,show jb "list" "int" = false from rfl]
    |dict x=>exact (hn _ hd x rfl).elim
   ·simp;omega
   cases ca:ds.all isI with
   |false=>try simp only [Pu.pwA,Y9,KS,ca,qch ca,Bool.not_false]
   |true=>
    obtain ⟨ns,rfl⟩:=JL ca;rw [length_map] at c hl
    try simp only [Pu.pwA,Y9,KS,ca,SI,M1 hl,RZ,length_map,qkU hl,MX,K2 c,Bool.not_true]
 |int i=>try simp only [Pu.pwA,qr,isO,show jb "int" "tuple" = false from rfl,Bool.not_false]
 |bool b=>try simp only [Pu.pwA,qr,isO,show jb "bool" "tuple" = false from rfl,Bool.not_false]
 |none=>try simp only [Pu.pwA,qr,isO,show jb "NoneType" "tuple" = false from rfl,Bool.not_false]
 |str s=>try simp only [Pu.pwA,qr,isO,show jb "str" "tuple" = false from rfl,Bool.not_false]
 |list ds=>try simp only [Pu.pwA,qr,isO,show jb "list" "tuple" = false from rfl,Bool.not_false]
 |dict x=>exact (h x rfl).elim
def qhl {d:PyData} (h:isO d=true):∃ (m:Nat) (L:List Nat),m<=3/\L.Perm (List.range (2 ^ (m+1)))/\d=.tuple (L.map sD):=by
 cases d with
 |tuple ds=>
  cases c:MM ds.length with
  |false=>rw [qca c] at h;cases h
  |true=>
   cases ca:ds.all isI with
   |false=>rw [qch ca] at h;cases h
   |true=>
    obtain ⟨ns,rfl⟩:=JL ca;rw [length_map] at c;rw [K2 c,decide_eq_true_iff] at h;have hp:=V8 ns;rw [h] at hp;have nn:∀ x∈ns,0<=x:=λx hx=>by
     obtain ⟨y,_,rfl⟩:=mem_map.mp (hp.mem_iff.mpr hx);omega
    have he:ns=(ns.map Int.toNat).map λ(x:Nat)=>(x:Int):=by
     rw [map_map]
     conv=>lhs;rw [← List.map_id ns]
     exact List.map_congr_left λx hx=>by have:=nn x hx;show x=((x.toNat:Nat):Int);omega
    have pl:(ns.map Int.toNat).Perm (List.range ns.length):=by
     have:=(hp.map Int.toNat).symm;rw [map_map] at this;refine this.trans (List.Perm.of_eq ?_)
     conv=>rhs;rw [← List.map_id (List.range ns.length)]
     exact List.map_congr_left λx _=>by simp
    obtain ⟨m,hm,hl⟩:∃ m,m<=3/\ns.length=2 ^ (m+1):=by
     simp only [MM,Bool.or_eq_true,decide_eq_true_iff] at c;rcases c with c|c|c|c
     ·exact ⟨0,by omega,c⟩
     ·exact ⟨1,by omega,c⟩
     ·exact ⟨2,by omega,c⟩
     ·exact ⟨3,by omega,c⟩
    rw [hl] at pl;exact ⟨m,_,hm,pl,by rw [qct,← he]⟩
 |_=>cases h
def qk1 {m:Nat} {L:List Nat} (hm:m<=3) (h:L.Perm (List.range (2 ^ (m+1)))):isO (.tuple (L.map sD))=true:=by
 have hl:L.length=2 ^ (m+1):=by rw [h.length_eq,length_range]
 rw [qct,K2,decide_eq_true_iff,qcr h,length_map,hl];rw [length_map,hl];have:m=0\/m=1\/m=2\/m=3:=by omega
 rcases this with rfl|rfl|rfl|rfl<;>decide
def qkC {x:Nat}:Nd (sD x):=λz e=>by cases e
def qib {ds:List PyData}:Nd (.tuple ds):=λz e=>by cases e
def qau {m:Nat} {L:List Nat} (hm:m<=3) (h:L.Perm (List.range (2 ^ (m+1)))):∀ ds,PyData.tuple (L.map sD)=.tuple ds->ds.length<64/\∀ x∈ds,Nd x:=by
 intro ds e;cases e;have hb:2 ^ (m+1)<=16:=Nat.pow_le_pow_right (n:=2) (j:=4) (by decide) (by omega);refine ⟨by rw [length_map,h.length_eq,length_range];omega,λx hx=>?_⟩;obtain ⟨y,_,rfl⟩:=mem_map.mp hx;exact qkC
def CM:∀ {R:List Nat} {k:Nat} {x:Nat},R[k]?=some x->(x::R.eraseIdx k).Perm R
 |[],k,x,h=>by simp at h
 |y::R,0,x,h=>by simp at h;subst h;exact .refl _
 |y::R,k+1,x,h=>by
  have ih:=CM (R:=R) (k:=k) (x:=x) (by simpa using h);show (x::y::R.eraseIdx k).Perm (y::R);exact (List.Perm.swap y x _).trans (ih.cons y)
def qff {R:List Nat} {k:Nat}:(R.map sD).eraseIdx k=(R.eraseIdx k).map sD:=by
 induction R generalizing k with
 |nil=>simp
 |cons y R ih=>cases k with
  |zero=>rfl
  |succ k=>simp [ih]
def lrg {N:Nat} (h:N<=16):qb4 (.int (N:Int))=some (.list ((List.range N).map sD)):=by
 unfold qb4;simp only;rw [if_pos (by omega),Int.toNat_natCast];rfl
def qlM {N n:Nat} {Q:QD} (hN:1<=N/\N<=16) (hn:n<900000) (h:∀ (L:List Nat) (m:Nat),L.Perm (List.range N)->m<=n+16->Q (.tuple (L.map sD)) m):zr.W [.int (N:Int)] n Q:=by
 rw [EU];refine ⟨rfl,?_⟩;unfold jD;refine QE λY1 h1=>?_;rw [qc9];refine ⟨(List.range N).map sD,[],by try simp only [Pu.pwA,RZ,lrg hN.2],by try simp only [Pu.pwA],?_⟩;rw [h1];refine QE λY2 h2=>?_
 try simp (disch:=omega) only [Pu.pwA,qhH,dmS]
 refine UM (UO 0 ((N:Int)).toNat) jg.mn (λi ρ n'=>∃ (F R:List Nat) (s4:Sl),(F++R).Perm (List.range N)/\F.length=i/\n'<=n+i/\ρ=[.un,.sh (.int (N:Int)),.ow (R.map sD),.ow (F.map sD),s4]) ⟨[],List.range N,_,by simp,rfl,by omega,rfl⟩ ?_ ?_
 ·rintro i x ρ n' hx ⟨F,R,s4,hp,hl,hn',rfl⟩;have hi:i<N:=by
   have:=(List.getElem?_eq_some_iff.mp hx).1;rw [qW] at this;omega
  have hr:F.length+R.length=N:=by rw [← length_append,hp.length_eq,length_range]
  refine ⟨_,rfl,?_⟩;unfold jg;rw [SG];refine ⟨by decide,F.map sD,R.map sD,rfl,rfl,by rw [length_map];omega,?_⟩
  try simp only [Pu.pwA]
  refine ⟨by rw [length_map];omega,by omega,λd d0 d1=>?_⟩;rw [length_map] at d1;obtain ⟨k,rfl⟩:∃ k:Nat,d=(k:Int):=⟨d.toNat,by omega⟩
  have hk:k<R.length:=by omega
  refine ⟨k,sD R[k],rfl,by rw [getElem?_map,getElem?_eq_getElem hk];rfl,F++[R[k]],R.eraseIdx k,.sh (.int x),?_,by simp [hl],by omega,?_⟩
  ·refine .trans ?_ hp;rw [List.append_assoc];exact (CM (getElem?_eq_getElem hk)).append_left F
  ·rw [qff,List.map_append];rfl
 ·rintro ρ n' ⟨F,R,s4,hp,hl,hn',rfl⟩;rw [qW] at hl hn';have hr:F.length+R.length=N:=by rw [← length_append,hp.length_eq,length_range]
  have hz:R=[]:=List.eq_nil_of_length_eq_zero (by omega);subst hz;rw [List.append_nil] at hp;rw [W0,h2]
  try simp only [Pu.pwA]
  exact ⟨n',Nat.le_refl _,h F n' hp (by omega)⟩
def qlO {m:Nat} {L:List Nat} (hm:m<=3) (h:L.Perm (List.range (2 ^ (m+1)))):∃ n:Nt,q0 [.tuple (L.map sD)]=some (nD n)/\n.Ok m/\((List.range (2 ^ (m+1))).map n.lane)=L:=by
 obtain ⟨o,v,pm,ol⟩:=qj5 h;obtain ⟨n,e1,e2,e3⟩:=qbW m 4 o v pm (by omega) hm;rw [← ol] at e1;refine ⟨n,?_,e2,?_⟩
 ·rw [VQ]
  try simp only [Pu.pwA,jW,qbI qib (qau hm h),qk1 hm h,e1,Bool.not_true]
 ·have:((List.range (2 ^ (m+1))).map n.lane).map sD=L.map sD:=by
   rw [ol,map_map];unfold oL;exact List.map_congr_left λk hk=>by
    show sD (n.lane k)=_;rw [e3 k (mem_range.mp hk)];rfl
  exact (List.map_inj_right (λa b h=>by have:=PyData.int.inj h;omega)).mp this
def Gd (d:PyData):Prop:=Nd d/\∀ ds,d=.tuple ds->ds.length<64/\∀ x∈ds,Nd x
def qlw {d:PyData} (h:Gd d) (ho:isO d=false):q0 [d]=none/\jm [d]=some 80:=by
 constructor
 ·rw [VQ]
  try simp only [Pu.pwA,jW,qbI h.1 h.2,ho,Bool.not_false]
  rfl
 ·rw [DY]
  try simp only [Pu.pwA,Q8,qbI h.1 h.2,ho,Bool.not_false,qgg,qj4,LY,qlE,qeB,Option.map_some,Option.bind_some]
def KC {d:PyData} (h:Gd d):qx [d]=some (.bool (isO d)):=by
 unfold qx;cases ho:isO d with
 |false=>
  obtain ⟨e1,e2⟩:=qlw h ho;rw [e1,e2];rfl
 |true=>
  obtain ⟨m,L,hm,hp,rfl⟩:=qhl ho;obtain ⟨w,e1,e2,e3⟩:=qlO hm hp;have hl:L.length=2 ^ (m+1):=by rw [hp.length_eq,length_range]
  have hb:2 ^ (m+1)<=16:=Nat.pow_le_pow_right (n:=2) (j:=4) (by decide) (by omega);rw [e1];simp only;rw [qb9];have eq:=RX false (L.map λ(x:Nat)=>(x:Int)) (L.map λ(x:Nat)=>(x:Int));rw [← qct] at eq;simp only [decide_true,Bool.false_eq_true,if_false] at eq;have le:((L.map sD).length:Int)=((2 ^ (m+1):Nat):Int):=by rw [length_map,hl]
  try simp only [Pu.pwA,XH]
  rw [ZC (ds:=(UO 0 ((2 ^ (m+1):Nat):Int).toNat).map PyData.int) (fs:=(UO 0 ((2 ^ (m+1):Nat):Int).toNat).map λk=>sD (w.lane k.toNat))]
  rotate_left
  ·try simp (disch:=omega) only [Pu.pwA,le,qhH]
  ·refine YC λt ht=>?_;obtain ⟨u,hu,rfl⟩:∃ u:Nat,u<2 ^ (m+1)/\t=(u:Int):=by
    obtain ⟨u,hu⟩:=List.mem_iff_getElem?.mp ht;obtain ⟨h1,h2⟩:=zJ hu;exact ⟨u,by omega,by omega⟩
   try simp only [Pu.pwA,QM,TD e2 (show m<4 by omega) hu,Int.toNat_natCast]
   rfl
  ·rw [length_map,qW];omega
  have e4:((UO 0 ((2 ^ (m+1):Nat):Int).toNat).map λk=>sD (w.lane k.toNat))=L.map sD:=by
   rw [← e3,Int.toNat_natCast];unfold UO;rw [map_map,map_map];refine List.map_congr_left λq _=>?_;show sD (w.lane ((0:Int)+(q:Int)).toNat)=sD (w.lane q);congr 2;omega
  rw [e4]
  try simp only [Pu.pwA,eq]
def qbV {ds:List PyData} {d:PyData} (h:qx ds=some d):∃ o,ds=[o]:=by
 unfold qx at h;by_cases c:ds.length=1
 ·match ds,c with
  |[o],_=>exact ⟨o,rfl⟩
 ·have e1:q0 ds=none:=if_neg c;have e2:jm ds=none:=if_neg c;rw [e1,e2] at h;cases h
def WA:Rd (PSp qx false) 1 (jx (PSp q0 false) (PSp (qG 4) false) (PXp jm)) ZQ:=by
 rintro ts G q ⟨D,ds,d,hs,hd,hf,h⟩;obtain ⟨o,rfl⟩:=qbV hf;have tl:ts.length=1:=hs.length
 match ts,tl with
 |[t0],_=>
 refine ⟨rfl,?_⟩;show jx _ _ _ _ [some t0,none,none,none,none] G;unfold jx;simp only [qU,zG,YT,qc,c3,qk,U3,jS,gn3,U2,set_cons_succ,set_cons_zero];refine ⟨by decide,rfl,?_⟩;unfold qx at hf;cases e:q0 [o] with
 |some d'=>
  rw [e] at hf;simp only at hf;refine .inl ?_;simp only [zG,cb3,qc,v3,qk,getElem?_cons_zero,getElem?_cons_succ];refine ⟨D,[o],_,hs,hd,e,λx G' E hx hn=>?_⟩;have hs':Dqs (rs D G') [t0,x,T.non] [o,d',.none]:=by
   cases hs with
   |cons a b=>exact .cons (a.up (jr E)) (.cons hx (.cons .non .nil))
  have:=(jZ XH ["a","b","c","d","e"] 3 1000000000 false [t0,x,T.non] G' q ⟨D,[o,d',.none],d,hs',hd.up E,hf,λz G2 E2 hz hn2=>h z G2 (E.trans E2) hz (λw=>by cases w)⟩).2;simp only [qU,ZF,tb3,qbB,gn3,set_cons_succ,set_cons_zero,getElem?_cons_zero,getElem?_cons_succ];exact this
 |none=>
  rw [e] at hf;obtain ⟨C,e2,hf⟩:=obb hf;split at hf
  ·rename_i hC;subst hC;cases hf;refine .inr ?_;simp only [qcQ,qc,v3,qk,getElem?_cons_zero,getElem?_cons_succ];refine ⟨D,[o],80,hs,hd,e2,λG' E=>⟨by decide,λex hex=>?_⟩⟩;have gx:gu G' ex (.exn 80) ex=some (.exn 80):=qC;have E2:Ex G (gu G' ex (.exn 80)):=E.trans (jn hex);simp only [qU,zG,ZF,tb3,o3,qbB,v3,c3,gn3,zI,zf,qb7,exT,gx,set_cons_succ,set_cons_zero,getElem?_cons_zero,getElem?_cons_succ];have l1:List.lookup (some (80:Addr)) [(none,false),(some 80,false)]=some false:=rfl;have l2:List.lookup (some (80:Addr)) [(none,false),(some 80,true)]=some true:=rfl;simp only [if3,qlR,or3,CO,tb3,qb7,exT,gx,l1,l2,v3,c3,getElem?_cons_zero,getElem?_cons_succ,Bool.false_eq_true,if_false,if_true,Bool.not_true,Bool.not_false];exact h _ _ E2 (.bl _) λz=>by cases z
  ·cases hf
end K58
namespace K58
open PySem L2 L3 Pu
open Pv (zJ qW)
def WT {α:Type} (xs:List α) (k:Nat):US xs none (some (k:Int))=xs.take k:=by
 unfold US;rw [HT.KA,HT.XC,List.drop_zero,Nat.sub_zero,List.take_eq_take_iff];omega
def XA {α:Type} (xs:List α) (k:Nat):US xs (some (k:Int)) none=xs.drop k:=by
 unfold US;rw [HT.KA,HT.XC,List.take_of_length_le (by simp)];by_cases c:k<=xs.length
 ·rw [Nat.min_eq_left c]
 ·rw [Nat.min_eq_right (by omega),List.drop_of_length_le (Nat.le_refl _),List.drop_of_length_le (by omega)]
def DJ {m:List Bool} {i:Nat} {d:PyData} {ρ:Rho} (h:dm m ρ=ρ):S7 m false i d ρ=ρ.set i (.sh d):=by
 unfold S7;rw [h];split<;>rfl
def qfj {i j:Nat} {m:List Bool} {x:Int} {r:List PyData} {ρ:Rho}:qeL i j m [.int x,.tuple r] ρ=some (.nx (((dm m ρ).set i (.sh (.int x))).set j (.sh (.tuple r)))):=id rfl
def qc8 {es:List PyData} (hl:es.length<64) (h:∀ x∈es,Nd x):Gd (.tuple es):=⟨qib,λds e=>by cases e;exact ⟨hl,h⟩⟩
def qh2 {d:PyData} (h:Nd d) (h2:∀ ds,d≠.tuple ds):Gd d:=⟨h,λds e=>(h2 ds e).elim⟩
def qic {i:Int}:Nd (.int i):=λz e=>by cases e
def qjN {c:Nat} {L:List Nat} {Q:QD} (hL:2<=L.length/\L.length<=16) (hb:∀ x∈L,x<16) (hc:c<900000) (hQ:∀ r c',Gd r->c'<=c+3->Q r c'):zt.W [.tuple (L.map sD)] c Q:=by
 rw [EH];refine ⟨rfl,?_⟩;unfold jz;have lm:(L.map sD).length=L.length:=length_map ..;have nds:∀ x∈L.map sD,Nd x:=λx hx=>by
  obtain ⟨y,_,rfl⟩:=mem_map.mp hx;exact qkC
 have vs:∀ x∈L.map sD,∃ i:Nat,i<16/\x=.int (i:Int):=λx hx=>by
  obtain ⟨y,hy,rfl⟩:=mem_map.mp hx;exact ⟨y,hb y hy,rfl⟩
 generalize L.map sD=ds at lm nds vs ⊢;refine QE λY1 h1=>?_
 try simp only [Pu.pwA,lm]
 refine ⟨by omega,by omega,λw w0 w1=>⟨by omega,by omega,λa a0 a1=>?_⟩⟩
 try simp only [Pu.pwA]
 rw [h1];obtain ⟨k,rfl⟩:∃ k:Nat,a=(k:Int):=⟨a.toNat,by omega⟩
 obtain ⟨v,hv,ev⟩:=VH (ds:=ds) (r:=(k:Int)) a0 (by omega);obtain ⟨i,i1,rfl⟩:=vs v hv;have ca:∀ i j:Int,KP (.int i) (.int j)=some (.int (i+j)):=λ_ _=>rfl;have s1:slA (.tuple ds) none (some (k:Int))=some (.tuple (ds.take k)):=by rw [LU,WT]
 have s2:∀ j:Nat,slA (.tuple ds) (some (j:Int)) none=some (.tuple (ds.drop j)):=λj=>by rw [LU,XA]
 have e1:(k:Int)+1=((k+1:Nat):Int):=by omega
 have m1:∀ x∈ds.take k,Nd x:=λx hx=>nds x (List.mem_of_mem_take hx);have m2:∀ x∈ds.drop (k+1),Nd x:=λx hx=>nds x (List.mem_of_mem_drop hx);have l1:(ds.take k).length<=16:=by rw [List.length_take];omega
 have l2:(ds.drop (k+1)).length<=16:=by rw [List.length_drop];omega
 refine QE λY2 h2=>?_
 try simp only [Pu.pwA,ev,VF,jH,ca,e1,s2,qfj]
 rw [h2];generalize ds.drop (k+1)=B at m2 l2 ⊢;generalize ds.take k=A at m1 l1 s1 ⊢;refine QE λY3 h3=>?_;by_cases c0:w=0
 ·subst c0;have cc:=VN (xs:=A) (ys:=B) (by omega)
  try simp only [Pu.pwA,VF,jH,ca,s1,cc,decide_true]
  refine ⟨_,Nat.le_refl _,hQ _ _ (qc8 (by rw [length_append];omega) λx hx=>?_) (by omega)⟩;rcases List.mem_append.mp hx with h|h
  ·exact m1 x h
  ·exact m2 x h
 try simp only [Pu.pwA,c0,decide_false]
 rw [h3];have mid:∀ (M:List PyData),M.length<=2->(∀ x∈M,Nd x)->KP (.tuple A) (.tuple M)=some (.tuple (A++M))/\KP (.tuple (A++M)) (.tuple B)=some (.tuple (A++M++B))/\Gd (.tuple (A++M++B)):=λM hM hm=>by
  refine ⟨VN (by omega),VN (by rw [length_append];omega),qc8 (by rw [length_append,length_append];omega) λx hx=>?_⟩;rcases List.mem_append.mp hx with h|h
  ·rcases List.mem_append.mp h with h|h
   ·exact m1 x h
   ·exact hm x h
  ·exact m2 x h
 refine QE λY4 h4=>?_;by_cases c1:w=1
 ·subst c1;obtain ⟨q1,q2,q3⟩:=mid [.int (i:Int),.int (i:Int)] (by simp) (λx hx=>by simp at hx;subst hx;exact qic)
  try simp only [Pu.pwA,VF,jH,ca,s1,q1,q2,decide_true]
  exact ⟨_,Nat.le_refl _,hQ _ _ q3 (by omega)⟩
 try simp only [Pu.pwA,c1,decide_false]
 rw [h4];refine QE λY5 h5=>?_;by_cases c2:w=2
 ·subst c2
  try simp only [Pu.pwA,VF,jH,R6,ca,s1,lm,decide_true]
  refine ⟨by omega,by omega,λb b0 b1=>?_⟩;obtain ⟨u,hu,eu⟩:=VH (ds:=ds) (r:=b) b0 (by omega);obtain ⟨q1,q2,q3⟩:=mid [u] (by simp) (λx hx=>by simp at hx;subst hx;exact nds _ hu)
  try simp only [Pu.pwA,eu,q1,q2]
  exact ⟨_,Nat.le_refl _,hQ _ _ q3 (by omega)⟩
 try simp only [Pu.pwA,c2,decide_false]
 rw [h5];refine QE λY6 h6=>?_;by_cases c3:w=3
 ·subst c3;have cc:=VN (xs:=ds) (ys:=[.int ((ds.length:Nat):Int)]) (by simp;omega);rw [lm] at cc
  try simp only [Pu.pwA,jH,lm,cc,decide_true]
  refine ⟨_,Nat.le_refl _,hQ _ _ (qc8 (by rw [length_append];simp;omega) λx hx=>?_) (by omega)⟩;rcases List.mem_append.mp hx with h|h
  ·exact nds x h
  ·simp at h;subst h;exact qic
 try simp only [Pu.pwA,c3,decide_false]
 rw [h6];refine QE λY7 h7=>?_;by_cases c4:w=4
 ·subst c4
  try simp only [Pu.pwA,decide_true]
  refine ⟨by omega,by omega,λb b0 b1=>?_⟩
  try simp only [Pu.pwA,qgb,qbL,qek (show 0<=b/\b<=1000000 by omega)]
  refine ⟨_,Nat.le_refl _,hQ _ _ (qc8 (by simp;omega) λx hx=>?_) (by omega)⟩;obtain ⟨y,_,rfl⟩:=mem_map.mp hx;exact qic
 try simp only [Pu.pwA,c4,decide_false]
 rw [h7];refine QE λY8 h8=>?_
 try simp (disch:=omega) only [Pu.pwA,R5,lm]
 refine ⟨by omega,by omega,λb b0 b1=>?_⟩;obtain ⟨u,hu,eu⟩:=VH (ds:=[PyData.int 1,.int (-1),.int (-1-2*(i:Int)),.int (L.length:Int)]) (r:=b) b0 (by simpa using b1);obtain ⟨j,rfl⟩:∃ j:Int,u=.int j:=by
  simp only [mem_cons,not_mem_nil,or_false] at hu;rcases hu with rfl|rfl|rfl|rfl<;>exact ⟨_,rfl⟩
 try simp only [Pu.pwA,eu]
 rw [h8];obtain ⟨q1,q2,q3⟩:=mid [.int ((i:Int)+j)] (by simp) (λx hx=>by simp at hx;subst hx;exact qic)
 try simp only [Pu.pwA,VF,jH,ca,s1,q1,q2]
 exact ⟨_,Nat.le_refl _,hQ _ _ q3 (by omega)⟩
def qj0 {c:Nat} {L:List Nat} {Q:QD} (hL:2<=L.length/\L.length<=16) (hb:∀ x∈L,x<16) (hc:c<900000) (hQ:∀ r c',Gd r->c'<=c+4->Q r c'):qT.W [.tuple (L.map sD)] c Q:=by
 rw [YV];refine ⟨rfl,?_⟩;unfold zL;have lm:(L.map sD).length=L.length:=length_map ..;have nds:∀ x∈L.map sD,Nd x:=λx hx=>by
  obtain ⟨y,_,rfl⟩:=mem_map.mp hx;exact qkC
 have vs:∀ x∈L.map sD,∃ i:Nat,i<16/\x=.int (i:Int):=λx hx=>by
  obtain ⟨y,hy,rfl⟩:=mem_map.mp hx;exact ⟨y,hb y hy,rfl⟩
 have lcE:∀ (H:PyData->Option (Option PyData)),(∀ x∈L.map sD,∃ b:Bool,H x=some (some (.bool b)))->∃ bs:List Bool,lcP H (L.map sD)=some (bs.map PyData.bool)/\bs.length=L.length:=by
  intro H hH;have:∀ ys:List PyData,(∀ x∈ys,∃ b:Bool,H x=some (some (.bool b)))->∃ bs:List Bool,lcP H ys=some (bs.map PyData.bool)/\bs.length=ys.length:=by
   intro ys;induction ys with
   |nil=>exact λ_=>⟨[],rfl,rfl⟩
   |cons y r ih=>
    intro h;obtain ⟨b,e⟩:=h y (by simp);obtain ⟨bs,e2,e3⟩:=ih λx hx=>h x (by simp [hx]);exact ⟨b::bs,by simp only [lcP,e,e2,Option.bind_some,map_cons],by simp [e3]⟩
  obtain ⟨bs,e1,e2⟩:=this _ hH;exact ⟨bs,e1,by rw [e2,lm]⟩
 generalize L.map sD=ds at lm nds vs lcE ⊢;refine QE λY1 h1=>?_
 try simp only [Pu.pwA,lm]
 refine ⟨by omega,by omega,λw w0 w1=>⟨by omega,by omega,λa a0 a1=>?_⟩⟩
 try simp only [Pu.pwA]
 rw [h1];obtain ⟨k,rfl⟩:∃ k:Nat,a=(k:Int):=⟨a.toNat,by omega⟩
 obtain ⟨v,hv,ev⟩:=VH (ds:=ds) (r:=(k:Int)) a0 (by omega);obtain ⟨i,i1,rfl⟩:=vs v hv;have ca:∀ i j:Int,KP (.int i) (.int j)=some (.int (i+j)):=λ_ _=>rfl;have s1:slA (.tuple ds) none (some (k:Int))=some (.tuple (ds.take k)):=by rw [LU,WT]
 have s2:∀ j:Nat,slA (.tuple ds) (some (j:Int)) none=some (.tuple (ds.drop j)):=λj=>by rw [LU,XA]
 have e1:(k:Int)+1=((k+1:Nat):Int):=by omega
 have m1:∀ x∈ds.take k,Nd x:=λx hx=>nds x (List.mem_of_mem_take hx);have m2:∀ x∈ds.drop (k+1),Nd x:=λx hx=>nds x (List.mem_of_mem_drop hx);have l1:(ds.take k).length<=16:=by rw [List.length_take];omega
 have l2:(ds.drop (k+1)).length<=16:=by rw [List.length_drop];omega
 refine QE λY2 h2=>?_;have sh:=qfP (st:=true) (i:=(i:Int)) (by omega);generalize Str.ofString (toString (i:Int))=tx at sh
 try simp only [Pu.pwA,ev,qbP,sh]
 refine ⟨by omega,by omega,λb b0 b1=>?_⟩;obtain ⟨u,hu,eu⟩:=VH (ds:=[PyData.bool true,.bool false,.none,.str "",.str "0",.tuple [],.tuple [.int 0],.list [.int 0],.str tx]) (r:=b) b0 (by simpa using b1);have nu:Nd u:=by
  simp only [mem_cons,not_mem_nil,or_false] at hu;rcases hu with rfl|rfl|rfl|rfl|rfl|rfl|rfl|rfl|rfl<;>exact λz e=>by cases e
 try simp only [Pu.pwA,eu]
 rw [DJ rfl,h2];refine QE λY3 h3=>?_;by_cases c0:w<3
 ·have q1:KP (.tuple (ds.take k)) (.tuple [u])=some (.tuple (ds.take k++[u])):=VN (by simp;omega);have q2:KP (.tuple (ds.take k++[u])) (.tuple (ds.drop (k+1)))=some (.tuple (ds.take k++[u]++ds.drop (k+1))):=VN (by rw [length_append];simp;omega)
  try simp only [Pu.pwA,VF,jH,ca,e1,s1,s2,q1,q2,c0,decide_true,set_cons_succ,set_cons_zero]
  refine ⟨_,Nat.le_refl _,hQ _ _ (qc8 (by rw [length_append,length_append,List.length_singleton];omega) λx hx=>?_) (by omega)⟩;rcases List.mem_append.mp hx with h|h
  ·rcases List.mem_append.mp h with h|h
   ·exact m1 x h
   ·simp at h;subst h;exact nu
  ·exact m2 x h
 try simp only [Pu.pwA,c0,decide_false,set_cons_succ,set_cons_zero]
 rw [h3];refine QE λY4 h4=>?_;by_cases c1:w=3
 ·subst c1
  try simp only [Pu.pwA,decide_true]
  refine ⟨by omega,by omega,λx x0 x1=>?_⟩;obtain ⟨y,hy,ey⟩:=VH (ds:=[PyData.list ds,.none,.str "01",.int 1,.tuple [.tuple [.int 0,.int 1]]]) (r:=x) x0 (by simpa using x1)
  try simp only [Pu.pwA,ey]
  refine ⟨_,Nat.le_refl _,hQ _ _ ?_ (by omega)⟩;simp only [mem_cons,not_mem_nil,or_false] at hy;rcases hy with rfl|rfl|rfl|rfl|rfl
  ·exact qh2 (λz e=>by cases e) λz e=>by cases e
  ·exact qh2 (λz e=>by cases e) λz e=>by cases e
  ·exact qh2 (λz e=>by cases e) λz e=>by cases e
  ·exact qh2 (λz e=>by cases e) λz e=>by cases e
  ·exact qc8 (by simp) λz hz=>by simp at hz;subst hz;exact qib
 try simp only [Pu.pwA,c1,decide_false]
 rw [h4];have lc:∃ bs:List Bool,lcF (qbk (bV 1)).f (lcH (gN 0).f bTt.f (bO (UQ false) (bV 0) (bO YU (bV 1) (bV 2))).f) [none,some 1,some 3] [.un,.sh (.tuple ds),.sh (.int w),.sh (.int (k:Int)),.sh u]=some (.list (bs.map PyData.bool))/\bs.length=L.length:=by
  obtain ⟨bs,q1,q2⟩:=lcE (lcH (gN 0).f bTt.f (bO (UQ false) (bV 0) (bO YU (bV 1) (bV 2))).f (WL [none,some 1,some 3] [.un,.sh (.tuple ds),.sh (.int w),.sh (.int (k:Int)),.sh u])) λx hx=>by
   obtain ⟨y,_,rfl⟩:=vs x hx;exact ⟨decide ((y:Int)=(i:Int)),by try simp only [Pu.pwA,QM,ev]⟩
  exact ⟨bs,ZC (by try simp only [Pu.pwA]) q1 (by simp;omega),q2⟩
 obtain ⟨bs,q1,q2⟩:=lc;simp only [Pu.pwA] at q1
 try simp only [Pu.pwA,q1]
 refine ⟨_,Nat.le_refl _,hQ _ _ (qc8 (by simp;omega) λz hz=>?_) (by omega)⟩;obtain ⟨y,_,rfl⟩:=mem_map.mp hz;exact λz e=>by cases e
def qkZ {b:Bool}:eqD true (.bool b) (.bool b)=some (.bool false):=by cases b<;>rfl
def qds:∀ k:Nat,k<=60->KY.w [.un,.sh (.int k),.un,.un,.un,.un,.un] 0 okW:=by
 intro k hk;unfold KY
 try simp only [Pu.pwA]
 have dsq:[PyData.int 2,.int 4,.int 8,.int 16]=[0,1,2,3].map λm:Nat=>PyData.int ((2 ^ (m+1):Nat):Int):=by rfl
 rw [dsq];refine UM [0,1,2,3] V7.mn (λi ρ n=>n<=200*i/\∃ s3 s4 s5 s6,ρ=[.un,.sh (.int k),.un,s3,s4,s5,s6]) ⟨by omega,_,_,_,_,rfl⟩ ?_ ?_
 ·rintro i m ρ n hx ⟨hn,s3,s4,s5,s6,rfl⟩;have hi:=(List.getElem?_eq_some_iff.mp hx).1;have hm:m<=3:=by
   have:=mem_of_getElem? hx;simp at this;omega
  have hb:2 ^ (m+1)<=16:=Nat.pow_le_pow_right (n:=2) (j:=4) (by decide) (by omega);have hb1:2<=2 ^ (m+1):=Nat.pow_le_pow_right (n:=2) (i:=1) (by decide) (by omega);have hi4:i<4:=hi;refine ⟨_,rfl,?_⟩;unfold V7;refine QE λY1 h1=>?_
  try simp only [Pu.pwA]
  refine qlM (by omega) (by omega) λL j hp hj=>?_;have hl:L.length=2 ^ (m+1):=by rw [hp.length_eq,length_range]
  have hbd:∀ x∈L,x<16:=λx hx=>by
   have:=mem_range.mp (hp.mem_iff.mp hx);omega
  try simp only [Pu.pwA]
  rw [h1];refine QE λY2 h2=>?_
  try simp (disch:=omega) only [Pu.pwA,qhH]
  refine UM (UO 0 (14:Int).toNat) V6.mn (λt ρ n'=>n'<=j+4*t/\∃ s5 s6,ρ=[.un,.sh (.int k),.un,.sh (.int ((2 ^ (m+1):Nat):Int)),.sh (.tuple (L.map sD)),s5,s6]) ⟨by omega,_,_,rfl⟩ ?_ ?_
  ·rintro t x ρ n' hy ⟨hn',s5',s6',rfl⟩;have ht:=(List.getElem?_eq_some_iff.mp hy).1;rw [qW] at ht;have ht14:t<14:=ht;refine ⟨_,rfl,?_⟩;unfold V6;refine QE λY3 h3=>?_;by_cases c:x<10
   ·try simp only [Pu.pwA,c,decide_true]
    refine qjN (by omega) hbd (by omega) λr c' hr hc'=>?_;rw [DJ rfl,h3]
    try simp only [Pu.pwA,KC hr,qgd hr.1 hr.2,qkZ,set_cons_succ,set_cons_zero]
    exact ⟨by omega,_,_,rfl⟩
   ·try simp only [Pu.pwA,c,decide_false]
    refine qj0 (by omega) hbd (by omega) λr c' hr hc'=>?_;rw [DJ rfl,h3]
    try simp only [Pu.pwA,KC hr,qgd hr.1 hr.2,qkZ,set_cons_succ,set_cons_zero]
    exact ⟨by omega,_,_,rfl⟩
  ·rintro ρ n' ⟨hn',s5',s6',rfl⟩;rw [qW] at hn';rw [W0,h2]
   try simp only [Pu.pwA,KC ⟨qib,qau hm hp⟩,qk1 hm hp,Bool.not_true]
   have:(14:Int).toNat=14:=rfl;exact ⟨by omega,_,_,_,_,rfl⟩
 ·rintro ρ n ⟨hn,s3,s4,s5,s6,rfl⟩
  try simp only [Pu.pwA]
end K58
namespace K58
open PySem L2 L3 Bk
abbrev qgQ : Env := { scope := PySem.Challenge.pw_bankwalk_k58_orders_refused.main.scope,locals := mainNs,globals := mainNs,cells := [],code := .ref 13,frame := some 14 }
abbrev RT : List Stmt := PySem.W.behindTheImports PySem.Challenge.pw_bankwalk_k58_orders_refused
abbrev VZ:Code:=.body RT qgQ
abbrev qhi:List Frame:=[PySem.W.topFrame ⟨0,0,0,0⟩]
def qY:Obj:=Hd.oT []
def j9:Obj:=⟨.none,none,.fields #[],#[]⟩
def qhV:Obj:=Hd.oC [.str "<module>" 182,.str "<module>" 183,.str "/claim/cut.py" 184,.int (1) 0,.int (0) 0,.int (0) 0,.int (0) 0,.int (0) 0,.ref 11,.bool false,.int (181) 0,.ref 12,.none,.none,.none,.none,.int (185) 0,.int (1) 0,.str "/claim/cut.py" 186]
def qh1:Obj:=⟨.type "frame",none,.plain,#[some (.ref 13),some (.ref 3),some (.ref 3),none,some (.str "__main__" 164),none,some (.ref 0)]⟩
def qeD (P:Params):Heap:=⟨Array.mk [PySem.W.boot_o_0 P,PySem.W.boot_o_1 P,PySem.W.boot_o_2 P,PySem.W.boot_o_3 P,PySem.W.boot_o_4 P,PySem.W.boot_o_5 P,PySem.W.boot_o_6 P,PySem.W.boot_o_7 P,PySem.W.boot_o_8 P,PySem.W.boot_o_9 P,PySem.W.boot_o_10 P,qY,j9,qhV,qh1],{ }⟩
def qgm (P:Params):PySem.W.BT:=(Hd.nd (PySem.W.boot_o_0 P) (Hd.nd (PySem.W.boot_o_1 P) (Hd.nd (PySem.W.boot_o_3 P) (Hd.lf (PySem.W.boot_o_7 P)) (Hd.lf qY)) (Hd.nd (PySem.W.boot_o_5 P) (Hd.lf (PySem.W.boot_o_9 P)) (Hd.lf qhV))) (Hd.nd (PySem.W.boot_o_2 P) (Hd.nd (PySem.W.boot_o_4 P) (Hd.lf (PySem.W.boot_o_8 P)) (Hd.lf j9)) (Hd.nd (PySem.W.boot_o_6 P) (Hd.lf (PySem.W.boot_o_10 P)) (Hd.lf qh1))))
set_option maxRecDepth 100000 in
set_option maxHeartbeats 0 in
def qfy (w : World) (os : OsState) : PySem.W.topGo treeTable PySem.Challenge.pw_bankwalk_k58_orders_refused w 11 (some (Value.ref 6)) 12 ⟨PySem.W.boot_heap w.params,Array.mk [],PySem.W.boot_drawn,PySem.W.boot_toks,os⟩ (PySem.W.topStub PySem.Challenge.pw_bankwalk_k58_orders_refused) = some (⟨qeD w.params,#[],{ },187,os⟩,⟨denote treeTable VZ,VZ,⟨0,0,0,0⟩,qhi⟩) := by kernel_rfl
set_option maxRecDepth 100000 in
set_option maxHeartbeats 0 in
def qfB (w : World) (os : OsState) : PySem.W.segRun treeTable PySem.Challenge.pw_bankwalk_k58_orders_refused w 11 (some (Value.ref 6)) 1 1 ⟨qeD w.params,#[],{ },187,os⟩ (PySem.W.blockOf RT qgQ VZ ⟨0,0,0,0⟩ qhi) = some (.next,(⟨qgm w.params,15,{ },#[],{ },187,os⟩ : PySem.W.SharedT).abs,VZ,⟨0,0,0,0⟩) := by kernel_rfl
def qlJ (P:Params):Obj:=Hd.oD P 17 [(.str "__name__" 165,.str "bankwalk.errors" 196),(.str "__doc__" 166,.none),(.str "__package__" 167,.none),(.str "__loader__" 168,.builtin "__main__.__loader__#opaque"),(.str "__spec__" 169,.none),(.str "__annotations__" 170,.ref 6),(.str "__builtins__" 171,.ref 4),(.str "__file__" 173,.str "/claim/cut.py" 172),(.str "__cached__" 174,.none),(.str "is_number" 195,.ref 21),(.str "BankError" 215,.ref 31),(.str "NoWord" 231,.ref 44),(.str "NoStart" 247,.ref 56),(.str "NoWalk" 263,.ref 68),(.str "NoOrder" 279,.ref 80),(.str "Clash" 295,.ref 92),(.str "NotSquare" 311,.ref 104)]
def ql0:Obj:=⟨.none,none,.fields #[.int (2) 0,.int (0) 0,.ref 20,.int (5) 0,.int (0) 0,.ref 27,.int (7) 0,.int (0) 0,.ref 40,.int (9) 0,.int (0) 0,.ref 52,.int (11) 0,.int (0) 0,.ref 64,.int (13) 0,.int (0) 0,.ref 76,.int (15) 0,.int (0) 0,.ref 88,.int (17) 0,.int (0) 0,.ref 100],#[]⟩
def qkK:Obj:=Hd.oN ju 192
def qkY:Obj:=Hd.oG "is_number" zC
def qig:Obj:=Hd.oK "is_number" 189 2 1 181 15 16 .none (.ref 17) (.ref 18) 19 193 194
def qcg:Obj:=Hd.oF "is_number" zC (.str "bankwalk.basics" 187) (.ref 20)
def qg8:Obj:=Hd.oT [.type "ValueError"]
def QF:Obj:=⟨.type "builtin_function_or_method",none,.fields #[.builtin "type.__prepare__",.type "type"],#[]⟩
def qeg (P:Params):Obj:=Hd.oD P 4 [(.str "__module__" 205,.str "bankwalk.errors" 196),(.str "__qualname__" 207,.str "BankError" 206),(.str "__firstlineno__" 209,.int (5) 208),(.str "__static_attributes__" 210,.ref 29)]
def qdy:Obj:=Hd.oC [.str "BankError" 200,.str "BankError" 201,.str "/claim/cut.py" 202,.int (5) 0,.int (0) 0,.int (0) 0,.int (0) 0,.int (0) 0,.ref 25,.bool false,.int (181) 0,.ref 26,.none,.none,.none,.none,.int (203) 0,.int (5) 0,.str "/claim/cut.py" 204]
def qf3:Obj:=⟨.type "frame",none,.plain,#[some (.ref 27),some (.ref 3),some (.ref 24),none,some (.str "bankwalk.errors" 196),none,some (.ref 0)]⟩
def qco (P:Params):Obj:=Hd.oD P 3 [(.str "__module__" 205,.str "bankwalk.errors" 196),(.str "__firstlineno__" 209,.int (5) 208),(.str "__static_attributes__" 210,.ref 29),(.str "__weakref__" 212,.ref 32),(.str "__doc__" 213,.none)]
def qit:Obj:=⟨.type "type",none,.cls ({ name:=Str.ofString "BankError",bases:=[Value.type "ValueError"],  mro:=    [Value.ref 31,Value.type "ValueError",Value.type "Exception",Value.type "BaseException",Value.type "object"],  ns:=30,qualname:=Str.ofString "BankError",  subclasses:=[Value.ref 44,Value.ref 56,Value.ref 68,Value.ref 80,Value.ref 92,Value.ref 104] }),#[some (.ref 22),none,some (.str "BankError" 198),some (.str "BankError" 206),some (.builtin "ValueError.__new__"),some (.bool true)]⟩
def qhv:Obj:=⟨.type "getset_descriptor",none,.fields #[.str "__weakref__" 211,.ref 31,.builtin "ExceptionGroup.__weakref__",.none],#[]⟩
def qf8:Obj:=⟨.type "super",none,.fields #[.ref 31,.ref 31,.ref 31],#[]⟩
def qg7:Obj:=⟨.type "builtin_function_or_method",none,.fields #[.builtin "object.__init_subclass__",.ref 31],#[]⟩
def QU:Obj:=Hd.oT [.ref 31]
def qgl (P:Params):Obj:=Hd.oD P 4 [(.str "__module__" 223,.str "bankwalk.errors" 196),(.str "__qualname__" 225,.str "NoWord" 224),(.str "__firstlineno__" 227,.int (7) 226),(.str "__static_attributes__" 228,.ref 42)]
def qd4:Obj:=Hd.oC [.str "NoWord" 218,.str "NoWord" 219,.str "/claim/cut.py" 220,.int (7) 0,.int (0) 0,.int (0) 0,.int (0) 0,.int (0) 0,.ref 38,.bool false,.int (181) 0,.ref 39,.none,.none,.none,.none,.int (221) 0,.int (7) 0,.str "/claim/cut.py" 222]
def qgj:Obj:=⟨.type "frame",none,.plain,#[some (.ref 40),some (.ref 3),some (.ref 37),none,some (.str "bankwalk.errors" 196),none,some (.ref 0)]⟩
def qg0 (P:Params):Obj:=Hd.oD P 2 [(.str "__module__" 223,.str "bankwalk.errors" 196),(.str "__firstlineno__" 227,.int (7) 226),(.str "__static_attributes__" 228,.ref 42),(.str "__doc__" 229,.none)]
def qc1:Obj:=⟨.type "type",none,.cls ({ name:=Str.ofString "NoWord",bases:=[Value.ref 31],  mro:=    [Value.ref 44,Value.ref 31,Value.type "ValueError",Value.type "Exception",Value.type "BaseException",      Value.type "object"],  ns:=43,qualname:=Str.ofString "NoWord" }),#[some (.ref 35),none,some (.str "NoWord" 216),some (.str "NoWord" 224),some (.builtin "ValueError.__new__"),some (.bool true)]⟩
def qgG:Obj:=⟨.type "super",none,.fields #[.ref 44,.ref 44,.ref 44],#[]⟩
def qhr:Obj:=⟨.type "builtin_function_or_method",none,.fields #[.builtin "object.__init_subclass__",.ref 44],#[]⟩
def qfI (P:Params):Obj:=Hd.oD P 4 [(.str "__module__" 239,.str "bankwalk.errors" 196),(.str "__qualname__" 241,.str "NoStart" 240),(.str "__firstlineno__" 243,.int (9) 242),(.str "__static_attributes__" 244,.ref 54)]
def qfo:Obj:=Hd.oC [.str "NoStart" 234,.str "NoStart" 235,.str "/claim/cut.py" 236,.int (9) 0,.int (0) 0,.int (0) 0,.int (0) 0,.int (0) 0,.ref 50,.bool false,.int (181) 0,.ref 51,.none,.none,.none,.none,.int (237) 0,.int (9) 0,.str "/claim/cut.py" 238]
def qfz:Obj:=⟨.type "frame",none,.plain,#[some (.ref 52),some (.ref 3),some (.ref 49),none,some (.str "bankwalk.errors" 196),none,some (.ref 0)]⟩
def qe9 (P:Params):Obj:=Hd.oD P 2 [(.str "__module__" 239,.str "bankwalk.errors" 196),(.str "__firstlineno__" 243,.int (9) 242),(.str "__static_attributes__" 244,.ref 54),(.str "__doc__" 245,.none)]
def qbv:Obj:=⟨.type "type",none,.cls ({ name:=Str.ofString "NoStart",bases:=[Value.ref 31],  mro:=    [Value.ref 56,Value.ref 31,Value.type "ValueError",Value.type "Exception",Value.type "BaseException",      Value.type "object"],  ns:=55,qualname:=Str.ofString "NoStart" }),#[some (.ref 47),none,some (.str "NoStart" 232),some (.str "NoStart" 240),some (.builtin "ValueError.__new__"),some (.bool true)]⟩
def qet:Obj:=⟨.type "super",none,.fields #[.ref 56,.ref 56,.ref 56],#[]⟩
def qhx:Obj:=⟨.type "builtin_function_or_method",none,.fields #[.builtin "object.__init_subclass__",.ref 56],#[]⟩
def qei (P:Params):Obj:=Hd.oD P 4 [(.str "__module__" 255,.str "bankwalk.errors" 196),(.str "__qualname__" 257,.str "NoWalk" 256),(.str "__firstlineno__" 259,.int (11) 258),(.str "__static_attributes__" 260,.ref 66)]
def qep:Obj:=Hd.oC [.str "NoWalk" 250,.str "NoWalk" 251,.str "/claim/cut.py" 252,.int (11) 0,.int (0) 0,.int (0) 0,.int (0) 0,.int (0) 0,.ref 62,.bool false,.int (181) 0,.ref 63,.none,.none,.none,.none,.int (253) 0,.int (11) 0,.str "/claim/cut.py" 254]
def qf6:Obj:=⟨.type "frame",none,.plain,#[some (.ref 64),some (.ref 3),some (.ref 61),none,some (.str "bankwalk.errors" 196),none,some (.ref 0)]⟩
def qdM (P:Params):Obj:=Hd.oD P 2 [(.str "__module__" 255,.str "bankwalk.errors" 196),(.str "__firstlineno__" 259,.int (11) 258),(.str "__static_attributes__" 260,.ref 66),(.str "__doc__" 261,.none)]
def qcD:Obj:=⟨.type "type",none,.cls ({ name:=Str.ofString "NoWalk",bases:=[Value.ref 31],  mro:=    [Value.ref 68,Value.ref 31,Value.type "ValueError",Value.type "Exception",Value.type "BaseException",      Value.type "object"],  ns:=67,qualname:=Str.ofString "NoWalk" }),#[some (.ref 59),none,some (.str "NoWalk" 248),some (.str "NoWalk" 256),some (.builtin "ValueError.__new__"),some (.bool true)]⟩
def qdJ:Obj:=⟨.type "super",none,.fields #[.ref 68,.ref 68,.ref 68],#[]⟩
def qhe:Obj:=⟨.type "builtin_function_or_method",none,.fields #[.builtin "object.__init_subclass__",.ref 68],#[]⟩
def qd6 (P:Params):Obj:=Hd.oD P 4 [(.str "__module__" 271,.str "bankwalk.errors" 196),(.str "__qualname__" 273,.str "NoOrder" 272),(.str "__firstlineno__" 275,.int (13) 274),(.str "__static_attributes__" 276,.ref 78)]
def qhT:Obj:=Hd.oC [.str "NoOrder" 266,.str "NoOrder" 267,.str "/claim/cut.py" 268,.int (13) 0,.int (0) 0,.int (0) 0,.int (0) 0,.int (0) 0,.ref 74,.bool false,.int (181) 0,.ref 75,.none,.none,.none,.none,.int (269) 0,.int (13) 0,.str "/claim/cut.py" 270]
def qho:Obj:=⟨.type "frame",none,.plain,#[some (.ref 76),some (.ref 3),some (.ref 73),none,some (.str "bankwalk.errors" 196),none,some (.ref 0)]⟩
def qbD (P:Params):Obj:=Hd.oD P 2 [(.str "__module__" 271,.str "bankwalk.errors" 196),(.str "__firstlineno__" 275,.int (13) 274),(.str "__static_attributes__" 276,.ref 78),(.str "__doc__" 277,.none)]
def qck:Obj:=⟨.type "type",none,.cls ({ name:=Str.ofString "NoOrder",bases:=[Value.ref 31],  mro:=    [Value.ref 80,Value.ref 31,Value.type "ValueError",Value.type "Exception",Value.type "BaseException",      Value.type "object"],  ns:=79,qualname:=Str.ofString "NoOrder" }),#[some (.ref 71),none,some (.str "NoOrder" 264),some (.str "NoOrder" 272),some (.builtin "ValueError.__new__"),some (.bool true)]⟩
def qfH:Obj:=⟨.type "super",none,.fields #[.ref 80,.ref 80,.ref 80],#[]⟩
def qfZ:Obj:=⟨.type "builtin_function_or_method",none,.fields #[.builtin "object.__init_subclass__",.ref 80],#[]⟩
def qfW (P:Params):Obj:=Hd.oD P 4 [(.str "__module__" 287,.str "bankwalk.errors" 196),(.str "__qualname__" 289,.str "Clash" 288),(.str "__firstlineno__" 291,.int (15) 290),(.str "__static_attributes__" 292,.ref 90)]
def qgZ:Obj:=Hd.oC [.str "Clash" 282,.str "Clash" 283,.str "/claim/cut.py" 284,.int (15) 0,.int (0) 0,.int (0) 0,.int (0) 0,.int (0) 0,.ref 86,.bool false,.int (181) 0,.ref 87,.none,.none,.none,.none,.int (285) 0,.int (15) 0,.str "/claim/cut.py" 286]
def qhb:Obj:=⟨.type "frame",none,.plain,#[some (.ref 88),some (.ref 3),some (.ref 85),none,some (.str "bankwalk.errors" 196),none,some (.ref 0)]⟩
def qe2 (P:Params):Obj:=Hd.oD P 2 [(.str "__module__" 287,.str "bankwalk.errors" 196),(.str "__firstlineno__" 291,.int (15) 290),(.str "__static_attributes__" 292,.ref 90),(.str "__doc__" 293,.none)]
def qcw:Obj:=⟨.type "type",none,.cls ({ name:=Str.ofString "Clash",bases:=[Value.ref 31],  mro:=    [Value.ref 92,Value.ref 31,Value.type "ValueError",Value.type "Exception",Value.type "BaseException",      Value.type "object"],  ns:=91,qualname:=Str.ofString "Clash" }),#[some (.ref 83),none,some (.str "Clash" 280),some (.str "Clash" 288),some (.builtin "ValueError.__new__"),some (.bool true)]⟩
def qe7:Obj:=⟨.type "super",none,.fields #[.ref 92,.ref 92,.ref 92],#[]⟩
def qhd:Obj:=⟨.type "builtin_function_or_method",none,.fields #[.builtin "object.__init_subclass__",.ref 92],#[]⟩
def qfn (P:Params):Obj:=Hd.oD P 4 [(.str "__module__" 303,.str "bankwalk.errors" 196),(.str "__qualname__" 305,.str "NotSquare" 304),(.str "__firstlineno__" 307,.int (17) 306),(.str "__static_attributes__" 308,.ref 102)]
def qhg:Obj:=Hd.oC [.str "NotSquare" 298,.str "NotSquare" 299,.str "/claim/cut.py" 300,.int (17) 0,.int (0) 0,.int (0) 0,.int (0) 0,.int (0) 0,.ref 98,.bool false,.int (181) 0,.ref 99,.none,.none,.none,.none,.int (301) 0,.int (17) 0,.str "/claim/cut.py" 302]
def qft:Obj:=⟨.type "frame",none,.plain,#[some (.ref 100),some (.ref 3),some (.ref 97),none,some (.str "bankwalk.errors" 196),none,some (.ref 0)]⟩
def qe8 (P:Params):Obj:=Hd.oD P 2 [(.str "__module__" 303,.str "bankwalk.errors" 196),(.str "__firstlineno__" 307,.int (17) 306),(.str "__static_attributes__" 308,.ref 102),(.str "__doc__" 309,.none)]
def qcZ:Obj:=⟨.type "type",none,.cls ({ name:=Str.ofString "NotSquare",bases:=[Value.ref 31],  mro:=    [Value.ref 104,Value.ref 31,Value.type "ValueError",Value.type "Exception",Value.type "BaseException",      Value.type "object"],  ns:=103,qualname:=Str.ofString "NotSquare" }),#[some (.ref 95),none,some (.str "NotSquare" 296),some (.str "NotSquare" 304),some (.builtin "ValueError.__new__"),some (.bool true)]⟩
def qfg:Obj:=⟨.type "super",none,.fields #[.ref 104,.ref 104,.ref 104],#[]⟩
def qe0:Obj:=⟨.type "builtin_function_or_method",none,.fields #[.builtin "object.__init_subclass__",.ref 104],#[]⟩
def qhJ (P:Params):PySem.W.BT:=(Hd.nd (PySem.W.boot_o_0 P) (Hd.nd (PySem.W.boot_o_1 P) (Hd.nd (qlJ P) (Hd.nd (PySem.W.boot_o_7 P) (Hd.nd qY (Hd.nd qit (Hd.lf j9) (Hd.lf QU)) (Hd.nd QU (Hd.lf (qbD P)) .nil)) (Hd.nd QF (Hd.nd j9 (Hd.lf QU) (Hd.lf (qe8 P))) (Hd.nd (qe9 P) (Hd.lf j9) .nil))) (Hd.nd qY (Hd.nd qkY (Hd.nd QU (Hd.lf (qdM P)) (Hd.lf j9)) (Hd.nd j9 (Hd.lf QU) .nil)) (Hd.nd qdy (Hd.nd (qg0 P) (Hd.lf j9) .nil) (Hd.nd QU (Hd.lf (qe2 P)) .nil)))) (Hd.nd (PySem.W.boot_o_5 P) (Hd.nd (PySem.W.boot_o_9 P) (Hd.nd qkK (Hd.nd qf8 (Hd.lf qf6) (Hd.lf (qfn P))) (Hd.nd (qfI P) (Hd.lf qfH) .nil)) (Hd.nd qY (Hd.nd qgj (Hd.lf (qd6 P)) (Hd.lf qfg)) (Hd.nd qet (Hd.lf qhb) .nil))) (Hd.nd qhV (Hd.nd qcg (Hd.nd (qgl P) (Hd.lf qdJ) (Hd.lf qft)) (Hd.nd qfz (Hd.lf (qfW P)) .nil)) (Hd.nd qY (Hd.nd qgG (Hd.lf qho) .nil) (Hd.nd (qei P) (Hd.lf qe7) .nil))))) (Hd.nd (PySem.W.boot_o_2 P) (Hd.nd (PySem.W.boot_o_4 P) (Hd.nd (PySem.W.boot_o_8 P) (Hd.nd j9 (Hd.nd qhv (Hd.lf qep) (Hd.lf QF)) (Hd.nd QF (Hd.lf qck) .nil)) (Hd.nd (qeg P) (Hd.nd qd4 (Hd.lf QF) (Hd.lf qcZ)) (Hd.nd qbv (Hd.lf qgZ) .nil))) (Hd.nd ql0 (Hd.nd qig (Hd.nd QF (Hd.lf qcD) (Hd.lf qhg)) (Hd.nd qfo (Hd.lf QF) .nil)) (Hd.nd qf3 (Hd.nd qc1 (Hd.lf qhT) .nil) (Hd.nd QF (Hd.lf qcw) .nil)))) (Hd.nd (PySem.W.boot_o_6 P) (Hd.nd (PySem.W.boot_o_10 P) (Hd.nd qY (Hd.nd qg7 (Hd.lf qY) (Hd.lf qY)) (Hd.nd qY (Hd.lf qfZ) .nil)) (Hd.nd j9 (Hd.nd qY (Hd.lf qY) (Hd.lf qe0)) (Hd.nd qhx (Hd.lf qY) .nil))) (Hd.nd qh1 (Hd.nd qg8 (Hd.nd qY (Hd.lf qhe) (Hd.lf qY)) (Hd.nd qY (Hd.lf qY) .nil)) (Hd.nd (qco P) (Hd.nd qhr (Hd.lf qY) .nil) (Hd.nd qY (Hd.lf qhd) .nil))))))
abbrev qa1:List Stmt:=(RT.drop 0).take 10
set_option maxRecDepth 100000 in
set_option maxHeartbeats 0 in
def qeS (w : World) (os : OsState) : PySem.W.segRunT treeTable PySem.Challenge.pw_bankwalk_k58_orders_refused w 11 (some (Value.ref 6)) 1 1512 (⟨qgm w.params,15,{ },#[],{ },187,os⟩ : PySem.W.SharedT) (PySem.W.piecesOf qa1 qgQ VZ ⟨0,0,0,0⟩ qhi) = some (.next,(⟨qhJ w.params,107,{ },#[],{ },312,os⟩ : PySem.W.SharedT),VZ,⟨17,0,18,8⟩) := by kernel_rfl
def qfV (P:Params):Obj:=Hd.oD P 34 [(.str "__name__" 165,.str "law_bankwalk_k58_orders_refused" 407),(.str "__doc__" 166,.none),(.str "__package__" 167,.none),(.str "__loader__" 168,.builtin "__main__.__loader__#opaque"),(.str "__spec__" 169,.none),(.str "__annotations__" 170,.ref 6),(.str "__builtins__" 171,.ref 4),(.str "__file__" 173,.str "/claim/cut.py" 172),(.str "__cached__" 174,.none),(.str "is_number" 195,.ref 21),(.str "BankError" 215,.ref 31),(.str "NoWord" 231,.ref 44),(.str "NoStart" 247,.ref 56),(.str "NoWalk" 263,.ref 68),(.str "NoOrder" 279,.ref 80),(.str "Clash" 295,.ref 92),(.str "NotSquare" 311,.ref 104),(.str "BadText" 327,.ref 116),(.str "NoAsk" 354,.ref 135),(.str "BadRow" 379,.ref 154),(.str "halves_of" 387,.ref 161),(.str "net_by" 393,.ref 166),(.str "is_order" 399,.ref 171),(.str "net_for" 406,.ref 178),(.str "_law_mix" 417,.ref 185),(.str "_law_left" 427,.ref 192),(.str "_law_pick" 436,.ref 199),(.str "_law_lane" 446,.ref 206),(.str "_law_order" 457,.ref 213),(.str "_law_other" 470,.ref 220),(.str "_law_strange" 476,.ref 225),(.str "_law_is_order" 482,.ref 230),(.str "_law_told" 488,.ref 235),(.str "law" 501,.ref 242)]
def qju:Obj:=⟨.none,none,.fields #[.int (2) 0,.int (0) 0,.ref 20,.int (5) 0,.int (0) 0,.ref 27,.int (7) 0,.int (0) 0,.ref 40,.int (9) 0,.int (0) 0,.ref 52,.int (11) 0,.int (0) 0,.ref 64,.int (13) 0,.int (0) 0,.ref 76,.int (15) 0,.int (0) 0,.ref 88,.int (17) 0,.int (0) 0,.ref 100,.int (19) 0,.int (0) 0,.ref 112,.int (21) 0,.int (0) 0,.ref 124,.int (26) 0,.int (0) 0,.ref 143,.int (31) 0,.int (0) 0,.ref 160,.int (41) 0,.int (0) 0,.ref 165,.int (50) 0,.int (0) 0,.ref 170,.int (54) 0,.int (0) 0,.ref 177,.int (59) 0,.int (0) 0,.ref 184,.int (62) 0,.int (0) 0,.ref 191,.int (66) 0,.int (0) 0,.ref 198,.int (73) 0,.int (0) 0,.ref 205,.int (79) 0,.int (0) 0,.ref 212,.int (84) 0,.int (0) 0,.ref 219,.int (99) 0,.int (0) 0,.ref 224,.int (107) 0,.int (0) 0,.ref 229,.int (113) 0,.int (0) 0,.ref 234,.int (125) 0,.int (0) 0,.ref 241],#[]⟩
def qem:Obj:=⟨.type "type",none,.cls ({ name:=Str.ofString "BankError",bases:=[Value.type "ValueError"],  mro:=    [Value.ref 31,Value.type "ValueError",Value.type "Exception",Value.type "BaseException",Value.type "object"],  ns:=30,qualname:=Str.ofString "BankError",  subclasses:=    [Value.ref 44,Value.ref 56,Value.ref 68,Value.ref 80,Value.ref 92,Value.ref 104,Value.ref 116,Value.ref 135,      Value.ref 154] }),#[some (.ref 22),none,some (.str "BankError" 198),some (.str "BankError" 206),some (.builtin "ValueError.__new__"),some (.bool true)]⟩
def qiT (P:Params):Obj:=Hd.oD P 4 [(.str "__module__" 319,.str "bankwalk.errors" 196),(.str "__qualname__" 321,.str "BadText" 320),(.str "__firstlineno__" 323,.int (19) 322),(.str "__static_attributes__" 324,.ref 114)]
def qiv:Obj:=Hd.oC [.str "BadText" 314,.str "BadText" 315,.str "/claim/cut.py" 316,.int (19) 0,.int (0) 0,.int (0) 0,.int (0) 0,.int (0) 0,.ref 110,.bool false,.int (181) 0,.ref 111,.none,.none,.none,.none,.int (317) 0,.int (19) 0,.str "/claim/cut.py" 318]
def qip:Obj:=⟨.type "frame",none,.plain,#[some (.ref 112),some (.ref 3),some (.ref 109),none,some (.str "bankwalk.errors" 196),none,some (.ref 0)]⟩
def qjy (P:Params):Obj:=Hd.oD P 2 [(.str "__module__" 319,.str "bankwalk.errors" 196),(.str "__firstlineno__" 323,.int (19) 322),(.str "__static_attributes__" 324,.ref 114),(.str "__doc__" 325,.none)]
def qeX:Obj:=⟨.type "type",none,.cls ({ name:=Str.ofString "BadText",bases:=[Value.ref 31],  mro:=    [Value.ref 116,Value.ref 31,Value.type "ValueError",Value.type "Exception",Value.type "BaseException",      Value.type "object"],  ns:=115,qualname:=Str.ofString "BadText" }),#[some (.ref 107),none,some (.str "BadText" 312),some (.str "BadText" 320),some (.builtin "ValueError.__new__"),some (.bool true)]⟩
def qin:Obj:=⟨.type "super",none,.fields #[.ref 116,.ref 116,.ref 116],#[]⟩
def qjt:Obj:=⟨.type "builtin_function_or_method",none,.fields #[.builtin "object.__init_subclass__",.ref 116],#[]⟩
def qiS (P:Params):Obj:=Hd.oD P 5 [(.str "__module__" 335,.str "bankwalk.errors" 196),(.str "__qualname__" 337,.str "NoAsk" 336),(.str "__firstlineno__" 339,.int (21) 338),(.str "__init__" 348,.ref 132),(.str "__static_attributes__" 351,.ref 133)]
def qkh:Obj:=⟨.none,none,.fields #[.int (23) 0,.int (4) 0,.ref 131],#[]⟩
def qjn:Obj:=Hd.oC [.str "NoAsk" 330,.str "NoAsk" 331,.str "/claim/cut.py" 332,.int (21) 0,.int (0) 0,.int (0) 0,.int (0) 0,.int (0) 0,.ref 122,.bool false,.int (181) 0,.ref 123,.none,.none,.none,.none,.int (333) 0,.int (21) 0,.str "/claim/cut.py" 334]
def qks:Obj:=⟨.type "frame",none,.plain,#[some (.ref 124),some (.ref 3),some (.ref 121),none,some (.str "bankwalk.errors" 196),none,some (.ref 0)]⟩
def qky:Obj:=Hd.oN ["self","row","at"] 343
def qkm:Obj:=⟨.none,none,.func { name:="__init__",qualname:="NoAsk.__init__",params:=zq (Hd.inC (top 11)),body:=.stmts (qH (Hd.inC (top 11))),scope:=qf (Hd.inC (top 11)),globals:=0,closure:=[],defaults:=.none,kwdefaults:=.none },#[]⟩
def qjP:Obj:=Hd.oC [.str "__init__" 340,.str "NoAsk.__init__" 341,.str "/claim/cut.py" 342,.int (23) 0,.int (3) 0,.int (0) 0,.int (0) 0,.int (3) 0,.ref 126,.bool true,.int (181) 0,.ref 127,.none,.ref 128,.ref 129,.ref 130,.int (346) 0,.int (23) 0,.str "/claim/cut.py" 347]
def qji:Obj:=⟨.type "function",none,.func (PySem.W.fnOf "__init__" "NoAsk.__init__" (zq (Hd.inC (top 11))) (qH (Hd.inC (top 11))) (qf (Hd.inC (top 11))) .none .none .none (.str "bankwalk.errors" 196) none (.ref 131) .none),#[]⟩
def qiq:Obj:=Hd.oN ["at","row"] 349
def qkq (P:Params):Obj:=Hd.oD P 2 [(.str "__module__" 335,.str "bankwalk.errors" 196),(.str "__firstlineno__" 339,.int (21) 338),(.str "__init__" 348,.ref 132),(.str "__static_attributes__" 351,.ref 133),(.str "__doc__" 352,.none)]
def qeu:Obj:=⟨.type "type",none,.cls ({ name:=Str.ofString "NoAsk",bases:=[Value.ref 31],  mro:=    [Value.ref 135,Value.ref 31,Value.type "ValueError",Value.type "Exception",Value.type "BaseException",      Value.type "object"],  ns:=134,qualname:=Str.ofString "NoAsk" }),#[some (.ref 119),none,some (.str "NoAsk" 328),some (.str "NoAsk" 336),some (.builtin "ValueError.__new__"),some (.bool true)]⟩
def qiZ:Obj:=⟨.type "super",none,.fields #[.ref 135,.ref 135,.ref 135],#[]⟩
def qik:Obj:=⟨.type "builtin_function_or_method",none,.fields #[.builtin "object.__init_subclass__",.ref 135],#[]⟩
def qis (P:Params):Obj:=Hd.oD P 5 [(.str "__module__" 362,.str "bankwalk.errors" 196),(.str "__qualname__" 364,.str "BadRow" 363),(.str "__firstlineno__" 366,.int (26) 365),(.str "__init__" 374,.ref 151),(.str "__static_attributes__" 376,.ref 152)]
def qkk:Obj:=⟨.none,none,.fields #[.int (28) 0,.int (4) 0,.ref 150],#[]⟩
def qjd:Obj:=Hd.oC [.str "BadRow" 357,.str "BadRow" 358,.str "/claim/cut.py" 359,.int (26) 0,.int (0) 0,.int (0) 0,.int (0) 0,.int (0) 0,.ref 141,.bool false,.int (181) 0,.ref 142,.none,.none,.none,.none,.int (360) 0,.int (26) 0,.str "/claim/cut.py" 361]
def qiB:Obj:=⟨.type "frame",none,.plain,#[some (.ref 143),some (.ref 3),some (.ref 140),none,some (.str "bankwalk.errors" 196),none,some (.ref 0)]⟩
def qko:Obj:=Hd.oN ["self","row"] 370
def qiV:Obj:=⟨.none,none,.func { name:="__init__",qualname:="BadRow.__init__",params:=zq (Hd.inC (top 12)),body:=.stmts (qH (Hd.inC (top 12))),scope:=qf (Hd.inC (top 12)),globals:=0,closure:=[],defaults:=.none,kwdefaults:=.none },#[]⟩
def qjV:Obj:=Hd.oC [.str "__init__" 367,.str "BadRow.__init__" 368,.str "/claim/cut.py" 369,.int (28) 0,.int (2) 0,.int (0) 0,.int (0) 0,.int (3) 0,.ref 145,.bool true,.int (181) 0,.ref 146,.none,.ref 147,.ref 148,.ref 149,.int (372) 0,.int (28) 0,.str "/claim/cut.py" 373]
def qi6:Obj:=⟨.type "function",none,.func (PySem.W.fnOf "__init__" "BadRow.__init__" (zq (Hd.inC (top 12))) (qH (Hd.inC (top 12))) (qf (Hd.inC (top 12))) .none .none .none (.str "bankwalk.errors" 196) none (.ref 150) .none),#[]⟩
def qjl:Obj:=Hd.oN ["row"] 375
def qka (P:Params):Obj:=Hd.oD P 2 [(.str "__module__" 362,.str "bankwalk.errors" 196),(.str "__firstlineno__" 366,.int (26) 365),(.str "__init__" 374,.ref 151),(.str "__static_attributes__" 376,.ref 152),(.str "__doc__" 377,.none)]
def qhc:Obj:=⟨.type "type",none,.cls ({ name:=Str.ofString "BadRow",bases:=[Value.ref 31],  mro:=    [Value.ref 154,Value.ref 31,Value.type "ValueError",Value.type "Exception",Value.type "BaseException",      Value.type "object"],  ns:=153,qualname:=Str.ofString "BadRow" }),#[some (.ref 138),none,some (.str "BadRow" 355),some (.str "BadRow" 363),some (.builtin "ValueError.__new__"),some (.bool true)]⟩
def qj7:Obj:=⟨.type "super",none,.fields #[.ref 154,.ref 154,.ref 154],#[]⟩
def qiF:Obj:=⟨.type "builtin_function_or_method",none,.fields #[.builtin "object.__init_subclass__",.ref 154],#[]⟩
def qgv:Obj:=Hd.oG "halves_of" zD
def qar:Obj:=Hd.oK "halves_of" 382 31 1 181 157 158 .none .none .none 159 385 386
def NP:Obj:=Hd.oF "halves_of" zD (.str "bankwalk.nets" 380) (.ref 160)
def qfJ:Obj:=Hd.oG "net_by" j5
def qay:Obj:=Hd.oK "net_by" 388 41 1 181 162 163 .none .none .none 164 391 392
def qaj:Obj:=Hd.oF "net_by" j5 (.str "bankwalk.nets" 380) (.ref 165)
def qfQ:Obj:=Hd.oG "is_order" zZ
def NS:Obj:=Hd.oK "is_order" 394 50 1 181 167 168 .none .none .none 169 397 398
def qaP:Obj:=Hd.oF "is_order" zZ (.str "bankwalk.nets" 380) (.ref 170)
def qev:Obj:=Hd.oN zE 403
def qdt:Obj:=Hd.oG "net_for" zQ
def qbh:Obj:=Hd.oK "net_for" 400 54 1 181 172 173 .none (.ref 174) (.ref 175) 176 404 405
def NZ:Obj:=Hd.oF "net_for" zQ (.str "bankwalk.nets" 380) (.ref 177)
def qgV:Obj:=Hd.oN J5 412
def qgh:Obj:=Hd.oG "_law_mix" jk
def qao:Obj:=Hd.oK "_law_mix" 409 59 2 181 179 180 .none (.ref 181) (.ref 182) 183 415 416
def M5:Obj:=Hd.oF "_law_mix" jk (.str "law_bankwalk_k58_orders_refused" 407) (.ref 184)
def qhj:Obj:=Hd.oN ZM 421
def qhf:Obj:=Hd.oG "_law_left" zW
def qaO:Obj:=Hd.oK "_law_left" 418 62 2 181 186 187 .none (.ref 188) (.ref 189) 190 425 426
def qak:Obj:=Hd.oF "_law_left" zW (.str "law_bankwalk_k58_orders_refused" 407) (.ref 191)
def qeP:Obj:=Hd.oN ZV 431
def qgz:Obj:=Hd.oG "_law_pick" zR
def M2:Obj:=Hd.oK "_law_pick" 428 66 2 181 193 194 .none (.ref 195) (.ref 196) 197 434 435
def qaI:Obj:=Hd.oF "_law_pick" zR (.str "law_bankwalk_k58_orders_refused" 407) (.ref 198)
def qdT:Obj:=Hd.oN jl 440
def qeo:Obj:=Hd.oG "_law_lane" z3
def NJ:Obj:=Hd.oK "_law_lane" 437 73 2 181 200 201 .none (.ref 202) (.ref 203) 204 444 445
def qae:Obj:=Hd.oF "_law_lane" z3 (.str "law_bankwalk_k58_orders_refused" 407) (.ref 205)
def qdr:Obj:=Hd.oN zV 450
def qgH:Obj:=Hd.oG "_law_order" zA
def qaU:Obj:=Hd.oK "_law_order" 447 79 2 181 207 208 .none (.ref 209) (.ref 210) 211 455 456
def qaH:Obj:=Hd.oF "_law_order" zA (.str "law_bankwalk_k58_orders_refused" 407) (.ref 212)
def qeh:Obj:=Hd.oN zU 461
def qhP:Obj:=Hd.oG "_law_other" zB
def N6:Obj:=Hd.oK "_law_other" 458 84 2 181 214 215 .none (.ref 216) (.ref 217) 218 468 469
def ND:Obj:=Hd.oF "_law_other" zB (.str "law_bankwalk_k58_orders_refused" 407) (.ref 219)
def qg5:Obj:=Hd.oG "_law_strange" q5
def N8:Obj:=Hd.oK "_law_strange" 471 99 2 181 221 222 .none .none .none 223 474 475
def qag:Obj:=Hd.oF "_law_strange" q5 (.str "law_bankwalk_k58_orders_refused" 407) (.ref 224)
def qgE:Obj:=Hd.oG "_law_is_order" qO
def qax:Obj:=Hd.oK "_law_is_order" 477 107 1 181 226 227 .none .none .none 228 480 481
def NY:Obj:=Hd.oF "_law_is_order" qO (.str "law_bankwalk_k58_orders_refused" 407) (.ref 229)
def qex:Obj:=Hd.oG "_law_told" z9
def NN:Obj:=Hd.oK "_law_told" 483 113 1 181 231 232 .none .none .none 233 486 487
def qbj:Obj:=Hd.oF "_law_told" z9 (.str "law_bankwalk_k58_orders_refused" 407) (.ref 234)
def qdp:Obj:=Hd.oN S5 492
def qhU:Obj:=Hd.oG "law" j7
def NW:Obj:=Hd.oK "law" 489 125 1 181 236 237 .none (.ref 238) (.ref 239) 240 499 500
def qaf:Obj:=Hd.oF "law" j7 (.str "law_bankwalk_k58_orders_refused" 407) (.ref 241)
def qcT (P:Params):PySem.W.BT:=(Hd.nd (PySem.W.boot_o_0 P) (Hd.nd (PySem.W.boot_o_1 P) (Hd.nd (qfV P) (Hd.nd (PySem.W.boot_o_7 P) (Hd.nd qY (Hd.nd qem (Hd.nd j9 (Hd.lf j9) (Hd.lf qaO)) (Hd.nd QU (Hd.lf qgv) (Hd.lf qg5))) (Hd.nd QU (Hd.nd (qbD P) (Hd.lf qjd) (Hd.lf qY)) (Hd.nd j9 (Hd.lf qY) (Hd.lf qY)))) (Hd.nd QF (Hd.nd j9 (Hd.nd QU (Hd.lf qeu) (Hd.lf qaI)) (Hd.nd (qe8 P) (Hd.lf qY) (Hd.lf qY))) (Hd.nd (qe9 P) (Hd.nd j9 (Hd.lf qi6) (Hd.lf j9)) (Hd.nd QU (Hd.lf qgh) .nil)))) (Hd.nd qY (Hd.nd qkY (Hd.nd QU (Hd.nd (qdM P) (Hd.lf qjP) (Hd.lf qeP)) (Hd.nd j9 (Hd.lf j9) (Hd.lf j9))) (Hd.nd j9 (Hd.nd QU (Hd.lf qko) (Hd.lf qgH)) (Hd.nd (qjy P) (Hd.lf qY) .nil))) (Hd.nd qdy (Hd.nd (qg0 P) (Hd.nd j9 (Hd.lf QF) (Hd.lf qY)) (Hd.nd QU (Hd.lf qaP) (Hd.lf qbj))) (Hd.nd QU (Hd.nd (qe2 P) (Hd.lf qj7) (Hd.lf N6)) (Hd.nd qkh (Hd.lf j9) .nil))))) (Hd.nd (PySem.W.boot_o_5 P) (Hd.nd (PySem.W.boot_o_9 P) (Hd.nd qkK (Hd.nd qf8 (Hd.nd qf6 (Hd.lf qY) (Hd.lf qY)) (Hd.nd (qfn P) (Hd.lf NP) (Hd.lf qag))) (Hd.nd (qfI P) (Hd.nd qfH (Hd.lf qY) (Hd.lf qdr)) (Hd.nd qip (Hd.lf qbh) (Hd.lf NW)))) (Hd.nd qY (Hd.nd qgj (Hd.nd (qd6 P) (Hd.lf qik) (Hd.lf j9)) (Hd.nd qfg (Hd.lf qfQ) (Hd.lf qex))) (Hd.nd qet (Hd.nd qhb (Hd.lf (qka P)) (Hd.lf qY)) (Hd.nd (qiS P) (Hd.lf M5) .nil)))) (Hd.nd qhV (Hd.nd qcg (Hd.nd (qgl P) (Hd.nd qdJ (Hd.lf qiq) (Hd.lf qgz)) (Hd.nd qft (Hd.lf qay) (Hd.lf qax))) (Hd.nd qfz (Hd.nd (qfW P) (Hd.lf qiV) (Hd.lf qaH)) (Hd.nd qin (Hd.lf qgV) .nil))) (Hd.nd qY (Hd.nd qgG (Hd.nd qho (Hd.lf qY) (Hd.lf NJ)) (Hd.nd (qiT P) (Hd.lf j9) (Hd.lf j9))) (Hd.nd (qei P) (Hd.nd qe7 (Hd.lf qY) (Hd.lf qY)) (Hd.nd qks (Hd.lf qY) .nil)))))) (Hd.nd (PySem.W.boot_o_2 P) (Hd.nd (PySem.W.boot_o_4 P) (Hd.nd (PySem.W.boot_o_8 P) (Hd.nd j9 (Hd.nd qhv (Hd.nd qep (Hd.lf qky) (Hd.lf qak)) (Hd.nd QF (Hd.lf qar) (Hd.lf N8))) (Hd.nd QF (Hd.nd qck (Hd.lf qiB) (Hd.lf j9)) (Hd.nd qiv (Hd.lf qdt) (Hd.lf qhU)))) (Hd.nd (qeg P) (Hd.nd qd4 (Hd.nd QF (Hd.lf qiZ) (Hd.lf qY)) (Hd.nd qcZ (Hd.lf j9) (Hd.lf j9))) (Hd.nd qbv (Hd.nd qgZ (Hd.lf qjl) (Hd.lf qeh)) (Hd.nd QF (Hd.lf qao) .nil)))) (Hd.nd qju (Hd.nd qig (Hd.nd QF (Hd.nd qcD (Hd.lf qji) (Hd.lf qY)) (Hd.nd qhg (Hd.lf qfJ) (Hd.lf qgE))) (Hd.nd qfo (Hd.nd QF (Hd.lf qY) (Hd.lf qaU)) (Hd.nd qeX (Hd.lf j9) .nil))) (Hd.nd qf3 (Hd.nd qc1 (Hd.nd qhT (Hd.lf (qis P)) (Hd.lf qeo)) (Hd.nd QF (Hd.lf qY) (Hd.lf qY))) (Hd.nd QF (Hd.nd qcw (Hd.lf qiF) (Hd.lf ND)) (Hd.nd qjn (Hd.lf qhj) .nil))))) (Hd.nd (PySem.W.boot_o_6 P) (Hd.nd (PySem.W.boot_o_10 P) (Hd.nd qY (Hd.nd qg7 (Hd.nd qY (Hd.lf qkm) (Hd.lf j9)) (Hd.nd qY (Hd.lf qY) (Hd.lf qY))) (Hd.nd qY (Hd.nd qfZ (Hd.lf j9) (Hd.lf qY)) (Hd.nd qY (Hd.lf NZ) (Hd.lf qaf)))) (Hd.nd j9 (Hd.nd qY (Hd.nd qY (Hd.lf QU) (Hd.lf qdT)) (Hd.nd qe0 (Hd.lf NS) (Hd.lf NN))) (Hd.nd qhx (Hd.nd qY (Hd.lf qhc) (Hd.lf qhP)) (Hd.nd qY (Hd.lf qY) .nil)))) (Hd.nd qh1 (Hd.nd qg8 (Hd.nd qY (Hd.nd qhe (Hd.lf (qkq P)) (Hd.lf M2)) (Hd.nd qY (Hd.lf qaj) (Hd.lf NY))) (Hd.nd qY (Hd.nd qY (Hd.lf qjV) (Hd.lf qY)) (Hd.nd qjt (Hd.lf qY) .nil))) (Hd.nd (qco P) (Hd.nd qhr (Hd.nd qY (Hd.lf qkk) (Hd.lf qae)) (Hd.nd qY (Hd.lf qev) (Hd.lf qdp))) (Hd.nd qY (Hd.nd qhd (Hd.lf j9) (Hd.lf j9)) (Hd.nd qY (Hd.lf qhf) .nil)))))))
abbrev qaR:List Stmt:=(RT.drop 10).take 19
set_option maxRecDepth 100000 in
set_option maxHeartbeats 0 in
def qgy (w : World) (os : OsState) : PySem.W.segRunT treeTable PySem.Challenge.pw_bankwalk_k58_orders_refused w 11 (some (Value.ref 6)) 1 1138 (⟨qhJ w.params,107,{ },#[],{ },312,os⟩ : PySem.W.SharedT) (PySem.W.piecesOf qaR qgQ VZ ⟨17,0,18,8⟩ qhi) = some (.next,(⟨qcT w.params,243,{ },#[],{ },502,os⟩ : PySem.W.SharedT),VZ,⟨125,0,136,15⟩) := by kernel_rfl
abbrev qcU (P:Params):Heap:=PySem.W.absHeap (qcT P) 243 { }
def Kf (P:Params):PySem.W.Frag:=[(3,qfV P),(20,qig),(21,qcg),(30,qco P),(31,qem),(44,qc1),(56,qbv),(68,qcD),(79,qbD P),(80,qck),(92,qcw),(104,qcZ),(116,qeX),(135,qeu),(154,qhc),(160,qar),(161,NP),(165,qay),(166,qaj),(170,NS),(171,qaP),(177,qbh),(178,NZ),(184,qao),(185,M5),(191,qaO),(192,qak),(198,M2),(199,qaI),(205,NJ),(206,qae),(212,qaU),(213,qaH),(219,N6),(220,ND),(224,N8),(225,qag),(229,qax),(230,NY),(234,NN),(235,qbj),(241,NW),(242,qaf)]
def qhS {l:PySem.W.OpenLaw} {w:World} {h:Heap} {mg:Str->Option Value} {fa:Addr} (X:(Kf w.params).In h) (G:h.Ns mainGlobals mg) (hfa:mg "law" = some (.ref fa)) :
  ∃ fd:FuncData,(∀ (s:Shared) (v:Value),BindsTo s fd ⟨[v],[]⟩ [("_law_script",v)])/\∀ base:Heap,(Kf w.params).In base->base.Ns mainGlobals mg->FnOk l.prog w (Kf w.params) mg base CX0 8 fa fd ["_law_script"] (lSp (Kf w.params) VO):=by
 have e:=hfa.symm.trans (Hd.zF X G "law" (.ref 242) (by kernel_rfl));cases e;have F0:=Hd.QX (K:=Kf w.params) "is_number" zC 21 (.str "bankwalk.basics" 187) (.ref 20) (by kernel_rfl) (by kernel_rfl) (by kernel_rfl);have b0:=F0.binds (ps:=QY) λ_ _ _ _ _ _ us hl=>by obtain ⟨_,rfl⟩:=Pu.qbo hl;rfl
 have m0:=Hd.zF X G "is_number" (.ref 21) (by kernel_rfl);have F1:=Hd.QX (K:=Kf w.params) "halves_of" zD 161 (.str "bankwalk.nets" 380) (.ref 160) (by kernel_rfl) (by kernel_rfl) (by kernel_rfl);have b1:=F1.binds (ps:=QZ) λ_ _ _ _ _ _ us hl=>by obtain ⟨_,rfl⟩:=Pu.qbo hl;rfl
 have m1:=Hd.zF X G "halves_of" (.ref 161) (by kernel_rfl);have F2:=Hd.QX (K:=Kf w.params) "net_by" j5 166 (.str "bankwalk.nets" 380) (.ref 165) (by kernel_rfl) (by kernel_rfl) (by kernel_rfl);have b2:=F2.binds (ps:=UN) λ_ _ _ _ _ _ us hl=>by obtain ⟨_,rfl⟩:=Pu.qbo hl;rfl
 have m2:=Hd.zF X G "net_by" (.ref 166) (by kernel_rfl);have F3:=Hd.QX (K:=Kf w.params) "is_order" zZ 171 (.str "bankwalk.nets" 380) (.ref 170) (by kernel_rfl) (by kernel_rfl) (by kernel_rfl);have b3:=F3.binds (ps:=Z3) λ_ _ _ _ _ _ us hl=>by obtain ⟨_,rfl⟩:=Pu.qbo hl;rfl
 have m3:=Hd.zF X G "is_order" (.ref 171) (by kernel_rfl);have F4:=Hd.QX (K:=Kf w.params) "net_for" zQ 178 (.str "bankwalk.nets" 380) (.ref 177) (by kernel_rfl) (by kernel_rfl) (by kernel_rfl);have b4:=F4.binds (ps:=ZK) λ_ _ _ _ _ _ us hl=>by obtain ⟨_,rfl⟩:=Pu.qbo hl;rfl
 have m4:=Hd.zF X G "net_for" (.ref 178) (by kernel_rfl);have F5:=Hd.QX (K:=Kf w.params) "_law_mix" jk 185 (.str "law_bankwalk_k58_orders_refused" 407) (.ref 184) (by kernel_rfl) (by kernel_rfl) (by kernel_rfl);have b5:=F5.binds (ps:=J1) λ_ _ _ _ _ _ us hl=>by obtain ⟨_,_,rfl⟩:=Pu.qcX hl;rfl
 have m5:=Hd.zF X G "_law_mix" (.ref 185) (by kernel_rfl);have F6:=Hd.QX (K:=Kf w.params) "_law_left" zW 192 (.str "law_bankwalk_k58_orders_refused" 407) (.ref 191) (by kernel_rfl) (by kernel_rfl) (by kernel_rfl);have b6:=F6.binds (ps:=ZS) λ_ _ _ _ _ _ us hl=>by obtain ⟨_,_,rfl⟩:=Pu.qcX hl;rfl
 have m6:=Hd.zF X G "_law_left" (.ref 192) (by kernel_rfl);have F7:=Hd.QX (K:=Kf w.params) "_law_pick" zR 199 (.str "law_bankwalk_k58_orders_refused" 407) (.ref 198) (by kernel_rfl) (by kernel_rfl) (by kernel_rfl);have b7:=F7.binds (ps:=ZW) λ_ _ _ _ _ _ us hl=>by obtain ⟨_,_,rfl⟩:=Pu.qcX hl;rfl
 have m7:=Hd.zF X G "_law_pick" (.ref 199) (by kernel_rfl);have F8:=Hd.QX (K:=Kf w.params) "_law_lane" z3 206 (.str "law_bankwalk_k58_orders_refused" 407) (.ref 205) (by kernel_rfl) (by kernel_rfl) (by kernel_rfl);have b8:=F8.binds (ps:=ZZ) λ_ _ _ _ _ _ us hl=>by obtain ⟨_,_,rfl⟩:=Pu.qcX hl;rfl
 have m8:=Hd.zF X G "_law_lane" (.ref 206) (by kernel_rfl);have F9:=Hd.QX (K:=Kf w.params) "_law_order" zA 213 (.str "law_bankwalk_k58_orders_refused" 407) (.ref 212) (by kernel_rfl) (by kernel_rfl) (by kernel_rfl);have b9:=F9.binds (ps:=Q0) λ_ _ _ _ _ _ us hl=>by obtain ⟨_,_,rfl⟩:=Pu.qcX hl;rfl
 have m9:=Hd.zF X G "_law_order" (.ref 213) (by kernel_rfl);have F10:=Hd.QX (K:=Kf w.params) "_law_other" zB 220 (.str "law_bankwalk_k58_orders_refused" 407) (.ref 219) (by kernel_rfl) (by kernel_rfl) (by kernel_rfl);have b10:=F10.binds (ps:=Q2) λ_ _ _ _ _ _ us hl=>by obtain ⟨_,_,rfl⟩:=Pu.qcX hl;rfl
 have m10:=Hd.zF X G "_law_other" (.ref 220) (by kernel_rfl);have F11:=Hd.QX (K:=Kf w.params) "_law_strange" q5 225 (.str "law_bankwalk_k58_orders_refused" 407) (.ref 224) (by kernel_rfl) (by kernel_rfl) (by kernel_rfl);have b11:=F11.binds (ps:=jP) λ_ _ _ _ _ _ us hl=>by obtain ⟨_,_,rfl⟩:=Pu.qcX hl;rfl
 have m11:=Hd.zF X G "_law_strange" (.ref 225) (by kernel_rfl);have F12:=Hd.QX (K:=Kf w.params) "_law_is_order" qO 230 (.str "law_bankwalk_k58_orders_refused" 407) (.ref 229) (by kernel_rfl) (by kernel_rfl) (by kernel_rfl);have b12:=F12.binds (ps:=jf) λ_ _ _ _ _ _ us hl=>by obtain ⟨_,rfl⟩:=Pu.qbo hl;rfl
 have m12:=Hd.zF X G "_law_is_order" (.ref 230) (by kernel_rfl);have F13:=Hd.QX (K:=Kf w.params) "_law_told" z9 235 (.str "law_bankwalk_k58_orders_refused" 407) (.ref 234) (by kernel_rfl) (by kernel_rfl) (by kernel_rfl);have b13:=F13.binds (ps:=ZO) λ_ _ _ _ _ _ us hl=>by obtain ⟨_,rfl⟩:=Pu.qbo hl;rfl
 have m13:=Hd.zF X G "_law_told" (.ref 235) (by kernel_rfl);have F14:=Hd.QX (K:=Kf w.params) "law" j7 242 (.str "law_bankwalk_k58_orders_refused" 407) (.ref 241) (by kernel_rfl) (by kernel_rfl) (by kernel_rfl);have k_80:ExK (Kf w.params) 80:=⟨by kernel_rfl,by kernel_rfl,by kernel_rfl,by kernel_rfl,by kernel_rfl,by kernel_rfl⟩
 have g_isinstance:=Hd.Q6 X G "isinstance" (by kernel_rfl);have g_bool:=Hd.Q6 X G "bool" (by kernel_rfl);have g_int:=Hd.Q6 X G "int" (by kernel_rfl);have g_len:=Hd.Q6 X G "len" (by kernel_rfl);have g_range:=Hd.Q6 X G "range" (by kernel_rfl);have g_tuple:=Hd.Q6 X G "tuple" (by kernel_rfl);have g_zip:=Hd.Q6 X G "zip" (by kernel_rfl);have g_sorted:=Hd.Q6 X G "sorted" (by kernel_rfl);have g_list:=Hd.Q6 X G "list" (by kernel_rfl);have g_all:=Hd.Q6 X G "all" (by kernel_rfl);have g_abs:=Hd.Q6 X G "abs" (by kernel_rfl);have g_str:=Hd.Q6 X G "str" (by kernel_rfl);have g_cls_BankError:=Hd.zF X G "BankError" (.ref 31) (by kernel_rfl);have g_cls_BadRow:=Hd.zF X G "BadRow" (.ref 154) (by kernel_rfl);have g_cls_BadText:=Hd.zF X G "BadText" (.ref 116) (by kernel_rfl);have g_cls_Clash:=Hd.zF X G "Clash" (.ref 92) (by kernel_rfl);have g_cls_NoAsk:=Hd.zF X G "NoAsk" (.ref 135) (by kernel_rfl);have g_cls_NoStart:=Hd.zF X G "NoStart" (.ref 56) (by kernel_rfl);have g_cls_NotSquare:=Hd.zF X G "NotSquare" (.ref 104) (by kernel_rfl);have g_cls_NoWalk:=Hd.zF X G "NoWalk" (.ref 68) (by kernel_rfl);have g_cls_NoWord:=Hd.zF X G "NoWord" (.ref 44) (by kernel_rfl);have g_xd_0:XD (Kf w.params) [.ref 154,.ref 116,.ref 92,.ref 135,.ref 56,.ref 104,.ref 68,.ref 44] [(none,false),(some 80,false)]:=XD.cons (λ_ z=>nomatch z) (by kernel_rfl) (XD.cons (λ_ z=>by cases z;exact k_80) (by kernel_rfl) XD.nil);have g_ValueError:=Hd.Q6 X G "ValueError" (by kernel_rfl);have g_xd_1:XD (Kf w.params) [.type "ValueError"] [(none,false),(some 80,true)]:=XD.cons (λ_ z=>nomatch z) (by kernel_rfl) (XD.cons (λ_ z=>by cases z;exact k_80) (by kernel_rfl) XD.nil);have g_cls_NoOrder:=Hd.zF X G "NoOrder" (.ref 80) (by kernel_rfl);have g_xd_2:XD (Kf w.params) [.ref 80] [(none,false),(some 80,true)]:=XD.cons (λ_ z=>nomatch z) (by kernel_rfl) (XD.cons (λ_ z=>by cases z;exact k_80) (by kernel_rfl) XD.nil);have g_min:=Hd.Q6 X G "min" (by kernel_rfl);refine ⟨PySem.W.fnOf "law" "law" (zq j7) (qH j7) (qf j7) .none .none .none (.str "law_bankwalk_k58_orders_refused" 407) none (.ref 241) .none,λs v=>.of_eq rfl,λbase Xb _=>?_⟩;have g_ex_BankError:ExC base 31 [.ref 31,.type "ValueError",.type "Exception",.type "BaseException",.type "object"]:=Hd.qfO Xb (by kernel_rfl);have g_ct_BankError:∀ C∈[80],Ct base 31 C:=Hd.qcC (Hd.qfO (K:=Kf w.params) (C:=80) (mro:=[.ref 80,.ref 31,.type "ValueError",.type "Exception",.type "BaseException",.type "object"]) Xb (by kernel_rfl)) (by kernel_rfl) (λ_ z=>nomatch z);have g_ra_NoOrder:RaX mg base "NoOrder" 80:=Hd.qjj (nm:="NoOrder") (N:=79) (bs:=[.ref 31]) (bm:=[.ref 31,.type "ValueError",.type "Exception",.type "BaseException",.type "object"]) (sub:=[]) (tb:=71) (t1:=264) (t2:=272) Xb (Hd.zF X G "NoOrder" (.ref 80) (by kernel_rfl)) (by kernel_rfl) (by kernel_rfl) (by kernel_rfl) (by kernel_rfl);have O_is_number:=EW (P:=l.prog) (w:=w) (base:=base) (k:=0) F0 b0 m0  g_isinstance g_bool g_int EM;have O_halves_of:=EN (P:=l.prog) (w:=w) (base:=base) (k:=0) F1 b1 m1  g_len g_range U0;have O_is_order:=DU (P:=l.prog) (w:=w) (base:=base) (k:=1) F3 b3 m3 O_is_number g_len g_isinstance g_tuple g_sorted g_list g_range g_all DM;have O_law_mix:=X8 (P:=l.prog) (w:=w) (base:=base) (k:=0) F5 b5 m5   Bk.X0;have O_law_left:=D7 (P:=l.prog) (w:=w) (base:=base) (k:=0) F6 b6 m6  g_len g_abs Bk.D9;have O_law_pick:=DG (P:=l.prog) (w:=w) (base:=base) (k:=1) F7 b7 m7 O_law_mix  Bk.DF;have O_law_order:=ED (P:=l.prog) (w:=w) (base:=base) (k:=2) F9 b9 m9 O_law_pick g_list g_range g_len g_tuple U6;have O_law_other:=U7 (P:=l.prog) (w:=w) (base:=base) (k:=2) F10 b10 m10 O_law_pick g_len g_tuple g_range UT;have O_law_strange:=YW (P:=l.prog) (w:=w) (base:=base) (k:=2) F11 b11 m11 O_law_pick g_len g_str g_list g_tuple YO;have O_law_is_order:=JU (P:=l.prog) (w:=w) (base:=base) (k:=0) F12 b12 m12  g_len g_isinstance g_tuple g_bool g_int g_all g_sorted g_list g_range YL;have O_net_by_0:=Pu.Fn3.pz (XI (P:=l.prog) (w:=w) (base:=base) F2 b2 m2) false;have O_net_by_1:=ZB (P:=l.prog) (w:=w) (base:=base) (k:=1) F2 b2 m2 O_halves_of (O_net_by_0.mono (by decide)) g_len g_tuple g_range g_zip (ZH 0);have O_net_by_2:=ZB (P:=l.prog) (w:=w) (base:=base) (k:=2) F2 b2 m2 (O_halves_of.mono (by decide)) O_net_by_1 g_len g_tuple g_range g_zip (ZH 1);have O_net_by_3:=ZB (P:=l.prog) (w:=w) (base:=base) (k:=3) F2 b2 m2 (O_halves_of.mono (by decide)) O_net_by_2 g_len g_tuple g_range g_zip (ZH 2);have O_net_by_4:=ZB (P:=l.prog) (w:=w) (base:=base) (k:=4) F2 b2 m2 (O_halves_of.mono (by decide)) O_net_by_3 g_len g_tuple g_range g_zip (ZH 3);have O_net_for:=X6 (P:=l.prog) (w:=w) (base:=base) (k:=5) F4 b4 m4 (O_is_order.mono (by decide)) O_net_by_4  XW;have O_law_lane_0:=Pu.Fn3.pz (XI (P:=l.prog) (w:=w) (base:=base) F8 b8 m8) false;have O_law_lane_1:=jL (P:=l.prog) (w:=w) (base:=base) (k:=0) F8 b8 m8 O_law_lane_0 g_isinstance g_int (jF 0);have O_law_lane_2:=jL (P:=l.prog) (w:=w) (base:=base) (k:=1) F8 b8 m8 O_law_lane_1 g_isinstance g_int (jF 1);have O_law_lane_3:=jL (P:=l.prog) (w:=w) (base:=base) (k:=2) F8 b8 m8 O_law_lane_2 g_isinstance g_int (jF 2);have O_law_lane_4:=jL (P:=l.prog) (w:=w) (base:=base) (k:=3) F8 b8 m8 O_law_lane_3 g_isinstance g_int (jF 3);have O_net_for_x:=D6 (P:=l.prog) (w:=w) (base:=base) (k:=2) F4 b4 m4 O_is_order g_ra_NoOrder XZ;have O_law_told:=DE (P:=l.prog) (w:=w) (base:=base) (k:=6) F13 b13 m13 O_net_for (O_law_lane_4.mono (by decide)) (O_net_for_x.mono (by decide)) g_cls_BankError g_ex_BankError g_ct_BankError g_len g_range g_list g_isinstance g_cls_BadRow g_cls_BadText g_cls_Clash g_cls_NoAsk g_cls_NoStart g_cls_NotSquare g_cls_NoWalk g_cls_NoWord g_xd_0 g_ValueError g_xd_1 g_cls_NoOrder g_xd_2 WA;exact qfq (k:=7) F14 (O_law_left.mono (by decide)) (O_law_order.mono (by decide)) (O_law_other.mono (by decide)) (O_law_strange.mono (by decide)) O_law_told (O_law_is_order.mono (by decide)) g_len g_min g_range (qen qds)
set_option maxRecDepth 100000 in
set_option maxHeartbeats 0 in
def qdG (w : World) (os : OsState) : PySem.W.topRun treeTable PySem.Challenge.pw_bankwalk_k58_orders_refused w 11 (some (Value.ref 6)) 2 (⟨qcT w.params,243,{ },#[],{ },502,os⟩ : PySem.W.SharedT).abs (PySem.W.restOf [] qgQ VZ ⟨125,0,136,15⟩ qhi) = some ⟨qcU w.params,#[],{ },502,os⟩ := by kernel_rfl
def qjL:(qa1++(qaR++[]))=RT:=by kernel_rfl
set_option maxRecDepth 100000 in
set_option maxHeartbeats 0 in
def qb8 (w : World) (os : OsState) : PySem.W.topRun treeTable PySem.Challenge.pw_bankwalk_k58_orders_refused w 11 (some (Value.ref 6)) (12 + (1 + (1512 + (1138 + 2)))) ⟨PySem.W.boot_heap w.params,Array.mk [],PySem.W.boot_drawn,PySem.W.boot_toks,os⟩ (PySem.W.topStub PySem.Challenge.pw_bankwalk_k58_orders_refused) = some ⟨qcU w.params,#[],{ },502,os⟩ := by
 have h:=(PySem.W.piece_app (PySem.W.segRun_of (qeS w os)) (PySem.W.piece_app (PySem.W.segRun_of (qgy w os)) (qdG w os)))
 rw [qjL] at h;exact PySem.W.go_top (qfy w os) (PySem.W.piece_block (qfB w os) h)
abbrev Q : Program := PySem.W.view PySem.Challenge.pw_bankwalk_k58_orders_refused [1,3,4,5,6,7,8,9,10,11,12,14,15,16,17,19,20,21,22,23,24,25,26,27,28]
set_option maxRecDepth 100000 in
set_option maxHeartbeats 0 in
def left : PySem.W.LeftO PySem.Challenge.pw_bankwalk_k58_orders_refused Q [] (λs => PySem.W.xlAt Q [] s && PySem.W.recOk [] s) (λs => ([3,20,21,30,31,44,56,68,79,80,92,104,116,135,154,160,161,165,166,170,171,177,178,184,185,191,192,198,199,205,206,212,213,219,220,224,225,229,230,234,235,241,242] : List Addr).map s.heap.get?) (λw => (Kf w.params).map λp => some p.2) 5422 :=
 PySem.W.LeftO.of_pieces (H₀:=PySem.W.boot_heap) (H₁:=qcU) (gs₀:=Array.mk []) (gs₁:=#[]) (d₀:=PySem.W.boot_drawn) (d₁:={ }) (k₀:=PySem.W.boot_toks) (k₁:=502) (m₀:=11) (ann:=some (Value.ref 6)) (M:=(12+(1+(1512+(1138+2)))))
  (PySem.W.boot_open (by kernel_rfl) (by kernel_rfl) (λs=>by kernel_rfl)) (λw=>by kernel_rfl) qb8 (by kernel_rfl) (λw=>by kernel_rfl)
end K58
open PySem PySem.W PyProof.Rows
set_option maxRecDepth 100000 in
set_option maxHeartbeats 0 in
theorem PySem.Challenge.cw_bankwalk_k58_orders_refused_holds : PySem.Challenge.rw_bankwalk_k58_orders_refused.Holds :=
 Hd.head (l := PySem.Challenge.rw_bankwalk_k58_orders_refused) (q := K58.Q) (loose := []) (K := K58.Kf) (as := [3,20,21,30,31,44,56,68,79,80,92,104,116,135,154,160,161,165,166,170,171,177,178,184,185,191,192,198,199,205,206,212,213,219,220,224,225,229,230,234,235,241,242]) (N := 5422) (k := 8) (x := "_law_script")
  (d:=⟨"law",L2.zq K58.j7,L2.qH K58.j7,L2.qf K58.j7,⟨125,0,136,15⟩⟩) (λ_=>by kernel_rfl) (by kernel_rfl) K58.left (by kernel_rfl) (by kernel_rfl) (by kernel_rfl) (by kernel_rfl) (by kernel_rfl)
  ⟨rfl,rfl,rfl,rfl,rfl,by decide +kernel⟩ (by w_witness2) rfl (by kernel_rfl) ⟨rfl,by decide,by decide,rfl⟩ (λw=>by kernel_rfl) λw mg fa h KX G hmg=>K58.qhS KX G hmg
