import PyProof.Rows.All
import Wide.All
import OpenK.AllK
import Wide.FinOn
import Lean
import PyProof.EqAt
import PyProof.EqKinds
import PyProof.TupleCall
import PyProof.NeKinds
import KE.KRevSl
import PyProof.FactsAll.bool_2
import PyProof.Rows.EqBoolInt
import PyProof.Rows.IntBool
import PySem.Challenge.RW_bankwalk_k76_dealings_written
-- CHANGE: your row's module here,as the last of these rows
set_option Elab.async false
set_option genSizeOf false
set_option genInjectivity false
noncomputable section
abbrev Frg:=PySem.W.Frag
open List (getElem_cons_zero length_cons getElem?_cons_succ getElem_cons_succ getElem?_cons_zero length_nil set_cons_zero set_cons_succ length_map not_mem_nil mem_append_right map_cons mem_cons getElem?_set getElem?_map cons_append size_toArray getElem?_eq_getElem map_map mem_of_getElem? mem_map length_append getD_eq_getElem?_getD mem_range length_range)
def obb{α β:Type _}{o:Option α}{f:α->Option β}{b:β}(h:o.bind f=some b):∃a,o=some a/\f a=some b:=Option.bind_eq_some_iff.mp h
set_option linter.all false
set_option maxRecDepth 100000
namespace L2
open PySem PySem.Spec PyProof.Rows
abbrev Key:=Sum Int Str
def qcy:Key->Value->Bool
 |.inl k,v=>Value.isInt k v
 |.inr x,v=>Value.isStrOf x v
def qgk (w:World):Key->Int
 |.inl k=>hashInt k
 |.inr x=>hashStr w x
def qW:∀ {k:Key} {v:Value},qcy k v=true->(∃ i t,k=Sum.inl i/\v=Value.int i t)\/(∃ x t,k=Sum.inr x/\v=Value.str x t)
 |.inl i,v,h=>by
  obtain ⟨t,e⟩:=Value.isInt_shape (k:=i) (v:=v) h;exact .inl ⟨i,t,rfl,e⟩
 |.inr x,v,h=>by
  obtain ⟨t,e⟩:=Value.isStrOf_shape (x:=x) (v:=v) h;exact .inr ⟨x,t,rfl,e⟩
def qcB (a b:Int):decide ((Sum.inl a:Key)=Sum.inl b)=(a==b):=by
 by_cases e:a=b
 ·subst e;simp
 ·have h:¬ (Sum.inl a:Key)=Sum.inl b:=λq=>e (Sum.inl.inj q);rw [decide_eq_false h];exact (beq_eq_false_iff_ne.mpr e).symm
def qaS (a b:Str):decide ((Sum.inr a:Key)=Sum.inr b)=decide (a=b):=by
 by_cases e:a=b
 ·subst e;simp
 ·have h:¬ (Sum.inr a:Key)=Sum.inr b:=λq=>e (Sum.inr.inj q);rw [decide_eq_false h,decide_eq_false e]
def qbu (a:Int) (b:Str):decide ((Sum.inl a:Key)=Sum.inr b)=false:=decide_eq_false (λq=>nomatch q)
def qco (a:Str) (b:Int):decide ((Sum.inr a:Key)=Sum.inl b)=false:=decide_eq_false (λq=>nomatch q)
def C4 (prog:Program) (w:World):PySem.KeyKind prog w Key where
 is:=qcy
 hash:=qgk w
 inj:=λv a b ha hb=>by
  rcases qW ha with ⟨i,t,rfl,rfl⟩|⟨x,t,rfl,rfl⟩
  ·rcases qW hb with ⟨j,u,rfl,e⟩|⟨y,u,rfl,e⟩
   ·injection e with e1 _;rw [e1]
   ·exact nomatch e
  ·rcases qW hb with ⟨j,u,rfl,e⟩|⟨y,u,rfl,e⟩
   ·exact nomatch e
   ·injection e with e1 _;rw [e1]
 byValue:=λk v h=>by
  rcases qW h with ⟨i,t,rfl,rfl⟩|⟨x,t,rfl,rfl⟩<;>rfl
 pyHash:=λhv h=>by
  rcases qW hv with ⟨i,t,rfl,rfl⟩|⟨x,t,rfl,rfl⟩
  ·exact wpAny_pyHash_int h
  ·exact wpAny_pyHash_str h
 eqBool:=λhu hv h=>by
  rcases qW hu with ⟨i,t,rfl,rfl⟩|⟨x,t,rfl,rfl⟩
  ·rcases qW hv with ⟨j,u,rfl,rfl⟩|⟨y,u,rfl,rfl⟩
   ·rw [qcB] at h;exact wpAny_eqBool_int h
   ·rw [qbu] at h;exact SeqAt.EqAt.int_str i t y u _ _ _ _ h
  ·rcases qW hv with ⟨j,u,rfl,rfl⟩|⟨y,u,rfl,rfl⟩
   ·rw [qco] at h;exact SeqAt.EqAt.str_int x t j u _ _ _ _ h
   ·rw [qaS] at h;exact wpAny_eqBool_str h
 «strs»:=λk x t v h=>by
  rcases qW h with ⟨i,u,rfl,e⟩|⟨y,u,rfl,e⟩
  ·exact nomatch e
  ·injection e with e1 _;subst e1;cases v<;>rfl
set_option genInjectivity true in
inductive V where
 |non|bl (b:Bool)|int (i:Int)|str (x:Str)|byt (b:Array UInt8)|flt (b:UInt64)|ref (a:Addr)|ty (n:String)
 deriving DecidableEq
def zW:V->Value->Prop
 |.non,u=>u=Value.none
 |.bl b,u=>u=Value.bool b
 |.int i,u=>∃ t,u=Value.int i t
 |.str x,u=>∃ t,u=Value.str x t
 |.byt b,u=>∃ t,u=Value.bytes b t
 |.flt b,u=>∃ t,u=Value.float b t
 |.ref a,u=>u=Value.ref a
 |.ty n,u=>u=Value.type n
abbrev zq:List V->List Value->Prop:=Paired zW
def zq.length {xs:List V} {us:List Value} (r:zq xs us):xs.length=us.length:=Paired.length r
def zq.get:∀ {xs:List V} {us:List Value} {i:Nat} {x:V},zq xs us->xs[i]?=some x->∃ u,us[i]?=some u/\zW x u
 |_,_,_,_,.nil,e=>by simp at e
 |_,_,0,_,.cons r _,e=>by simp at e;subst e;exact ⟨_,rfl,r⟩
 |_,_,i+1,x,.cons _ t,e=>by
  obtain ⟨u,h1,h2⟩:=zq.get (i:=i) (x:=x) t (by simpa using e);exact ⟨u,by simpa using h1,h2⟩
def zq.set {x:V} {u:Value} (r:zW x u):∀ {xs:List V} {us:List Value} (i:Nat),zq xs us->zq (xs.set i x) (us.set i u)
 |_,_,_,.nil=>.nil
 |_,_,0,.cons _ t=>.cons r t
 |_,_,i+1,.cons q t=>.cons q (zq.set r i t)
def zq.append:∀ {xs ys:List V} {us ws:List Value},zq xs us->zq ys ws->zq (xs++ys) (us++ws)
 |_,_,_,_,.nil,s=>s
 |_,_,_,_,.cons r t,s=>.cons r (zq.append t s)
def zq.take:∀ {xs:List V} {us:List Value} (n:Nat),zq xs us->zq (xs.take n) (us.take n)
 |_,_,0,_=>.nil
 |_,_,_+1,.nil=>.nil
 |_,_,n+1,.cons r t=>.cons r (zq.take n t)
def zq.drop:∀ {xs:List V} {us:List Value} (n:Nat),zq xs us->zq (xs.drop n) (us.drop n)
 |_,_,0,r=>r
 |_,_,_+1,.nil=>.nil
 |_,_,n+1,.cons _ t=>zq.drop n t
def qfm:Option V->Option Value->Prop
 |some v,some u=>zW v u
 |none,none=>True
 |_,_=>False
def KV {κ:Type}:List (κ×V)->List (κ×Value)->Prop:=Paired λ(p:κ×V) (q:κ×Value)=>p.1=q.1/\zW p.2 q.2
def kV:Key->V
 |.inl i=>.int i
 |.inr x=>.str x
inductive HO where
 /-- a list -/
 |lst (xs:List V)
 /-- a tuple (never changes) -/
 |tup (xs:List V)
 /-- a dict whose keys are ints and texts;one whose keys are tuples of ints and texts (the empty one is both) -/
 |dK (kvs:List (Key×V))|dT (kvs:List (List Key×V))
 /-- a set of ints: its members,its size -/
 |set (S:Int->Bool) (n:Nat)
 /-- an instance of the class at C,its dict at dx,its attributes -/
 |ins (C dx:Addr) (fs:List (Str×V))
 /-- the dict of the instance at x -/
 |own (x:Addr)
 /-- the dict of an exception -/
 |xd (fs:List (Str×V))
 /-- a bound method,f of x -/
 |met (f x:Addr)
 /-- a range object lo,lo+1,.. below hi -/
 |rng (lo hi:Int)
 /-- a thing that is known to the object (the script;a dict while a loop walks it): read,never written while it is so -/
 |frz (o:Obj) (u:HO)
 /-- a code object's table -/
 |tbl (ps:Array Value)
 /-- any other thing,by what is true of its one object (a def of one's own: SetO a S n:=HO.ext λh=>..) -/
 |ext (φ:Heap->Prop)
abbrev Hp:=Addr->Option HO
def upd (H:Hp) (a:Addr) (o:HO):Hp:=λb=>if b=a then some o else H b
def qY {H:Hp} {a:Addr} {o:HO}:upd H a o a=some o:=by unfold upd;rw [if_pos rfl]
def qB {H:Hp} {a b:Addr} {o:HO} (h:b≠a):upd H a o b=H b:=by unfold upd;rw [if_neg h]
def qt {H:Hp} {a b:Addr} {o:HO} (h:H a=some o) (h':H b=none):a≠b:=by
 intro e;subst e;rw [h] at h';cases h'
def Z6 (h:Heap) (a:Addr) (items:Array Value):Prop:=∃ o,h.get? a=some o/\o.cls=.type "tuple"/\∃ n,o.data=.seq items n/\o.dict=none
def Z6.tup {h:Heap} {a:Addr} {items:Array Value} (x:Z6 h a items):IsTup h a items:=let ⟨o,a,b,n,d,_⟩:=x;⟨o,a,b,n,d⟩
def Z6.new (h:Heap) (items:Array Value):Z6 (h.push { cls:=.type "tuple",data:=.seq items }) h.objs.size items:=⟨_,Heap.get?_push_size _ rfl,rfl,_,rfl,rfl⟩
section
variable (P:Program) (w:World)
def QL (H:Hp) (h:Heap) (a:Addr):HO->Prop
 |.lst xs=>xs.length<=sizeLine/\∃ (its:List Value) (n:Nat),zq xs its/\h.get? a=some { cls:=.type "list",data:=.seq its.toArray n }
 |.tup xs=>xs.length<=sizeLine/\∃ its:List Value,zq xs its/\Z6 h a its.toArray
 |.dK kvs=>kvs.length<=sizeLine/\(a==sysModules)=false/\∃ vs,KV kvs vs/\h.DictOf (C4 P w) a vs
 |.dT kvs=>kvs.length<=sizeLine/\(a==sysModules)=false/\∃ xs:List (List Key×Addr×Value),
   Paired (λ(p:List Key×V) (q:List Key×Addr×Value)=>p.1=q.1/\H q.2.1=some (.tup (p.1.map kV))/\zW p.2 q.2.2) kvs xs /\
   ∃ o es ep,h.get? a=some o/\o.ExactDict/\o.data=.dict es ep/\es.toList=xs.map (entryOfKey (tupleKind (C4 P w)))/\(xs.map (·.1)).Nodup
 |.set S n=>h.SetOf (intKind P w) a S n
 |.ins C dx fs=>H dx=some (.own a)/\fs.length<=1000/\dx≠a/\h.get? a=some (PySem.W.instObj C dx) /\
   ∃ mA,h.Ns1 dx mA/\(∀ f,qfm (fs.lookup f) (mA f))/\PySem.Within mA (fs.map (·.1))
 |.own _=>∃ o,h.get? a=some o
 |.xd fs=>∃ mA,h.Ns1 a mA/\∀ f,qfm (fs.lookup f) (mA f)
 |.rng lo hi=>∃ t u v,h.get? a=some { cls:=.type "range",data:=.fields #[.int lo t,.int hi u,.int 1 v] }
 |.frz o u=>h.get? a=some o/\QL H h a u
 |.tbl ps=>h.get? a=some { cls:=.none,data:=.fields ps }
 |.met f x=>h.get? a=some (PySem.W.methodObj (.ref f) (.ref x))
 |.ext φ=>φ h/\(∃ o,h.get? a=some o)/\∀ h1 h2:Heap,φ h1->(∀ o,h1.get? a=some o->h2.get? a=some o)->φ h2
def HOk (H:Hp) (h:Heap):Prop:=∀ a o,H a=some o->QL P w H h a o
end
section
variable {P:Program} {w:World} {H H':Hp} {h h':Heap} {a:Addr} {o:HO}
def QL.lt (x:QL P w H h a o):a<h.objs.size:=by
 cases o with
 |lst xs=>obtain ⟨_,_,_,_,e⟩:=x;exact Heap.lt_size e
 |tup xs=>obtain ⟨_,_,_,p⟩:=x;exact p.tup.lt
 |dK kvs=>obtain ⟨_,_,_,_,o,_,_,e,_⟩:=x;exact Heap.lt_size e
 |dT kvs=>obtain ⟨_,_,_,_,o,_,_,e,_⟩:=x;exact Heap.lt_size e
 |set S n=>obtain ⟨o,_,_,_,e,_⟩:=x;exact Heap.lt_size e
 |ins C dx fs=>obtain ⟨_,_,_,e,_⟩:=x;exact Heap.lt_size e
 |own y=>obtain ⟨_,e⟩:=x;exact Heap.lt_size e
 |xd fs=>obtain ⟨_,⟨_,_,_,e,_⟩,_⟩:=x;exact Heap.lt_size e
 |rng lo hi=>obtain ⟨_,_,_,e⟩:=x;exact Heap.lt_size e
 |frz ob u=>obtain ⟨e,_⟩:=x;exact Heap.lt_size e
 |tbl ps=>exact Heap.lt_size (show h.get? a=some _ from x)
 |met f y=>exact Heap.lt_size (show h.get? a=some _ from x)
 |ext φ=>obtain ⟨_,⟨_,e⟩,_⟩:=x;exact Heap.lt_size e
def Paired.mapP {α β:Type} {F G:α->β->Prop}:∀ {l₁:List α} {l₂:List β},Paired F l₁ l₂->(∀ a b,F a b->G a b)->Paired G l₁ l₂
 |_,_,.nil,_=>.nil
 |_,_,.cons r t,f=>.cons (f _ _ r) (Paired.mapP t f)
def QL.stay (x:QL P w H h a o) (k:∀ b u,(b=a\/H b=some (.own a))->h.get? b=some u->h'.get? b=some u)
  (ho:∀ b,H b=some (.own a)->H' b=some (.own a)) (ht:∀ b xs,H b=some (.tup xs)->H' b=some (.tup xs)):QL P w H' h' a o:=by
 induction o with
 |lst xs=>obtain ⟨z,its,n,r,e⟩:=x;exact ⟨z,its,n,r,k _ _ (.inl rfl) e⟩
 |tup xs=>obtain ⟨z,its,r,ob,e,c⟩:=x;exact ⟨z,its,r,ob,k _ _ (.inl rfl) e,c⟩
 |dK kvs=>obtain ⟨z,y,vs,r,ob,es,ep,e,c⟩:=x;exact ⟨z,y,vs,r,ob,es,ep,k _ _ (.inl rfl) e,c⟩
 |dT kvs=>
  obtain ⟨z,y,xs,r,ob,es,ep,e,c⟩:=x;exact ⟨z,y,xs,Paired.mapP r λp q z=>⟨z.1,ht _ _ z.2.1,z.2.2⟩,ob,es,ep,k _ _ (.inl rfl) e,c⟩
 |set S n=>obtain ⟨ob,es,ep,t,e,c⟩:=x;exact ⟨ob,es,ep,t,k _ _ (.inl rfl) e,c⟩
 |ins C dx fs=>
  obtain ⟨d,z,ne,e,mA,⟨od,es,ep,e2,c⟩,r⟩:=x;exact ⟨ho _ d,z,ne,k _ _ (.inl rfl) e,mA,⟨od,es,ep,k _ _ (.inr d) e2,c⟩,r⟩
 |own y=>obtain ⟨ob,e⟩:=x;exact ⟨ob,k _ _ (.inl rfl) e⟩
 |xd fs=>obtain ⟨mA,⟨od,es,ep,e,c⟩,r⟩:=x;exact ⟨mA,⟨od,es,ep,k _ _ (.inl rfl) e,c⟩,r⟩
 |rng lo hi=>obtain ⟨t,u,v,e⟩:=x;exact ⟨t,u,v,k _ _ (.inl rfl) e⟩
 |frz ob u ih=>obtain ⟨e,q⟩:=x;exact ⟨k _ _ (.inl rfl) e,ih q⟩
 |tbl ps=>
  have e:h.get? a=some { cls:=.none,data:=.fields ps }:=x;show h'.get? a=some { cls:=.none,data:=.fields ps };exact k a _ (.inl rfl) e
 |met f y=>
  have e:h.get? a=some (PySem.W.methodObj (.ref f) (.ref y)):=x;show h'.get? a=some (PySem.W.methodObj (.ref f) (.ref y));exact k a _ (.inl rfl) e
 |ext φ=>obtain ⟨p,⟨o,e⟩,st⟩:=x;exact ⟨st _ _ p λo q=>k _ _ (.inl rfl) q,⟨o,k _ _ (.inl rfl) e⟩,st⟩
def HOk.lt (x:HOk P w H h) (e:H a=some o):a<h.objs.size:=(x a o e).lt
def HOk.fresh (x:HOk P w H h) (e:h.objs.size<=a):H a=none:=by
 cases q:H a with
 |none=>rfl
 |some u=>exact absurd (Nat.lt_of_lt_of_le (x.lt q) e) (Nat.lt_irrefl _)
def HOk.kept (x:HOk P w H h) (k:∀ b u,h.get? b=some u->h'.get? b=some u):HOk P w H h':=λa o e=>
 (x a o e).stay (λb u _ q=>k b u q) (λ_ q=>q) λ_ _ q=>q
def HOk.laid (x:HOk P w H h) (k:∀ b u,h.get? b=some u->h'.get? b=some u) (hp:h.objs.size<=a) (new:QL P w (upd H a o) h' a o):HOk P w (upd H a o) h':=λb u e=>by
 have hn:=x.fresh hp;by_cases hb:b=a
 ·subst hb;rw [qY] at e;cases e;exact new
 ·rw [qB hb] at e;exact (x b u e).stay (λc v _ q=>k c v q) (λc q=>by rw [qB (qt q hn)];exact q) λc xs q=>by rw [qB (qt q hn)];exact q
end
def Rd (H:Hp) (a:Addr) (u:HO):Prop:=H a=some u\/∃ o,H a=some (.frz o u)
def Rd.ok {P:Program} {w:World} {H:Hp} {h:Heap} {a:Addr} {u:HO} (r:Rd H a u) (x:HOk P w H h):QL P w H h a u:=by
 rcases r with r|⟨o,r⟩
 ·exact x a u r
 ·obtain ⟨_,q⟩:=x a _ r;exact q
def Mut:Option HO->Prop
 |some (.lst _)=>True
 |some (.dK _)=>True
 |some (.dT _)=>True
 |some (.set _ _)=>True
 |some (.ins _ _ _)=>True
 |some (.ext _)=>True
 |_=>False
section
variable {P:Program} {w:World} {H:Hp} {h h':Heap} {x e:Addr} {o':HO}
def HOk.write (ok:HOk P w H h) (mu:Mut (H x)) (he:e=x\/H e=some (.own x)) (k:∀ b u,b≠e->h.get? b=some u->h'.get? b=some u) (heo:∃ u,h'.get? e=some u)
  (new:QL P w (upd H x o') h' x o'):HOk P w (upd H x o') h':=λb u q=>by
 have nown:∀ c y,H c=some (.own y)->c≠x:=λc y r z=>by subst z;rw [r] at mu;exact mu
 have ntup:∀ c xs,H c=some (.tup xs)->c≠x:=λc xs r z=>by subst z;rw [r] at mu;exact mu
 by_cases hb:b=x
 ·subst hb;rw [qY] at q;cases q;exact new
 ·rw [qB hb] at q;by_cases hbe:b=e
  ·have q':H b=some (.own x):=by
    rcases he with z|z
    ·exact absurd (hbe.trans z) hb
    ·rw [hbe];exact z
   rw [q] at q';cases q';obtain ⟨v,hv⟩:=heo;exact ⟨v,by rw [hbe];exact hv⟩
  ·refine (ok b u q).stay (λc v hc r=>k c v ?_ r) (λc r=>by rw [qB (nown c b r)];exact r) λc xs r=>by rw [qB (ntup c xs r)];exact r
   rcases hc with rfl|hc
   ·exact hbe
   ·rintro rfl;rcases he with z|z
    ·exact nown c b hc z
    ·rw [hc] at z;cases z;exact hb rfl
end
structure Un (fs ex:List Addr) (H H':Hp) (h h':Heap):Prop where
 keep:∀ b o,h.get? b=some o->H b=none->b∉fs->b∉ex->h'.get? b=some o
 slot:∀ b o,h.get? b=some o->H b=none->b∈fs->b∉ex->∃ sl,h'.get? b=some { o with slots:=sl }
 free:∀ b o,h.get? b=some o->H b=none->b∉ex->H' b=none
 there:∀ b o,h.get? b=some o->b∉ex->∃ o',h'.get? b=some o'
 tups:∀ b xs,H b=some (.tup xs)->H' b=some (.tup xs)
 frzs:∀ b o u,H b=some (.frz o u)->H' b=some (.frz o u)
 tbls:∀ b ps,H b=some (.tbl ps)->∃ more,H' b=some (.tbl (ps++more))
section
variable {fs fs' ex ex':List Addr} {H H1 H2:Hp} {h h1 h2 h':Heap} {a x e:Addr} {o:HO}
def Un.any (u:Un fs ex H H1 h h1) {b:Addr} {ob:Obj} (q:h.get? b=some ob) (n:H b=none) (hx:b∉ex):∃ sl,h1.get? b=some { ob with slots:=sl }:=by
 by_cases hb:b∈fs
 ·exact u.slot b ob q n hb hx
 ·exact ⟨ob.slots,u.keep b ob q n hb hx⟩
def Un.kept (k:∀ b u,h.get? b=some u->h'.get? b=some u):Un fs ex H H h h':=
 ⟨λb ob q _ _ _=>k b ob q,λb ob q _ _ _=>⟨ob.slots,k b ob q⟩,λ_ _ _ n _=>n,λb ob q _=>⟨ob,k b ob q⟩,λ_ _ q=>q,λ_ _ _ q=>q,λ_ ps q=>⟨#[],by rw [q];simp⟩⟩
def Un.refl:Un fs ex H H h h:=Un.kept λ_ _ q=>q
def Un.laid (k:∀ b u,h.get? b=some u->h'.get? b=some u) (hp:h.objs.size<=a) (hn:H a=none):Un fs ex H (upd H a o) h h' where
 keep:=λb u q _ _ _=>k b u q
 slot:=λb u q _ _ _=>⟨u.slots,k b u q⟩
 free:=λb u q n _=>by rw [qB (Nat.ne_of_lt (Nat.lt_of_lt_of_le (Heap.lt_size q) hp))];exact n
 there:=λb u q _=>⟨u,k b u q⟩
 tups:=λb xs q=>by rw [qB (qt q hn)];exact q
 frzs:=λb u xs q=>by rw [qB (qt q hn)];exact q
 tbls:=λb ps q=>⟨#[],by rw [qB (qt q hn),q];simp⟩
def Un.write (mu:Mut (H x)) (he:e=x\/H e=some (.own x)) (k:∀ b u,b≠e->h.get? b=some u->h'.get? b=some u) (heo:∃ u,h'.get? e=some u):Un fs ex H (upd H x o) h h':=by
 have hx:∀ b,H b=none->b≠x:=λb n z=>by subst z;rw [n] at mu;exact mu
 have hb:∀ b,H b=none->b≠e:=λb n z=>by
  subst z;rcases he with r|r
  ·exact hx b n r
  ·rw [n] at r;cases r
 have hm:∀ b u,H b=some u->¬ Mut (some u)->b≠x:=λb u q nm z=>by subst z;rw [q] at mu;exact nm mu
 refine ⟨λb u q n _ _=>k b u (hb b n) q,λb u q n _ _=>⟨u.slots,k b u (hb b n) q⟩,λb u q n _=>by rw [qB (hx b n)];exact n,λb u q _=>?_,
  λb xs q=>by rw [qB (hm b _ q λz=>z)];exact q,λb u xs q=>by rw [qB (hm b _ q λz=>z)];exact q,λb ps q=>⟨#[],by rw [qB (hm b _ q λz=>z),q];simp⟩⟩
 by_cases hbe:b=e
 ·subst hbe;exact heo
 ·exact ⟨u,k b u hbe q⟩
end
def trk (h:Heap) (H:Hp):List Addr:=(List.range h.objs.size).filter λa=>(H a).isSome
def KK (h:Heap) (H:Hp):Heap:=PySem.W.hideAll h (trk h H)
def XX (h:Heap) (H:Hp):(KK h H).objs.size=h.objs.size:=PySem.W.hideAll_size _ _
def SY {h:Heap} {H:Hp} {b:Addr} {o:Obj} (e:h.get? b=some o) (n:H b=none):(KK h H).get? b=some o:=
 PySem.W.hideAll_get _ e λhm=>by
  have q:(H b).isSome=true:=(List.mem_filter.mp hm).2;rw [n] at q;simp at q
def M1 {h:Heap} {H:Hp} {b:Addr} {o:Obj} (e:(KK h H).get? b=some o):h.get? b=some o/\H b=none:=by
 have e':h.get? b=some o:=PySem.W.of_hideAll (trk h H) e;refine ⟨e',?_⟩;cases q:H b with
 |none=>rfl
 |some x=>
  have hm:b∈trk h H:=List.mem_filter.mpr ⟨mem_range.mpr (Heap.lt_size e'),by simp [q]⟩;have z:(KK h H).get? b=none:=PySem.W.hideAll_none (trk h H) hm;rw [z] at e;cases e
def qaA (g h:Heap) (L:Addr):List (Addr×Obj):=(List.range h.objs.size).filterMap λa=>if a=L\/(g.get? a).isSome=true then none else (h.get? a).map λo=>(a,o)
def QP (g h:Heap) (L d:Addr):List (Addr×Obj):=(qaA g h L).filter λp=>decide (p.1≠d)
structure Mod (K:Frg) (mg:Str->Option Value) (base:Heap):Prop where
 kin:K.In base
 glob:base.Ns mainGlobals mg
 blt:∃ mb,base.Ns builtinsNs mb/\∀ x:Str,x≠"__name__" -> mb x=bootBuiltins x
 nolimit:base.NoLimit
structure Cx where
 prog:Program
 w:World
 K:PySem.W.Frag
 mg:Str->Option Value
 base:Heap
 A:Around
 N:List Str
 s₀:Shared
 H₀:Hp
 env:Env
 outer:List Env
 stack:List Env
 ex:List Addr
 fn:Str->Bool
 calm:Bool
 pn:List (Addr×Obj)
 xe:Value->Shared->Prop
def frs (l:List Env):List Addr:=l.filterMap (·.frame)
abbrev Cx.fs (X:Cx):List Addr:=frs X.outer
def Vis (sc:Scope) (x:Str):Prop:=sc.names.lookup x=some .local\/sc.names.lookup x=some .cell\/sc.names.lookup x=some .free
def Loc (sc:Scope) (x:Str):Prop:=sc.names.lookup x=some .local\/sc.names.lookup x=some .cell
def qgi (env:Env) (h:Heap) (m:Str->Option Value) (x:Str) (u:Value):Prop:=
 (env.kindOf x=some .local/\m x=some u)\/((env.kindOf x=some .cell\/env.kindOf x=some .free)/\∃ c,env.cells.lookup x=some c/\h.IsCell c (some u))
structure Cx.Ok (X:Cx):Prop where
 mod:Mod X.K X.mg X.base
 kind:X.env.scope.kind=.function
 glob:X.env.globals=mainGlobals
 blt:X.env.builtins=builtinsNs
 above:X.s₀.heap.objs.size<=X.env.locals
 inj:∀ x y c,X.env.cells.lookup x=some c->X.env.cells.lookup y=some c->x=y
 has:∀ x,(X.env.kindOf x=some .cell\/X.env.kindOf x=some .free)->∃ c,X.env.cells.lookup x=some c
 cab:∀ x c,X.fn x=true->X.env.cells.lookup x=some c->X.s₀.heap.objs.size<=c
 hd:X.calm=true->X.A.handled=none
 frames:X.A.frames=some X.stack
 stk:X.stack=X.outer\/(X.stack=X.env::X.outer/\X.env.frame=some X.env.locals)
 exf:∀ b∈X.ex,b≠X.env.locals/\∀ x c,X.env.cells.lookup x=some c->c≠b
 bs:∀ b o,X.base.get? b=some o->X.s₀.heap.get? b=some o/\X.H₀ b=none
 bsz:X.base.objs.size<=X.s₀.heap.objs.size
 noex:∀ b o,X.base.get? b=some o->b∉X.ex
 exfs:∀ b∈X.ex,b∉X.fs
 funs:X.s₀.heap.FunFrames X.base X.outer
 frf:∀ b∈X.fs,X.H₀ b=none
structure Inv (X:Cx) (pins:List (Addr×Obj)) (σ:List (Option V)) (H:Hp) (s:Shared):Prop where
 ok:X.Ok
 os:s.os=X.s₀.os
 bare:AllBare s.gens
 base:Un X.fs X.ex X.H₀ H X.s₀.heap s.heap
 loc:∃ m,s.heap.Ns X.env.locals m/\∀ (i:Nat) (x:Str) (v:V),X.N[i]?=some x->σ[i]?=some (some v)->Vis X.env.scope x->∃ u,zW v u/\qgi X.env s.heap m x u
 cell:∀ x c,X.env.cells.lookup x=some c->∃ v,s.heap.IsCell c v
 free:H X.env.locals=none
 freeC:∀ x c,X.env.cells.lookup x=some c->H c=none
 pin:∀ p∈X.pn++pins,s.heap.get? p.1=some p.2/\H p.1=none/\p.1≠X.env.locals/\p.1∉X.fs/\∀ v,p.2.data≠.cell v
 hok:HOk X.prog X.w H s.heap
 len:σ.length=X.N.length
section
variable {X:Cx} {pins:List (Addr×Obj)} {σ:List (Option V)} {H H':Hp} {s:Shared} {h':Heap}
def Cx.Ok.nofr (ok:X.Ok) {b:Addr} {o:Obj} (e:X.base.get? b=some o):b∉X.fs:=λhb=>by
 have:=(ok.funs.mem hb).1;rw [e] at this;cases this
def Inv.bs (I:Inv X pins σ H s):∀ b o,X.base.get? b=some o->s.heap.get? b=some o/\H b=none:=λb o e=>
 ⟨I.base.keep b o (I.ok.bs b o e).1 (I.ok.bs b o e).2 (I.ok.nofr e) (I.ok.noex b o e),I.base.free b o (I.ok.bs b o e).1 (I.ok.bs b o e).2 (I.ok.noex b o e)⟩
def Inv.bk (I:Inv X pins σ H s):∀ b o,X.base.get? b=some o->s.heap.get? b=some o:=λb o e=>(I.bs b o e).1
def Inv.mod (I:Inv X pins σ H s):Mod X.K X.mg X.base:=I.ok.mod
def Inv.kIn (I:Inv X pins σ H s):X.K.In s.heap:=I.ok.mod.kin.keeps I.bk
def Inv.nolimit (I:Inv X pins σ H s):s.heap.NoLimit:=I.ok.mod.nolimit.keeps I.bk
def Inv.fr (I:Inv X pins σ H s):∃ m,Fr X.base X.env.locals s.heap m:=
 let ⟨m,hn,_⟩:=I.loc
 ⟨m,hn,I.bk,Nat.le_trans I.ok.bsz I.ok.above⟩
def Inv.lt (I:Inv X pins σ H s):X.env.locals<s.heap.objs.size:=let ⟨_,hn,_⟩:=I.loc;hn.lt
def Inv.sz (I:Inv X pins σ H s):X.s₀.heap.objs.size<=s.heap.objs.size:=Nat.le_trans I.ok.above (Nat.le_of_lt I.lt)
def Inv.nofs (I:Inv X pins σ H s) {a:Addr} (h:s.heap.objs.size<=a):a∉X.fs:=λhb=>by
 obtain ⟨_,o,ho,_⟩:=I.ok.funs.mem hb;exact absurd (Nat.lt_of_lt_of_le (Heap.lt_size ho) (Nat.le_trans I.sz h)) (Nat.lt_irrefl _)
def Inv.cne (I:Inv X pins σ H s):∀ x c,X.env.cells.lookup x=some c->c≠X.env.locals:=λx c e z=>by
 obtain ⟨v,o,ho,hd⟩:=I.cell x c e;obtain ⟨m,⟨o',es,ep,ho',hd',_⟩,_⟩:=I.loc;rw [z,ho'] at ho;cases ho;rw [hd'] at hd;cases hd
def Inv.funs (I:Inv X pins σ H s):s.heap.FunFrames X.base X.outer:=by
 have all:∀ (l:List Env),(∀ b∈frs l,b∈X.fs)->X.s₀.heap.FunFrames X.base l->s.heap.FunFrames X.base l:=by
  intro l;induction l with
  |nil=>intro _ _;trivial
  |cons env r ih=>
   intro hs hl;obtain ⟨hk,⟨L,o,hf,hn,ho,hd⟩,hr⟩:=hl;have hL:L∈X.fs:=hs L (by unfold frs;rw [List.filterMap_cons,hf];exact List.mem_cons_self);obtain ⟨sl,e⟩:=I.base.slot L o ho (I.ok.frf L hL) hL λz=>I.ok.exfs L z hL;exact ⟨hk,⟨L,_,hf,hn,e,hd⟩,ih (λb hb=>hs b (by unfold frs;rw [List.filterMap_cons,hf];exact List.mem_cons_of_mem _ hb)) hr⟩
 exact all X.outer (λ_ hb=>hb) I.ok.funs
def Inv.stack (I:Inv X pins σ H s):s.heap.FunFrames X.base X.stack:=by
 rcases I.ok.stk with e|⟨e,hf⟩
 ·rw [e];exact I.funs
 ·rw [e];obtain ⟨m,hn,_⟩:=I.loc;refine .cons (by rw [I.ok.kind];decide) hf hn ?_ I.funs;exact Heap.get?_none_of_le (Nat.le_trans I.ok.bsz I.ok.above)
def Inv.stkSub (I:Inv X pins σ H s):∀ b∈frs X.stack,b∈X.env.locals::X.fs:=λb hb=>by
 rcases I.ok.stk with e|⟨e,hf⟩
 ·rw [e] at hb;exact List.mem_cons_of_mem _ hb
 ·rw [e] at hb;unfold frs at hb;rw [List.filterMap_cons,hf] at hb;exact hb
def Inv.stkFree (I:Inv X pins σ H s):∀ b∈frs X.stack,H b=none:=λb hb=>by
 rcases mem_cons.mp (I.stkSub b hb) with e|hb
 ·rw [e];exact I.free
 ·obtain ⟨_,o,ho,_⟩:=I.ok.funs.mem hb;exact I.base.free b o ho (I.ok.frf b hb) λz=>I.ok.exfs b z hb
def Inv.step {g':Array GenState} {t':Nat} {d':Drawn} {ch:List Addr} (I:Inv X pins σ H s)
  (hch:∀ b∈ch,(b∈X.ex\/X.s₀.heap.objs.size<=b)/\b≠X.env.locals/\(∀ x c,X.env.cells.lookup x=some c->c≠b)/\∀ p∈X.pn++pins,p.1≠b)
  (keep:∀ b o,b≠X.env.locals->b∉X.fs->b∉ch->s.heap.get? b=some o->H b=none->h'.get? b=some o)
  (slot:∀ b o,b≠X.env.locals->b∈X.fs->b∉ch->s.heap.get? b=some o->H b=none->∃ sl,h'.get? b=some { o with slots:=sl }) (free:∀ b o,b∉ch->s.heap.get? b=some o->H b=none->H' b=none)
  (there:∀ b o,b∉ch->s.heap.get? b=some o->∃ o',h'.get? b=some o')
  (tups:∀ b xs,H b=some (.tup xs)->H' b=some (.tup xs)) (frzs:∀ b o u,H b=some (.frz o u)->H' b=some (.frz o u)) (tbls:∀ b ps,H b=some (.tbl ps)->∃ more,H' b=some (.tbl (ps++more)))
  (ns:∀ m,s.heap.Ns X.env.locals m->h'.Ns X.env.locals m) (hok:HOk X.prog X.w H' h') (hg:AllBare g') :
  Inv X pins σ H' { s with heap:=h',gens:=g',drawn:=d',toks:=t' }:=by
 have neL:∀ b o,X.s₀.heap.get? b=some o->b≠X.env.locals:=λb o e=>Nat.ne_of_lt (Nat.lt_of_lt_of_le (Heap.lt_size e) I.ok.above);have neC:∀ b o,X.s₀.heap.get? b=some o->b∉X.ex->b∉ch:=λb o e hx hb=>by
  rcases (hch b hb).1 with z|z
  ·exact hx z
  ·exact absurd (Nat.lt_of_lt_of_le (Heap.lt_size e) z) (Nat.lt_irrefl _)
 have cellK:∀ x c,X.env.cells.lookup x=some c->∀ v,s.heap.IsCell c v->h'.IsCell c v:=λx c e v ⟨o,ho,hd⟩=>by
  have nch:c∉ch:=λz=>(hch c z).2.2.1 x c e rfl;by_cases hc:c∈X.fs
  ·obtain ⟨sl,q⟩:=slot c o (I.cne x c e) hc nch ho (I.freeC x c e);exact ⟨_,q,hd⟩
  ·exact ⟨o,keep c o (I.cne x c e) hc nch ho (I.freeC x c e),hd⟩
 refine ⟨I.ok,I.os,hg,⟨λb o e n hb hx=>?_,λb o e n hb hx=>?_,λb o e n hx=>?_,λb o e hx=>?_,λb xs e=>tups b xs (I.base.tups b xs e),λb o xs e=>frzs b o xs (I.base.frzs b o xs e),λb ps e=>?_⟩,?_,λx c e=>?_,?_,λx c e=>?_,λp hp=>?_,hok,I.len⟩
 ·exact keep b o (neL b o e) hb (neC b o e hx) (I.base.keep b o e n hb hx) (I.base.free b o e n hx)
 ·obtain ⟨sl,e1⟩:=I.base.slot b o e n hb hx;obtain ⟨sl',e2⟩:=slot b _ (neL b o e) hb (neC b o e hx) e1 (I.base.free b o e n hx);exact ⟨sl',e2⟩
 ·obtain ⟨o',e1⟩:=I.base.there b o e hx;exact free b o' (neC b o e hx) e1 (I.base.free b o e n hx)
 ·obtain ⟨o',e1⟩:=I.base.there b o e hx;exact there b o' (neC b o e hx) e1
 ·obtain ⟨m1,e1⟩:=I.base.tbls b ps e;obtain ⟨m2,e2⟩:=tbls b _ e1;exact ⟨m1++m2,by rw [e2,Array.append_assoc]⟩
 ·obtain ⟨m,hn,hl⟩:=I.loc;refine ⟨m,ns m hn,λi x v e1 e2 e3=>?_⟩;obtain ⟨u,r,l⟩:=hl i x v e1 e2 e3;refine ⟨u,r,?_⟩;rcases l with l|⟨k,c,e,z⟩
  ·exact .inl l
  ·exact .inr ⟨k,c,e,cellK x c e _ z⟩
 ·obtain ⟨v,z⟩:=I.cell x c e;exact ⟨v,cellK x c e v z⟩
 ·obtain ⟨m,⟨o,_,_,ho,_⟩,_⟩:=I.loc;exact free _ o (λz=>(hch _ z).2.1 rfl) ho I.free
 ·obtain ⟨v,o,ho,hd⟩:=I.cell x c e;exact free c o (λz=>(hch c z).2.2.1 x c e rfl) ho (I.freeC x c e)
 ·obtain ⟨e,n,ne,nf,d⟩:=I.pin p hp;have nch:p.1∉ch:=λz=>(hch p.1 z).2.2.2 p hp rfl;exact ⟨keep p.1 p.2 ne nf nch e n,free p.1 p.2 nch e n,ne,nf,d⟩
def Inv.un {t':Nat} (I:Inv X pins σ H s) (u:Un X.fs [] H H' s.heap h') (hok:HOk X.prog X.w H' h'):Inv X pins σ H' { s with heap:=h',toks:=t' }:=by
 obtain ⟨m,⟨o,es,ep,ho,r⟩,_⟩:=id I.loc;obtain ⟨sl,hL⟩:=u.any ho I.free (by simp);exact I.step (g':=s.gens) (d':=s.drawn) (ch:=[]) (λ_ z=>nomatch z) (λb o _ hb _ e n=>u.keep b o e n hb (by simp)) (λb o _ hb _ e n=>u.slot b o e n hb (by simp)) (λb o _ e n=>u.free b o e n (by simp)) (λb o _ e=>u.there b o e (by simp)) u.tups u.frzs u.tbls (λm' hm=>by
  obtain ⟨o',es',ep',ho',r'⟩:=hm;rw [ho] at ho';cases ho';exact ⟨_,es',ep',hL,r'⟩) hok I.bare
def Inv.call {g':Array GenState} {t':Nat} {d':Drawn} {ch:List Addr} (I:Inv X pins σ H s) (u:Un (frs X.stack) ch H H' s.heap h') (hok:HOk X.prog X.w H' h') (hg:AllBare g')
  (hch:∀ b∈ch,(b∈X.ex\/X.s₀.heap.objs.size<=b)/\b≠X.env.locals/\(∀ x c,X.env.cells.lookup x=some c->c≠b)/\∀ p∈X.pn++pins,p.1≠b) :
  Inv X pins σ H' { s with heap:=h',gens:=g',drawn:=d',toks:=t' }:=by
 obtain ⟨m,⟨o,es,ep,ho,r⟩,_⟩:=id I.loc;obtain ⟨sl,hL⟩:=u.any ho I.free λz=>(hch _ z).2.1 rfl;exact I.step (ch:=ch) hch (λb o hL hb hc e n=>u.keep b o e n (λz=>(mem_cons.mp (I.stkSub b z)).elim hL hb) hc) (λb o _ _ hc e n=>u.any e n hc) (λb o hc e n=>u.free b o e n hc) (λb o hc e=>u.there b o e hc) u.tups u.frzs u.tbls (λm' hm=>by
  obtain ⟨o',es',ep',ho',r'⟩:=hm;rw [ho] at ho';cases ho';exact ⟨_,es',ep',hL,r'⟩) hok hg
def Inv.turned {t':Nat} {it:Addr} (I:Inv X pins σ H s) (k:∀ b o,b≠it->s.heap.get? b=some o->h'.get? b=some o) (hn:H it=none) (hL:it≠X.env.locals)
  (h1:it∈X.ex\/X.s₀.heap.objs.size<=it) (h2:∀ x c,X.env.cells.lookup x=some c->c≠it) (h3:∀ p∈X.pn++pins,p.1≠it):Inv X pins σ H { s with heap:=h',toks:=t' }:=by
 have nit:∀ b u,H b=some u->b≠it:=λb u e z=>by rw [z,hn] at e;cases e
 refine I.step (g':=s.gens) (d':=s.drawn) (ch:=[it]) (λb hb=>?_) (λb o _ _ hc e _=>k b o (λz=>hc (by simp [z])) e) (λb o _ _ hc e _=>⟨o.slots,k b o (λz=>hc (by simp [z])) e⟩) (λ_ _ _ _ n=>n)
  (λb o hc e=>⟨o,k b o (λz=>hc (by simp [z])) e⟩) (λ_ _ e=>e) (λ_ _ _ e=>e) (λb ps e=>⟨#[],by rw [e];simp⟩) (λm hm=>?_) (λb u e=>?_) I.bare
 ·have e:b=it:=by simpa using hb
  subst e;exact ⟨h1,hL,h2,h3⟩
 ·obtain ⟨o,es,ep,ho,r⟩:=hm;exact ⟨o,es,ep,k _ o (Ne.symm hL) ho,r⟩
 ·refine (I.hok b u e).stay (λc v hc q=>k c v ?_ q) (λ_ q=>q) λ_ _ q=>q;rcases hc with z|z
  ·rw [z];exact nit b u e
  ·exact nit c _ z
def Inv.tok (I:Inv X pins σ H s) (t:Nat):Inv X pins σ H { s with toks:=t }:=I.un (h':=s.heap) (t':=t) Un.refl I.hok
def Inv.kept {t':Nat} (I:Inv X pins σ H s) (k:∀ b u,s.heap.get? b=some u->h'.get? b=some u):Inv X pins σ H { s with heap:=h',toks:=t' }:=I.un (Un.kept k) (I.hok.kept k)
def Inv.laid {a:Addr} {o:HO} {t':Nat} (I:Inv X pins σ H s) (k:∀ b u,s.heap.get? b=some u->h'.get? b=some u) (hp:s.heap.objs.size<=a) (new:QL X.prog X.w (upd H a o) h' a o) :
  Inv X pins σ (upd H a o) { s with heap:=h',toks:=t' }:=I.un (Un.laid k hp (I.hok.fresh hp)) (I.hok.laid k hp new)
def Inv.write {x e:Addr} {o:HO} {t':Nat} (I:Inv X pins σ H s) (mu:Mut (H x)) (he:e=x\/H e=some (.own x)) (k:∀ b u,b≠e->s.heap.get? b=some u->h'.get? b=some u) (heo:∃ u,h'.get? e=some u)
  (new:QL X.prog X.w (upd H x o) h' x o):Inv X pins σ (upd H x o) { s with heap:=h',toks:=t' }:=I.un (Un.write mu he k heo) (I.hok.write mu he k heo new)
def Inv.pins_of {pins':List (Addr×Obj)} (I:Inv X pins σ H s) (h:∀ p∈pins',s.heap.get? p.1=some p.2/\H p.1=none/\p.1≠X.env.locals/\p.1∉X.fs/\∀ v,p.2.data≠.cell v):Inv X pins' σ H s:=
 ⟨I.ok,I.os,I.bare,I.base,I.loc,I.cell,I.free,I.freeC,λp hp=>(List.mem_append.mp hp).elim (λz=>I.pin p (List.mem_append_left _ z)) (h p),I.hok,I.len⟩
def DL {N:List Str} (hN:N.Nodup) {i j:Nat} {x:Str} (a:N[i]?=some x) (b:N[j]?=some x):i=j:=by
 obtain ⟨h1,e1⟩:=List.getElem?_eq_some_iff.mp a;obtain ⟨h2,e2⟩:=List.getElem?_eq_some_iff.mp b;exact (List.getElem_inj hN).mp (e1.trans e2.symm)
def UD {M:Model} {A:Around} {E:Value->Shared->Prop} {i:Nat} {x:Str} {v:V} {u:Value} {Q:Unit->Shared->Prop} (I:Inv X pins σ H s) (hN:X.N.Nodup) (hi:X.N[i]?=some x) (hx:Loc X.env.scope x) (r:zW v u)
  (h:∀ s',Inv X pins (σ.set i (some v)) H s'->(∃ a,Heap.SameBut a s.heap s'.heap/\(a=X.env.locals\/X.env.cells.lookup x=some a))->Q () s') (hf:X.fn x=true\/X.env.scope.names.lookup x=some .local:=by first|exact .inl rfl|exact .inr rfl|assumption):wpAny M A (storeName X.env x u) Q E s:=by
 obtain ⟨m,hn,hl⟩:=id I.loc;have hcls:(X.env.scope.kind==.class||(X.env.scope.kind==.module&&X.env.locals != X.env.globals))=false:=by rw [I.ok.kind];rfl
 have hiσ:i<σ.length:=by rw [I.len];exact (List.getElem?_eq_some_iff.mp hi).1
 have cne:=I.cne;have tracked:∀ {a:Addr} {h':Heap},(∃ o,s.heap.get? a=some o/\H a=none)->Heap.SameBut a s.heap h'->HOk X.prog X.w H h':=λ{a h'} ha hs b ob e=>by
  obtain ⟨_,_,hfree⟩:=ha;refine (I.hok b ob e).stay (λc w' hc q=>(hs.2 c ?_).trans q) (λ_ q=>q) λ_ _ q=>q;rintro rfl;rcases hc with rfl|hc
  ·rw [hfree] at e;cases e
  ·rw [hfree] at hc;cases hc
 rcases hx with hk|hk
 ·refine wpAny_storeName_local hk hn (λh' hn' hs=>?_) hcls;obtain ⟨oL,_,_,hoL,_⟩:=id hn;refine h _ ⟨I.ok,I.os,I.bare,⟨λb o e n hb hx=>?_,λb o e n hb hx=>?_,I.base.free,λb o e hx=>?_,I.base.tups,I.base.frzs,I.base.tbls⟩,⟨_,hn',λj y v' e1 e2 e3=>?_⟩,λy c e=>?_,I.free,I.freeC,λp hp=>?_,tracked ⟨oL,hoL,I.free⟩ hs,by simpa using I.len⟩ ⟨_,hs,.inl rfl⟩
  ·exact (hs.2 b (Nat.ne_of_lt (Nat.lt_of_lt_of_le (Heap.lt_size e) I.ok.above))).trans (I.base.keep b o e n hb hx)
  ·obtain ⟨sl,e1⟩:=I.base.slot b o e n hb hx;exact ⟨sl,(hs.2 b (Nat.ne_of_lt (Nat.lt_of_lt_of_le (Heap.lt_size e) I.ok.above))).trans e1⟩
  ·obtain ⟨o',e1⟩:=I.base.there b o e hx;exact ⟨o',(hs.2 b (Nat.ne_of_lt (Nat.lt_of_lt_of_le (Heap.lt_size e) I.ok.above))).trans e1⟩
  ·by_cases hj:j=i
   ·subst hj;rw [hi] at e1;cases e1;rw [List.getElem?_set_self hiσ] at e2;cases e2;exact ⟨u,r,.inl ⟨hk,by simp⟩⟩
   ·rw [List.getElem?_set_ne (Ne.symm hj)] at e2;obtain ⟨u',r',q⟩:=hl j y v' e1 e2 e3;refine ⟨u',r',?_⟩;rcases q with ⟨k,e⟩|⟨k,c,e,z⟩
    ·refine .inl ⟨k,?_⟩;have:y≠x:=λe=>hj (DL hN e1 (e▸hi));simp [this,e]
    ·exact .inr ⟨k,c,e,z.sameBut hs (cne y c e)⟩
  ·obtain ⟨w',z⟩:=I.cell y c e;exact ⟨w',z.sameBut hs (cne y c e)⟩
  ·obtain ⟨e,n,ne,nf,d⟩:=I.pin p hp;exact ⟨(hs.2 p.1 ne).trans e,n,ne,nf,d⟩
 ·have hfn:X.fn x=true:=by
   rcases hf with z|z
   ·exact z
   ·rw [z] at hk;cases hk
  obtain ⟨c,hc⟩:=I.ok.has x (.inl hk);obtain ⟨w',z⟩:=I.cell x c hc;refine wpAny_storeName_cell I.ok.kind hk hc z (λh' hc' hs=>?_);obtain ⟨oc,hoc,hocd⟩:=id z;refine h { s with heap:=h' } ⟨I.ok,I.os,I.bare,⟨λb o e n hb hx=>?_,λb o e n hb hx=>?_,I.base.free,λb o e hx=>?_,I.base.tups,I.base.frzs,I.base.tbls⟩,⟨m,hn.sameBut hs (Ne.symm (cne x c hc)),λj y v' e1 e2 e3=>?_⟩,λy c' e=>?_,I.free,I.freeC,λp hp=>?_,tracked ⟨oc,hoc,I.freeC x c hc⟩ hs,by simpa using I.len⟩ ⟨c,hs,.inr hc⟩
  ·exact (hs.2 b (Nat.ne_of_lt (Nat.lt_of_lt_of_le (Heap.lt_size e) (I.ok.cab x c hfn hc)))).trans (I.base.keep b o e n hb hx)
  ·obtain ⟨sl,e1⟩:=I.base.slot b o e n hb hx;exact ⟨sl,(hs.2 b (Nat.ne_of_lt (Nat.lt_of_lt_of_le (Heap.lt_size e) (I.ok.cab x c hfn hc)))).trans e1⟩
  ·obtain ⟨o',e1⟩:=I.base.there b o e hx;exact ⟨o',(hs.2 b (Nat.ne_of_lt (Nat.lt_of_lt_of_le (Heap.lt_size e) (I.ok.cab x c hfn hc)))).trans e1⟩
  ·by_cases hj:j=i
   ·subst hj;rw [hi] at e1;cases e1;rw [List.getElem?_set_self hiσ] at e2;cases e2;exact ⟨u,r,.inr ⟨.inl hk,c,hc,hc'⟩⟩
   ·rw [List.getElem?_set_ne (Ne.symm hj)] at e2;obtain ⟨u',r',q⟩:=hl j y v' e1 e2 e3;refine ⟨u',r',?_⟩;rcases q with q|⟨k,c',e,z'⟩
    ·exact .inl q
    ·refine .inr ⟨k,c',e,z'.sameBut hs ?_⟩;rintro rfl;exact hj (DL hN e1 (I.ok.inj _ _ _ e hc▸hi))
  ·by_cases hcc:c'=c
   ·subst hcc;exact ⟨_,hc'⟩
   ·obtain ⟨w2,z2⟩:=I.cell y c' e;exact ⟨w2,z2.sameBut hs hcc⟩
  ·obtain ⟨e,n,ne,nf,d⟩:=I.pin p hp;refine ⟨(hs.2 p.1 ?_).trans e,n,ne,nf,d⟩;intro q;rw [q,hoc] at e;have q':oc=p.2:=Option.some.inj e;exact d w' (by rw [← q'];exact hocd)
def JP {M:Model} {A:Around} {E:Value->Shared->Prop} {i:Nat} {x:Str} {v:V} {u:Value} {Q:Unit->Shared->Prop} (I:Inv X pins σ H s) (hN:X.N.Nodup) (hi:X.N[i]?=some x) (hx:Loc X.env.scope x) (r:zW v u)
  (h:∀ s',Inv X pins (σ.set i (some v)) H s'->Q () s') (hf:X.fn x=true\/X.env.scope.names.lookup x=some .local:=by first|exact .inl rfl|exact .inr rfl|assumption):wpAny M A (storeName X.env x u) Q E s:=
 UD I hN hi hx r (λs' I' _=>h s' I') hf
def Inv.call' {s':Shared} {ch:List Addr} (I:Inv X pins σ H s) (ho:s'.os=s.os) (u:Un (frs X.stack) ch H H' s.heap s'.heap) (hok:HOk X.prog X.w H' s'.heap) (hg:AllBare s'.gens)
  (hch:∀ b∈ch,(b∈X.ex\/X.s₀.heap.objs.size<=b)/\b≠X.env.locals/\(∀ x c,X.env.cells.lookup x=some c->c≠b)/\∀ p∈X.pn++pins,p.1≠b):Inv X pins σ H' s':=by
 obtain ⟨h',g',d',t',o'⟩:=s';have e:o'=s.os:=ho;subst e;exact I.call (g':=g') (t':=t') (d':=d') u hok hg hch
end
abbrev XK:=Value->Option Addr->Hp->Prop
abbrev St:=List (Option V)
abbrev VK:=V->Hp->Prop
abbrev TE:=St->Hp->VK->Prop
abbrev TT:=St->Hp->(Bool->Hp->Prop)->Prop
abbrev TA:=St->Hp->(List V->Hp->Prop)->Prop
structure Ends where
 nx:St->Hp->Prop
 rt:VK
 bk:St->Hp->Prop:=λ_ _=>False
 ct:St->Hp->Prop:=λ_ _=>False
abbrev TS:=Ends->St->Hp->Prop
def EP (X:Cx) (pins:List (Addr×Obj)) (σ:St) (Q:VK) (u:Value) (s':Shared):Prop:=∃ v H',Inv X pins σ H' s'/\zW v u/\Q v H'
def TP (X:Cx) (pins:List (Addr×Obj)) (σ:St) (Q:Bool->Hp->Prop) (b:Bool) (s':Shared):Prop:=∃ H',Inv X pins σ H' s'/\Q b H'
def AP (X:Cx) (pins:List (Addr×Obj)) (σ:St) (Q:List V->Hp->Prop) (us:List Value) (s':Shared):Prop:=∃ vs H',Inv X pins σ H' s'/\zq vs us/\Q vs H'
def SP (X:Cx) (pins:List (Addr×Obj)) (D:Ends) (f:Flow) (s':Shared):Prop:=
 match f with
 |.next=>∃ σ' H',Inv X pins σ' H' s'/\D.nx σ' H'
 |.brk=>∃ σ' H',Inv X pins σ' H' s'/\D.bk σ' H'
 |.cont=>∃ σ' H',Inv X pins σ' H' s'/\D.ct σ' H'
 |.ret u=>∃ v σ' H',Inv X pins σ' H' s'/\zW v u/\D.rt v H'
def PE (X:Cx) (e:Expr) (t:TE):Prop:=
 ∀ (pins:List (Addr×Obj)) (s:Shared) (σ:St) (H:Hp) (Q:VK),Inv X pins σ H s->t σ H Q->wpAny (model X.prog X.w) X.A (eval e X.env) (EP X pins σ Q) X.xe s
def PT (X:Cx) (e:Expr) (t:TT):Prop:=
 ∀ (pins:List (Addr×Obj)) (s:Shared) (σ:St) (H:Hp) (Q:Bool->Hp->Prop),Inv X pins σ H s->t σ H Q->wpAny (model X.prog X.w) X.A (isTrue e X.env (eval e X.env)) (TP X pins σ Q) X.xe s
def PW (X:Cx) (e:Expr) (t:TT):Prop:=
 ∀ (whole:Sem Value) (pins:List (Addr×Obj)) (s:Shared) (σ:St) (H:Hp) (Q:Bool->Hp->Prop),Inv X pins σ H s->t σ H Q->wpAny (model X.prog X.w) X.A (isTrue e X.env whole) (TP X pins σ Q) X.xe s
def PW.pt {X:Cx} {e:Expr} {t:TT} (h:PW X e t):PT X e t:=h _
def PA (X:Cx) (es:List Expr) (t:TA):Prop:=
 ∀ (pos:Pos) (pins:List (Addr×Obj)) (s:Shared) (σ:St) (H:Hp) (Q:List V->Hp->Prop),Inv X pins σ H s->t σ H Q->wpAny (model X.prog X.w) X.A (spliced (backTo pos (starEach es X.env))) (AP X pins σ Q) X.xe s
def PS (X:Cx) (st:Stmt) (t:TS):Prop:=
 ∀ (pins:List (Addr×Obj)) (s:Shared) (σ:St) (H:Hp) (D:Ends),Inv X pins σ H s->t D σ H->wpAny (model X.prog X.w) X.A (exec st X.env) (SP X pins D) X.xe s
def PSs (X:Cx) (st:List Stmt) (t:TS):Prop:=
 ∀ (pins:List (Addr×Obj)) (s:Shared) (σ:St) (H:Hp) (D:Ends),Inv X pins σ H s->t D σ H->wpAny (model X.prog X.w) X.A (execs st X.env) (SP X pins D) X.xe s
def thn {α:Type} {t:Sem α} {Q Q':α->Shared->Prop} {M:Model} {A:Around} {E:Value->Shared->Prop} {s:Shared} (h:wpAny M A t Q E s) (hQ:∀ a s,Q a s->Q' a s):wpAny M A t Q' E s:=wpAny_mono h hQ λ_ _ x=>x
section
variable {X:Cx}
def qgw (i:Nat):TE:=λσ H Q=>∃ v,σ[i]?=some (some v)/\Q v H
def tC (v:V):TE:=λ_ H Q=>Q v H
def qbp {i:Nat} {x:Str} {pos:Pos} (hN:X.N[i]?=some x) (hv:Vis X.env.scope x) (hd:(x==("__debug__" : Str))=false:=by decide) (hcd:(x==("__classdict__" : Str))=false:=by decide):PE X (.Name x pos) (qgw i):=by
 intro pins s σ H Q I h;obtain ⟨v,e,h⟩:=h;obtain ⟨m,hn,hl⟩:=I.loc;obtain ⟨u,r,l⟩:=hl i x v hN e hv;have fin:EP X pins σ Q u s:=⟨v,H,I,r,h⟩
 rcases l with ⟨hk,hm⟩|⟨hk,c,hc,hcell⟩
 ·exact wpAny_Name (wpAny_loadName_local I.ok.kind hk hn hm fin) hd
 ·rcases hk with hk|hk
  ·exact wpAny_Name (wpAny_loadName_cell I.ok.kind hk hc hcell fin) hd
  ·exact wpAny_Name (wpAny_loadName_free I.ok.kind hk hc hcell fin hcd) hd
def qbD {i j pos}:PE X (.Constant (.int i) j pos) (tC (.int i)):=λ_ _ _ H _ I h=>wpAny_Constant_int ⟨.int i,H,I.tok _,⟨_,rfl⟩,h⟩
def qe9 {b j pos}:PE X (.Constant (.bool b) j pos) (tC (.bl b)):=λ_ _ _ H _ I h=>Constant_bool ⟨.bl b,H,I,rfl,h⟩
def qaY {x j pos}:PE X (.Constant (.str x) j pos) (tC (.str x)):=λ_ _ _ H _ I h=>Calls.Constant_str ⟨.str x,H,I.tok _,⟨_,rfl⟩,h⟩
def Gl (X:Cx) (x:Str):Prop:=X.env.kindOf x=some .globalImplicit
def qak {E:Value->Shared->Prop} {pins:List (Addr×Obj)} {s:Shared} {σ:St} {H:Hp} {x:Str} {u:Value} {pos:Pos} {Q:Value->Shared->Prop} (I:Inv X pins σ H s) (hg:Gl X x) (hm:X.mg x=some u) (h:Q u s)
  (hd:(x==("__debug__" : Str))=false:=by decide):wpAny (model X.prog X.w) X.A (eval (.Name x pos) X.env) Q E s:=
 Calls.Name_function_global I.ok.kind hg (Calls.loadGlobal_global (by rw [I.ok.glob];exact I.mod.glob.keeps I.bk) hm h) hd
def UQ {E:Value->Shared->Prop} {pins:List (Addr×Obj)} {s:Shared} {σ:St} {H:Hp} {x:Str} {u:Value} {pos:Pos} {Q:Value->Shared->Prop} (I:Inv X pins σ H s) (hg:Gl X x) (hm:X.mg x=none) (hv:bootBuiltins x=some u) (h:Q u s)
  (hn:x≠"__name__" := by decide) (hd:(x==("__debug__" : Str))=false:=by decide):wpAny (model X.prog X.w) X.A (eval (.Name x pos) X.env) Q E s:=by
 obtain ⟨mb,h1,h2⟩:=I.mod.blt;exact Calls.Name_function_global I.ok.kind hg (Calls.loadGlobal_builtin (by rw [I.ok.glob];exact I.mod.glob.keeps I.bk) hm (by rw [I.ok.blt];exact h1.keeps I.bk) ((h2 x hn).trans hv) h) hd
def qal {x:Str} {v:V} {u:Value} {pos:Pos} (hg:Gl X x) (hm:X.mg x=none) (hv:bootBuiltins x=some u) (r:zW v u) (hn:x≠"__name__" := by decide) (hd:(x==("__debug__" : Str))=false:=by decide):PE X (.Name x pos) (tC v):=
 λ_ _ _ H _ I h=>UQ I hg hm hv ⟨v,H,I,r,h⟩ hn hd
variable {a b:Expr} {ta tb:TE} {pos:Pos}
def tB (t:TE):TT:=λσ H Q=>t σ H λx H1=>∃ c,x=.bl c/\Q c H1
def qaM {e:Expr} {t:TE} (h:PE X e t) (he:∀ whole,isTrue e X.env whole=(do let v←whole;standAt e.pos;holding [v] (truthy v)):=by intro _;rfl):PT X e (tB t):=by
 intro pins s σ H Q I hw;refine isTrue_plain (thn (h pins s σ H _ I hw) λv s1 ⟨x,H1,I1,r1,q1⟩=>?_) (he _);obtain ⟨d,rfl,q⟩:=q1;cases r1;exact wpAny_truthy_bool ⟨H1,I1,q⟩
variable {tA tB':TT} {QP:List Expr}
def qf9 (t u:TT):TT:=λσ H Q=>t σ H λc H1=>if c=true then u σ H1 Q else Q false H1
def tOr (t u:TT):TT:=λσ H Q=>t σ H λc H1=>if c=true then Q true H1 else u σ H1 Q
def qf0 (t:TT):TT:=λσ H Q=>t σ H λc H1=>Q (!c) H1
def qao (ha:PT X a tA):PW X (.BoolOp .And [a] pos) tA:=by
 intro wh pins s σ H Q I h;refine isTrue_and (thn (ha pins s σ H Q I h) λc s1 e=>?_);cases c with
 |true=>exact isTrue_and_nil e
 |false=>exact e
def qbt (ha:PT X a tA):PW X (.BoolOp .Or [a] pos) tA:=by
 intro wh pins s σ H Q I h;refine isTrue_or (thn (ha pins s σ H Q I h) λc s1 e=>?_);cases c with
 |false=>exact isTrue_or_nil e
 |true=>exact e
def qcu (ha:PT X a tA) (hb:PW X (.BoolOp .And (b::QP) pos) tB'):PW X (.BoolOp .And (a::b::QP) pos) (qf9 tA tB'):=by
 intro wh pins s σ H Q I h;refine isTrue_and (thn (ha pins s σ H _ I h) λc s1 ⟨H1,I1,q1⟩=>?_);cases c with
 |true=>exact hb wh pins s1 σ H1 Q I1 q1
 |false=>exact ⟨H1,I1,q1⟩
def qec (ha:PT X a tA) (hb:PW X (.BoolOp .Or (b::QP) pos) tB'):PW X (.BoolOp .Or (a::b::QP) pos) (tOr tA tB'):=by
 intro wh pins s σ H Q I h;refine isTrue_or (thn (ha pins s σ H _ I h) λc s1 ⟨H1,I1,q1⟩=>?_);cases c with
 |true=>exact ⟨H1,I1,q1⟩
 |false=>exact hb wh pins s1 σ H1 Q I1 q1
def qdf (ha:PT X a tA):PT X (.UnaryOp .Not a pos) (qf0 tA):=by
 intro pins s σ H Q I h;exact isTrue_not (ha pins s σ H (λc H1=>Q (!c) H1) I h)
def tIf (t:TT) (ta tb:TE):TE:=λσ H Q=>t σ H λc H1=>if c=true then ta σ H1 Q else tb σ H1 Q
def TR {c:Expr} (hc:PT X c tA) (ha:PE X a ta) (hb:PE X b tb):PE X (.IfExp c a b pos) (tIf tA ta tb):=by
 intro pins s σ H Q I h;refine wpAny_IfExp (thn (hc pins s σ H _ I h) λd s1 ⟨H1,I1,q1⟩=>?_);cases d with
 |true=>exact ha pins s1 σ H1 Q I1 q1
 |false=>exact hb pins s1 σ H1 Q I1 q1
end
def SqL (K:Frg) (H:Hp) (a:Addr) (xs:List V):Prop:=
 Rd H a (.lst xs) ∨
  ∃ (o:Obj) (its:Array Value) (n:Nat),K.lookup a=some o/\o.cls=.type "list"/\o.dict=none/\o.data=.seq its n/\its.size<=sizeLine/\zq xs its.toList
def SqT (K:Frg) (H:Hp) (a:Addr) (xs:List V):Prop:=
 Rd H a (.tup xs) ∨
  ∃ (o:Obj) (its:Array Value) (n:Nat),K.lookup a=some o/\o.cls=.type "tuple"/\o.data=.seq its n/\its.size<=sizeLine/\zq xs its.toList/\o.dict=none
def qgz:Value->Option V
 |.none=>some .non
 |.bool b=>some (.bl b)
 |.int i _=>some (.int i)
 |.str x _=>some (.str x)
 |.bytes b _=>some (.byt b)
 |.float b _=>some (.flt b)
 |.ref a=>some (.ref a)
 |.type n=>some (.ty n)
 |_=>none
def zW.abs {x:V} {u:Value} (r:zW x u):qgz u=some x:=by
 cases x with
 |non=>cases r;rfl
 |bl _=>cases r;rfl
 |int _=>obtain ⟨t,rfl⟩:=r;rfl
 |str _=>obtain ⟨t,rfl⟩:=r;rfl
 |byt _=>obtain ⟨t,rfl⟩:=r;rfl
 |flt _=>obtain ⟨t,rfl⟩:=r;rfl
 |ref _=>cases r;rfl
 |ty _=>cases r;rfl
def zW.inj {x y:V} {u:Value} (r:zW x u) (q:zW y u):x=y:=Option.some.inj (r.abs.symm.trans q.abs)
def zq.inj:∀ {xs ys:List V} {us:List Value},zq xs us->zq ys us->xs=ys
 |_,_,_,.nil,.nil=>rfl
 |_,_,_,.cons r t,.cons r' t'=>by rw [r.inj r',zq.inj t t']
section
variable {X:Cx} {pins:List (Addr×Obj)} {σ:St} {H:Hp} {s:Shared} {a:Addr} {xs ys:List V}
def SqL.of {K:Frg} (h:H a=some (.lst xs)):SqL K H a xs:=.inl (.inl h)
def SqT.of {K:Frg} (h:H a=some (.tup xs)):SqT K H a xs:=.inl (.inl h)
def Inv.list (I:Inv X pins σ H s) (h:SqL X.K H a xs):∃ its:List Value,zq xs its/\PlainL s.heap a its.toArray/\xs.length<=sizeLine:=by
 rcases h with h|⟨o,its,n,hk,hc,hd,hs,hz,r⟩
 ·obtain ⟨z,its,n,r,e⟩:=h.ok I.hok;exact ⟨its,r,⟨_,n,e,rfl,rfl,rfl⟩,z⟩
 ·refine ⟨its.toList,r,⟨o,n,I.kIn a o hk,hc,hd,by simpa using hs⟩,?_⟩;have e:=r.length;simp only [Array.length_toList] at e;omega
def Inv.tuple (I:Inv X pins σ H s) (h:SqT X.K H a xs):∃ its:List Value,zq xs its/\IsTup s.heap a its.toArray/\xs.length<=sizeLine:=by
 rcases h with h|⟨o,its,n,hk,hc,hs,hz,r,_⟩
 ·obtain ⟨z,its,r,p⟩:=h.ok I.hok;exact ⟨its,r,p.tup,z⟩
 ·refine ⟨its.toList,r,⟨o,I.kIn a o hk,hc,n,by simpa using hs⟩,?_⟩;have e:=r.length;simp only [Array.length_toList] at e;omega
def Inv.list_inj (I:Inv X pins σ H s) (h:SqL X.K H a xs) (h':SqL X.K H a ys):xs=ys:=by
 obtain ⟨its,r,⟨o,n,e,_,_,d⟩,_⟩:=I.list h;obtain ⟨its',r',⟨o',n',e',_,_,d'⟩,_⟩:=I.list h';rw [e] at e';cases e';rw [d] at d';injection d' with d1 _;have:its=its':=by simpa using congrArg Array.toList d1
 subst this;exact r.inj r'
def Inv.tuple_inj (I:Inv X pins σ H s) (h:SqT X.K H a xs) (h':SqT X.K H a ys):xs=ys:=by
 obtain ⟨its,r,⟨o,e,_,n,d⟩,_⟩:=I.tuple h;obtain ⟨its',r',⟨o',e',_,n',d'⟩,_⟩:=I.tuple h';rw [e] at e';cases e';rw [d] at d';injection d' with d1 _;have:its=its':=by simpa using congrArg Array.toList d1
 subst this;exact r.inj r'
end
abbrev Cx.wish (X:Cx) (E:Value->Shared->Prop):Cx:={ X with xe:=E }
abbrev Cx.nox (X:Cx):Cx:=X.wish λ_ _=>False
def Cx.Ok.wish {X:Cx} (ok:X.Ok) (E:Value->Shared->Prop):(X.wish E).Ok:=
 ⟨ok.mod,ok.kind,ok.glob,ok.blt,ok.above,ok.inj,ok.has,ok.cab,ok.hd,ok.frames,ok.stk,ok.exf,ok.bs,ok.bsz,ok.noex,ok.exfs,ok.funs,ok.frf⟩
def Cx.Ok.unwish {X:Cx} {E:Value->Shared->Prop} (ok:(X.wish E).Ok):X.Ok:=
 ⟨ok.mod,ok.kind,ok.glob,ok.blt,ok.above,ok.inj,ok.has,ok.cab,ok.hd,ok.frames,ok.stk,ok.exf,ok.bs,ok.bsz,ok.noex,ok.exfs,ok.funs,ok.frf⟩
section
variable {X:Cx} {pins:List (Addr×Obj)} {σ:St} {H:Hp} {s:Shared} {E:Value->Shared->Prop}
def Inv.wish (I:Inv X pins σ H s) (E:Value->Shared->Prop):Inv (X.wish E) pins σ H s:=⟨I.ok.wish E,I.os,I.bare,I.base,I.loc,I.cell,I.free,I.freeC,I.pin,I.hok,I.len⟩
def Inv.unwish (I:Inv (X.wish E) pins σ H s):Inv X pins σ H s:=⟨I.ok.unwish,I.os,I.bare,I.base,I.loc,I.cell,I.free,I.freeC,I.pin,I.hok,I.len⟩
def SP.unwish {D:Ends} {f:Flow} {s':Shared} (h:SP (X.wish E) pins D f s'):SP X pins D f s':=by
 cases f with
 |next=>obtain ⟨σ',H',I,q⟩:=h;exact ⟨σ',H',I.unwish,q⟩
 |brk=>obtain ⟨σ',H',I,q⟩:=h;exact ⟨σ',H',I.unwish,q⟩
 |cont=>obtain ⟨σ',H',I,q⟩:=h;exact ⟨σ',H',I.unwish,q⟩
 |ret u=>obtain ⟨v,σ',H',I,r,q⟩:=h;exact ⟨v,σ',H',I.unwish,r,q⟩
def PSs.nox {st:List Stmt} {t:TS} (h:PSs X.nox st t):PSs X st t:=λpins s σ H D I hw=>
 wpAny_mono (h pins s σ H D (I.wish _) hw) (λ_ _ q=>q.unwish) λ_ _ z=>False.elim z
end
section
variable {X:Cx} {st:Stmt} {QP:List Stmt} {t u:TS} {e:Expr} {te:TE} {pos:Pos}
def qeY:TS:=λD σ H=>D.nx σ H
def qgj (t u:TS):TS:=λD σ H=>t { D with nx:=u D } σ H
def qay:PSs X [] qeY:=λ_ _ σ H _ I h=>wpAny_execs_nil ⟨σ,H,I,h⟩
def T0 (h1:PS X st t) (h2:PSs X QP u):PSs X (st::QP) (qgj t u):=by
 intro pins s σ H D I h;refine wpAny_execs_cons (thn (h1 pins s σ H { D with nx:=u D } I h) λf s1 q=>?_);cases f with
 |next=>
  obtain ⟨σ',H',I',q⟩:=q;exact h2 pins s1 σ' H' D I' q
 |ret v=>exact q
 |brk=>exact q
 |cont=>exact q
def N0 (h1:PS X st t):PSs X [st] t:=by
 intro pins s σ H D I h;refine wpAny_execs_cons (thn (h1 pins s σ H D I h) λf s1 q=>?_);cases f with
 |next=>exact wpAny_execs_nil q
 |ret v=>exact q
 |brk=>exact q
 |cont=>exact q
def Inv.quiet {pins:List (Addr×Obj)} {σ:St} {H:Hp} {s:Shared} (I:Inv X pins σ H s):interactive X.env=false:=by simp [interactive,I.ok.kind]
def qe2 (te:TE):TS:=λD σ H=>te σ H λ_ H1=>D.nx σ H1
def qad (he:PE X e te) (hs:swapsWith e none pos.line X.env=pure false:=by rfl):PS X (.Expr e pos) (qe2 te):=by
 intro pins s σ H D I h;exact wpAny_Expr_any (thn (he pins s σ H _ I h) λv s1 ⟨x,H1,I1,r1,q1⟩=>⟨σ,H1,I1,q1⟩) I.quiet hs
def qfZ (te:TE):TS:=λD σ H=>te σ H D.rt
def qcC (he:PE X e te):PS X (.Return (some e) pos) (qfZ te):=by
 intro pins s σ H D I h;exact wpAny_Return_some (thn (he pins s σ H _ I h) λv s1 ⟨x,H1,I1,r1,q1⟩=>⟨x,σ,H1,I1,r1,q1⟩)
def qgD (c:TT) (t u:TS):TS:=λD σ H=>c σ H λb H1=>if b=true then t D σ H1 else u D σ H1
def qdX {c:Expr} {a b:List Stmt} {tc:TT} (hc:PT X c tc) (ha:PSs X a t) (hb:PSs X b u):PS X (.If c a b pos) (qgD tc t u):=by
 intro pins s σ H D I h;refine wpAny_If (thn (hc pins s σ H _ I h) λd s1 ⟨H1,I1,q1⟩=>?_);cases d with
 |true=>exact ha pins s1 σ H1 D I1 q1
 |false=>exact hb pins s1 σ H1 D I1 q1
end
abbrev TG:=V->St->Hp->(St->Hp->Prop)->Prop
abbrev TGs:=List V->St->Hp->(St->Hp->Prop)->Prop
def PG (X:Cx) (target:Expr) (t:TG):Prop:=
 ∀ (pins:List (Addr×Obj)) (s:Shared) (σ:St) (H:Hp) (v:V) (u:Value) (Q:St->Hp->Prop),Inv X pins σ H s->zW v u->t v σ H Q ->
  wpAny (model X.prog X.w) X.A (assign target X.env u) (λ_ s'=>∃ σ' H',Inv X pins σ' H' s'/\Q σ' H') X.xe s
def PGs (X:Cx) (ts:List Expr) (t:TGs):Prop:=
 ∀ (pins:List (Addr×Obj)) (s:Shared) (σ:St) (H:Hp) (vs:List V) (us:List Value) (Q:St->Hp->Prop),Inv X pins σ H s->zq vs us->t vs σ H Q ->
  wpAny (model X.prog X.w) X.A (assignInOrder ((assignEach ts X.env).map (·.2)) us) (λ_ s'=>∃ σ' H',Inv X pins σ' H' s'/\Q σ' H') X.xe s
abbrev qeQ:=V->V->V->Hp->(Hp->Prop)->Prop
def qfw (X:Cx) (t:qeQ):Prop:=
 ∀ (pins:List (Addr×Obj)) (s:Shared) (σ:St) (H:Hp) (o i v:V) (ov iv u:Value) (Q:Hp->Prop),Inv X pins σ H s->zW o ov->zW i iv->zW v u->t o i v H Q ->
  wpAny (model X.prog X.w) X.A (setItem ov iv u) (λ_ s'=>∃ H',Inv X pins σ H' s'/\Q H') X.xe s
section
variable {X:Cx} {pos:Pos}
def NT (i:Nat):TG:=λv σ H Q=>Q (σ.set i (some v)) H
def qae {i:Nat} {x:Str} (hN:X.N.Nodup) (hi:X.N[i]?=some x) (hx:Loc X.env.scope x) (hf:X.fn x=true\/X.env.scope.names.lookup x=some .local:=by first|exact .inl rfl|exact .inr rfl|assumption):PG X (.Name x pos) (NT i):=by
 intro pins s σ H v u Q I r h;exact wpAny_assign_Name (JP I hN hi hx r (λs' I'=>⟨_,H,I',h⟩) hf)
def NL:TGs:=λvs σ H Q=>vs=[]/\Q σ H
def Z5 (t:TG) (u:TGs):TGs:=λvs σ H Q=>∃ v r,vs=v::r/\t v σ H λσ' H'=>u r σ' H' Q
def N9:PGs X [] NL:=by
 intro pins s σ H vs us Q I r h;obtain ⟨e,h⟩:=h;subst e;cases r;exact assignInOrder_nil ⟨σ,H,I,h⟩
def KN {e:Expr} {es:List Expr} {t:TG} {u:TGs} (h1:PG X e t) (h2:PGs X es u)
  (hs:(assignEach (e::es) X.env).map (·.2)=assign e X.env::(assignEach es X.env).map (·.2):=by rfl):PGs X (e::es) (Z5 t u):=by
 intro pins s σ H vs us Q I r h;obtain ⟨v,vr,e1,h⟩:=h;subst e1;cases r with
 |cons r rr=>
  rw [hs];refine assignInOrder_cons (thn (h1 pins s σ H _ _ _ I r h) λ_ s1 ⟨σ1,H1,I1,q1⟩=>?_);exact h2 pins s1 σ1 H1 _ _ Q I1 rr q1
def qaG (K:Frg) (n:Nat) (t:TGs):TG:=λv σ H Q=>∃ a xs,v=.ref a/\SqT K H a xs/\xs.length=n/\t xs σ H Q
def qbF {es:List Expr} {k:Nat} {t:TGs} {n:Nat} (hc:X.calm=true) (h:PGs X es t)
  (hn:(assignEach es X.env).length=n:=by rfl) (hst:(assignEach es X.env).findIdx? (·.1)=none:=by rfl):PG X (.Tuple es k pos) (qaG X.K n t):=by
 intro pins s σ H v u Q I r hw;obtain ⟨a,xs,e1,hq,hl,hw⟩:=hw;subst e1;cases r;obtain ⟨its,rv,ht,hz⟩:=I.tuple hq;refine assign_Tuple_tuple (I.ok.hd hc) ht (by simp [hn,← hl,rv.length]) hst λh' hx=>?_;have I1:Inv X pins σ H { s with heap:=h' }:=I.kept (t':=s.toks) λb o e=>hx b o (Nat.ne_of_lt (Heap.lt_size e)) e;exact h pins _ σ H xs _ Q I1 (by simpa using rv) hw
def qgd (to ti:TE) (t:qeQ):TG:=λv σ H Q=>to σ H λo H1=>ti σ H1 λi H2=>t o i v H2 λH3=>Q σ H3
def qby {o i:Expr} {to ti:TE} {t:qeQ} (ho:PE X o to) (hi:PE X i ti) (hs:qfw X t)
  (ha:∀ v,assign (.Subscript o i pos) X.env v=(do
   let ov←holding [v] (eval o X.env)
   let iv←holding [v,ov] (eval i X.env)
   standAt pos
   holding [v,ov,iv] (setItem ov iv v)
   release [v,ov,iv] []):=by intro _;rfl):PG X (.Subscript o i pos) (qgd to ti t):=by
 intro pins s σ H v u Q I r h;rw [ha];refine wpAny_bind (wpAny_holding (thn (ho pins s σ H _ I h) λov s1 ⟨x,H1,I1,r1,q1⟩=>?_));refine wpAny_bind (wpAny_holding (thn (hi pins s1 σ H1 _ I1 q1) λiv s2 ⟨y,H2,I2,r2,q2⟩=>?_));refine wpAny_bind (wpAny_standAt (wpAny_bind (wpAny_holding (thn (hs pins s2 σ H2 x y v ov iv u _ I2 r1 r2 r q2) λ_ s3 ⟨H3,I3,q3⟩=>?_))));exact wpAny_release ⟨σ,H3,I3,q3⟩
def qdL (te:TE) (g:TG):TS:=λD σ H=>te σ H λx H1=>g x σ H1 D.nx
def qbT {tg e:Expr} {te:TE} {g:TG} (he:PE X e te) (hg:PG X tg g) (hs:swapsWithSole [tg] e pos.line X.env=pure false:=by rfl) (hw:swappedStores [tg] e X.env=pure none:=by rfl)
  (h1:(assignEach [tg] X.env).map (·.2)=[assign tg X.env]:=by rfl):PS X (.Assign [tg] e pos) (qdL te g):=by
 intro pins s σ H D I h;refine wpAny_Assign_stores (thn (he pins s σ H _ I h) λv s1 ⟨x,H1,I1,r1,q1⟩=>?_) hs hw;rw [h1];exact thn (hg pins s1 σ H1 x v _ I1 r1 q1) λ_ s2 q=>q
def qcw {i:Nat} {x:Str} {e:Expr} {te:TE} {pos':Pos} (hN:X.N.Nodup) (hi:X.N[i]?=some x) (hx:Loc X.env.scope x) (he:PE X e te) (hs:swapsWith e (some (.Name x pos')) pos.line X.env=pure false:=by rfl) (hf:X.fn x=true\/X.env.scope.names.lookup x=some .local:=by first|exact .inl rfl|exact .inr rfl|assumption) :
  PS X (.Assign [.Name x pos'] e pos) (qdL te (NT i)):=by
 intro pins s σ H D I h;refine wpAny_Assign_Name (thn (he pins s σ H _ I h) λv s1 ⟨y,H1,I1,r1,q1⟩=>?_) hs;exact JP I1 hN hi hx r1 (λs2 I2=>⟨_,H1,I2,q1⟩) hf
def qfY (i j:Nat) (ta:TA):TS:=λD σ H=>ta σ H λvs H1=>∃ v w,vs=[v,w]/\D.nx ((σ.set i (some v)).set j (some w)) H1
def qcj {i j:Nat} {x y:Str} {a b:Expr} {ta:TA} {px py pt:Pos} {kt k2 pt2} (hc:X.calm=true) (hN:X.N.Nodup) (hi:X.N[i]?=some x) (hj:X.N[j]?=some y) (hij:i≠j)
  (hx:X.env.scope.names.lookup x=some .local) (hy:X.env.scope.names.lookup y=some .local) (ha:PA X [a,b] ta)
  (hw:swappedStores [.Tuple [.Name x px,.Name y py] kt pt] (.Tuple [a,b] k2 pt2) X.env=pure (some [x,y]))
  (hs:swapsWithSole [.Tuple [.Name x px,.Name y py] kt pt] (.Tuple [a,b] k2 pt2) pos.line X.env=pure false:=by rfl) :
  PS X (.Assign [.Tuple [.Name x px,.Name y py] kt pt] (.Tuple [a,b] k2 pt2) pos) (qfY i j ta):=by
 intro pins s σ H D I h;rw [exec_Assign_arm];refine wpAny_bind (wpAny_standAt ?_);rw [hs];refine wpAny_bind (wpAny_pure ?_);rw [if_neg (by decide)];refine wpAny_bind (Tuple_ (thn (ha _ pins s σ H _ I h) λus s1 ⟨vs,H1,I1,r1,q1⟩=>?_));obtain ⟨v,w,e1,q1⟩:=q1;subst e1;obtain ⟨u1,u2,rfl,rv,rw'⟩:∃ u1 u2,us=[u1,u2]/\zW v u1/\zW w u2:=by
  cases r1 with
  |cons p q=>
   cases q with
   |cons p' q'=>
    cases q';exact ⟨_,_,rfl,p,p'⟩
 refine wpAny_newObj_type ?_ (by show 2<=sizeLine;decide);have I2:Inv X pins σ H1 { s1 with heap:=s1.heap.push { cls:=.type "tuple",data:=.seq [u1,u2].toArray } }:=I1.kept (t':=s1.toks) λb o e=>Heap.get?_push_of_some _ e;rw [hw];refine wpAny_bind (wpAny_pure ?_);show wpAny (model X.prog X.w) X.A (do rule "assign.swapped-stores";let items←unpackItems (.ref s1.heap.objs.size) 2 none;assignInOrder [λv=>bindName X.env y v,λv=>bindName X.env x v] items.reverse;pure Flow.next) _ _ _;refine wpAny_bind (wpAny_rule (wpAny_bind (unpackItems_tuple (items:=#[u1,u2]) (I.ok.hd hc) (IsTup.new s1.heap _) λh' hx'=>?_)));have I3:=I2.kept (h':=h') (t':=s1.toks) λb o e=>hx' b o (Nat.ne_of_lt (Heap.lt_size e)) e;show wpAny _ _ (assignInOrder [λv=>bindName X.env y v,λv=>bindName X.env x v] [u2,u1] >>= λ_=>pure Flow.next) _ _ _;refine wpAny_bind (assignInOrder_cons (wpAny_bindName (JP I3 hN hj (.inl hy) rw' (λs2 I4=>?_) (.inr hy))));refine assignInOrder_cons (wpAny_bindName (JP I4 hN hi (.inl hx) rv (λs3 I5=>assignInOrder_nil (wpAny_pure ?_)) (.inr hx)));rw [List.set_comm _ _ (Ne.symm hij)] at I5;exact ⟨_,H1,I5,q1⟩
end
section
variable {X:Cx} {pos:Pos}
def qa0 (c:TT) (tb:TS):TS:=λD σ H=>∃ W:Nat->St->Hp->Prop,(∃ m,W m σ H)/\∀ m σ H,W m σ H ->
 c σ H λb H1=>if b=true then ∃ N:St->Hp->Prop,(∀ σ' H',N σ' H'->∃ m',m'<m/\W m' σ' H')/\tb { D with nx:=N,ct:=N,bk:=D.nx } σ H1 else D.nx σ H1
def TD {c:Expr} {body:List Stmt} {tc:TT} {tb:TS} (hp:PassesOwn (model X.prog X.w) X.A X.env X.xe) (hc:PT X c tc) (hb:PSs X body tb):PS X (.While c body [] pos) (qa0 tc tb):=by
 intro pins s σ H D I h;obtain ⟨W,⟨m0,w0⟩,turn⟩:=h;refine wpAny_While (codeAny_whileLoop (λn s'=>∃ σ' H',Inv X pins σ' H' s'/\W n σ' H') ?_ m0 ⟨σ,H,I,w0⟩);rintro n s1 ⟨σ1,H1,I1,w1⟩;refine wpAny_passesOwn hp (thn (hc pins s1 σ1 H1 _ I1 (turn n σ1 H1 w1)) λb s2 ⟨H2,I2,q2⟩=>?_);cases b with
 |true=>
  obtain ⟨N,hN,q2⟩:=q2;rw [if_pos rfl];refine wpAny_passesOwn hp (thn (hb pins s2 σ1 H2 _ I2 q2) λf s3 q3=>?_);cases f with
  |next=>
   obtain ⟨σ3,H3,I3,n3⟩:=q3;obtain ⟨m',hm,w3⟩:=hN σ3 H3 n3;exact ⟨m',hm,σ3,H3,I3,w3⟩
  |cont=>
   obtain ⟨σ3,H3,I3,n3⟩:=q3;obtain ⟨m',hm,w3⟩:=hN σ3 H3 n3;exact ⟨m',hm,σ3,H3,I3,w3⟩
  |brk=>exact q3
  |ret v=>exact q3
 |false=>
  rw [if_neg Bool.false_ne_true];exact wpAny_execs_nil ⟨σ1,H2,I2,q2⟩
end
structure It where
 go:Nat->Hp->Prop
 yld:Nat->Hp->V->Hp->Prop
 stop:Nat->Hp->Prop
def DY (X:Cx) (pins:List (Addr×Obj)) (H:Hp) (b:Addr):Prop:=
 H b=none/\b≠X.env.locals/\b∉X.fs/\(b∈X.ex\/X.s₀.heap.objs.size<=b)/\(∀ x c,X.env.cells.lookup x=some c->c≠b)/\∀ p∈X.pn++pins,p.1≠b
def Inv.fpOk {X:Cx} {pins:List (Addr×Obj)} {σ:St} {H H':Hp} {s:Shared} {b:Addr} (I:Inv X pins σ H s) (hb:s.heap.objs.size<=b) (hn:H' b=none):DY X pins H' b:=by
 refine ⟨hn,Nat.ne_of_gt (Nat.lt_of_lt_of_le I.lt hb),I.nofs hb,.inr (Nat.le_trans I.sz hb),λx c e z=>?_,λp hp z=>?_⟩
 ·obtain ⟨v,q⟩:=I.cell x c e;exact absurd (Nat.lt_of_lt_of_le q.lt (by rw [z];exact hb)) (Nat.lt_irrefl _)
 ·exact absurd (Nat.lt_of_lt_of_le (Heap.lt_size (I.pin p hp).1) (by rw [z];exact hb)) (Nat.lt_irrefl _)
structure Turn (P:Program) (w:World) (K:Frg) (tg:Expr) (J:It) (fp:List Addr) (it:Addr) (tn:Nat->Heap->Prop):Prop where
 mem:it∈fp
 obj:∀ i h,tn i h->∀ b∈fp,∃ o,h.get? b=some o/\∀ v,o.data≠.cell v
 keep:∀ i h h',tn i h->(∀ b∈fp,∀ o,h.get? b=some o->h'.get? b=some o)->tn i h'
 item:∀ (X:Cx),X.prog=P->X.w=w->X.K=K->X.calm=true->∀ (i:Nat) (pins:List (Addr×Obj)) (s:Shared) (σ:St) (H:Hp) (E:Value->Shared->Prop),Inv X pins σ H s->(∀ b∈fp,DY X pins H b)->tn i s.heap->J.go i H ->
  wpAny (model P w) X.A (pyNext (.ref it)) (λr s1=>∃ u,r=some u /\
   wpAny (model P w) X.A (letOwnedTupleGo tg (.ref it) u) (λ_ s2=>∃ x H',Inv X pins σ H' s2/\zW x u/\J.yld i H x H'/\tn (i+1) s2.heap/\∀ b∈fp,H' b=none) E s1) E s
 done:∀ (X:Cx),X.prog=P->X.w=w->X.K=K->X.calm=true->∀ (i:Nat) (pins:List (Addr×Obj)) (s:Shared) (σ:St) (H:Hp) (E:Value->Shared->Prop),Inv X pins σ H s->(∀ b∈fp,DY X pins H b)->tn i s.heap->J.stop i H ->
  wpAny (model P w) X.A (pyNext (.ref it)) (λr s1=>r=none/\Inv X pins σ H s1) E s
 self:∀ (A:Around) (i:Nat) (s:Shared) (Q:Value->Shared->Prop) (E:Value->Shared->Prop),tn i s.heap->Q (.ref it) s->wpAny (model P w) A (pyIter (.ref it)) Q E s
abbrev TI:=St->Hp->(It->Hp->Prop)->Prop
def PIE (X:Cx) (pins:List (Addr×Obj)) (σ:St) (tg:Expr) (R:It->Hp->Prop) (itv:Value) (s2:Shared):Prop:=
 ∃ (it:Addr) (fp:List Addr) (tn:Nat->Heap->Prop) (J:It) (H':Hp),itv=.ref it/\Inv X pins σ H' s2/\Turn X.prog X.w X.K tg J fp it tn/\tn 0 s2.heap/\(∀ b∈fp,DY X pins H' b)/\R J H'
def PI (X:Cx) (tg iter:Expr) (wi:TI):Prop:=
 ∀ (pins:List (Addr×Obj)) (s:Shared) (σ:St) (H:Hp) (R:It->Hp->Prop),Inv X pins σ H s->wi σ H R ->
  wpAny (model X.prog X.w) X.A (eval iter X.env) (λv s1=>wpAny (model X.prog X.w) X.A (pyIter v) (PIE X pins σ tg R) X.xe s1) X.xe s
def qas {M:Model} {A:Around} {E:Value->Shared->Prop} {s:Shared} {tg:Expr} {it:Addr} {u:Value} {o:Obj} {n:String} {vs:Array Value} {Q:Unit->Shared->Prop} (ho:s.heap.get? it=some o) (hc:o.cls=.type n) (hd:o.data=.fields vs)
    (hn:["enumerate","zip","dict_itemiterator","dict_reverseitemiterator","odict_iterator","itertools.zip_longest","itertools.pairwise"].contains n=false) (hQ:Q () s):wpAny M A (letOwnedTupleGo tg (.ref it) u) Q E s:=by
  unfold letOwnedTupleGo;cases tg<;>first
    |exact wpAny_pure hQ
    | (cases u<;>first
        |exact wpAny_pure hQ
        | (refine wpAny_bind (wpAny_load ho ?_)
           rw [hc,hd];show wpAny M A (if (["enumerate","zip","dict_itemiterator","dict_reverseitemiterator","odict_iterator","itertools.zip_longest","itertools.pairwise"].contains n&&vs[0]?==some (rawInt _))=true then _ else _) Q E s;rw [if_neg (by intro h;rw [hn,Bool.false_and] at h;cases h)];exact wpAny_pure hQ))
def Itl (K:Frg) (a:Addr):It:=
 ⟨λi H=>∃ xs x,SqL K H a xs/\xs[i]?=some x,λi H x H'=>H'=H/\∀ xs,SqL K H a xs->xs[i]?=some x,λi H=>∃ xs,SqL K H a xs/\xs.length<=i⟩
def Itt (K:Frg) (a:Addr):It:=
 ⟨λi H=>∃ xs x,SqT K H a xs/\xs[i]?=some x,λi H x H'=>H'=H/\∀ xs,SqT K H a xs->xs[i]?=some x,λi H=>∃ xs,SqT K H a xs/\xs.length<=i⟩
def Itr (lo:Int) (n:Nat):It:=⟨λi _=>i<n,λi H x H'=>H'=H/\x=.int (lo+i),λi _=>n<=i⟩
def RW {P:Program} {w:World} {K:Frg} {tg:Expr} (a it:Addr):Turn P w K tg (Itl K a) [it] it (λi h=>h.IsListIter it a i) where
 mem:=by simp
 obj:=λi h st b hb=>by
  have e:b=it:=by simpa using hb
  subst e;obtain ⟨o,e,c,d⟩:=st;exact ⟨o,e,λv z=>by rw [d] at z;cases z⟩
 keep:=λi h h' st k=>st.at λo e=>k it (by simp) o e
 item:=by
  intro X hP hw hK hc i pins s σ H E I hf st hg;subst hP hw hK;obtain ⟨xs,x,hq,hx⟩:=hg;obtain ⟨its,rv,p,hz⟩:=I.list hq;obtain ⟨u,hu,ru⟩:=rv.get hx;obtain ⟨f0,f1,f2,f3,f4,f5⟩:=hf it (by simp);refine wpAny_pyNext_list_item st p.isList (x:=u) (by simpa using hu) λh' st' sb=>?_;have I1:Inv X pins σ H { s with heap:=h' }:=I.turned (t':=s.toks) (λb o hb e=>(sb.2 b hb).trans e) f0 f1 f3 f4 f5;obtain ⟨o,e,c,d⟩:=id st';exact ⟨u,rfl,qas (s:={ s with heap:=h' }) e c d (by decide) ⟨x,H,I1,ru,⟨rfl,λys hy=>by rw [I.list_inj hy hq];exact hx⟩,st',λb hb=>(hf b hb).1⟩⟩
 done:=by
  intro X hP hw hK hc i pins s σ H E I hf st hg;subst hP hw hK;obtain ⟨xs,hq,hx⟩:=hg;obtain ⟨its,rv,p,hz⟩:=I.list hq;obtain ⟨f0,f1,f2,f3,f4,f5⟩:=hf it (by simp);have hl:=rv.length;exact wpAny_pyNext_list_end (I.ok.hd hc) st p.isList (by simp;omega) λh' eb=>⟨rfl,I.turned (t':=s.toks) (λb o hb e=>eb b o hb e) f0 f1 f3 f4 f5⟩
 self:=λ_ _ _ _ _ st h=>wpAny_pyIter_listiter st h
def W6 {P:Program} {w:World} {K:Frg} {tg:Expr} (a it:Addr):Turn P w K tg (Itt K a) [it] it (λi h=>h.IsTupleIter it a i) where
 mem:=by simp
 obj:=λi h st b hb=>by
  have e:b=it:=by simpa using hb
  subst e;obtain ⟨o,e,c,d⟩:=st;exact ⟨o,e,λv z=>by rw [d] at z;cases z⟩
 keep:=λi h h' st k=>st.at λo e=>k it (by simp) o e
 item:=by
  intro X hP hw hK hc i pins s σ H E I hf st hg;subst hP hw hK;obtain ⟨xs,x,hq,hx⟩:=hg;obtain ⟨its,rv,p,hz⟩:=I.tuple hq;obtain ⟨u,hu,ru⟩:=rv.get hx;obtain ⟨f0,f1,f2,f3,f4,f5⟩:=hf it (by simp);refine wpAny_pyNext_tuple_item st (show s.heap.IsTuple a its.toArray from p) (x:=u) (by simpa using hu) λh' st' sb=>?_;have I1:Inv X pins σ H { s with heap:=h' }:=I.turned (t':=s.toks) (λb o hb e=>(sb.2 b hb).trans e) f0 f1 f3 f4 f5;obtain ⟨o,e,c,d⟩:=id st';exact ⟨u,rfl,qas (s:={ s with heap:=h' }) e c d (by decide) ⟨x,H,I1,ru,⟨rfl,λys hy=>by rw [I.tuple_inj hy hq];exact hx⟩,st',λb hb=>(hf b hb).1⟩⟩
 done:=by
  intro X hP hw hK hc i pins s σ H E I hf st hg;subst hP hw hK;obtain ⟨xs,hq,hx⟩:=hg;obtain ⟨its,rv,p,hz⟩:=I.tuple hq;obtain ⟨f0,f1,f2,f3,f4,f5⟩:=hf it (by simp);have hl:=rv.length;exact wpAny_pyNext_tuple_end (I.ok.hd hc) st (show s.heap.IsTuple a its.toArray from p) (by simp;omega) λh' eb=>⟨rfl,I.turned (t':=s.toks) (λb o hb e=>eb b o hb e) f0 f1 f3 f4 f5⟩
 self:=λ_ _ _ _ _ st h=>wpAny_pyIter_tupleiter st h
def XC {P:Program} {w:World} {K:Frg} {tg:Expr} (it:Addr) (lo:Int) (n:Nat):Turn P w K tg (Itr lo n) [it] it (λi h=>IsRangeIter h it (lo+(i:Nat)*1) ((n:Int)-(i:Nat)) 1) where
 mem:=by simp
 obj:=λi h st b hb=>by
  have e:b=it:=by simpa using hb
  subst e;exact ⟨_,st,λv z=>by
   have z':Data.fields _=Data.cell v:=z;cases z'⟩
 keep:=λi h h' st k=>k it (by simp) _ st
 item:=by
  intro X hP hw hK hc i pins s σ H E I hf st hg;subst hP hw hK;obtain ⟨f0,f1,f2,f3,f4,f5⟩:=hf it (by simp);have W:=Walks.range (prog:=X.prog) (w:=X.w) (I.ok.hd hc) it lo 1 n;refine W.item i s _ _ hg st λv h' tk hv st' kk=>?_;obtain ⟨t,rfl⟩:=hv;have I1:Inv X pins σ H { s with heap:=h',toks:=tk }:=I.turned (λb o hb e=>kk b o (by simpa using hb) e) f0 f1 f3 f4 f5;refine ⟨_,rfl,qas (s:={ s with heap:=h',toks:=tk }) (n:="range_iterator") st' rfl rfl (by decide) ⟨.int (lo+i),H,I1,⟨t,?_⟩,⟨rfl,rfl⟩,st',λb hb=>(hf b hb).1⟩⟩;rw [Int.mul_one]
 done:=by
  intro X hP hw hK hc i pins s σ H E I hf st hg;subst hP hw hK;obtain ⟨f0,f1,f2,f3,f4,f5⟩:=hf it (by simp);exact wpAny_pyNext_range_end (I.ok.hd hc) st (by have:n<=i:=hg;omega) λh' eb=>⟨rfl,I.turned (t':=s.toks) (λb o hb e=>eb b o hb e) f0 f1 f3 f4 f5⟩
 self:=λ_ _ _ _ _ st h=>wpAny_pyIter_rangeiter st h
section
variable {X:Cx} {tg:Expr}
def T9 {pins:List (Addr×Obj)} {σ:St} {H:Hp} {s:Shared} {R:It->Hp->Prop} {E:Value->Shared->Prop} {lo hi:Int} {t u v:Tok} {tk:Nat} (I:Inv X pins σ H s) (h1:-(2 ^ 62)<=lo) (h2:lo<2 ^ 62) (h3:-(2 ^ 62)<=hi) (h4:hi<2 ^ 62)
  (q:R (Itr lo (hi-lo).toNat) H):wpAny (model X.prog X.w) X.A (pyIter (.ref s.heap.objs.size)) (PIE X pins σ tg R) E { s with heap:=s.heap.push { cls:=.type "range",data:=.fields #[.int lo t,.int hi u,.int 1 v] },toks:=tk }:=by
 refine wpAny_pyIter_range (IsRange.new ..) (small_one h1 h2 h3 h4) ?_;have I1:Inv X pins σ H { s with heap:=s.heap.push { cls:=.type "range",data:=.fields #[.int lo t,.int hi u,.int 1 v] },toks:=tk }:=I.kept λb o e=>Heap.get?_push_of_some _ e;refine ⟨(s.heap.push { cls:=.type "range",data:=.fields #[.int lo t,.int hi u,.int 1 v] }).objs.size,[(s.heap.push { cls:=.type "range",data:=.fields #[.int lo t,.int hi u,.int 1 v] }).objs.size],_,_,H,rfl,
  I1.kept (t':=tk) λb o e=>Heap.get?_push_of_some _ e,XC _ lo (hi-lo).toNat,?_,λb hb=>?_,q⟩
 ·have e1:lo+((0:Nat):Int)*1=lo:=by simp
  have e2:(((hi-lo).toNat:Nat):Int)-((0:Nat):Int)=Builtin.Range.rangeSize lo hi 1:=by rw [rangeSize_one];split<;>omega
  show IsRangeIter _ _ (lo+((0:Nat):Int)*1) ((((hi-lo).toNat:Nat):Int)-((0:Nat):Int)) 1;rw [e1,e2];exact Heap.get?_push_size _ rfl
 ·have e:b=(s.heap.push { cls:=.type "range",data:=.fields #[.int lo t,.int hi u,.int 1 v] }).objs.size:=by simpa using hb
  subst e;exact I1.fpOk (Nat.le_refl _) (I1.hok.fresh (Nat.le_refl _))
def qe0 (ta:TA):TI:=λσ H R=>ta σ H λvs H1=>∃ j:Int,vs=[.int j]/\-(2 ^ 62)<=j/\j<2 ^ 62/\R (Itr 0 j.toNat) H1
def CL {a:Expr} {ta:TA} {p pos:Pos} (hg:Gl X "range") (hm:X.mg "range" = none) (ha:PA X [a] ta) (hs:starEach [a] X.env=[(false,eval a X.env)]:=by rfl):PI X tg (.Call (.Name "range" p) [a] [] pos) (qe0 ta):=by
 intro pins s σ H R I h;refine Call_ (UQ I hg hm boot_range (PyProof.Rows.callWith_type1 (thn (ha pos pins s σ H _ I h) λus s1 ⟨vs,H1,I1,r1,q1⟩=>?_) hs rfl));obtain ⟨j,e,q1,q2,q⟩:=q1;subst e;cases r1 with
 |cons r rr=>
  cases rr;obtain ⟨t,rfl⟩:=r;exact call_range_1 (T9 I1 (by omega) (by omega) q1 q2 (by simpa using q))
def qgn (wi:TI) (g:TG) (tb:TS):TS:=λD σ H=>wi σ H λJ H1=>∃ W:Nat->Nat->St->Hp->Prop,(∃ m,W 0 m σ H1)/\∀ i m σ H,W i m σ H ->
 (J.stop i H/\D.nx σ H)\/(J.go i H/\∃ N:St->Hp->Prop,(∀ σ' H',N σ' H'->∃ m',m'<m/\W (i+1) m' σ' H')/\∀ x H',J.yld i H x H'->g x σ H' λσ2 H2=>tb { D with nx:=N,ct:=N,bk:=D.nx } σ2 H2)
def VE (fp:List Addr) (h:Heap):List (Addr×Obj):=fp.filterMap λb=>(h.get? b).map λo=>(b,o)
def ja {fp:List Addr} {h:Heap} {b:Addr} {o:Obj} (hb:b∈fp) (e:h.get? b=some o):(b,o)∈VE fp h:=List.mem_filterMap.mpr ⟨b,hb,by rw [e];rfl⟩
def RN {fp:List Addr} {h:Heap} {p:Addr×Obj} (hp:p∈VE fp h):p.1∈fp/\h.get? p.1=some p.2:=by
 obtain ⟨b,hb,e⟩:=List.mem_filterMap.mp hp;cases q:h.get? b with
 |none=>rw [q] at e;cases e
 |some o=>
  rw [q] at e;have e':(b,o)=p:=Option.some.inj e;subst e';exact ⟨hb,q⟩
def Inv.pinned {pins:List (Addr×Obj)} {σ:St} {H:Hp} {s:Shared} {fp:List Addr} (I:Inv X pins σ H s) (hf:∀ b∈fp,DY X pins H b) (ho:∀ b∈fp,∃ o,s.heap.get? b=some o/\∀ v,o.data≠.cell v):Inv X (pins++VE fp s.heap) σ H s:=
 I.pins_of λp hp=>(List.mem_append.mp hp).elim (λz=>I.pin p (mem_append_right _ z)) λz=>by
  obtain ⟨hb,e⟩:=RN z;obtain ⟨f0,f1,f2,_⟩:=hf p.1 hb;obtain ⟨o,e',d⟩:=ho p.1 hb;rw [e] at e';cases e';exact ⟨e,f0,f1,f2,d⟩
def Inv.unpinned {pins pl:List (Addr×Obj)} {σ:St} {H:Hp} {s:Shared} (I:Inv X (pins++pl) σ H s):Inv X pins σ H s:=I.pins_of λp hp=>I.pin p (mem_append_right _ (List.mem_append_left _ hp))
def qc3 {iter:Expr} {body:List Stmt} {wi:TI} {g:TG} {tb:TS} {pos:Pos} (hp:PassesOwn (model X.prog X.w) X.A X.env X.xe) (hc:X.calm=true) (hi:PI X tg iter wi) (hg:PG X tg g) (hb:PSs X body tb)
  (hs:∀ x,foldedSetIterable iter X.env x=pure x:=by intro _;rfl):PS X (.For tg iter body [] pos) (qgn wi g tb):=by
 intro pins s σ H D I h;refine wpAny_For (thn (hi pins s σ H _ I h) λv s1 h1=>thn h1 λitv s2 h2=>?_) hs;obtain ⟨it,fp,tn,J,H2,e,I2,T,st2,f2,W,⟨m0,w0⟩,turn⟩:=h2;subst e
 -- what stays true of the iterator's objects through the loop
 have stat:∀ {H':Hp},(∀ b∈fp,H' b=none)->∀ b∈fp,DY X pins H' b:=λhn b hb=>⟨hn b hb,(f2 b hb).2⟩
 refine codeAny_forLoop_any (λn s'=>∃ i σ' H',Inv X pins σ' H' s'/\tn i s'.heap/\(∀ b∈fp,H' b=none)/\W i n σ' H') ?_ m0 ⟨0,σ,H2,I2,st2,λb hb=>(f2 b hb).1,w0⟩;rintro n s3 ⟨i,σ3,H3,I3,st3,fr3,w3⟩;rcases turn i n σ3 H3 w3 with ⟨stop,qn⟩|⟨go,N,hN,step⟩
 ·refine wpAny_passesOwn hp (thn (T.done X rfl rfl rfl hc i pins s3 σ3 H3 X.xe I3 (stat fr3) st3 stop) λr s4 ⟨hr,I4⟩=>?_);subst hr;exact wpAny_execs_nil ⟨σ3,H3,I4,qn⟩
 ·refine wpAny_passesOwn hp (thn (T.item X rfl rfl rfl hc i pins s3 σ3 H3 X.xe I3 (stat fr3) st3 go) λr s4 ⟨u,hr,h4⟩=>?_);subst hr;refine wpAny_passesOwn hp (thn h4 λ_ s5 ⟨x,H5,I5,r5,y5,st5,fr5⟩=>?_);have I5':=I5.pinned (stat fr5) (T.obj _ _ st5);refine wpAny_passesOwn hp (thn (hg _ s5 σ3 H5 x u _ I5' r5 (step x H5 y5)) λ_ s6 ⟨σ6,H6,I6,q6⟩=>?_);refine wpAny_passesOwn hp (thn (hb _ s6 σ6 H6 _ I6 q6) λf s7 q7=>?_);have again:∀ {σ7:St} {H7:Hp},Inv X (pins++VE fp s5.heap) σ7 H7 s7->N σ7 H7->∃ m,m<n/\∃ i σ' H',Inv X pins σ' H' s7/\tn i s7.heap/\(∀ b∈fp,H' b=none)/\W i m σ' H':=λ{σ7 H7} I7 n7=>by
   obtain ⟨m',hm,w7⟩:=hN σ7 H7 n7;refine ⟨m',hm,i+1,σ7,H7,I7.unpinned,T.keep _ _ _ st5 λb hb o e=>(I7.pin (b,o) (mem_append_right _ (mem_append_right _ (ja hb e)))).1,λb hb=>?_,w7⟩;obtain ⟨o,e,d⟩:=T.obj _ _ st5 b hb;exact (I7.pin (b,o) (mem_append_right _ (mem_append_right _ (ja hb e)))).2.1
  cases f with
  |next=>obtain ⟨σ7,H7,I7,n7⟩:=q7;exact again I7 n7
  |cont=>obtain ⟨σ7,H7,I7,n7⟩:=q7;exact again I7 n7
  |brk=>obtain ⟨σ7,H7,I7,q7⟩:=q7;exact ⟨σ7,H7,I7.unpinned,q7⟩
  |ret v=>obtain ⟨x7,σ7,H7,I7,r7,q7⟩:=q7;exact ⟨x7,σ7,H7,I7.unpinned,r7,q7⟩
end
abbrev R2:=V->V->Hp->VK->Prop
def OpR (X:Cx) (f:Value->Value->Sem Value) (r:R2):Prop:=
 ∀ (pins:List (Addr×Obj)) (s:Shared) (σ:St) (H:Hp) (x y:V) (v u:Value) (Q:VK),Inv X pins σ H s->zW x v->zW y u->r x y H Q ->
  wpAny (model X.prog X.w) X.A (f v u) (EP X pins σ Q) X.xe s
def UnR (X:Cx) (f:Value->Sem Value) (r:V->Hp->VK->Prop):Prop:=
 ∀ (pins:List (Addr×Obj)) (s:Shared) (σ:St) (H:Hp) (x:V) (v:Value) (Q:VK),Inv X pins σ H s->zW x v->r x H Q ->
  wpAny (model X.prog X.w) X.A (f v) (EP X pins σ Q) X.xe s
def Q4 (X:Cx) (f:Value) (r:List V->Hp->VK->Prop):Prop:=
 ∀ (pins:List (Addr×Obj)) (s:Shared) (σ:St) (H:Hp) (xs:List V) (us:List Value) (Q:VK),Inv X pins σ H s->zq xs us->r xs H Q ->
  wpAny (model X.prog X.w) X.A (call f us) (EP X pins σ Q) X.xe s
def tOp (r:R2) (ta tb:TE):TE:=λσ H Q=>ta σ H λx H1=>tb σ H1 λy H2=>r x y H2 Q
def tUn (r:V->Hp->VK->Prop) (ta:TE):TE:=λσ H Q=>ta σ H λx H1=>r x H1 Q
def rI (C:Int->Int->Prop) (g:Int->Int->V):R2:=λx y H Q=>∃ i j,x=.int i/\y=.int j/\C i j/\Q (g i j) H
def rI0 (g:Int->Int->V):R2:=λx y H Q=>∃ i j,x=.int i/\y=.int j/\Q (g i j) H
def rU (g:Int->V):V->Hp->VK->Prop:=λx H Q=>∃ i,x=.int i/\Q (g i) H
section
variable {X:Cx} {a b c:Expr} {ta tb tc:TE} {pos:Pos}
def qfI (ha:PE X a ta) (hb:PE X b tb) {pins:List (Addr×Obj)} {s:Shared} {σ:St} {H:Hp} {R:V->V->Hp->Prop} (I:Inv X pins σ H s)
  (h:ta σ H λx H1=>tb σ H1 λy H2=>R x y H2) {Q:Value->Shared->Prop} {f:Value->Value->Sem Value}
  (hf:∀ v u s2 x y H2,Inv X pins σ H2 s2->zW x v->zW y u->R x y H2->wpAny (model X.prog X.w) X.A (f v u) Q X.xe s2) :
  wpAny (model X.prog X.w) X.A (eval a X.env) (λv s₁=>wpAny (model X.prog X.w) X.A (eval b X.env) (λu s₂=>wpAny (model X.prog X.w) X.A (f v u) Q X.xe s₂) X.xe s₁) X.xe s:=by
 refine thn (ha pins s σ H _ I h) λv s1 ⟨x,H1,I1,r1,q1⟩=>?_;refine thn (hb pins s1 σ H1 _ I1 q1) λu s2 ⟨y,H2,I2,r2,q2⟩=>?_;exact hf v u s2 x y H2 I2 r1 r2 q2
def qd5 {op:Operator} {r:R2} (ho:OpR X (binaryOp op) r) (ha:PE X a ta) (hb:PE X b tb):PE X (.BinOp a op b pos) (tOp r ta tb):=by
 intro pins s σ H Q I h;exact wpAny_BinOp (qfI ha hb I h λv u s2 x y H2 I2 rx ry q=>ho pins s2 σ H2 x y v u Q I2 rx ry q)
def qef {op:UnaryOp} {r:V->Hp->VK->Prop} (ho:UnR X (unaryOp op) r) (ha:PE X a ta):PE X (.UnaryOp op a pos) (tUn r ta):=by
 intro pins s σ H Q I h;exact UnaryOp_ (thn (ha pins s σ H _ I h) λv s1 ⟨x,H1,I1,r1,q1⟩=>ho pins s1 σ H1 x v Q I1 r1 q1)
def opI {f:Value->Value->Sem Value} {C:Int->Int->Prop} {g:Int->Int->Int}
  (rule:∀ (i j:Int) (t u:Tok) (s:Shared) (Q:Value->Shared->Prop) (E:Value->Shared->Prop),C i j->Q (.int (g i j) s.toks) { s with toks:=s.toks+1 }->wpAny (model X.prog X.w) X.A (f (.int i t) (.int j u)) Q E s) :
  OpR X f (rI C λi j=>.int (g i j)):=by
 intro pins s σ H x y v u Q I rx ry h;obtain ⟨i,j,rfl,rfl,hc,q⟩:=h;obtain ⟨t,rfl⟩:=rx;obtain ⟨t',rfl⟩:=ry;exact rule i j t t' s _ _ hc ⟨.int (g i j),H,I.tok _,⟨_,rfl⟩,q⟩
def qgB {f:Value->Value->Sem Value} {g:Int->Int->Int}
  (rule:∀ (i j:Int) (t u:Tok) (s:Shared) (Q:Value->Shared->Prop) (E:Value->Shared->Prop),Q (.int (g i j) s.toks) { s with toks:=s.toks+1 }->wpAny (model X.prog X.w) X.A (f (.int i t) (.int j u)) Q E s) :
  OpR X f (rI0 λi j=>.int (g i j)):=by
 intro pins s σ H x y v u Q I rx ry h;obtain ⟨i,j,rfl,rfl,q⟩:=h;obtain ⟨t,rfl⟩:=rx;obtain ⟨t',rfl⟩:=ry;exact rule i j t t' s _ _ ⟨.int (g i j),H,I.tok _,⟨_,rfl⟩,q⟩
def qeq {f:Value->Value->Sem Value} {g:Int->Int->Bool}
  (rule:∀ (i j:Int) (t u:Tok) (s:Shared) (Q:Value->Shared->Prop) (E:Value->Shared->Prop),Q (.bool (g i j)) s->wpAny (model X.prog X.w) X.A (f (.int i t) (.int j u)) Q E s) :
  OpR X f (rI0 λi j=>.bl (g i j)):=by
 intro pins s σ H x y v u Q I rx ry h;obtain ⟨i,j,rfl,rfl,q⟩:=h;obtain ⟨t,rfl⟩:=rx;obtain ⟨t',rfl⟩:=ry;exact rule i j t t' s _ _ ⟨.bl (g i j),H,I,rfl,q⟩
def NG (i j:Int):Prop:=0<j/\j<1073741824
def qdp (i j:Int):Prop:=0<=j/\j<=1000000/\i.natAbs<2 ^ 64
def D8 (i j:Int):Prop:=(-(2 ^ 64)<i/\i<2 ^ 64)\/(-(2 ^ 64)<j/\j<2 ^ 64)
def D8.ok {i j:Int} (h:D8 i j):IntMulOk i j:=by
 rcases h with ⟨h1,h2⟩|⟨h1,h2⟩
 ·exact .of_left (intBits_le_64 h1 h2)
 ·exact .of_right (intBits_le_64 h1 h2)
def KR:OpR X (binaryOp .Add) (rI0 λi j=>.int (i+j)):=qgB λ_ _ _ _ _ _ _ q=>add_int q
def qcM:OpR X (binaryOp .Mult) (rI D8 λi j=>.int (i*j)):=opI λ_ _ _ _ _ _ _ hc q=>mul_int q hc.ok
def MY:OpR X (binaryOp .FloorDiv) (rI NG λi j=>.int (i/j)):=opI λi j _ _ _ _ _ hc q=>by
 have h1:(0:Int)<j:=hc.1;have h2:j<1073741824:=hc.2;exact floordiv_int (by omega) (by rw [Int.fdiv_eq_ediv_of_nonneg i (by omega)];exact q) (.inl (PyProof.noPylong_small (by omega)))
def qce:OpR X (binaryOp .Mod) (rI (λ_ j=>0<j) λi j=>.int (i%j)):=opI λi j _ _ _ _ _ hc q=>by
 have h1:(0:Int)<j:=hc;exact mod_int' (by omega) (by rw [Int.fmod_eq_emod_of_nonneg i (by omega)];exact q)
def qb4:OpR X (binaryOp .Pow) (rI qdp λi j=>.int (i ^ j.toNat)):=opI λ_ _ _ _ _ _ _ hc q=>pow_int_small hc.1 hc.2.1 hc.2.2 q
def unI {f:Value->Sem Value} {g:Int->Int}
  (rule:∀ (i:Int) (t:Tok) (s:Shared) (Q:Value->Shared->Prop) (E:Value->Shared->Prop),Q (.int (g i) s.toks) { s with toks:=s.toks+1 }->wpAny (model X.prog X.w) X.A (f (.int i t)) Q E s) :
  UnR X f (rU λi=>.int (g i)):=by
 intro pins s σ H x v Q I rx h;obtain ⟨i,rfl,q⟩:=h;obtain ⟨t,rfl⟩:=rx;exact rule i t s _ _ ⟨.int (g i),H,I.tok _,⟨_,rfl⟩,q⟩
def qcg:UnR X (unaryOp .USub) (rU λi=>.int (-i)):=unI λ_ _ _ _ _ q=>neg_int q
end
def qeV:V->V->Bool
 |.non,.non=>true|.non,.int _=>true|.int _,.non=>true|.non,.bl _=>true|.bl _,.non=>true|.non,.str _=>true|.str _,.non=>true
 |.int _,.int _=>true|.bl _,.bl _=>true|.str _,.str _=>true|.byt _,.byt _=>true
 |.int _,.str _=>true|.str _,.int _=>true|.bl _,.str _=>true|.str _,.bl _=>true
 |_,_=>false
def rEq:R2:=λx y H Q=>qeV x y=true/\Q (.bl (decide (x=y))) H
def rNe:R2:=λx y H Q=>qeV x y=true/\Q (.bl (!decide (x=y))) H
def R0 {i j:Int}:decide (V.int i=V.int j)=(i==j):=by
 rw [Bool.eq_iff_iff];simp
def LN {i j:Bool}:decide (V.bl i=V.bl j)=(i==j):=by
 rw [Bool.eq_iff_iff];simp
def RK {i j:Str}:decide (V.str i=V.str j)=(i==j):=by
 rw [Bool.eq_iff_iff];simp
def RC {i j:Array UInt8}:decide (V.byt i=V.byt j)=(i.toList==j.toList):=by
 rw [Bool.eq_iff_iff];cases i;cases j;simp
section
variable {X:Cx} {a b c:Expr} {ta tb tc:TE} {pos:Pos}
def qM {pins:List (Addr×Obj)} {σ:St} {H:Hp} {s:Shared} {Q:VK} {k k':Bool} (I:Inv X pins σ H s) (q:Q (.bl k) H) (e:k=k'):EP X pins σ Q (.bool k') s:=by
 subst e;exact ⟨.bl k,H,I,rfl,q⟩
def qez:OpR X (compareOp .Eq) rEq:=by
 intro pins s σ H x y v u Q I rx ry h;obtain ⟨hs,q⟩:=h;cases x with
 |non=>
  cases rx;cases y with
  |non=>cases ry;exact PySem.EqNone.eq_none_none (qM I q (by simp))
  |bl j=>cases ry;exact PySem.EqNone.eq_none_bool (qM I q (by simp))
  |int j=>obtain ⟨t',rfl⟩:=ry;exact PySem.EqNone.eq_none_int (qM I q (by simp))
  |str j=>obtain ⟨t',rfl⟩:=ry;exact PySem.EqNone.eq_none_str (qM I q (by simp))
  |_=>exact absurd (show false=true from hs) Bool.false_ne_true
 |bl i=>
  cases rx;cases y with
  |non=>cases ry;exact PySem.EqNone.eq_bool_none (qM I q (by simp))
  |bl j=>cases ry;exact eq_bool (qM I q LN)
  |str j=>obtain ⟨t',rfl⟩:=ry;exact PySem.EqMixed.eq_bool_str (qM I q (by simp))
  |_=>exact absurd (show false=true from hs) Bool.false_ne_true
 |int i=>
  obtain ⟨t,rfl⟩:=rx;cases y with
  |non=>cases ry;exact PySem.EqNone.eq_int_none (qM I q (by simp))
  |int j=>obtain ⟨t',rfl⟩:=ry;exact eq_int (qM I q R0)
  |str j=>obtain ⟨t',rfl⟩:=ry;exact PySem.EqMixed.eq_int_str (qM I q (by simp))
  |_=>exact absurd (show false=true from hs) Bool.false_ne_true
 |str i=>
  obtain ⟨t,rfl⟩:=rx;cases y with
  |non=>cases ry;exact PySem.EqNone.eq_str_none (qM I q (by simp))
  |bl j=>cases ry;exact PySem.EqMixed.eq_str_bool (qM I q (by simp))
  |int j=>obtain ⟨t',rfl⟩:=ry;exact PySem.EqMixed.eq_str_int (qM I q (by simp))
  |str j=>obtain ⟨t',rfl⟩:=ry;exact eq_str (qM I q RK)
  |_=>exact absurd (show false=true from hs) Bool.false_ne_true
 |byt i=>
  obtain ⟨t,rfl⟩:=rx;cases y with
  |byt j=>obtain ⟨t',rfl⟩:=ry;exact PySem.W.eq_bytes (qM I q RC)
  |_=>exact absurd (show false=true from hs) Bool.false_ne_true
 |_=>cases y<;>exact absurd (show false=true from hs) Bool.false_ne_true
def qer:OpR X (compareOp .NotEq) rNe:=by
 intro pins s σ H x y v u Q I rx ry h;obtain ⟨hs,q⟩:=h;cases x with
 |non=>
  cases rx;cases y with
  |non=>cases ry;exact PySem.EqNone.ne_none_none (qM I q (by simp))
  |bl j=>cases ry;exact PySem.EqNone.ne_none_bool (qM I q (by simp))
  |int j=>obtain ⟨t',rfl⟩:=ry;exact PySem.EqNone.ne_none_int (qM I q (by simp))
  |str j=>obtain ⟨t',rfl⟩:=ry;exact PySem.EqNone.ne_none_str (qM I q (by simp))
  |_=>exact absurd (show false=true from hs) Bool.false_ne_true
 |bl i=>
  cases rx;cases y with
  |non=>cases ry;exact PySem.EqNone.ne_bool_none (qM I q (by simp))
  |bl j=>cases ry;exact ne_bool (qM I q (congrArg not LN))
  |str j=>obtain ⟨t',rfl⟩:=ry;exact PySem.EqMixed.ne_bool_str (qM I q (by simp))
  |_=>exact absurd (show false=true from hs) Bool.false_ne_true
 |int i=>
  obtain ⟨t,rfl⟩:=rx;cases y with
  |non=>cases ry;exact PySem.EqNone.ne_int_none (qM I q (by simp))
  |int j=>obtain ⟨t',rfl⟩:=ry;exact ne_int (qM I q (congrArg not R0))
  |str j=>obtain ⟨t',rfl⟩:=ry;exact PySem.EqMixed.ne_int_str (qM I q (by simp))
  |_=>exact absurd (show false=true from hs) Bool.false_ne_true
 |str i=>
  obtain ⟨t,rfl⟩:=rx;cases y with
  |non=>cases ry;exact PySem.EqNone.ne_str_none (qM I q (by simp))
  |bl j=>cases ry;exact PySem.EqMixed.ne_str_bool (qM I q (by simp))
  |int j=>obtain ⟨t',rfl⟩:=ry;exact PySem.EqMixed.ne_str_int (qM I q (by simp))
  |str j=>obtain ⟨t',rfl⟩:=ry;exact ne_str (qM I q (congrArg not RK))
  |_=>exact absurd (show false=true from hs) Bool.false_ne_true
 |byt i=>
  obtain ⟨t,rfl⟩:=rx;cases y with
  |byt j=>obtain ⟨t',rfl⟩:=ry;exact PySem.W.ne_bytes (qM I q (congrArg not RC))
  |_=>exact absurd (show false=true from hs) Bool.false_ne_true
 |_=>cases y<;>exact absurd (show false=true from hs) Bool.false_ne_true
def qcr:OpR X (compareOp .Lt) (rI0 λi j=>.bl (decide (i<j))):=qeq λ_ _ _ _ _ _ _ q=>lt_int q
def R8:OpR X (compareOp .Gt) (rI0 λi j=>.bl (decide (j<i))):=qeq λ_ _ _ _ _ _ _ q=>gt_int q
def qd1:OpR X (compareOp .GtE) (rI0 λi j=>.bl (decide (j<=i))):=qeq λ_ _ _ _ _ _ _ q=>ge_int q
def OpR.or {f:Value->Value->Sem Value} {r r':R2} (h:OpR X f r) (h':OpR X f r'):OpR X f (λx y H Q=>r x y H Q\/r' x y H Q):=by
 intro pins s σ H x y v u Q I rx ry q;rcases q with q|q
 ·exact h pins s σ H x y v u Q I rx ry q
 ·exact h' pins s σ H x y v u Q I rx ry q
def qO (b:Expr) {op:CmpOp} (h:op≠.In:=by decide) (h2:op≠.NotIn:=by decide):behindInMarks op b=false:=by
 have e1:(op==CmpOp.In)=false:=by cases op<;>first|rfl|exact absurd rfl h
 have e2:(op==CmpOp.NotIn)=false:=by cases op<;>first|rfl|exact absurd rfl h2
 cases b<;>simp [behindInMarks,e1,e2]
def qbq (t:TE):TT:=λσ H Q=>t σ H λx H'=>∃ k,x=.bl k/\Q k H'
def NV {op:CmpOp} {r:R2} (ho:OpR X (compareOp op) r) (ha:PE X a ta) (hb:PE X b tb) (hm:behindInMarks op b=false):PT X (.Compare a [op] [b] pos) (qbq (tOp r ta tb)):=by
 intro pins s σ H Q I h;refine wpAny_isTrue_Compare1 (thn (ha pins s σ H _ I h) λv s1 ⟨x,H1,I1,r1,q1⟩=>thn (hb pins s1 σ H1 _ I1 q1) λu s2 ⟨y,H2,I2,r2,q2⟩=>
  thn (ho pins s2 σ H2 x y v u _ I2 r1 r2 q2) λc s3 ⟨z,H3,I3,r3,k,e,q3⟩=>?_) hm
 subst e;cases r3;exact wpAny_truthy_bool ⟨H3,I3,q3⟩
def U1:(sizeLine:Nat)<2 ^ 63:=by rw [sizeLine_eq];decide
def EM {x:V} {us:List Value} (r:zq [x] us):∃ u,us=[u]/\zW x u:=by
 cases r with
 |cons r1 r2=>cases r2;exact ⟨_,rfl,r1⟩
def qcI {x y:V} {us:List Value} (r:zq [x,y] us):∃ u w',us=[u,w']/\zW x u/\zW y w':=by
 cases r with
 |cons r1 r2=>
  cases r2 with
  |cons r3 r4=>cases r4;exact ⟨_,_,rfl,r1,r3⟩
def DQ:Q4 X (.builtin "abs") (λxs H Q=>∃ i,xs=[.int i]/\Q (.int (if i<0 then -i else i)) H):=by
 intro pins s σ H xs us Q I r h;obtain ⟨i,rfl,q⟩:=h;obtain ⟨u,rfl,t,rfl⟩:=EM r;exact call_abs_int λu tk=>⟨.int (if i<0 then -i else i),H,I.tok _,⟨_,rfl⟩,q⟩
def CA (hc:X.calm=true):Q4 X (.builtin "min") (λxs H Q=>∃ i j,xs=[.int i,.int j]/\Q (.int (if j<i then j else i)) H):=by
 intro pins s σ H xs us Q I r h;obtain ⟨i,j,rfl,q⟩:=h;obtain ⟨u,w',rfl,⟨t,rfl⟩,⟨t',rfl⟩⟩:=qcI r;refine min_two_ints (I.ok.hd hc) λh' tk k=>⟨_,H,I.kept k,?_,q⟩
 by_cases hj:j<i
 ·rw [if_pos hj,if_pos hj];exact ⟨_,rfl⟩
 ·rw [if_neg hj,if_neg hj];exact ⟨_,rfl⟩
def qfl (K:Frg) (x:V) (H:Hp) (n:Nat):Prop:=
 match x with
 |.str y=>y.length<=sizeLine/\n=y.length
 |.byt y=>y.size<=sizeLine/\n=y.size
 |.ref p=>(∃ xs,SqL K H p xs/\n=xs.length)\/∃ xs,SqT K H p xs/\n=xs.length
 |_=>False
def D7:Q4 X (.builtin "len") (λxs H Q=>∃ x n,xs=[x]/\qfl X.K x H n/\Q (.int n) H):=by
 intro pins s σ H xs us Q I r h;obtain ⟨x,n,rfl,e,q⟩:=h;obtain ⟨u,rfl,rx⟩:=EM r;have hl:=U1;have hs:sizeLine=16777216:=sizeLine_eq;cases x with
 |str y=>
  obtain ⟨t,rfl⟩:=rx;obtain ⟨hy,e'⟩:y.length<=sizeLine/\n=y.length:=e;subst e';exact len_str (by omega) ⟨.int _,H,I.tok _,⟨_,rfl⟩,q⟩
 |byt y=>
  obtain ⟨t,rfl⟩:=rx;obtain ⟨hy,e'⟩:y.size<=sizeLine/\n=y.size:=e;subst e';exact PySem.W.len_bytes (by omega) ⟨.int _,H,I.tok _,⟨_,rfl⟩,q⟩
 |ref p=>
  cases rx;have e':(∃ xs,SqL X.K H p xs/\n=xs.length)\/∃ xs,SqT X.K H p xs/\n=xs.length:=e;rcases e' with ⟨xs,hx,e'⟩|⟨xs,hx,e'⟩
  ·subst e';obtain ⟨its,r',pl,hz⟩:=I.list hx;have hlen:=r'.length;exact Calls.call_len_list pl.isList (by simp only [size_toArray];omega) ⟨.int xs.length,H,I.tok _,⟨_,by simp only [size_toArray];rw [hlen]⟩,q⟩
  ·subst e';obtain ⟨its,r',pl,hz⟩:=I.tuple hx;have hlen:=r'.length;exact len_tuple pl (by simp only [size_toArray];omega) ⟨.int xs.length,H,I.tok _,⟨_,by simp only [size_toArray];rw [hlen]⟩,q⟩
 |_=>exact (show False from e).elim
end
section
variable {prog:Program} {w:World} {A:Around} {E:Value->Shared->Prop} {s:Shared} {K:Frg} {x dx C f:Addr} {mA:Str->Option Value} {name:Str} {v:Value}
end
section
variable {P:Program} {w:World} {H H':Hp} {h h':Heap} {a C dx:Addr} {fs fs':List (Str×V)}
end
section
variable {X:Cx} {pins:List (Addr×Obj)} {σ:St} {H:Hp} {s:Shared} {a C dx:Addr} {fs:List (Str×V)} {f:Str} {v:V} {A:Around} {E:Value->Shared->Prop}
end
section
variable {X:Cx} {o e value:Expr} {f:Str} {pos pos' tpos:Pos} {ta tv:TE}
end
section
variable {X:Cx} {pins:List (Addr×Obj)} {σ:St} {H:Hp} {s:Shared} {A:Around} {E:Value->Shared->Prop} {Q:Value->Shared->Prop} {c:Value} {b:Bool}
end
structure Room (k:Nat) (A:Around):Prop where
 hd:A.handled=none
 dp:A.depth+3*k+5<recursionLimit
 un:A.units+16*k+200<cLine
 gd:A.guards=some []
def Room.mono {j k:Nat} {A:Around} (r:Room k A) (h:j<=k):Room j A:=⟨r.hd,by have:=r.dp;omega,by have:=r.un;omega,r.gd⟩
def Room.deeper {k:Nat} {A:Around} (r:Room (k+1) A) (env:Env):Room k (A.deeper env):=
 ⟨r.hd,by have:=r.dp;show A.depth+1+3*k+5<_;omega,by have:=r.un;show A.units+3+16*k+200<_;omega,r.gd⟩
def Room.in1 {k:Nat} {A:Around} (r:Room (k+1) A):Room k A.in1:=
 ⟨r.hd,by have:=r.dp;show A.depth+3*k+5<_;omega,by have:=r.un;show A.units+1+16*k+200<_;omega,r.gd⟩
def Room.depth {k:Nat} {A:Around} (r:Room k A):A.depth<recursionLimit:=by have:=r.dp;omega
def Room.units {k:Nat} {A:Around} (r:Room k A):A.units+64<cLine:=by have:=r.un;omega
def qgy:TA:=λ_ H Q=>Q [] H
def qfa (ta:TE) (tr:TA):TA:=λσ H Q=>ta σ H λx H1=>tr σ H1 λxs H2=>Q (x::xs) H2
section
variable {X:Cx} {e:Expr} {es:List Expr} {te:TE} {t:TA} {pos:Pos}
def LD:PA X [] qgy:=λ_ _ _ _ H Q I h=>Calls.spliced_nil ⟨[],H,I,.nil,h⟩
def ED (ha:PE X e te) (hr:PA X es t) (hs:starEach (e::es) X.env=(false,eval e X.env)::starEach es X.env:=by rfl):PA X (e::es) (qfa te t):=by
 intro pos pins s σ H Q I h;rw [hs];show wpAny _ _ (spliced ((false,eval e X.env)::backTo pos (starEach es X.env))) _ _ s;refine Calls.spliced_cons (thn (ha pins s σ H _ I h) λu s1 ⟨x,H1,I1,r1,q1⟩=>?_);exact thn (hr pos pins s1 σ H1 _ I1 q1) λus s2 ⟨xs,H2,I2,r2,q2⟩=>⟨x::xs,H2,I2,.cons r1 r2,q2⟩
def qgu (t:TA):TE:=λσ H Q=>t σ H λxs H1=>xs.length<=sizeLine/\∀ p,H1 p=none->Q (.ref p) (upd H1 p (.tup xs))
def qgo (t:TA):TE:=λσ H Q=>t σ H λxs H1=>xs.length<=sizeLine/\∀ p,H1 p=none->Q (.ref p) (upd H1 p (.lst xs))
def qa7 {x1} (h:PA X es t):PE X (.Tuple es x1 pos) (qgu t):=by
 intro pins s σ H Q I hq;refine wpAny_Tuple_spliced (thn (h pos pins s σ H _ I hq) λus s1 ⟨xs,H1,I1,r,z,q⟩=>⟨by rw [← r.length];exact z,?_⟩);have hf:H1 s1.heap.objs.size=none:=I1.hok.fresh (Nat.le_refl _);refine ⟨.ref s1.heap.objs.size,upd H1 s1.heap.objs.size (.tup xs),I1.laid (t':=s1.toks) (λb u e=>Heap.get?_push_of_some _ e) (Nat.le_refl _) ?_,rfl,q _ hf⟩;exact ⟨z,us,r,⟨_,Heap.get?_push_size _ rfl,rfl,_,rfl,rfl⟩⟩
def qcD (h:PA X es t):PE X (.List es pos) (qgo t):=by
 intro pins s σ H Q I hq;refine wpAny_List_spliced (thn (h pos pins s σ H _ I hq) λus s1 ⟨xs,H1,I1,r,z,q⟩=>⟨by rw [← r.length];exact z,?_⟩);have hf:H1 s1.heap.objs.size=none:=I1.hok.fresh (Nat.le_refl _);refine ⟨.ref s1.heap.objs.size,upd H1 s1.heap.objs.size (.lst xs),I1.laid (t':=s1.toks) (λb u e=>Heap.get?_push_of_some _ e) (Nat.le_refl _) ?_,rfl,q _ hf⟩;exact ⟨z,us,0,r,Heap.get?_push_size _ rfl⟩
end
abbrev Sp:=List V->Hp->VK->XK->Prop
abbrev CXT:=List Env->Hp->Shared->XK->Value->Shared->Prop
structure Env0 (P:Program) (w:World) (K:Frg) (mg:Str->Option Value) (base:Heap) (A:Around) (outer:List Env) (s:Shared) (H:Hp):Prop where
 frames:A.frames=some outer
 mod:Mod K mg base
 bs:∀ b o,base.get? b=some o->s.heap.get? b=some o/\H b=none
 bsz:base.objs.size<=s.heap.objs.size
 funs:s.heap.FunFrames base outer
 frf:∀ b∈frs outer,H b=none
 hok:HOk P w H s.heap
 bare:AllBare s.gens
def CE (outer:List Env) (P:Program) (w:World) (H:Hp) (s:Shared) (Q:VK) (u:Value) (s':Shared):Prop:=
 ∃ v H',s'.os=s.os/\AllBare s'.gens/\Un (frs outer) [] H H' s.heap s'.heap/\HOk P w H' s'.heap/\zW v u/\Q v H'
def CR (CX:CXT) (outer:List Env) (P:Program) (w:World) (H:Hp) (s:Shared) (Q:VK) (E:XK) (r:Result) (s':Shared):Prop:=
 match r with
 |.ok (.ret u)=>CE outer P w H s Q u s'
 |.ok _=>False
 |.error e=>CX outer H s E e s'
structure FnOk (P:Program) (w:World) (K:Frg) (mg:Str->Option Value) (base:Heap) (CX:CXT) (k:Nat) (f:Addr) (fd:FuncData) (ps:List Str) (sp:Sp):Prop where
 len:∀ vs H Q E,sp vs H Q E->vs.length=ps.length
 run:∀ (A:Around) (outer:List Env) (s:Shared) (H:Hp) (args:Args) (us:List Value) (vs:List V) (Q:VK) (E:XK),Room k A->Env0 P w K mg base A outer s H->BindsTo s fd args (ps.zip us)->zq vs us->sp vs H Q E ->
  codeAny (model P w) A (.call (.ref f) args) (CR CX outer P w H s Q E) s
def FnOk.mono {P:Program} {w:World} {K:Frg} {mg:Str->Option Value} {base:Heap} {CX:CXT} {j k:Nat} {f:Addr} {fd:FuncData} {ps:List Str} {sp:Sp} (F:FnOk P w K mg base CX j f fd ps sp) (h:j<=k) :
  FnOk P w K mg base CX k f fd ps sp:=⟨F.len,λA outer s H args us vs Q E hr=>F.run A outer s H args us vs Q E (hr.mono h)⟩
def FnOk.imp {P:Program} {w:World} {K:Frg} {mg:Str->Option Value} {base:Heap} {CX:CXT} {k:Nat} {f:Addr} {fd:FuncData} {ps:List Str} {sp sp':Sp} (F:FnOk P w K mg base CX k f fd ps sp)
  (h:∀ vs H Q E,sp' vs H Q E->sp vs H Q E):FnOk P w K mg base CX k f fd ps sp':=
 ⟨λvs H Q E q=>F.len vs H Q E (h _ _ _ _ q),λA outer s H args us vs Q E hr he hb hv hs=>F.run A outer s H args us vs Q E hr he hb hv (h _ _ _ _ hs)⟩
def Env0.in1 {P:Program} {w:World} {K:Frg} {mg:Str->Option Value} {base:Heap} {A:Around} {outer:List Env} {s:Shared} {H:Hp} (e:Env0 P w K mg base A outer s H) :
  Env0 P w K mg base A.in1 outer s H:=⟨e.frames,e.mod,e.bs,e.bsz,e.funs,e.frf,e.hok,e.bare⟩
section
variable {X:Cx} {pins:List (Addr×Obj)} {σ:St} {H:Hp} {s s':Shared}
def Inv.env0 (I:Inv X pins σ H s):Env0 X.prog X.w X.K X.mg X.base X.A X.stack s H:=
 ⟨I.ok.frames,I.ok.mod,I.bs,Nat.le_trans I.ok.bsz I.sz,I.stack,I.stkFree,I.hok,I.bare⟩
def Inv.after {Q:VK} {u:Value} (I:Inv X pins σ H s) (h:CE X.stack X.prog X.w H s Q u s'):EP X pins σ Q u s':=by
 obtain ⟨v,H',os,bare,un,hok,r,q⟩:=h;obtain ⟨hh,g,d,t,os'⟩:=s';obtain rfl:os'=s.os:=os;exact ⟨v,H',I.call (h':=hh) (g':=g) (d':=d) (t':=t) (ch:=[]) un hok bare (λb z=>absurd z (by simp)),r,q⟩
end
def qeg (sp:Sp) (dvs:List V) (E:XK) (t:TA):TE:=λσ H Q=>t σ H λvs H1=>sp (vs++dvs) H1 Q E
def zY (K:Frg) (fd:FuncData) (ps:List Str) (ds:List Value):Prop:=
 ∀ (s:Shared) (us:List Value),K.In s.heap->(us++ds).length=ps.length->BindsTo s fd ⟨us,[]⟩ (ps.zip (us++ds))
def zY.all {K:Frg} {fd:FuncData} {ps:List Str} (h:∀ us:List Value,us.length=ps.length->bindArgs fd ⟨us,[]⟩=pure (ps.zip us)):zY K fd ps []:=λs us _ hl=>by
 rw [List.append_nil] at hl ⊢;exact .of_eq (h us hl)
def RD (CX:CXT) (X:Cx) (E:XK):Prop:=∀ (pins:List (Addr×Obj)) (σ:St) (H:Hp) (s:Shared) (e:Value) (s':Shared),Inv X pins σ H s->CX X.stack H s E e s'->X.xe e s'
section
variable {X:Cx} {CX:CXT} {k:Nat} {f C:Addr} {fd:FuncData} {ps:List Str} {sp:Sp} {dvs:List V} {ds:List Value} {E:XK} {x m:Str} {p pos apos:Pos} {e o:Expr} {es:List Expr} {ta:TE} {t:TA}
def qbY {pins:List (Addr×Obj)} {σ:St} {H:Hp} {s:Shared} {Q:VK} {us:List Value} {vs:List V} (F:FnOk X.prog X.w X.K X.mg X.base CX k f fd ps sp) (hr:Room k X.A) (hb:zY X.K fd ps ds) (hd:zq dvs ds) (hx:RD CX X E)
  (I:Inv X pins σ H s) (r:zq vs us) (h:sp (vs++dvs) H Q E):wpAny (model X.prog X.w) X.A (call (.ref f) us) (EP X pins σ Q) X.xe s:=by
 have r2:zq (vs++dvs) (us++ds):=r.append hd;have hl:(us++ds).length=ps.length:=by rw [← r2.length];exact F.len _ _ _ _ h
 refine wpAny_call (codeAny_mono (F.run X.A X.stack s H ⟨us,[]⟩ (us++ds) (vs++dvs) Q E hr I.env0 (hb s us I.kIn hl) r2 h) λr s' hq=>?_);cases r with
 |error e=>exact hx pins σ H s e s' I hq
 |ok fl=>
  cases fl with
  |ret u=>exact I.after hq
  |next=>exact False.elim hq
  |brk=>exact False.elim hq
  |cont=>exact False.elim hq
def M5 (F:FnOk X.prog X.w X.K X.mg X.base CX k f fd ps sp) (hr:Room k X.A) (hg:Gl X x) (hm:X.mg x=some (.ref f)) (hk:PySem.W.keepIn X.K (.ref f)=true) (hb:zY X.K fd ps ds) (hd:zq dvs ds) (hx:RD CX X E)
  (ha:PA X (e::es) t) (hdb:(x==("__debug__" : Str))=false:=by decide) (he:starEach (e::es) X.env=(false,eval e X.env)::starEach es X.env:=by rfl) (hpl:(backTo pos (starEach es X.env)).any (·.1)=false:=by rfl) :
  PE X (.Call (.Name x p) (e::es) [] pos) (qeg sp dvs E t):=by
 intro pins s σ H Q I h;refine wpAny_Call_Name_kw (qak I hg hm ?_ hdb);refine PySem.W.callWith_K (h₀:=X.base) I.ok.mod.kin hk (thn (ha pos pins s σ H _ I h) λus s1 ⟨vs,H1,I1,r,q⟩=>⟨I1.kIn,?_⟩) he hpl;exact qbY F hr hb hd hx I1 r q
end
section
variable {X:Cx} {CX:CXT} {k:Nat} {f C:Addr} {fd:FuncData} {ps ks:List Str} {sp:Sp} {E:XK} {x m:Str} {p pos apos kpos:Pos} {e o:Expr} {es:List Expr} {kws:List Keyword} {te ta:TE} {t tk:TA} {nm:Option Str}
variable {g:List Value->List Value->List Value} {gV:List V->List V->List V}
end
structure FnScope (N P:List Str) (sc:Scope):Prop where
 kind:sc.kind=.function
 co:sc.isCoroutine=false
 gen:sc.isGenerator=false
 nd:N.Nodup
 pre:N.take P.length=P
 par:∀ x∈P,sc.names.lookup x=some .local\/sc.names.lookup x=some .cell
 nofree:∀ y∈sc.names,y.2≠.free
def UT {kindOf:Str->Option NameKind} {x:Str}:∀ {binds:List (Str×Value)} {m:Str->Option Value},(∀ v,(x,v)∉binds)->bindL kindOf binds m x=m x
 |[],_,_=>rfl
 | (n,v)::r,m,h=>by
  unfold bindL;rw [UT λw hw=>h w (List.mem_cons_of_mem _ hw)];split
  ·have:x≠n:=by rintro rfl;exact h v List.mem_cons_self
   simp [this]
  ·rfl
def UY {kindOf:Str->Option NameKind} {x:Str}:∀ {binds:List (Str×Value)} {m:Str->Option Value},(∀ v,(x,v)∉binds)->bindC kindOf binds m x=m x
 |[],_,_=>rfl
 | (n,v)::r,m,h=>by
  unfold bindC;rw [UY λw hw=>h w (List.mem_cons_of_mem _ hw)];split
  ·rfl
  ·have:x≠n:=by rintro rfl;exact h v List.mem_cons_self
   simp [this]
def UO {kindOf:Str->Option NameKind} {x:Str} {v:Value}:∀ {P:List Str} {vs:List Value} {i:Nat} {m:Str->Option Value},P.Nodup->P[i]?=some x->vs[i]?=some v->kindOf x=some .local ->
  bindL kindOf (P.zip vs) m x=some v
 |[],_,_,_,_,h,_,_=>by simp at h
 |_::_,[],_,_,_,_,h,_=>by simp at h
 |p::P,w::vs,0,m,nd,h1,h2,hk=>by
  simp at h1 h2;subst h1;subst h2;show bindL kindOf ((p,w)::P.zip vs) m p=_;unfold bindL;rw [UT λv hv=>(List.nodup_cons.mp nd).1 (List.of_mem_zip hv).1,if_pos hk];simp
 |p::P,w::vs,i+1,m,nd,h1,h2,hk=>by
  show bindL kindOf ((p,w)::P.zip vs) m x=_;unfold bindL;exact UO (i:=i) (List.nodup_cons.mp nd).2 (by simpa using h1) (by simpa using h2) hk
def UG {kindOf:Str->Option NameKind} {x:Str} {v:Value}:∀ {P:List Str} {vs:List Value} {i:Nat} {m:Str->Option Value},P.Nodup->P[i]?=some x->vs[i]?=some v->kindOf x≠some .local ->
  bindC kindOf (P.zip vs) m x=some v
 |[],_,_,_,_,h,_,_=>by simp at h
 |_::_,[],_,_,_,_,h,_=>by simp at h
 |p::P,w::vs,0,m,nd,h1,h2,hk=>by
  simp at h1 h2;subst h1;subst h2;show bindC kindOf ((p,w)::P.zip vs) m p=_;unfold bindC;rw [UY λv hv=>(List.nodup_cons.mp nd).1 (List.of_mem_zip hv).1,if_neg hk];simp
 |p::P,w::vs,i+1,m,nd,h1,h2,hk=>by
  show bindC kindOf ((p,w)::P.zip vs) m x=_;unfold bindC;exact UG (i:=i) (List.nodup_cons.mp nd).2 (by simpa using h1) (by simpa using h2) hk
def YK (N:List Str) (vs:List V):St:=vs.map some++List.replicate (N.length-vs.length) none
def SR (CX:CXT) (P:Program) (w:World) (K:Frg) (mg:Str->Option Value) (base:Heap) (N:List Str) (qual:Str) (scope:Scope) (f:Addr) (cd:Value) (A:Around) (outer:List Env) (s:Shared) (H:Hp) (E:XK):Cx where
 prog:=P
 w:=w
 K:=K
 mg:=mg
 base:=base
 A:=A.deeper (envOfC qual scope s.heap.objs.size f cd)
 N:=N
 s₀:=s
 H₀:=H
 env:=envOfC qual scope s.heap.objs.size f cd
 outer:=outer
 stack:=envOfC qual scope s.heap.objs.size f cd::outer
 ex:=[]
 calm:=true
 fn:=λ_=>true
 pn:=[]
 xe:=λe s'=>wpAny (model P w) (A.deeper (envOfC qual scope s.heap.objs.size f cd)) (leaving (envOfC qual scope s.heap.objs.size f cd) e) (λ_ s''=>CX outer H s E e s'') (λe' s''=>CX outer H s E e' s'') s'
def DW {sc:Scope} {n:Nat} {x:Str} (h:sc.names.lookup x=some .cell):∃ c,(cellsFrom n sc.names []).lookup x=some c:=by
 have q:=PySem.W.cellsFrom_some sc.names n [] (.inl h);exact Option.isSome_iff_exists.mp q
def C7 {CX:CXT} {P:Program} {w:World} {K:Frg} {mg:Str->Option Value} {base:Heap} {N ps:List Str} {qual:Str} {scope:Scope} {f:Addr} {cd:Value} {A:Around} {outer:List Env} {s s1:Shared} {H:Hp} {E:XK} {us:List Value} {vs:List V}
  (S:FnScope N ps scope) (hd:A.handled=none) (e0:Env0 P w K mg base A outer s H) (hl:vs.length=ps.length) (r:zq vs us)
  (x:InCallC s s.heap.objs.size (bindL (envOfC qual scope s.heap.objs.size f cd).kindOf (ps.zip us) λ_=>none) (cellsFrom (s.heap.objs.size+1) scope.names []) (bindC (envOfC qual scope s.heap.objs.size f cd).kindOf (ps.zip us) λ_=>none) s1) :
  Inv (SR CX P w K mg base N qual scope f cd A outer s H E) [] (YK N vs) H s1:=by
 have hpl:ps.length<=N.length:=by have:=congrArg List.length S.pre;rw [List.length_take] at this;omega
 obtain ⟨h1,tk,rfl,hk⟩:=x.done;have noA:∀ b:Addr,b∉(SR CX P w K mg base N qual scope f cd A outer s H E).ex:=λb z=>absurd (show b∈([]:List Addr) from z) (by simp);refine ⟨⟨e0.mod,S.kind,rfl,rfl,Nat.le_refl _,λy z c h1 h2=>?_,λy hy=>?_,λy c _ h=>?_,λ_=>hd,Around.frames_deeper e0.frames,.inr ⟨rfl,rfl⟩,λb z=>absurd z (noA b),e0.bs,e0.bsz,λb _ _=>noA b,λb z=>absurd z (noA b),e0.funs,e0.frf⟩,
  rfl,e0.bare,Un.kept hk,⟨_,x.toInCall.ns,λi y v h1 h2 h3=>?_⟩,λy c h=>⟨_,x.cell y c h⟩,e0.hok.fresh (Nat.le_refl _),λy c h=>?_,λp hp=>absurd (show p∈([]:List (Addr×Obj)) from hp) (by simp),e0.hok.kept hk,?_⟩
 ·exact name_of_addr x.apart (PySem.mem_of_lookup h1) (PySem.mem_of_lookup h2)
 ·have hy:scope.names.lookup y=some .cell\/scope.names.lookup y=some .free:=hy;rcases hy with hy|hy
  ·exact DW hy
  ·exact absurd rfl (S.nofree _ (PySem.mem_of_lookup hy))
 ·exact Nat.le_of_lt (x.above y c (PySem.mem_of_lookup h))
 ·have hi:i<vs.length:=by
   unfold YK at h2;by_cases hi:i<vs.length
   ·exact hi
   ·rw [List.getElem?_append_right (by simpa using hi)] at h2;rw [List.getElem?_replicate] at h2;split at h2<;>cases h2
  have ha:vs[i]?=some v:=by
   unfold YK at h2;rw [List.getElem?_append_left (by simpa using hi),getElem?_map] at h2;cases e:vs[i]? with
   |none=>rw [e] at h2;cases h2
   |some a=>rw [e] at h2;cases h2;rfl
  obtain ⟨u,hu,rv⟩:=r.get ha;have hp:ps[i]?=some y:=by
   rw [← S.pre,List.getElem?_take_of_lt (by omega)];exact h1
  have ndP:ps.Nodup:=by rw [← S.pre];exact S.nd.sublist (List.take_sublist _ _)
  refine ⟨u,rv,?_⟩;rcases S.par y (mem_of_getElem? hp) with k|k
  ·exact .inl ⟨k,UO ndP hp hu k⟩
  ·obtain ⟨c,e⟩:=DW (n:=s.heap.objs.size+1) k;refine .inr ⟨.inl k,c,e,?_⟩;have q:=x.cell y c e;rw [UG ndP hp hu (by show scope.names.lookup y≠_;rw [k];decide)] at q;exact q
 ·exact e0.hok.fresh (Nat.le_of_lt (x.above y c (PySem.mem_of_lookup h)))
 ·unfold YK;show _=N.length;rw [length_append,length_map,List.length_replicate];omega
def qd3 {CX:CXT} {P:Program} {w:World} {K:Frg} {mg:Str->Option Value} {base:Heap} {k:Nat} {f:Addr} {name qual:Str} {params:Arguments} {body:List Stmt} {scope:Scope} {dV kV doc pm cdv ct oc:Value} {an od:Option Addr}
  {osl:Array (Option Value)} {N ps:List Str} {sp:Sp} (lk:K.lookup f=some ⟨oc,od,.func (PySem.W.fnOf name qual params body scope dV kV doc pm an cdv ct),osl⟩) (hcd:PySem.W.codeIn K cdv qual=true) (S:FnScope N ps scope)
  (len:∀ vs H Q E,sp vs H Q E->vs.length=ps.length)
  (hbody:∀ (A:Around) (outer:List Env) (s:Shared) (H:Hp) (vs:List V) (Q:VK) (E:XK),Room k (A.deeper (envOfC qual scope s.heap.objs.size f cdv))->sp vs H Q E ->
   ∃ t,PSs (SR CX P w K mg base N qual scope f cdv A outer s H E) body t/\t { nx:=λ_ H'=>Q .non H',rt:=Q } (YK N vs) H) :
  FnOk P w K mg base CX (k+1) f (PySem.W.fnOf name qual params body scope dV kV doc pm an cdv ct) ps sp:=by
 refine ⟨len,λA outer s H args us vs Q E hr e0 hb r hsp=>?_⟩;have hl:=len _ _ _ _ hsp;have KX:K.In s.heap:=e0.mod.kin.keeps λb o e=>(e0.bs b o e).1;have lim:s.heap.NoLimit:=e0.mod.nolimit.keeps λb o e=>(e0.bs b o e).1;have hkind:∀ y∈ps.zip us,scope.names.lookup y.1=some .local\/(scope.names.lookup y.1=some .cell/\((cellsFrom (s.heap.objs.size+1) scope.names []).lookup y.1).isSome=true):=λ⟨n,v⟩ hy=>by
  rcases S.par n (List.of_mem_zip hy).1 with q|q
  ·exact .inl q
  ·exact .inr ⟨q,PySem.W.cellsFrom_some _ _ _ (.inl q)⟩
 refine codeAny_call_function hr.depth (KX _ _ lk) rfl S.co S.gen rfl (PySem.W.codeRec_of KX hcd) (hb _ _ _ _ ?_);refine wpAny_newFunctionEnv_cells S.kind hkind λenv he s1 x=>?_;subst he;refine ⟨lim.keeps x.toInCall.keep,codeAny_func ?_⟩;obtain ⟨t,ht,hq⟩:=hbody A outer s H vs Q E (hr.deeper _) hsp;have I:Inv (SR CX P w K mg base N qual scope f cdv A outer s H E) [] (YK N vs) H s1:=C7 S hr.hd e0 hl r x;refine wpAny_mono (ht [] s1 (YK N vs) H _ I hq) (λfl s' hs=>?_) λe s' hs=>hs;have fin:∀ {σ':St} {H':Hp} {v:V} {u:Value},Inv (SR CX P w K mg base N qual scope f cdv A outer s H E) [] σ' H' s'->zW v u->Q v H'->CE outer P w H s Q u s':=
  λ{σ' H' v u} J rv q=>⟨v,H',J.os,J.bare,J.base,J.hok,rv,q⟩
 cases fl with
 |ret u=>
  obtain ⟨v,σ',H',J,rv,q⟩:=hs;exact fin J rv q
 |next=>
  obtain ⟨σ',H',J,q⟩:=hs;exact fin (v:=V.non) (u:=Value.none) J rfl q
 |brk=>
  obtain ⟨_,_,_,q⟩:=hs;exact False.elim q
 |cont=>
  obtain ⟨_,_,_,q⟩:=hs;exact False.elim q
section
variable {X:Cx} {x:Str} {p pos:Pos} {e:Expr} {es:List Expr} {t:TA} {id T:String} {r:List V->Hp->VK->Prop}
def tCB (r:List V->Hp->VK->Prop) (t:TA):TE:=λσ H Q=>t σ H λvs H1=>r vs H1 Q
def DR (hc:Q4 X (.builtin id) r) (hg:Gl X x) (hm:X.mg x=none) (hv:bootBuiltins x=some (.builtin id)) (ha:PA X (e::es) t) (hn:x≠"__name__" := by decide) (hdb:(x==("__debug__" : Str))=false:=by decide)
  (he:starEach (e::es) X.env=(false,eval e X.env)::starEach es X.env:=by rfl) (hpl:(backTo pos (starEach es X.env)).any (·.1)=false:=by rfl):PE X (.Call (.Name x p) (e::es) [] pos) (tCB r t):=by
 intro pins s σ H Q I h;refine wpAny_Call_Name_kw (UQ I hg hm hv ?_ hn hdb);exact PyProof.Rows.callWith_builtin1 (thn (ha pos pins s σ H _ I h) λus s1 ⟨vs,H1,I1,r1,q1⟩=>hc pins s1 σ H1 vs us Q I1 r1 q1) he hpl
def CT (hc:Q4 X (.type T) r) (hg:Gl X x) (hm:X.mg x=none) (hv:bootBuiltins x=some (.type T)) (ha:PA X (e::es) t) (hn:x≠"__name__" := by decide) (hdb:(x==("__debug__" : Str))=false:=by decide)
  (he:starEach (e::es) X.env=(false,eval e X.env)::starEach es X.env:=by rfl) (hpl:(backTo pos (starEach es X.env)).any (·.1)=false:=by rfl):PE X (.Call (.Name x p) (e::es) [] pos) (tCB r t):=by
 intro pins s σ H Q I h;refine wpAny_Call_Name_kw (UQ I hg hm hv ?_ hn hdb);exact PyProof.Rows.callWith_type1 (thn (ha pos pins s σ H _ I h) λus s1 ⟨vs,H1,I1,r1,q1⟩=>hc pins s1 σ H1 vs us Q I1 r1 q1) he hpl
end
end L2
namespace HT
open PySem PyProof.Rows
section
open PySem.SeqAt
open PySem.MeetsSeq PySem.MeetsSeq2 PySem.MeetsSeq3
end
section
variable {prog:Program} {w:World} {A:Around} {E:Value->Shared->Prop} {s:Shared}
def qap {t b:Addr} {vs ws:List Value} {Q:Value->Shared->Prop} (ht:IsTup s.heap t vs.toArray) (hb:IsTup s.heap b ws.toArray) (hv:vs≠[])
  (h1:ws=[]->Q (.ref t) s) (h2:ws≠[]->Q (.ref s.heap.objs.size) { s with heap:=s.heap.push { cls:=.type "tuple",data:=.seq (vs++ws).toArray } })
  (hsz:vs.length+ws.length<=sizeLine):wpAny (model prog w) A (binaryOp .Add (.ref t) (.ref b)) Q E s:=by
 obtain ⟨⟨cls,dd,data,sl⟩,ho,hc,n,hd⟩:=id ht;obtain ⟨⟨cls2,dd2,data2,sl2⟩,ho2,hc2,n2,hd2⟩:=id hb;simp only at hc hd hc2 hd2;subst hc hd hc2 hd2;have e:vs.toArray++ws.toArray=(vs++ws).toArray:=by simp
 by_cases hw:ws=[]
 ·exact concat_meets ⟨_,ho,rfl⟩ ⟨_,ho2,rfl⟩ noFill_tuple_add seq_tuple_add PySem.F.slot_tuple_add PySem.F.entry_tuple_add (PySem.F.args_tuple_add_2 _ _)
   (tuple_addW1 t b vs.toArray ws.toArray n n2 dd dd2 sl sl2 (by simpa using hv) (by simp [hw])) ⟨ho,ho2,h1 hw⟩
 ·refine concat_meets ⟨_,ho,rfl⟩ ⟨_,ho2,rfl⟩ noFill_tuple_add seq_tuple_add PySem.F.slot_tuple_add PySem.F.entry_tuple_add (PySem.F.args_tuple_add_2 _ _)
   (tuple_addW2 t b vs.toArray ws.toArray n n2 dd dd2 sl sl2 (by simpa using hv) (by simpa using hw) (by rw [size_toArray,size_toArray];exact hsz)) ⟨ho,ho2,?_⟩
  rw [e];exact h2 hw
def sIx (n d:Nat):Option Int->Nat
 |none=>d
 |some v=>if v<0 then (v+(n:Int)).toNat else min v.toNat n
def qb0 (n d:Nat) (hd:d<=n) (o:Option Int):sIx n d o<=n:=by
 cases o with
 |none=>exact hd
 |some v=>
  show (if v<0 then (v+(n:Int)).toNat else min v.toNat n)<=n;by_cases hv:v<0
  ·rw [if_pos hv];omega
  ·rw [if_neg hv];exact Nat.min_le_right _ _
def CS (v:Int) (n d:Nat):(if v<0 then max (v+(n:Int)) 0 else min v (n:Int))=((sIx n d (some v):Nat):Int):=by
 show (if v<0 then max (v+(n:Int)) 0 else min v (n:Int))=(((if v<0 then (v+(n:Int)).toNat else min v.toNat n):Nat):Int);by_cases hv:v<0
 ·simp only [if_pos hv];omega
 ·simp only [if_neg hv];omega
def XH (lo hi:Option Int) (n:Nat):Builtin.Slice.sliceAdjust lo hi 1 (n:Int)=(((sIx n 0 lo:Nat):Int),((sIx n n hi:Nat):Int)):=by
 have h1:¬ ((1:Int)<0):=by omega
 unfold Builtin.Slice.sliceAdjust;simp only [h1,if_false];refine Prod.ext ?_ ?_
 ·cases lo with
  |none=>rfl
  |some v=>exact CS v n 0
 ·cases hi with
  |none=>rfl
  |some v=>exact CS v n n
def WY (i j:Nat):Builtin.Slice.slicePlaces (i:Int) (j:Int) 1=j-i:=by
 unfold Builtin.Slice.slicePlaces;have h1:(1:Int) > 0:=by omega
 simp only [h1,if_true,Int.ediv_one];split<;>omega
def VH {v:Value} {o:Option Int} {Q:Option Int->Shared->Prop} (p:IsPart v o) (h:Q o s):wpAny (model prog w) A (Builtin.Slice.slicePartIndex v) Q E s:=by
 cases p with
 |none=>exact slicePart_none h
 |int i t=>exact slicePart_int h
def jT {sl:Addr} {vl vu:Value} {lo hi:Option Int} {n:Nat} {Q:Int×Int×Nat->Shared->Prop} (hs:s.heap.IsSliceOf sl vl vu .none) (pl:IsPart vl lo) (pu:IsPart vu hi)
  (h:Q (((sIx n 0 lo:Nat):Int),1,sIx n n hi-sIx n 0 lo) s):wpAny (model prog w) A (Builtin.Slice.sliceApplied (.ref sl) (pure (n:Int))) Q E s:=by
 obtain ⟨os,hos,hcs,hds⟩:=id hs;unfold Builtin.Slice.sliceApplied Builtin.Slice.sliceFields;refine wpAny_bind (wpAny_bind (wpAny_field hos hds (x:=vl) rfl (wpAny_bind (wpAny_field hos hds (x:=vu) rfl (wpAny_bind (wpAny_field hos hds (x:=.none) rfl (wpAny_pure ?_)))))));refine wpAny_bind (slicePart_none ?_);show wpAny _ _ (if ((1:Int)==0)=true then _ else _) _ _ s;rw [if_neg (by decide)];refine wpAny_bind (VH pl (wpAny_bind (VH pu (wpAny_bind (wpAny_pure ?_)))));show wpAny _ _ (match Builtin.Slice.sliceAdjust lo hi 1 (n:Int) with|(lo,hi)=>pure (lo,(1:Int),Builtin.Slice.slicePlaces lo hi 1)) _ _ s;rw [XH lo hi n];show wpAny _ _ (pure (((sIx n 0 lo:Nat):Int),(1:Int),Builtin.Slice.slicePlaces ((sIx n 0 lo:Nat):Int) ((sIx n n hi:Nat):Int) 1)) _ _ s;rw [WY];exact wpAny_pure h
def TK (xs:Array Value) (i k:Nat):((List.range k).filterMap λ(m:Nat)=>xs[((i:Int)+(m:Int)*1).toNat]?).toArray=((xs.toList.drop i).take k).toArray:=by
 have e:(λ(m:Nat)=>xs[((i:Int)+(m:Int)*1).toNat]?)=λm=>xs[i+m]?:=by
  funext m;have:((i:Int)+(m:Int)*1).toNat=i+m:=by omega
  rw [this]
 rw [e];have:=pick_run xs i k;rw [List.filterMap_map] at this;have e2:((λx=>xs[x]?)∘λx=>i+x)=λm=>xs[i+m]?:=rfl;rw [e2] at this;rw [this]
def ZQ {t sl:Addr} {items:Array Value} {vl vu:Value} {lo hi:Option Int} {Q:Value->Shared->Prop} (ht:IsTup s.heap t items) (hs:s.heap.IsSliceOf sl vl vu .none) (pl:IsPart vl lo) (pu:IsPart vu hi)
  (hw:¬ (sIx items.size 0 lo=0/\sIx items.size items.size hi=items.size))
  (h:Q (.ref s.heap.objs.size) { s with heap:=s.heap.push { cls:=.type "tuple",data:=.seq ((items.toList.drop (sIx items.size 0 lo)).take (sIx items.size items.size hi-sIx items.size 0 lo)).toArray } })
  (hsz:items.size<=sizeLine):wpAny (model prog w) A (getItem (.ref t) (.ref sl)) Q E s:=by
 have htake:sizeOk (.seq ((items.toList.drop (sIx items.size 0 lo)).take (sIx items.size items.size hi-sIx items.size 0 lo)).toArray):=by
  show ((items.toList.drop (sIx items.size 0 lo)).take (sIx items.size items.size hi-sIx items.size 0 lo)).toArray.size<=sizeLine;rw [size_toArray,List.length_take,List.length_drop,Array.length_toList];omega
 have hj:sIx items.size items.size hi<=items.size:=qb0 _ _ (Nat.le_refl _) hi;obtain ⟨os,hos,hcs,hds⟩:=id hs;have hTs:s.TypeIs (.ref sl) "slice" := ⟨os,hos,hcs⟩
 unfold getItem
 try with_reducible refine wpAny_holding ?_
 first|refine wpAny_bind (wpAny_pure ?_)|skip
 refine wpAny_bind (wpAny_sequenceKey ht.typeIs (by decide) ?_);refine wpAny_bind (wpAny_callSpecial?_slot (name:=Str.ofString "__getitem__") ht.typeIs PyProof.Rows.slot_tuple_getitem
  (wpAny_call_entry PyProof.Rows.slot_tuple_getitem ht.typeIs entry_tuple_getitem ?_ (args_tuple_getitem _ _)))
 show wpAny _ _ (Builtin.Tuple.tupleItemsOf (.ref t) >>= _) _ _ s;refine wpAny_bind (tupleItemsOf_ ht ?_);refine wpAny_bind (wpAny_typeOf hTs ?_);rw [if_pos (by decide)];refine wpAny_bind (jT hs pl pu ?_);have hno:¬ ((((sIx items.size 0 lo:Nat):Int)==0&&(1:Int)==1&&(sIx items.size items.size hi-sIx items.size 0 lo)==items.size)=true):=by
  intro q;rw [Bool.and_eq_true,Bool.and_eq_true] at q;have q1:((sIx items.size 0 lo:Nat):Int)=0:=eq_of_beq q.1.1;have q2:sIx items.size items.size hi-sIx items.size 0 lo=items.size:=eq_of_beq q.2;exact hw ⟨by omega,by omega⟩
 show wpAny _ _ (if (((sIx items.size 0 lo:Nat):Int)==0&&(1:Int)==1&&(sIx items.size items.size hi-sIx items.size 0 lo)==items.size)=true then _ else _) _ _ s;rw [if_neg hno,TK]
 first
  |exact wpAny_bind (m:=Builtin.Tuple.tupleExact _) (wpAny_newObj_type (wpAny_pure ⟨_,rfl,wpAny_pure h⟩) htake)
  |exact wpAny_bind (m:=Builtin.Tuple.tupleExact _) (wpAny_newObj_type (wpAny_bind (wpAny_pure (wpAny_pure ⟨_,rfl,wpAny_pure h⟩))) htake)
  |exact wpAny_bind (wpAny_bind (m:=Builtin.Tuple.tupleExact _) (wpAny_newObj_type (wpAny_pure (wpAny_pure ⟨_,rfl,wpAny_pure h⟩)) htake))
  |exact wpAny_bind (wpAny_bind (m:=Builtin.Tuple.tupleExact _) (wpAny_newObj_type (wpAny_pure ⟨_,rfl,wpAny_pure h⟩) htake))
end
end HT
namespace L2
open PySem PySem.Spec PyProof.Rows
abbrev TO:=St->Hp->(Option Int->Hp->Prop)->Prop
def PO (X:Cx) (e:Option Expr) (t:TO):Prop:=
 ∀ (pins:List (Addr×Obj)) (s:Shared) (σ:St) (H:Hp) (Q:Option Int->Hp->Prop),Inv X pins σ H s->t σ H Q ->
  wpAny (model X.prog X.w) X.A (evalPart e X.env) (λu s'=>∃ o H',Inv X pins σ H' s'/\IsPart u o/\Q o H') X.xe s
def qaw:TO:=λ_ H Q=>Q none H
def qd8 (t:TE):TO:=λσ H Q=>t σ H λx H1=>∃ i,x=.int i/\Q (some i) H1
section
variable {X:Cx} {e:Expr} {te:TE} {lo hi:Option Expr} {tl th:TO} {pos p2:Pos}
def N8:PO X none qaw:=by
 intro pins s σ H Q I h;rw [evalPart_none];exact wpAny_pure ⟨none,H,I,.none,h⟩
def M3 (h:PE X e te):PO X (some e) (qd8 te):=by
 intro pins s σ H Q I hw;rw [evalPart_some];refine thn (h pins s σ H _ I hw) λu s1 ⟨x,H1,I1,r1,q1⟩=>?_;obtain ⟨i,rfl,q⟩:=q1;obtain ⟨t,rfl⟩:=r1;exact ⟨some i,H1,I1,.int i t,q⟩
def SlR (X:Cx) (r:V->Option Int->Option Int->Hp->VK->Prop):Prop:=
 ∀ (pins:List (Addr×Obj)) (s:Shared) (σ:St) (H:Hp) (x:V) (v vl vu:Value) (lo hi:Option Int) (sl:Addr) (Q:VK),Inv X pins σ H s->zW x v->s.heap.IsSliceOf sl vl vu .none->IsPart vl lo->IsPart vu hi->r x lo hi H Q ->
  ∃ T id,typeLookup (.type T) "__getitem__" = pure (some (.builtin id))/\s.TypeIs v T/\wpAny (model X.prog X.w) X.A (getItem v (.ref sl)) (EP X pins σ Q) X.xe s
def SlR.or {r r':V->Option Int->Option Int->Hp->VK->Prop} (h:SlR X r) (h':SlR X r'):SlR X (λx lo hi H Q=>r x lo hi H Q\/r' x lo hi H Q):=by
 intro pins s σ H x v vl vu lo hi sl Q I rx hs pl pu q;rcases q with q|q
 ·exact h pins s σ H x v vl vu lo hi sl Q I rx hs pl pu q
 ·exact h' pins s σ H x v vl vu lo hi sl Q I rx hs pl pu q
def tSl (r:V->Option Int->Option Int->Hp->VK->Prop) (te:TE) (tl th:TO):TE:=λσ H Q=>te σ H λx H1=>tl σ H1 λl H2=>th σ H2 λu H3=>r x l u H3 Q
def T7 {r:V->Option Int->Option Int->Hp->VK->Prop} (hr:SlR X r) (he:PE X e te) (hl:PO X lo tl) (hu:PO X hi th):PE X (.Subscript e (.Slice lo hi none p2) pos) (tSl r te tl th):=by
 intro pins s σ H Q I h;refine Subscript_ (thn (he pins s σ H _ I h) λv s1 ⟨x,H1,I1,r1,q1⟩=>?_);refine wpAny_Slice (thn (hl pins s1 σ H1 _ I1 q1) λvl s2 ⟨l,H2,I2,pl,q2⟩=>thn (hu pins s2 σ H2 _ I2 q2) λvu s3 ⟨u,H3,I3,pu,q3⟩=>?_);rw [evalPart_none];refine wpAny_pure ?_;have I4:Inv X pins σ H3 { s3 with heap:=s3.heap.push { cls:=.type "slice",data:=.fields #[vl,vu,.none] } }:=I3.kept (t':=s3.toks) λb ob q=>Heap.get?_push_of_some _ q;obtain ⟨T,id,hT,ht,hg⟩:=hr pins { s3 with heap:=s3.heap.push { cls:=.type "slice",data:=.fields #[vl,vu,.none] } } σ H3 x v vl vu l u s3.heap.objs.size Q I4 r1 (Heap.IsSliceOf.new ..) pl pu q3;show wpAny (model X.prog X.w) X.A (subscriptTail e (.Slice lo hi none p2) v (.ref s3.heap.objs.size)) (EP X pins σ Q) X.xe { s3 with heap:=s3.heap.push { cls:=.type "slice",data:=.fields #[vl,vu,.none] } };exact tail_any (ops:=[.ref s3.heap.objs.size,v]) ht hT hg (by with_unfolding_all rfl)
def MI (xs:List V) (lo hi:Option Int):List V:=(xs.drop (HT.sIx xs.length 0 lo)).take (HT.sIx xs.length xs.length hi-HT.sIx xs.length 0 lo)
def J5 (xs:List V) (lo hi:Option Int):(MI xs lo hi).length<=xs.length:=by
 unfold MI;rw [List.length_take,List.length_drop];omega
def qgc (K:Frg):V->Option Int->Option Int->Hp->VK->Prop:=λx lo hi H Q=>∃ a xs,x=.ref a/\SqT K H a xs /\
 ¬ (HT.sIx xs.length 0 lo=0/\HT.sIx xs.length xs.length hi=xs.length)/\∀ p,H p=none->Q (.ref p) (upd H p (.tup (MI xs lo hi)))
def qaH:SlR X (qgc X.K):=by
 intro pins s σ H x v vl vu lo hi sl Q I rx hs pl pu h;obtain ⟨a,xs,rfl,hx,hw,q⟩:=h;cases rx;obtain ⟨its,r,ht,hz⟩:=I.tuple hx;have hlen:its.toArray.size=xs.length:=by rw [size_toArray];exact r.length.symm
 refine ⟨"tuple",_,PyProof.Rows.slot_tuple_getitem.lookup,ht.typeIs,?_⟩;refine HT.ZQ ht hs pl pu (by rw [hlen];exact hw) ?_ (by rw [hlen];exact hz);rw [hlen];refine ⟨.ref s.heap.objs.size,_,I.laid (t':=s.toks) (o:=.tup (MI xs lo hi)) (λb ob q=>Heap.get?_push_of_some _ q) (Nat.le_refl _) ?_,rfl,q _ (I.hok.fresh (Nat.le_refl _))⟩;exact ⟨Nat.le_trans (J5 xs lo hi) hz,_,(r.drop (HT.sIx xs.length 0 lo)).take (HT.sIx xs.length xs.length hi-HT.sIx xs.length 0 lo),Z6.new _ _⟩
def qaB (K:Frg):R2:=λx y H Q=>∃ a b xs ys,x=.ref a/\y=.ref b/\SqT K H a xs/\SqT K H b ys/\xs≠[]/\xs.length+ys.length<=sizeLine /\
 (ys=[]->Q (.ref a) H)/\(ys≠[]->∀ p,H p=none->Q (.ref p) (upd H p (.tup (xs++ys))))
def zq.nil_iff {xs:List V} {us:List Value} (r:zq xs us):us=[]↔xs=[]:=by
 cases r with
 |nil=>simp
 |cons _ _=>simp
def SF:OpR X (binaryOp .Add) (qaB X.K):=by
 intro pins s σ H x y v u Q I rx ry h;obtain ⟨a,b,xs,ys,rfl,rfl,ha,hb,hx,hz,q1,q2⟩:=h;cases rx;cases ry;obtain ⟨its,r1,p1,_⟩:=I.tuple ha;obtain ⟨its2,r2,p2,_⟩:=I.tuple hb;refine HT.qap p1 p2 (λz=>hx (r1.nil_iff.mp z)) (λz=>⟨.ref a,H,I,rfl,q1 (r2.nil_iff.mp z)⟩) (λz=>?_) (by rw [← r1.length,← r2.length];exact hz);refine ⟨.ref s.heap.objs.size,_,I.laid (t':=s.toks) (o:=.tup (xs++ys)) (λb ob q=>Heap.get?_push_of_some _ q) (Nat.le_refl _) ?_,rfl,q2 (λw=>z (r2.nil_iff.mpr w)) _ (I.hok.fresh (Nat.le_refl _))⟩;exact ⟨by rw [length_append];exact hz,_,r1.append r2,Z6.new _ _⟩
end
def ixN (n:Nat) (i:Int):Option Nat:=if 0<=i then (if i<n then some i.toNat else none) else if -(n:Int)<=i then some (i+n).toNat else none
def atI {α:Type} (xs:List α) (i:Int):Option α:=(ixN xs.length i).bind λj=>xs[j]?
def R7 {n:Nat} {i:Int} {j:Nat} (h:ixN n i=some j):seqIndex? i n=some j/\j<n/\-(n:Int)<=i/\i<n:=by
 unfold ixN at h;by_cases h0:0<=i
 ·rw [if_pos h0] at h;by_cases h1:i<n
  ·rw [if_pos h1] at h;have e:i.toNat=j:=Option.some.inj h;exact ⟨by rw [seqIndex_of h0 h1,e],by omega,by omega,h1⟩
  ·rw [if_neg h1] at h;cases h
 ·rw [if_neg h0] at h;by_cases h1:-(n:Int)<=i
  ·rw [if_pos h1] at h;have e:(i+n).toNat=j:=Option.some.inj h;exact ⟨by rw [seqIndex_neg (by omega) h1,e],by omega,h1,by omega⟩
  ·rw [if_neg h1] at h;cases h
def EB {α:Type} {xs:List α} {i:Int} {v:α} (h:atI xs i=some v):∃ j,seqIndex? i xs.length=some j/\xs[j]?=some v/\j<xs.length/\-(xs.length:Int)<=i/\i<xs.length:=by
 unfold atI at h;cases e:ixN xs.length i with
 |none=>rw [e] at h;cases h
 |some j=>
  rw [e] at h;obtain ⟨h1,h2,h3,h4⟩:=R7 e;exact ⟨j,h1,h,h2,h3,h4⟩
def EL (b:Expr):Prop:=∀ o i,subscripted b false o i=operate [o,i] (getItem o i)
def IxR (X:Cx) (r:R2):Prop:=
 ∀ (value slice:Expr) (pins:List (Addr×Obj)) (s:Shared) (σ:St) (H:Hp) (x y:V) (v u:Value) (Q:VK),Inv X pins σ H s->zW x v->zW y u->r x y H Q ->
  subscripted slice false v u=operate [v,u] (getItem v u)->wpAny (model X.prog X.w) X.A (subscriptTail value slice v u) (EP X pins σ Q) X.xe s
def MtR (X:Cx) (id:String) (r:V->List V->Hp->VK->Prop):Prop:=
 ∀ (pins:List (Addr×Obj)) (s:Shared) (σ:St) (H:Hp) (x:V) (xs:List V) (v:Value) (us:List Value) (Q:VK),Inv X pins σ H s->zW x v->zq xs us->r x xs H Q ->
  wpAny (model X.prog X.w) X.A (call (.builtin id) (v::us)) (EP X pins σ Q) X.xe s
section
variable {X:Cx} {a b:Expr} {ta tb:TE} {pos:Pos}
def IxR.or {r r':R2} (h:IxR X r) (h':IxR X r'):IxR X (λx y H Q=>r x y H Q\/r' x y H Q):=by
 intro value slice pins s σ H x y v u Q I rx ry q hs;rcases q with q|q
 ·exact h value slice pins s σ H x y v u Q I rx ry q hs
 ·exact h' value slice pins s σ H x y v u Q I rx ry q hs
def qei {r:R2} (hr:IxR X r) (ha:PE X a ta) (hb:PE X b tb) (hs:EL b):PE X (.Subscript a b pos) (tOp r ta tb):=by
 intro pins s σ H Q I h;exact Subscript_ (qfI ha hb I h λv u s2 x y H2 I2 rx ry q=>hr a b pins s2 σ H2 x y v u Q I2 rx ry q (hs _ _))
def qfU (K:Frg):R2:=λx y H Q=>∃ p xs i v,x=.ref p/\y=.int i/\SqL K H p xs/\atI xs i=some v/\Q v H
def qfP (K:Frg):R2:=λx y H Q=>∃ p xs i v,x=.ref p/\y=.int i/\SqT K H p xs/\atI xs i=some v/\Q v H
def qfJ:R2:=λx y H Q=>∃ z i c,x=.str z/\y=.int i/\z.length<=sizeLine/\atI z.cps.toList i=some c/\Q (.str ⟨#[c]⟩) H
def qaa:IxR X (qfU X.K):=by
 intro value slice pins s σ H x y v u Q I rx ry h hs;obtain ⟨p,xs,i,z,rfl,rfl,hq,he,q⟩:=h;cases rx;obtain ⟨t,rfl⟩:=ry;obtain ⟨its,r,pl,hz⟩:=I.list hq;obtain ⟨j,h1,h2,h3,h4,h5⟩:=EB he;obtain ⟨w,ew,rw'⟩:=r.get h2;have hl:=r.length;have hn:=U1;have fin:EP X pins σ Q w s:=⟨z,H,I,rw',q⟩
 by_cases h0:0<=i
 ·have hj:i.toNat=j:=by
   rw [seqIndex_of h0 h5] at h1;exact Option.some.inj h1
  exact item_listR pl.isList h0 (by omega) (by rw [hj];simpa using ew) fin hs
 ·have hj:(i+(its.toArray.size:Int)).toNat=j:=by
   rw [seqIndex_neg (by omega) h4] at h1;rw [size_toArray,← hl];exact Option.some.inj h1
  exact subscriptTail_builtinR (x:=w) pl.isList.typeIs slot_list_getitem.lookup
   (wpAny_getItem_list_neg (Q:=λr s'=>r=w/\EP X pins σ Q r s') pl.isList (by omega) (by rw [size_toArray]<;>omega) (by omega) (by rw [hj];simpa using ew) ⟨rfl,fin⟩) hs
def qaW:IxR X (qfP X.K):=by
 intro value slice pins s σ H x y v u Q I rx ry h hs;obtain ⟨p,xs,i,z,rfl,rfl,hq,he,q⟩:=h;cases rx;obtain ⟨t,rfl⟩:=ry;obtain ⟨its,r,pl,hz⟩:=I.tuple hq;obtain ⟨j,h1,h2,h3,h4,h5⟩:=EB he;obtain ⟨w,ew,rw'⟩:=r.get h2;have hl:=r.length;have hn:=U1;have fin:EP X pins σ Q w s:=⟨z,H,I,rw',q⟩
 exact subscriptTail_builtinR (x:=w) pl.typeIs slot_tuple_getitem.lookup
  (getItem_tuple (j:=j) (Q:=λr s'=>r=w/\EP X pins σ Q r s') pl (by omega) (by omega) (by rw [size_toArray,← hl];exact h1) (by simpa using ew) ⟨rfl,fin⟩) hs
def qcK:IxR X qfJ:=by
 intro value slice pins s σ H x y v u Q I rx ry h hs;obtain ⟨z,i,c,rfl,rfl,hz,he,q⟩:=h;obtain ⟨t,rfl⟩:=rx;obtain ⟨t',rfl⟩:=ry;obtain ⟨j,h1,h2,h3,h4,h5⟩:=EB he;have hl:z.cps.toList.length=z.length:=by simp [Str.length]
 rw [hl] at h1 h4 h5;have hn:=U1;exact tail_any (typeIs_str s z t) slot_str_getitem.lookup (getItem_str (c:=c) (by
  have e1:decide (i < -(2 ^ 63:Int))=false:=decide_eq_false (by omega);have e2:decide (i ≥ 2 ^ 63)=false:=decide_eq_false (by omega);rw [e1,e2,Bool.or_false]) (by rw [h1];simpa using h2) ⟨.str ⟨#[c]⟩,H,I.tok _,⟨_,rfl⟩,q⟩) hs
def rIx (K:Frg):R2:=λx y H Q=>qfU K x y H Q\/qfP K x y H Q\/qfJ x y H Q
def qct:IxR X (rIx X.K):=qaa.or (qaW.or qcK)
def W0 (its:List Value) (n j:Nat) (u:Value):Obj.mapSeq (·.setIfInBounds j u) { cls:=.type "list",data:=.seq its.toArray n }={ cls:=.type "list",data:=.seq (its.set j u).toArray n }:=by
 simp [Obj.mapSeq]
def Inv.lst {pins:List (Addr×Obj)} {σ:St} {H:Hp} {s:Shared} {p:Addr} {xs:List V} (I:Inv X pins σ H s) (h:H p=some (.lst xs)) :
  ∃ (its:List Value) (n:Nat),zq xs its/\s.heap.get? p=some { cls:=.type "list",data:=.seq its.toArray n }/\xs.length<=sizeLine:=by
 obtain ⟨z,its,n,r,e⟩:=I.hok p _ h;exact ⟨its,n,r,e,z⟩
def Inv.lstUpd {pins:List (Addr×Obj)} {σ:St} {H:Hp} {s:Shared} {p:Addr} {xs ys:List V} {its its':List Value} {n n':Nat} {f:Obj->Obj} (I:Inv X pins σ H s) (h:H p=some (.lst xs))
  (ho:s.heap.get? p=some { cls:=.type "list",data:=.seq its.toArray n }) (hf:f { cls:=.type "list",data:=.seq its.toArray n }={ cls:=.type "list",data:=.seq its'.toArray n' }) (r:zq ys its') (hz:ys.length<=sizeLine) (t:Nat) :
  Inv X pins σ (upd H p (.lst ys)) { s with heap:=s.heap.update p f,toks:=t }:=by
 have e:(s.heap.update p f).get? p=some { cls:=.type "list",data:=.seq its'.toArray n' }:=by
  rw [Heap.get?_update_self f ho (by rw [hf]<;>rfl),hf]
 refine I.write (x:=p) (e:=p) (by rw [h];trivial) (.inl rfl) (λb u hb q=>(Heap.get?_update_other _ _ (Ne.symm hb)).trans q) ⟨_,e⟩ ?_;exact ⟨hz,its',n',r,e⟩
def qdN:V->V->V->Hp->(Hp->Prop)->Prop:=λo i v H Q=>∃ p xs k j,o=.ref p/\i=.int k/\H p=some (.lst xs)/\ixN xs.length k=some j/\Q (upd H p (.lst (xs.set j v)))
def T1:qfw X qdN:=by
 intro pins s σ H o i v ov iv u Q I ro ri rv h;obtain ⟨p,xs,k,j,rfl,rfl,hp,hj,q⟩:=h;cases ro;obtain ⟨t,rfl⟩:=ri;obtain ⟨its,n,r,ho,hz⟩:=I.lst hp;obtain ⟨h1,h2,h3,h4⟩:=R7 hj;have hl:=r.length;have hn:=U1;have I':Inv X pins σ (upd H p (.lst (xs.set j v))) { s with heap:=s.heap.update p (Obj.mapSeq (·.setIfInBounds j u)) }:=
  I.lstUpd hp ho (W0 its n j u) (r.set rv j) (by rw [List.length_set];exact hz) s.toks
 by_cases h0:0<=k
 ·have hk:k.toNat=j:=by
   rw [seqIndex_of h0 h4] at h1;exact Option.some.inj h1
  exact PySem.W.ki_setAt ho h0 (by omega) (by rw [size_toArray,← hl];exact h4) (by rw [hk];exact ⟨_,I',q⟩)
 ·have hk:(k+(its.toArray.size:Int)).toNat=j:=by
   rw [seqIndex_neg (by omega) h3] at h1;rw [size_toArray,← hl];exact Option.some.inj h1
  exact PySem.W.ki_setBack ho (by omega) (by rw [size_toArray,← hl];exact h3) (by omega) (by rw [hk];exact ⟨_,I',q⟩)
def U5 (lo hi:Option Int) (n:Nat):(sliceBounds lo hi none n).1=((HT.sIx n 0 lo:Nat):Int)/\(sliceBounds lo hi none n).2.1=((HT.sIx n n hi:Nat):Int)/\(sliceBounds lo hi none n).2.2=1:=by
 refine ⟨?_,?_,rfl⟩
 ·cases lo with
  |none=>simp [sliceBounds,HT.sIx]
  |some i=>
   simp only [sliceBounds,HT.sIx,Option.getD_none,show (1:Int) > 0 by decide,if_true];by_cases h:i<0
   ·simp only [h,if_true]<;>omega
   ·simp only [h,if_false]<;>omega
 ·cases hi with
  |none=>simp [sliceBounds,HT.sIx]
  |some i=>
   simp only [sliceBounds,HT.sIx,Option.getD_none,show (1:Int) > 0 by decide,if_true];by_cases h:i<0
   ·simp only [h,if_true]<;>omega
   ·simp only [h,if_false]<;>omega
def VP (its:List Value) (lo hi:Option Int):slicePick its.toArray lo hi none=((its.drop (HT.sIx its.length 0 lo)).take (HT.sIx its.length its.length hi-HT.sIx its.length 0 lo)).toArray:=by
 obtain ⟨h1,h2,h3⟩:=U5 lo hi its.toArray.size;unfold slicePick;rw [h1,h2,h3];simp only [sliceRange_one,pick_run,size_toArray]<;>rfl
def qgA (K:Frg):V->Option Int->Option Int->Hp->VK->Prop:=λx lo hi H Q=>∃ a xs,x=.ref a/\SqL K H a xs/\∀ p,H p=none->Q (.ref p) (upd H p (.lst (MI xs lo hi)))
def qac:SlR X (qgA X.K):=by
 intro pins s σ H x v vl vu lo hi sl Q I rx hs pl pu h;obtain ⟨a,xs,rfl,hx,q⟩:=h;cases rx;obtain ⟨its,r,ht,hz⟩:=I.list hx;have hlen:=r.length;refine ⟨"list",_,slot_list_getitem.lookup,ht.isList.typeIs,?_⟩;refine wpAny_getItem_list_slice ht.isList hs pl pu .none (by simp) ?_ (by rw [size_toArray]<;>omega);rw [VP,← hlen];refine ⟨.ref s.heap.objs.size,_,I.laid (t':=s.toks) (o:=.lst (MI xs lo hi)) (λb ob q=>Heap.get?_push_of_some _ q) (Nat.le_refl _) ?_,rfl,q _ (I.hok.fresh (Nat.le_refl _))⟩;exact ⟨Nat.le_trans (J5 xs lo hi) hz,_,0,(r.drop (HT.sIx xs.length 0 lo)).take (HT.sIx xs.length xs.length hi-HT.sIx xs.length 0 lo),Heap.get?_push_size _ rfl⟩
def JA:Q4 X (.type "list") (λxs H Q=>∃ p ys,xs=[.ref p]/\(SqL X.K H p ys\/SqT X.K H p ys)/\∀ l,H l=none->Q (.ref l) (upd H l (.lst ys))):=by
 intro pins s σ H xs us Q I r h;obtain ⟨p,ys,rfl,hq,q⟩:=h;obtain ⟨u,rfl,rx⟩:=EM r;cases rx;have fin:∀ (its:List Value),zq ys its->ys.length<=sizeLine->∀ (h':Heap) (c':Nat),(∀ b o',s.heap.get? b=some o'->h'.get? b=some o') ->
   h'.get? s.heap.objs.size=some { cls:=.type "list",dict:=none,data:=.seq its.toArray c',slots:=#[] }->EP X pins σ Q (.ref s.heap.objs.size) { s with heap:=h' }:=λits r' hz h' c' kp e=>
  ⟨.ref s.heap.objs.size,_,I.laid (t':=s.toks) kp (Nat.le_refl _) (show QL X.prog X.w _ h' _ (.lst ys) from ⟨hz,its,c',r',e⟩),rfl,q _ (I.hok.fresh (Nat.le_refl _))⟩
 rcases hq with hq|hq
 ·obtain ⟨its,r',pl,hz⟩:=I.list hq;have hlen:=r'.length;obtain ⟨o,ho,hc,n,hd⟩:=pl.isList;exact call_list_seq p (.inl rfl) ho hc hd (λh' c' kp e=>fin its r' hz h' c' kp e) (by simp only [size_toArray]<;>omega)
 ·obtain ⟨its,r',pl,hz⟩:=I.tuple hq;have hlen:=r'.length;obtain ⟨o,ho,hc,n,hd⟩:=pl;exact call_list_seq p (.inr rfl) ho hc hd (λh' c' kp e=>fin its r' hz h' c' kp e) (by simp only [size_toArray]<;>omega)
def ze:Q4 X (.type "tuple") (λxs H Q=>∃ p ys,xs=[.ref p]/\((SqL X.K H p ys/\∀ l,H l=none->Q (.ref l) (upd H l (.tup ys)))\/(SqT X.K H p ys/\Q (.ref p) H))):=by
 intro pins s σ H xs us Q I r h;obtain ⟨p,ys,rfl,h⟩:=h;obtain ⟨u,rfl,rx⟩:=EM r;cases rx;rcases h with ⟨hq,q⟩|⟨hq,q⟩
 ·obtain ⟨its,r',pl,hz⟩:=I.list hq;have hlen:=r'.length;refine call_tuple_list pl.isList (λh' kp=>?_) (by simp only [size_toArray]<;>omega);have I1:Inv X pins σ H { s with heap:=h' }:=I.kept (t':=s.toks) kp;have I2:Inv X pins σ (upd H h'.objs.size (.tup ys)) { s with heap:=h'.push { cls:=.type "tuple",data:=.seq its.toArray } }:=
   I1.laid (t':=s.toks) (λb o e=>Heap.get?_push_of_some _ e) (Nat.le_refl _) (show QL X.prog X.w _ _ _ (.tup ys) from ⟨hz,its,r',Z6.new _ _⟩)
  exact ⟨.ref h'.objs.size,_,I2,rfl,q _ (I1.hok.fresh (Nat.le_refl _))⟩
 ·obtain ⟨its,r',pl,hz⟩:=I.tuple hq;exact call_tuple_same pl ⟨.ref p,H,I,rfl,q⟩
def tyV (K:Frg) (T:String) (x:V) (H:Hp):Prop:=match x with
 |.str _=>T="str"
 |.int _=>T="int"
 |.ref p=>(T="list"/\∃ xs,SqL K H p xs)\/(T="tuple"/\∃ o,K.lookup p=some o/\o.cls=.type "tuple"/\o.dict=none) ∨
   (T="dict"/\((∃ kvs,H p=some (.dK kvs))\/∃ kvs,H p=some (.dT kvs)))\/(T="set"/\∃ S n,H p=some (.set S n))
 |_=>False
def qb1 {pins:List (Addr×Obj)} {σ:St} {H:Hp} {s:Shared} {T:String} {x:V} {v:Value} (I:Inv X pins σ H s) (r:zW x v) (ty:tyV X.K T x H) :
  s.TypeIs v T/\∀ a,v=.ref a->∃ ob,s.heap.get? a=some ob/\ob.dict=none:=by
 cases x with
 |str z=>
  obtain ⟨t,rfl⟩:=r;cases (show T="str" from ty);exact ⟨typeIs_str s z t,λ_ e=>nomatch e⟩
 |int i=>
  obtain ⟨t,rfl⟩:=r;cases (show T="int" from ty);exact ⟨typeIs_int s i t,λ_ e=>nomatch e⟩
 |ref p=>
  cases r;rcases ty with ⟨rfl,xs,hq⟩|⟨rfl,o,hk,hc,hd⟩|⟨rfl,hk⟩|⟨rfl,S,n,hk⟩
  ·obtain ⟨its,_,pl,_⟩:=I.list hq;refine ⟨pl.isList.typeIs,λa e=>?_⟩;cases e;obtain ⟨o,n,e,c,hd,_⟩:=pl;exact ⟨o,e,hd⟩
  ·refine ⟨⟨o,I.kIn p o hk,hc⟩,λa e=>?_⟩;cases e;exact ⟨o,I.kIn _ o hk,hd⟩
  ·have z:∃ o,s.heap.get? p=some o/\o.ExactDict:=by
    rcases hk with ⟨kvs,hk⟩|⟨kvs,hk⟩
    ·obtain ⟨_,_,_,_,o,_,_,e,ex,_⟩:=I.hok p _ hk;exact ⟨o,e,ex⟩
    ·obtain ⟨_,_,_,_,o,_,_,e,ex,_⟩:=I.hok p _ hk;exact ⟨o,e,ex⟩
   obtain ⟨o,e,ex⟩:=z;refine ⟨⟨o,e,ex.1⟩,λa e2=>?_⟩;cases e2;exact ⟨o,e,ex.2.1⟩
  ·obtain ⟨o,_,_,_,e,ex,_⟩:=I.hok p _ hk;refine ⟨⟨o,e,ex.1⟩,λa e2=>?_⟩;cases e2;exact ⟨o,e,ex.2.1⟩
 |_=>exact False.elim ty
def tBM (K:Frg) (T:String) (r:V->List V->Hp->VK->Prop) (to:TE) (t:TA):TE:=λσ H Q=>to σ H λx H1=>tyV K T x H1/\t σ H1 λxs H2=>r x xs H2 Q
variable {o e:Expr} {es:List Expr} {to:TE} {t:TA} {name:Str} {apos cpos:Pos} {T id:String} {r:V->List V->Hp->VK->Prop}
def qbg (pa:PlainAttrs T) (slot:Slot T name id) (hty:typeOf (.builtin id)=pure (.type "method_descriptor")) (hm:MtR X id r) (ho:PE X o to) (ha:PA X (e::es) t)
  (hbase:attributeBase o name X.env (eval o X.env)=eval o X.env:=by rfl)
  (hfew:((backTo cpos (starEach (e::es) X.env)).all (λx=>!x.1)&&(backToKw cpos (keywordEach [] X.env)).all (λx=>x.1.isSome)
   && decide ((e::es).length+([]:List Keyword).length+(if ([]:List Keyword).isEmpty then 0 else 1)<30))=true:=by rfl)
  (hline:(apos.endLine==cpos.line)=true:=by rfl) (hs:starEach (e::es) X.env=(false,eval e X.env)::starEach es X.env:=by rfl) (hplain:(backTo cpos (starEach es X.env)).any (·.1)=false:=by rfl) :
  PE X (.Call (.Attribute o name apos) (e::es) [] cpos) (tBM X.K T r to t):=by
 intro pins s σ H Q I h;refine wpAny_Call_method_late hbase hfew hline rfl (thn (ho pins s σ H _ I h) λv s1 ⟨x,H1,I1,r1,ty,q1⟩=>?_);obtain ⟨h1,h2⟩:=qb1 I1 r1 ty;refine ⟨T,id,pa,slot,hty,h1,h2,?_⟩;have hA:=ha cpos pins s1 σ H1 _ I1 q1;rw [hs] at hA ⊢;refine Calls.callWith_builtin (by show (false||(backTo cpos (starEach es X.env)).any (·.1))=false;rw [hplain]<;>rfl) (Calls.evalArgs_plain ?_);exact thn hA λus s2 ⟨vs,H2,I2,r2,q2⟩=>hm pins s2 σ H2 x vs v us Q I2 r1 r2 q2
end
def MtM (X:Cx) (id:String) (r:V->List V->Hp->VK->Prop):Prop:=
 ∀ (pins:List (Addr×Obj)) (s:Shared) (σ:St) (H:Hp) (x:V) (xs:List V) (v:Value) (us:List Value) (Q:VK),Inv X pins σ H s->zW x v->zq xs us->r x xs H Q ->
  wpAny (model X.prog X.w) X.A (call (.builtin id) (v::us)) (EP X pins σ Q) X.xe s
def zq.one:∀ {x:V} {us:List Value},zq [x] us->∃ u,us=[u]/\zW x u
 |_,_,.cons r .nil=>⟨_,rfl,r⟩
def zq.reverse {xs:List V} {us:List Value} (h:zq xs us):zq xs.reverse us.reverse:=by
 induction h with
 |nil=>exact .nil
 |cons r t ih=>rw [List.reverse_cons,List.reverse_cons];exact zq.append ih (.cons r .nil)
section
variable {X:Cx} {pins:List (Addr×Obj)} {σ:St} {H:Hp} {s:Shared} {l b:Addr} {xs ys zs:List V}
def Inv.lset {its its':List Value} {n:Nat} {f:Array Value->Array Value} {t':Nat} (I:Inv X pins σ H s) (hH:H l=some (.lst xs))
  (e:s.heap.get? l=some { cls:=.type "list",data:=.seq its.toArray n }) (hf:f its.toArray=its'.toArray) (hv:zq ys its') (hz:ys.length<=sizeLine) :
  Inv X pins σ (upd H l (.lst ys)) { s with heap:=s.heap.update l (Obj.mapSeq f),toks:=t' }:=by
 have q:=PySem.IsL.update e f;rw [hf] at q;refine I.write (x:=l) (e:=l) (by rw [hH];exact trivial) (.inl rfl) (λb' u hb hu=>(Heap.get?_update_other s.heap (Obj.mapSeq f) (Ne.symm hb)).trans hu) ⟨_,q⟩ ?_;exact ⟨hz,its',_,hv,q⟩
def Inv.lnew {its:List Value} {t':Nat} (I:Inv X pins σ H s) (hv:zq ys its) (hz:ys.length<=sizeLine) :
  Inv X pins σ (upd H s.heap.objs.size (.lst ys)) { s with heap:=s.heap.push { cls:=.type "list",data:=.seq its.toArray },toks:=t' }:=
 I.laid (λ_ _ q=>Heap.get?_push_of_some _ q) (Nat.le_refl _) ⟨hz,its,0,hv,Heap.get?_push_size _ rfl⟩
def Inv.fresh (I:Inv X pins σ H s):H s.heap.objs.size=none:=I.hok.fresh (Nat.le_refl _)
def Inv.lstM (I:Inv X pins σ H s) (hH:H l=some (.lst xs)):xs.length<=sizeLine/\∃ (its:List Value) (n:Nat),zq xs its/\xs.length=its.length/\s.heap.get? l=some { cls:=.type "list",data:=.seq its.toArray n }:=by
 obtain ⟨z,its,n,r,e⟩:=I.hok l _ hH;exact ⟨z,its,n,r,r.length,e⟩
end
section
variable {X:Cx}
def C0:V->List V->Hp->VK->Prop:=λx vs H Q=>∃ l xs y,x=.ref l/\vs=[y]/\H l=some (.lst xs)/\xs.length<sizeLine/\Q .non (upd H l (.lst (xs++[y])))
def JR:MtM X "list.append" C0:=by
 intro pins s σ H x vs v us Q I rx rv h;obtain ⟨l,xs,y,rfl,rfl,hH,hz,q⟩:=h;cases rx;obtain ⟨u,rfl,ru⟩:=rv.one;obtain ⟨z,its,n,r,hl,e⟩:=I.lstM hH;refine call_meets F.slot_list_append ⟨_,e,rfl⟩ F.entry_list_append (F.args_list_append_2 _ _) (PySem.list_append l its.toArray n u (by rw [size_toArray];omega)) ⟨e,?_⟩;refine ⟨.non,_,I.lset (its':=its++[u]) hH e (by simp) (r.append (.cons ru .nil)) ?_,rfl,q⟩;rw [length_append,List.length_singleton];omega
def qeN:R2:=λx y H Q=>∃ l b xs zs,x=.ref l/\y=.ref b/\H l=some (.lst xs)/\H b=some (.lst zs)/\xs.length+zs.length<=sizeLine/\∀ p,H p=none->Q (.ref p) (upd H p (.lst (xs++zs)))
def LG:OpR X (binaryOp .Add) qeN:=by
 intro pins s σ H x y v u Q I rx ry h;obtain ⟨l,b,xs,zs,rfl,rfl,hH,hB,hz,q⟩:=h;cases rx;cases ry;obtain ⟨z,its,n,r,hl,e⟩:=I.lstM hH;obtain ⟨z2,its2,n2,r2,hl2,e2⟩:=I.lstM hB;refine PySem.P.add_list e e2 ?_ (by rw [size_toArray,size_toArray];omega);have ea:its.toArray++its2.toArray=(its++its2).toArray:=by simp
 rw [ea];exact ⟨.ref _,_,I.lnew (t':=s.toks) (r.append r2) (by rw [length_append];omega),rfl,q _ I.fresh⟩
end
section
variable {prog:Program} {w:World} {A:Around} {E:Value->Shared->Prop} {s:Shared}
end
section
variable {X:Cx}
end
end L2
namespace Att
open PySem PySem.W PySem.Calls PyProof.Rows
def J7 {P:Params} {h:Heap}:∀ (ns:List Int) (vs:List Value),WellAll P h vs (ns.map WData.int)->IntsAre vs ns:=by
 intro ns;induction ns with
 |nil=>
  intro vs w;rw [List.map_nil] at w;cases w;exact .nil
 |cons n ns ih=>
  intro vs w;rw [map_cons] at w;cases w with
  |cons a b=>
   cases a;exact .cons _ _ (ih _ b)
def RI {l:OpenLaw} {n:Nat} (hn:l.most=some n) {P:Params} {h:Heap} {args:List WData} {vals:List Value}
  (hpre:l.row.toRowW.claim.pre args=true) (hwl:WellAll P h vals args) :
  ∃ a vs ns,vals=[Value.ref a]/\args=[WData.list (ns.map WData.int)]/\h.get? a=some { cls:=.type "list",data:=.seq vs.toArray }/\IntsAre vs ns/\ns.length<=n:=by
 have hsh:WShape.hasAll [] args [.list .int]=true:=(pre_splitW hpre).1;have hc:l.pre.holds [] { args:=args }=true:=(pre_splitW hpre).2;obtain ⟨d,r,rfl,h1,h2⟩:=hasAllW_cons hsh;obtain rfl:=hasAllW_nil h2;obtain ⟨xs,rfl,h3⟩:=hasW_list h1;obtain ⟨ns,rfl⟩:=items_int h3;have hlen:ns.length<=n:=by
  unfold OpenLaw.pre at hc;have h4:(WTm.not (.lt (.lit (.int (n:Int))) (.len (.arg 0)))).holds [] { args:=[.list (ns.map .int)] }=true:=by
   have h4:=(holds_andW hc).1;rw [hn] at h4;exact h4
  have h5:=condW_of h4 (w_not (w_lt w_lit (w_len_list (w_arg rfl))));rw [length_map] at h5;refine Nat.le_of_not_lt λq=>?_;have q':(n:Int)<((ns.length:Nat):Int):=by omega
  first
   | (rw [decide_eq_true q'] at h5;exact absurd h5 (by decide))
   | (simp at h5;omega)
 cases hwl with
 |cons w1 w2=>
  cases w2;cases w1 with
  |list ho hall=>exact ⟨_,_,ns,rfl,rfl,ho,J7 ns _ hall,hlen⟩
def X4 (l:OpenLaw) (args:List WData):l.row.toRowW.claim.post args (.bool true) args=true:=
 postW_of (r:=l.row.toRowW) (X:=(true==true))
  (show WShape.has [] (.bool true) .bool=true by first|rfl|decide|simp [WShape.has,WShape.arms,WShape.armsAll])
  (show (WTm.eq .res (.lit (.bool true))).value [] { args:=args,res:=some (.bool true),after:=args }=some (.bool (true==true)) from w_eq_bool (w_res rfl) w_lit) rfl
def EN {l:OpenLaw} {n:Nat} {q:Program} {loose:List Str} {XP:(Str->Option Value)->Heap->Prop} {YP:World->Heap->Prop} {d:DefRec}
  (hn:l.most=some n) (hdf:d.params.defaults=[])
  (call:∀ (w:World) (s₀ s₁:Shared) (mg mb:Str->Option Value) (fa:Addr) (o:Obj) (pm cd doc:Value) (a:Addr) (vs:List Value) (ns:List Int),
   Ground q loose [] XP w s₀ mg mb s₁.heap->YP w s₁.heap ->
   s₁.heap.get? fa=some o->o.data=.func (docDef d.name d.params d.body d.scope pm cd doc)->s₁.heap.CodeRec cd d.name->mg d.name=some (.ref fa) ->
   s₁.heap.get? a=some { cls:=.type "list",data:=.seq vs.toArray }->IntsAre vs ns->ns.length<=n->s₁.gens=#[] ->
   codeAny (model l.prog w) callerA (.call (.ref fa) ⟨[.ref a],[]⟩) (λr s'=>r=.ok (.ret (.bool true))/\OldK s₁.heap s'.heap/\s'.os=s₁.os/\AllBare s'.gens) s₁) :
  WalkO q loose XP YP l.row.toRowW d [] (λf vs=>PySem.call f vs):=by
 intro w s₀ s₁ mg mb G Y fa o pm cd doc dV kV ho hd hcd hD hmg hg args vals as hpre hlay hrd hwl hlo;obtain rfl:dV=.none:=Dflts.none hD hdf;obtain rfl:kV=.none:=Dflts.noKw hD;obtain ⟨a,vs,ns,rfl,rfl,hobj,hints,hlen⟩:=RI hn hpre hwl;refine enter_call (codeAny_mono (call w s₀ s₁ mg mb fa o pm cd doc a vs ns G Y ho (fd_plain hd) hcd hmg hobj hints hlen hg) λr s' hq=>?_);obtain ⟨rfl,h2,h3,h4⟩:=hq;exact ⟨.inl ⟨.bool true,.bool true,[],rfl,λ_=>rfl,.bool true,X4 l _,λ_=>⟨List.Pairwise.nil,λ_ hm=>(nomatch hm)⟩⟩,h2,h3,h4⟩
section
variable {prog:Program} {w:World} {A:Around} {E:Value->Shared->Prop} {s:Shared} {K:Frag}
end
end Att
namespace L2
open PySem PySem.Spec PyProof.Rows
def UZ:∀ {vs:List Value} {ns:List Int},IntsAre vs ns->zq (ns.map V.int) vs
 |_,_,.nil=>.nil
 |_,_,.cons n t h=>.cons ⟨t,rfl⟩ (UZ h)
def qdH (H:Hp):Prop:=∀ b,H b=none\/∃ o xs,H b=some (.frz o (.lst xs))
def TY {P:Program} {w:World} {K:Frg} {mg mb:Str->Option Value} {CX:CXT} {k:Nat} {fa a:Addr} {fd:FuncData} {x:Str} {sp:Sp} {s₁:Shared} {vs:List Value} {ns:List Int}
  (KX:K.In s₁.heap) (hns:s₁.heap.Ns mainGlobals mg) (hb:s₁.heap.Ns builtinsNs mb) (hbb:∀ x:Str,x≠"__name__" -> mb x=bootBuiltins x) (hlim:s₁.heap.NoLimit) (hg:s₁.gens=#[])
  (ha:s₁.heap.get? a=some { cls:=.type "list",data:=.seq vs.toArray }) (hi:IntsAre vs ns) (hl:ns.length<=sizeLine) (hr:Room k callerA)
  (F:∀ base:Heap,K.In base->base.Ns mainGlobals mg->FnOk P w K mg base CX k fa fd [x] sp) (hbind:∀ (s:Shared) (u:Value),BindsTo s fd ⟨[u],[]⟩ [(x,u)])
  (hsp:∀ H:Hp,qdH H->SqL K H a (ns.map V.int)->sp [.ref a] H (λv _=>v=.bl true) λ_ _ _=>False)
  (hCX:∀ H e s',CX [] H s₁ (λ_ _ _=>False) e s'->False) :
  codeAny (model P w) callerA (.call (.ref fa) ⟨[.ref a],[]⟩) (λr s'=>r=.ok (.ret (.bool true))/\OldK s₁.heap s'.heap/\s'.os=s₁.os/\AllBare s'.gens) s₁:=by
 have rv:=UZ hi;have lenV:=hi.length
 -- from an abstract heap in which nothing but the script may be tracked
 have core:∀ H:Hp,qdH H->SqL K H a (ns.map V.int)->HOk P w H s₁.heap->(∀ b,H b≠none->b=a)->(H a≠none->K.lookup a=none) ->
   codeAny (model P w) callerA (.call (.ref fa) ⟨[.ref a],[]⟩) (λr s'=>r=.ok (.ret (.bool true))/\OldK s₁.heap s'.heap/\s'.os=s₁.os/\AllBare s'.gens) s₁:=by
  intro H hO hS hok hA hK;have base_of:∀ {b:Addr} {o:Obj},s₁.heap.get? b=some o->H b=none->(KK s₁.heap H).get? b=some o:=λe n=>SY e n;have noA:∀ {b:Addr} {o:Obj} {es:Array DictEntry} {ep:Nat},s₁.heap.get? b=some o->o.data=.dict es ep->H b=none:=λ{b o es ep} e d=>by
   cases q:H b with
   |none=>rfl
   |some u=>
    have e':b=a:=hA b (by rw [q];simp);subst e';rw [ha] at e;cases e;have d':Data.seq vs.toArray _=Data.dict es ep:=d;cases d'
  have nsK:∀ {b:Addr} {m:Str->Option Value},s₁.heap.Ns b m->(KK s₁.heap H).Ns b m:=λ{b m} ⟨o,es,ep,e,d,r⟩=>⟨o,es,ep,base_of e (noA e d),d,r⟩
  have hKb:K.In (KK s₁.heap H):=λb o e=>base_of (KX b o e) (by
   cases q:H b with
   |none=>rfl
   |some u=>
    have e':b=a:=hA b (by rw [q];simp);subst e';rw [hK (by rw [q];simp)] at e;cases e)
  have hM:Mod K mg (KK s₁.heap H):=⟨hKb,nsK hns,⟨mb,nsK hb,hbb⟩,let ⟨mc,h1,h2⟩:=hlim;⟨mc,nsK h1,h2⟩⟩
  have e0:Env0 P w K mg (KK s₁.heap H) callerA [] s₁ H:=⟨rfl,hM,λb o e=>M1 e,Nat.le_of_eq (XX _ _),trivial,λb hb=>absurd (show b∈([]:List Addr) from hb) (by simp),hok,.of_eq hg⟩
  refine codeAny_mono ((F _ hKb (nsK hns)).run callerA [] s₁ H ⟨[.ref a],[]⟩ [.ref a] [.ref a] _ _ hr e0 (hbind s₁ (.ref a)) (.cons rfl .nil) (hsp H hO hS)) λr s' h=>?_;cases r with
  |error e=>exact (hCX H e s' h).elim
  |ok fl=>
   cases fl with
   |next=>exact False.elim h
   |brk=>exact False.elim h
   |cont=>exact False.elim h
   |ret u=>
    obtain ⟨v,H',os,bare,un,hok',r',q⟩:=h;have q':v=.bl true:=q;subst q';obtain rfl:u=Value.bool true:=r';refine ⟨rfl,OldK.of_keep λb o e=>?_,os,bare⟩;cases q:H b with
    |none=>exact un.keep b o e q (by intro z;exact absurd (show b∈([]:List Addr) from z) (by simp)) (by simp)
    |some u=>
     rcases hO b with z|⟨ob,xs,z⟩
     ·rw [q] at z;cases z
     ·have z2:=un.frzs b ob _ z;obtain ⟨e1,_⟩:=hok b _ z;obtain ⟨e2,_⟩:=hok' b _ z2;rw [e] at e1;cases e1;exact e2
 cases hk:K.lookup a with
 |some o=>
  -- the script is one of the module's own objects
  have e:=KX a o hk;rw [ha] at e;cases e;refine core (λ_=>none) (λ_=>.inl rfl) (.inr ⟨_,vs.toArray,_,hk,rfl,rfl,rfl,by rw [size_toArray,lenV];exact hl,by simpa using rv⟩) (λb u z=>by have z':(none:Option HO)=some u:=z;cases z') (λb z=>absurd rfl z) λz=>absurd rfl z
 |none=>
  refine core (λb=>if b=a then some (.frz { cls:=.type "list",data:=.seq vs.toArray } (.lst (ns.map V.int))) else none) (λb=>?_) (.inl (.inr ⟨{ cls:=.type "list",data:=.seq vs.toArray },if_pos rfl⟩)) (λb u z=>?_) (λb z=>?_) λ_=>hk
  ·by_cases hb:b=a
   ·exact .inr ⟨_,_,if_pos hb⟩
   ·exact .inl (if_neg hb)
  ·by_cases hb:b=a
   ·have z':=(if_pos hb).symm.trans z;cases z';subst hb;exact ⟨ha,by rw [length_map];exact hl,vs,_,rv,ha⟩
   ·have z':=(if_neg hb).symm.trans z;cases z'
  ·by_cases hb:b=a
   ·exact hb
   ·exact absurd (if_neg hb) z
def N4 {l:PySem.W.OpenLaw} {n k:Nat} {q:Program} {loose:List Str} {XP:(Str->Option Value)->Heap->Prop} {YP:World->Heap->Prop} {d:DefRec} {K:Params->PySem.W.Frag} {CX:World->CXT} {sp:World->Sp} {x:Str}
  (hn:l.most=some n) (hn2:n<=sizeLine) (hdf:d.params.defaults=[]) (hr:Room k callerA)
  (hY:∀ (w:World) (h:Heap),YP w h->(K w.params).In h)
  (F:∀ (w:World) (mg:Str->Option Value) (fa:Addr) (h:Heap),(K w.params).In h->h.Ns mainGlobals mg->mg d.name=some (.ref fa) ->
   ∃ fd:FuncData,(∀ (s:Shared) (u:Value),BindsTo s fd ⟨[u],[]⟩ [(x,u)]) /\
    ∀ base:Heap,(K w.params).In base->base.Ns mainGlobals mg->FnOk l.prog w (K w.params) mg base (CX w) k fa fd [x] (sp w))
  (hsp:∀ (w:World) (H:Hp) (a:Addr) (ns:List Int),ns.length<=n->qdH H->SqL (K w.params) H a (ns.map V.int)->sp w [.ref a] H (λv _=>v=.bl true) λ_ _ _=>False)
  (hCX:∀ (w:World) (H:Hp) (s:Shared) (e:Value) (s':Shared),CX w [] H s (λ_ _ _=>False) e s'->False) :
  PySem.W.WalkO q loose XP YP l.row.toRowW d [] (λf vs=>PySem.call f vs):=by
 refine Att.EN hn hdf λw s₀ s₁ mg mb fa o pm cd doc a vs ns G Y ho hd hcd hmg hobj hints hlen hg=>?_;have KX:=hY w _ Y;obtain ⟨fd,hb,hF⟩:=F w mg fa _ KX G.T.g hmg;exact TY KX G.T.g G.T.b G.T.builtins G.T.nolimit hg hobj hints (Nat.le_trans hlen hn2) hr hF hb (λH hO hS=>hsp w H a ns hlen hO hS) λH e s'=>hCX w H s₁ e s'
def jW (s:Stmt):Arguments:=match s with
 |.FunctionDef _ a _ _ _ _ _ _ _ _=>a
 |_=>{ posonlyargs:=[],args:=[],vararg:=none,kwonlyargs:=[],kw_defaults:=[],kwarg:=none,defaults:=[] }
def zF (s:Stmt):List Stmt:=match s with
 |.FunctionDef _ _ b _ _ _ _ _ _ _=>b
 |_=>[]
def qi (s:Stmt):Scope:=match s with
 |.FunctionDef _ _ _ _ _ _ sc _ _ _=>sc
 |_=>{ kind:=.function,names:=[],isGenerator:=false,isCoroutine:=false }
abbrev CX0:CXT:=λ_ _ _ _ _ _=>False
abbrev E0:XK:=λ_ _ _=>False
def qeA {X:Cx}:RD CX0 X E0:=λ_ _ _ _ _ _ _ h=>h.elim
structure Fun (K:Frg) (x qual:Str) (st:Stmt) (f:Addr) (fd:FuncData):Prop where
 ex:∃ (oc:Value) (od:Option Addr) (kV doc pm:Value) (an:Option Addr) (cdv ct:Value) (osl:Array (Option Value)),
  fd=PySem.W.fnOf x qual (jW st) (zF st) (qi st) .none kV doc pm an cdv ct/\K.lookup f=some ⟨oc,od,.func fd,osl⟩/\PySem.W.codeIn K cdv qual=true
 kp:PySem.W.keepIn K (.ref f)=true
section
variable {P:Program} {w:World} {K:Frg} {mg:Str->Option Value} {base:Heap}
def Fun.ok {x qual:Str} {st:Stmt} {f:Addr} {fd:FuncData} {N ps:List Str} {k:Nat} {sp:Sp} (F:Fun K x qual st f fd) (S:FnScope N ps (qi st)) (len:∀ vs H Q E,sp vs H Q E->vs.length=ps.length)
  (hbody:∀ (cdv:Value) (A:Around) (outer:List Env) (s:Shared) (H:Hp) (vs:List V) (Q:VK) (E:XK),Room k (A.deeper (envOfC qual (qi st) s.heap.objs.size f cdv))->sp vs H Q E ->
   ∃ t,PSs (SR CX0 P w K mg base N qual (qi st) f cdv A outer s H E).nox (zF st) t/\t { nx:=λ_ H'=>Q .non H',rt:=Q } (YK N vs) H):FnOk P w K mg base CX0 (k+1) f fd ps sp:=by
 obtain ⟨oc,od,kV,doc,pm,an,cdv,ct,osl,rfl,lk,hcd⟩:=F.ex;refine qd3 lk hcd S len λA outer s H vs Q E hr hsp=>?_;obtain ⟨t,h,q⟩:=hbody cdv A outer s H vs Q E hr hsp;exact ⟨t,h.nox,q⟩
def Fun.binds {x qual:Str} {st:Stmt} {f:Addr} {fd:FuncData} {ps:List Str} (F:Fun K x qual st f fd)
  (h:∀ (kV doc pm:Value) (an:Option Addr) (cdv ct:Value) (us:List Value),us.length=ps.length->bindArgs (PySem.W.fnOf x qual (jW st) (zF st) (qi st) .none kV doc pm an cdv ct) ⟨us,[]⟩=pure (ps.zip us)):zY K fd ps []:=by
 obtain ⟨oc,od,kV,doc,pm,an,cdv,ct,osl,rfl,lk,hcd⟩:=F.ex;exact .all (h kV doc pm an cdv ct)
def qcs {x qual:Str} {st:Stmt} {f:Addr} {oc:Value} {od an:Option Addr} {osl:Array (Option Value)} {kV doc pm cdv ct:Value} (l:K.lookup f=some ⟨oc,od,.func (PySem.W.fnOf x qual (jW st) (zF st) (qi st) .none kV doc pm an cdv ct),osl⟩)
  (c:PySem.W.codeIn K cdv qual=true) (k:PySem.W.keepIn K (.ref f)=true):Fun K x qual st f (PySem.W.fnOf x qual (jW st) (zF st) (qi st) .none kV doc pm an cdv ct):=⟨⟨oc,od,kV,doc,pm,an,cdv,ct,osl,rfl,l,c⟩,k⟩
end
section
variable {X:Cx}
end
def qfi {A B:Prop} (h:B):if false=true then A else B:=by
 rw [if_neg Bool.false_ne_true];exact h
def qfc {A B:Prop} (h:A):if true=true then A else B:=by
 rw [if_pos rfl];exact h
end L2
set_option maxHeartbeats 4000000
namespace L3
open PySem PySem.Spec PyProof.Rows L2
set_option genInjectivity true in
inductive T where
 |non|bl (b:Bool)|int (i:Int)|str (x:Str)|tup (xs:List T)|ref (a:Addr)
inductive O where
 |lst (xs:List T)
 |frz (xs:List T)
 |dct (kvs:List (Int×T))
 |exn (C:Addr)
 |tab (ks:List Str) (xs:List T)
abbrev Gp:=Addr->Option O
def gu (G:Gp) (a:Addr) (o:O):Gp:=λb=>if b=a then some o else G b
def qr {G:Gp} {a:Addr} {o:O}:gu G a o a=some o:=by unfold gu;rw [if_pos rfl]
def zz {G:Gp} {a b:Addr} {o:O} (h:b≠a):gu G a o b=G b:=by unfold gu;rw [if_neg h]
mutual
inductive Rp (K:Frg) (H:Hp):T->V->Prop
 |non:Rp K H .non .non
 |bl (b:Bool):Rp K H (.bl b) (.bl b)
 |int (i:Int):Rp K H (.int i) (.int i)
 |str (x:Str):Rp K H (.str x) (.str x)
 |ref (a:Addr):Rp K H (.ref a) (.ref a)
 |tup {xs:List T} {a:Addr} {vs:List V}:SqT K H a vs->Rps K H xs vs->Rp K H (.tup xs) (.ref a)
inductive Rps (K:Frg) (H:Hp):List T->List V->Prop
 |nil:Rps K H [] []
 |cons {x:T} {v:V} {xs:List T} {vs:List V}:Rp K H x v->Rps K H xs vs->Rps K H (x::xs) (v::vs)
end
def IsX (a C:Addr) (h:Heap):Prop:=∃ o vs,h.get? a=some o/\o.cls=.ref C/\o.data=.fields vs
def OR (K:Frg) (H:Hp) (a:Addr):O->Prop
 |.lst xs=>∃ vs,H a=some (.lst vs)/\Rps K H xs vs
 |.frz xs=>∃ vs,(∃ o,H a=some (.frz o (.lst vs)))/\Rps K H xs vs
 |.dct kvs=>∃ vs,H a=some (.dK ((kvs.map λp=>(Sum.inl p.1:Key)).zip vs))/\Rps K H (kvs.map λp=>p.2) vs
 |.exn C=>H a=some (.ext (IsX a C))
 |.tab ks xs=>∃ vs,H a=some (.dK ((ks.map λk=>(Sum.inr k:Key)).zip vs))/\Rps K H xs vs
def HR (K:Frg) (G:Gp) (H:Hp):Prop:=∀ a o,G a=some o->OR K H a o
def Kp (G:Gp) (H:Hp) (G':Gp) (H':Hp):Prop:=∀ a o,H a=some o->G a=none->H' a=some o/\G' a=none
def Kp.refl {G:Gp} {H:Hp}:Kp G H G H:=λ_ _ h g=>⟨h,g⟩
def Kp.trans {G G1 G2:Gp} {H H1 H2:Hp} (a:Kp G H G1 H1) (b:Kp G1 H1 G2 H2):Kp G H G2 H2:=λx o h g=>
 let ⟨h1,g1⟩:=a x o h g;b x o h1 g1
section
variable {K:Frg} {G G':Gp} {H H':Hp}
def HR.noneT (hr:HR K G H) {a:Addr} {vs:List V} (h:Rd H a (.tup vs)):G a=none:=by
 cases e:G a with
 |none=>rfl
 |some o=>
  have q:=hr a o e;cases o with
  |lst xs=>
   obtain ⟨us,q1,_⟩:=q;rcases h with h|⟨ob,h⟩<;>(rw [q1] at h;cases h)
  |frz xs=>
   obtain ⟨us,⟨o1,q1⟩,_⟩:=q;rcases h with h|⟨ob,h⟩<;>(rw [q1] at h;cases h)
  |dct kvs=>
   obtain ⟨us,q1,_⟩:=q;rcases h with h|⟨ob,h⟩<;>(rw [q1] at h;cases h)
  |exn C=>
   have q1:H a=some (.ext (IsX a C)):=q;rcases h with h|⟨ob,h⟩<;>(rw [q1] at h;cases h)
  |tab ks xs=>
   obtain ⟨us,q1,_⟩:=q;rcases h with h|⟨ob,h⟩<;>(rw [q1] at h;cases h)
def VY (hr:HR K G H) (k:Kp G H G' H') {a:Addr} {vs:List V} (h:SqT K H a vs):SqT K H' a vs:=by
 rcases h with h|h
 ·have g:=hr.noneT h;rcases h with h|⟨o,h⟩
  ·exact .inl (.inl (k a _ h g).1)
  ·exact .inl (.inr ⟨o,(k a _ h g).1⟩)
 ·exact .inr h
mutual
def Rp.keep (hr:HR K G H) (k:Kp G H G' H'):∀ {x:T} {v:V},Rp K H x v->Rp K H' x v
 |_,_,.non=>.non
 |_,_,.bl b=>.bl b
 |_,_,.int i=>.int i
 |_,_,.str x=>.str x
 |_,_,.ref a=>.ref a
 |_,_,.tup h hs=>.tup (VY hr k h) (Rps.keep hr k hs)
def Rps.keep (hr:HR K G H) (k:Kp G H G' H'):∀ {x:List T} {v:List V},Rps K H x v->Rps K H' x v
 |_,_,.nil=>.nil
 |_,_,.cons a b=>.cons (Rp.keep hr k a) (Rps.keep hr k b)
end
def Rps.length:∀ {xs:List T} {vs:List V},Rps K H xs vs->xs.length=vs.length
 |_,_,.nil=>rfl
 |_,_,.cons _ b=>by simp [Rps.length b]
def Rps.get:∀ {xs:List T} {vs:List V} {i:Nat} {x:T},Rps K H xs vs->xs[i]?=some x->∃ v,vs[i]?=some v/\Rp K H x v
 |_,_,_,_,.nil,e=>by simp at e
 |_,_,0,_,.cons r _,e=>by simp at e;subst e;exact ⟨_,rfl,r⟩
 |_,_,i+1,x,.cons _ t,e=>by
  obtain ⟨u,h1,h2⟩:=Rps.get (i:=i) (x:=x) t (by simpa using e);exact ⟨u,by simpa using h1,h2⟩
def Rps.append:∀ {xs ys:List T} {vs us:List V},Rps K H xs vs->Rps K H ys us->Rps K H (xs++ys) (vs++us)
 |_,_,_,_,.nil,s=>s
 |_,_,_,_,.cons r t,s=>.cons r (Rps.append t s)
def Rps.take:∀ {xs:List T} {vs:List V} (n:Nat),Rps K H xs vs->Rps K H (xs.take n) (vs.take n)
 |_,_,0,_=>.nil
 |_,_,_+1,.nil=>.nil
 |_,_,n+1,.cons r t=>.cons r (Rps.take n t)
def Rps.drop:∀ {xs:List T} {vs:List V} (n:Nat),Rps K H xs vs->Rps K H (xs.drop n) (vs.drop n)
 |_,_,0,r=>r
 |_,_,_+1,.nil=>.nil
 |_,_,n+1,.cons _ t=>Rps.drop n t
def Rps.set {x:T} {v:V} (r:Rp K H x v):∀ {xs:List T} {vs:List V} (i:Nat),Rps K H xs vs->Rps K H (xs.set i x) (vs.set i v)
 |_,_,_,.nil=>.nil
 |_,_,0,.cons _ t=>.cons r t
 |_,_,i+1,.cons q t=>.cons q (Rps.set r i t)
def Rps.ints:∀ (ns:List Int),Rps K H (ns.map T.int) (ns.map V.int)
 |[]=>.nil
 |n::r=>.cons (.int n) (Rps.ints r)
def Rps.reverse {xs:List T} {vs:List V} (h:Rps K H xs vs):Rps K H xs.reverse vs.reverse:=by
 induction xs generalizing vs with
 |nil=>cases h;exact .nil
 |cons x r ih=>
  cases h with
  |cons a b=>
   rw [List.reverse_cons,List.reverse_cons];exact (ih b).append (.cons a .nil)
def Kp.laid {p:Addr} {ho:HO} (hp:H p=none):Kp G H G (upd H p ho):=λa o h g=>⟨by rw [qB (qt h hp)];exact h,g⟩
def HR.free (hr:HR K G H) {p:Addr} (hp:H p=none):G p=none:=by
 cases e:G p with
 |none=>rfl
 |some o=>
  have q:=hr p o e;cases o with
  |lst xs=>obtain ⟨us,q1,_⟩:=q;rw [hp] at q1;cases q1
  |frz xs=>obtain ⟨us,⟨o1,q1⟩,_⟩:=q;rw [hp] at q1;cases q1
  |dct kvs=>obtain ⟨us,q1,_⟩:=q;rw [hp] at q1;cases q1
  |exn C=>have q1:H p=some (.ext (IsX p C)):=q;rw [hp] at q1;cases q1
  |tab ks xs=>obtain ⟨us,q1,_⟩:=q;rw [hp] at q1;cases q1
def OR.keep (hr:HR K G H) (k:Kp G H G' H') {a:Addr} {o:O} (h:OR K H a o) (e:∀ u,H a=some u->H' a=some u):OR K H' a o:=by
 cases o with
 |lst xs=>obtain ⟨vs,h1,h2⟩:=h;exact ⟨vs,e _ h1,h2.keep hr k⟩
 |frz xs=>obtain ⟨vs,⟨o,h1⟩,h2⟩:=h;exact ⟨vs,⟨o,e _ h1⟩,h2.keep hr k⟩
 |dct kvs=>obtain ⟨vs,h1,h2⟩:=h;exact ⟨vs,e _ h1,h2.keep hr k⟩
 |exn C=>exact e _ h
 |tab ks xs=>obtain ⟨vs,h1,h2⟩:=h;exact ⟨vs,e _ h1,h2.keep hr k⟩
def HR.laid (hr:HR K G H) {p:Addr} {ho:HO} (hp:H p=none):HR K G (upd H p ho):=λa o e=>
 (hr a o e).keep hr (Kp.laid hp) λu h=>by rw [qB (qt h hp)];exact h
def Kp.newL {p:Addr} {ho:HO} {o':O} (hp:H p=none):Kp G H (gu G p o') (upd H p ho):=λa o h g=>
 ⟨by rw [qB (qt h hp)];exact h,by rw [zz (qt h hp)];exact g⟩
def HR.newL (hr:HR K G H) {p:Addr} {xs:List T} {vs:List V} (hp:H p=none) (r:Rps K H xs vs):HR K (gu G p (.lst xs)) (upd H p (.lst vs)):=λa o e=>by
 by_cases ha:a=p
 ·subst ha;rw [qr] at e;cases e;exact ⟨vs,qY,r.keep hr (Kp.laid hp)⟩
 ·rw [zz ha] at e;exact (hr a o e).keep hr (Kp.laid hp) λu h=>by rw [qB ha];exact h
def Kp.wr {p:Addr} {ho:HO} {o o':O} (g:G p=some o):Kp G H (gu G p o') (upd H p ho):=λa ob h ga=>by
 have ha:a≠p:=by intro e;subst e;rw [g] at ga;cases ga
 exact ⟨by rw [qB ha];exact h,by rw [zz ha];exact ga⟩
def HR.wr (hr:HR K G H) {p:Addr} {ys xs:List T} {vs:List V} (g:G p=some (.lst ys)) (r:Rps K H xs vs):HR K (gu G p (.lst xs)) (upd H p (.lst vs)):=λa o e=>by
 have k:Kp G H (gu G p (.lst xs)) (upd H p (.lst vs)):=Kp.wr g;by_cases ha:a=p
 ·subst ha;rw [qr] at e;cases e;exact ⟨vs,qY,r.keep hr k⟩
 ·rw [zz ha] at e;exact (hr a o e).keep hr k λu h=>by rw [qB ha];exact h
end
abbrev St3:=List (Option T)
structure Rel (K:Frg) (τ:St3) (G:Gp) (σ:L2.St) (H:Hp):Prop where
 hp:HR K G H
 len:τ.length=σ.length
 st:∀ (i:Nat) (t:T),τ[i]?=some (some t)->∃ v,σ[i]?=some (some v)/\Rp K H t v
def Rel.next {K:Frg} {τ:St3} {G G':Gp} {σ:L2.St} {H H':Hp} (r:Rel K τ G σ H) (hr:HR K G' H') (k:Kp G H G' H'):Rel K τ G' σ H':=
 ⟨hr,r.len,λi t e=>let ⟨v,h1,h2⟩:=r.st i t e;⟨v,h1,h2.keep r.hp k⟩⟩
def Rel.set {K:Frg} {τ:St3} {G:Gp} {σ:L2.St} {H:Hp} {t:T} {v:V} (r:Rel K τ G σ H) (i:Nat) (h:Rp K H t v):Rel K (τ.set i (some t)) G (σ.set i (some v)) H:=by
 refine ⟨r.hp,by simp [r.len],λj u e=>?_⟩;by_cases hij:i=j
 ·subst hij;rw [List.getElem?_set_self'] at e;have hl:i<τ.length:=by
   cases q:τ[i]? with
   |none=>rw [q] at e;cases e
   |some z=>exact (List.getElem?_eq_some_iff.mp q).1
  rw [getElem?_eq_getElem hl] at e;have e':t=u:=by simpa using e
  subst e';exact ⟨v,by rw [List.getElem?_set_self (by rw [← r.len];exact hl)],h⟩
 ·rw [List.getElem?_set_ne hij] at e;obtain ⟨w,h1,h2⟩:=r.st j u e;exact ⟨w,by rw [List.getElem?_set_ne hij];exact h1,h2⟩
abbrev Q3:=T->Gp->Prop
abbrev TE3:=St3->Gp->Q3->Prop
abbrev TT3:=St3->Gp->(Bool->Gp->Prop)->Prop
abbrev TA3:=St3->Gp->(List T->Gp->Prop)->Prop
def Aft (K:Frg) (G:Gp) (H:Hp) (q:Q3) (Q:VK):Prop:=∀ x G',q x G'->∀ v H',Rp K H' x v->HR K G' H'->Kp G H G' H'->Q v H'
def qdJ (K:Frg) (G:Gp) (H:Hp) (q:Bool->Gp->Prop) (Q:Bool->Hp->Prop):Prop:=∀ x G',q x G'->∀ H',HR K G' H'->Kp G H G' H'->Q x H'
def qgC (K:Frg) (G:Gp) (H:Hp) (q:List T->Gp->Prop) (Q:List V->Hp->Prop):Prop:=∀ x G',q x G'->∀ v H',Rps K H' x v->HR K G' H'->Kp G H G' H'->Q v H'
def lE (K:Frg) (t:TE3):TE:=λσ H Q=>∃ τ G q,Rel K τ G σ H/\t τ G q/\Aft K G H q Q
def lT (K:Frg) (t:TT3):TT:=λσ H Q=>∃ τ G q,Rel K τ G σ H/\t τ G q/\qdJ K G H q Q
def lA (K:Frg) (t:TA3):TA:=λσ H Q=>∃ τ G q,Rel K τ G σ H/\t τ G q/\qgC K G H q Q
abbrev E3 (X:Cx) (e:Expr) (t:TE3):Prop:=PE X e (lE X.K t)
abbrev C3 (X:Cx) (e:Expr) (t:TT3):Prop:=PT X e (lT X.K t)
abbrev W3 (X:Cx) (e:Expr) (t:TT3):Prop:=PW X e (lT X.K t)
abbrev A3 (X:Cx) (es:List Expr) (t:TA3):Prop:=PA X es (lA X.K t)
def Aft.back {K:Frg} {G G1:Gp} {H H1:Hp} {q:Q3} {Q:VK} (a:Aft K G H q Q) (k:Kp G H G1 H1):Aft K G1 H1 q Q:=λx G' h v H' r hr k'=>a x G' h v H' r hr (k.trans k')
def qdJ.back {K:Frg} {G G1:Gp} {H H1:Hp} {q:Bool->Gp->Prop} {Q:Bool->Hp->Prop} (a:qdJ K G H q Q) (k:Kp G H G1 H1):qdJ K G1 H1 q Q:=λx G' h H' hr k'=>a x G' h H' hr (k.trans k')
def UI {X:Cx} {e:Expr} {t t':TE} (h:PE X e t) (w:∀ σ H Q,t' σ H Q->t σ H Q):PE X e t':=λpins s σ H Q I q=>h pins s σ H Q I (w σ H Q q)
def qdT {X:Cx} {e:Expr} {t t':TT} (h:PT X e t) (w:∀ σ H Q,t' σ H Q->t σ H Q):PT X e t':=λpins s σ H Q I q=>h pins s σ H Q I (w σ H Q q)
def qfH {X:Cx} {e:Expr} {t t':TT} (h:PW X e t) (w:∀ σ H Q,t' σ H Q->t σ H Q):PW X e t':=λwh pins s σ H Q I q=>h wh pins s σ H Q I (w σ H Q q)
def qfe {X:Cx} {e:List Expr} {t t':TA} (h:PA X e t) (w:∀ σ H Q,t' σ H Q->t σ H Q):PA X e t':=λpos pins s σ H Q I q=>h pos pins s σ H Q I (w σ H Q q)
def zT {K:Frg} {ta:TE3} {τ:St3} {G:Gp} {σ:L2.St} {H:Hp} {q:Q3} {Q:VK} (r:Rel K τ G σ H) (h:ta τ G q)
  (n:∀ x G1,q x G1->∀ v H1,Rp K H1 x v->HR K G1 H1->Kp G H G1 H1->Rel K τ G1 σ H1->Q v H1):lE K ta σ H Q:=
 ⟨τ,G,q,r,h,λx G1 hq v H1 rx hr k=>n x G1 hq v H1 rx hr k (r.next hr k)⟩
def YU {K:Frg} {ta:TT3} {τ:St3} {G:Gp} {σ:L2.St} {H:Hp} {q:Bool->Gp->Prop} {Q:Bool->Hp->Prop} (r:Rel K τ G σ H) (h:ta τ G q)
  (n:∀ x G1,q x G1->∀ H1,HR K G1 H1->Kp G H G1 H1->Rel K τ G1 σ H1->Q x H1):lT K ta σ H Q:=
 ⟨τ,G,q,r,h,λx G1 hq H1 hr k=>n x G1 hq H1 hr k (r.next hr k)⟩
def QN {K:Frg} {ta:TA3} {τ:St3} {G:Gp} {σ:L2.St} {H:Hp} {q:List T->Gp->Prop} {Q:List V->Hp->Prop} (r:Rel K τ G σ H) (h:ta τ G q)
  (n:∀ x G1,q x G1->∀ v H1,Rps K H1 x v->HR K G1 H1->Kp G H G1 H1->Rel K τ G1 σ H1->Q v H1):lA K ta σ H Q:=
 ⟨τ,G,q,r,h,λx G1 hq v H1 rx hr k=>n x G1 hq v H1 rx hr k (r.next hr k)⟩
section
variable {X:Cx} {a b c:Expr} {ta tb tc:TE3} {pos:Pos}
def v3 (i:Nat):TE3:=λτ G q=>match τ[i]? with|some (some t)=>q t G|_=>False
def qew (i:Nat) {x:Str} {pos:Pos} (hN:X.N[i]?=some x:=by rfl) (hv:Vis X.env.scope x:=by first|exact Or.inl rfl|exact Or.inr (Or.inl rfl)|exact Or.inr (Or.inr rfl)) (hd:(x==("__debug__" : Str))=false:=by decide)
  (hcd:(x==("__classdict__" : Str))=false:=by decide):E3 X (.Name x pos) (v3 i):=by
 refine UI (qbp (i:=i) hN hv hd hcd) λσ H Q ⟨τ,G,q,r,h,af⟩=>?_;unfold v3 at h;split at h
 ·rename_i t e;obtain ⟨v,e2,rv⟩:=r.st i t e;exact ⟨v,e2,af t G h v H rv r.hp Kp.refl⟩
 ·exact h.elim
def c3 (t:T):TE3:=λ_ G q=>q t G
def e_c {t:T} {v:V} {e:Expr} (h:PE X e (tC v)) (hr:∀ H,Rp X.K H t v):E3 X e (c3 t):=UI h λσ H Q ⟨τ,G,q,r,h,af⟩=>af t G h v H (hr H) r.hp Kp.refl
def qep {i:Int} {j pos}:E3 X (.Constant (.int i) j pos) (c3 (.int i)):=e_c qbD λ_=>.int i
def qf4 {b:Bool} {j pos}:E3 X (.Constant (.bool b) j pos) (c3 (.bl b)):=e_c qe9 λ_=>.bl b
def qeh {x:Str} {j pos}:E3 X (.Constant (.str x) j pos) (c3 (.str x)):=e_c qaY λ_=>.str x
def n3:TE3:=λ_ _ _=>False
abbrev R3:=T->T->Gp->Q3->Prop
def XO (K:Frg) (r3:R3) (r:R2):Prop:=∀ x y v u G H q Q,HR K G H->Rp K H x v->Rp K H y u->r3 x y G q->Aft K G H q Q->r v u H Q
def o3 (r:R3) (ta tb:TE3):TE3:=λτ G q=>ta τ G λx G1=>tb τ G1 λy G2=>r x y G2 q
def N7 {K:Frg} {r3:R3} {r:R2} (hr:XO K r3 r) {σ:L2.St} {H:Hp} {Q:VK} (h:lE K (o3 r3 ta tb) σ H Q):tOp r (lE K ta) (lE K tb) σ H Q:=by
 obtain ⟨τ,G,q,rl,h,af⟩:=h;refine zT rl h λx G1 h1 v H1 rx hr1 k1 rl1=>zT rl1 h1 λy G2 h2 u H2 ry hr2 k2 rl2=>?_;exact hr x y v u G2 H2 q Q hr2 (rx.keep hr1 k2) ry h2 (af.back (k1.trans k2))
def qaE {op:Operator} {r3:R3} {r:R2} (ho:OpR X (binaryOp op) r) (hr:XO X.K r3 r) (ha:E3 X a ta) (hb:E3 X b tb):E3 X (.BinOp a op b pos) (o3 r3 ta tb):=
 UI (qd5 ho ha hb) λ_ _ _ h=>N7 hr h
def tb3 (t:TE3):TT3:=λτ G q=>t τ G λx G'=>match x with|.bl k=>q k G'|_=>False
def qdo {K:Frg} {t:TE3} {t2:TE} (hw:∀ σ H Q,lE K t σ H Q->t2 σ H Q) {σ:L2.St} {H:Hp} {Q:Bool->Hp->Prop} (h:lT K (tb3 t) σ H Q):qbq t2 σ H Q:=by
 obtain ⟨τ,G,q,rl,h,af⟩:=h;refine hw _ _ _ (zT rl h λx G1 h1 v H1 rx hr1 k1 rl1=>?_);cases x with
 |bl k=>cases rx;exact ⟨k,rfl,af k G1 h1 H1 hr1 k1⟩
 |_=>exact h1.elim
def qes {op:CmpOp} {r3:R3} {r:R2} (ho:OpR X (compareOp op) r) (hr:XO X.K r3 r) (ha:E3 X a ta) (hb:E3 X b tb) (hm:behindInMarks op b=false):C3 X (.Compare a [op] [b] pos) (tb3 (o3 r3 ta tb)):=
 qdT (NV ho ha hb hm) λ_ _ _ h=>qdo (λ_ _ _=>N7 hr) h
def ch3 (r r':R3) (ta tb tc:TE3):TE3:=λτ G q=>ta τ G λx G1=>tb τ G1 λy G2=>r x y G2 λz G3=>match z with
 |.bl k=>if k=true then tc τ G3 λw G4=>r' y w G4 q else q (.bl false) G3
 |_=>False
def qfN (K:Frg) (r3:T->Gp->Q3->Prop) (r:V->Hp->VK->Prop):Prop:=∀ x v G H q Q,HR K G H->Rp K H x v->r3 x G q->Aft K G H q Q->r v H Q
def u3 (r:T->Gp->Q3->Prop) (ta:TE3):TE3:=λτ G q=>ta τ G λx G1=>r x G1 q
def qf6 {op:UnaryOp} {r3:T->Gp->Q3->Prop} {r:V->Hp->VK->Prop} (ho:UnR X (unaryOp op) r) (hr:qfN X.K r3 r) (ha:E3 X a ta):E3 X (.UnaryOp op a pos) (u3 r3 ta):=
 UI (qef ho ha) λ_ _ _ ⟨τ,G,q,rl,h,af⟩=>zT rl h λx G1 h1 v H1 rx hr1 k1 rl1=>hr x v G1 H1 q _ hr1 rx h1 (af.back k1)
def DU:T->Gp->Q3->Prop:=λx G q=>match x with|.int i=>q (.int (-i)) G|_=>False
def qaf {K:Frg}:qfN K DU (rU λi=>.int (-i)):=λx v G H q Q hr rx h af=>by
 cases x with
 |int i=>cases rx;exact ⟨i,rfl,af _ G h _ H (.int _) hr Kp.refl⟩
 |_=>exact h.elim
def iI (f:Int->Int->Int):R3:=λx y G q=>match x,y with|.int i,.int j=>q (.int (f i j)) G|_,_=>False
def iC (C:Int->Int->Prop) (f:Int->Int->Int):R3:=λx y G q=>match x,y with|.int i,.int j=>C i j/\q (.int (f i j)) G|_,_=>False
def iB (f:Int->Int->Bool):R3:=λx y G q=>match x,y with|.int i,.int j=>q (.bl (f i j)) G|_,_=>False
def D0 {K:Frg} {C:Int->Int->Prop} {f:Int->Int->Int}:XO K (iC C f) (rI C λi j=>.int (f i j)):=λx y v u G H q Q hr rx ry h af=>by
 cases x<;>try exact h.elim
 cases y<;>try exact h.elim
 cases rx;cases ry;exact ⟨_,_,rfl,rfl,h.1,af _ G h.2 _ H (.int _) hr Kp.refl⟩
def JD {K:Frg} {f:Int->Int->Bool}:XO K (iB f) (rI0 λi j=>.bl (f i j)):=λx y v u G H q Q hr rx ry h af=>by
 cases x<;>try exact h.elim
 cases y<;>try exact h.elim
 cases rx;cases ry;exact ⟨_,_,rfl,rfl,af _ G h _ H (.bl _) hr Kp.refl⟩
def qet (ha:E3 X a ta) (hb:E3 X b tb):E3 X (.BinOp a .Mult b pos) (o3 (iC D8 (·*·)) ta tb):=qaE qcM D0 ha hb
def qeC (ha:E3 X a ta) (hb:E3 X b tb):E3 X (.BinOp a .Mod b pos) (o3 (iC (λ_ j=>0<j) (·%·)) ta tb):=qaE qce D0 ha hb
def qeM (ha:E3 X a ta) (hb:E3 X b tb):E3 X (.BinOp a .FloorDiv b pos) (o3 (iC NG (·/·)) ta tb):=qaE MY D0 ha hb
def qdV (ha:E3 X a ta) (hb:E3 X b tb):E3 X (.BinOp a .Pow b pos) (o3 (iC qdp (λi j=>i ^ j.toNat)) ta tb):=qaE qb4 D0 ha hb
def qev (ha:E3 X a ta):E3 X (.UnaryOp .USub a pos) (u3 DU ta):=qf6 qcg qaf ha
def jf:T->T->Option Bool
 |.non,.non=>some true|.non,.int _=>some false|.int _,.non=>some false|.non,.bl _=>some false|.bl _,.non=>some false|.non,.str _=>some false|.str _,.non=>some false
 |.int i,.int j=>some (decide (i=j))|.bl i,.bl j=>some (decide (i=j))|.str i,.str j=>some (decide (i=j))
 |.int _,.str _=>some false|.str _,.int _=>some false|.bl _,.str _=>some false|.str _,.bl _=>some false
 |_,_=>none
def DS {K:Frg} {H:Hp} {x y:T} {v u:V} {k:Bool} (rx:Rp K H x v) (ry:Rp K H y u) (h:jf x y=some k):qeV v u=true/\decide (v=u)=k:=by
 cases rx<;>cases ry<;>simp [jf] at h<;>subst h<;>refine ⟨rfl,?_⟩<;>simp
def qbf (neg:Bool):R3:=λx y G q=>match y with|.non=>q (.bl (match x with|.non=>!neg|_=>neg)) G|_=>False
variable {tA tB:TT3} {QP:List Expr}
def SS (t u:TT3):TT3:=λτ G q=>t τ G λk G1=>if k=true then u τ G1 q else q false G1
def or3 (t u:TT3):TT3:=λτ G q=>t τ G λk G1=>if k=true then q true G1 else u τ G1 q
def SV (t:TT3):TT3:=λτ G q=>t τ G λk G1=>q (!k) G1
def qa6 (ha:C3 X a tA):W3 X (.BoolOp .And [a] pos) tA:=qao ha
def qe3 (ha:C3 X a tA):W3 X (.BoolOp .Or [a] pos) tA:=qbt ha
def qd4 (ha:C3 X a tA) (hb:W3 X (.BoolOp .And (b::QP) pos) tB):W3 X (.BoolOp .And (a::b::QP) pos) (SS tA tB):=
 qfH (qcu ha hb) λ_ _ _ ⟨τ,G,q,rl,h,af⟩=>YU rl h λk G1 h1 H1 hr1 k1 rl1=>by
  cases k with
  |true=>rw [if_pos rfl] at h1 ⊢;exact ⟨τ,G1,q,rl1,h1,af.back k1⟩
  |false=>rw [if_neg Bool.false_ne_true] at h1 ⊢;exact af _ G1 h1 H1 hr1 k1
def qf1 (ha:C3 X a tA) (hb:W3 X (.BoolOp .Or (b::QP) pos) tB):W3 X (.BoolOp .Or (a::b::QP) pos) (or3 tA tB):=
 qfH (qec ha hb) λ_ _ _ ⟨τ,G,q,rl,h,af⟩=>YU rl h λk G1 h1 H1 hr1 k1 rl1=>by
  cases k with
  |true=>rw [if_pos rfl] at h1 ⊢;exact af _ G1 h1 H1 hr1 k1
  |false=>rw [if_neg Bool.false_ne_true] at h1 ⊢;exact ⟨τ,G1,q,rl1,h1,af.back k1⟩
def qek (ha:C3 X a tA):C3 X (.UnaryOp .Not a pos) (SV tA):=
 qdT (qdf ha) λ_ _ _ ⟨τ,G,q,rl,h,af⟩=>YU rl h λk G1 h1 H1 hr1 k1 rl1=>af _ G1 h1 H1 hr1 k1
def qeu {e:Expr} {t:TE3} (h:E3 X e t) (he:∀ whole,isTrue e X.env whole=(do let v←whole;standAt e.pos;holding [v] (truthy v)):=by intro _;rfl):C3 X e (tb3 t):=
 qdT (qaM h he) λ_ _ _ h=>qdo (λ_ _ _ h=>h) h
def CY (ta tb:TE3):TE3:=λτ G q=>ta τ G λx G1=>match x with|.bl k=>if k=true then tb τ G1 q else q (.bl false) G1|_=>False
def qa8 (ta tb:TE3):TE3:=λτ G q=>ta τ G λx G1=>match x with|.bl k=>if k=true then q (.bl true) G1 else tb τ G1 q|_=>False
def X7 (ta:TE3):TE3:=λτ G q=>ta τ G λx G1=>match x with|.bl k=>q (.bl (!k)) G1|_=>False
def if3 (t:TT3) (ta tb:TE3):TE3:=λτ G q=>t τ G λk G1=>if k=true then ta τ G1 q else tb τ G1 q
def qgx {c:Expr} (hc:C3 X c tA) (ha:E3 X a ta) (hb:E3 X b tb):E3 X (.IfExp c a b pos) (if3 tA ta tb):=
 UI (TR hc ha hb) λ_ _ _ ⟨τ,G,q,rl,h,af⟩=>YU rl h λk G1 h1 H1 hr1 k1 rl1=>by
  cases k with
  |true=>rw [if_pos rfl] at h1 ⊢;exact ⟨τ,G1,q,rl1,h1,af.back k1⟩
  |false=>rw [if_neg Bool.false_ne_true] at h1 ⊢;exact ⟨τ,G1,q,rl1,h1,af.back k1⟩
variable {e:Expr} {es:List Expr} {te:TE3} {t:TA3}
def qh:TA3:=λ_ G q=>q [] G
def qb (ta:TE3) (tr:TA3):TA3:=λτ G q=>ta τ G λx G1=>tr τ G1 λxs G2=>q (x::xs) G2
def qeJ:A3 X [] qh:=qfe LD λ_ H _ ⟨τ,G,q,rl,h,af⟩=>af _ G h _ H .nil rl.hp Kp.refl
def qdg (ha:E3 X e te) (hr:A3 X es t) (hs:starEach (e::es) X.env=(false,eval e X.env)::starEach es X.env:=by rfl):A3 X (e::es) (qb te t):=
 qfe (ED ha hr hs) λ_ _ _ ⟨τ,G,q,rl,h,af⟩=>zT rl h λx G1 h1 v H1 rx hr1 k1 rl1=>QN rl1 h1 λxs G2 h2 vs H2 rs hr2 k2 rl2=>
  af _ G2 h2 _ H2 (.cons (rx.keep hr1 k2) rs) hr2 (k1.trans k2)
def zp (t:TA3):TE3:=λτ G q=>t τ G λxs G1=>xs.length<=sizeLine/\q (.tup xs) G1
def ju (t:TA3):TE3:=λτ G q=>t τ G λxs G1=>xs.length<=sizeLine/\∀ p,G1 p=none->q (.ref p) (gu G1 p (.lst xs))
def qeL {x1} (h:A3 X es t):E3 X (.Tuple es x1 pos) (zp t):=
 UI (qa7 h) λ_ _ _ ⟨τ,G,q,rl,h,af⟩=>QN rl h λxs G1 h1 vs H1 rs hr1 k1 rl1=>⟨by rw [← rs.length];exact h1.1,λp hp=>
  af _ G1 h1.2 _ _ (.tup (SqT.of qY) (rs.keep hr1 (Kp.laid hp))) (hr1.laid hp) (k1.trans (Kp.laid hp))⟩
def qeF (h:A3 X es t):E3 X (.List es pos) (ju t):=
 UI (qcD h) λ_ _ _ ⟨τ,G,q,rl,h,af⟩=>QN rl h λxs G1 h1 vs H1 rs hr1 k1 rl1=>⟨by rw [← rs.length];exact h1.1,λp hp=>
  af _ _ (h1.2 p (hr1.free hp)) _ _ (.ref p) (hr1.newL hp rs) (k1.trans (Kp.newL hp))⟩
def CD (K:Frg) (r3:List T->Gp->Q3->Prop) (r:List V->Hp->VK->Prop):Prop:=∀ xs vs G H q Q,HR K G H->Rps K H xs vs->r3 xs G q->Aft K G H q Q->r vs H Q
def cb3 (r:List T->Gp->Q3->Prop) (t:TA3):TE3:=λτ G q=>t τ G λxs G1=>r xs G1 q
def qca {K:Frg} {r3:List T->Gp->Q3->Prop} {r:List V->Hp->VK->Prop} (hr:CD K r3 r) {σ:L2.St} {H:Hp} {Q:VK} (h:lE K (cb3 r3 t) σ H Q):tCB r (lA K t) σ H Q:=by
 obtain ⟨τ,G,q,rl,h,af⟩:=h;exact QN rl h λxs G1 h1 vs H1 rs hr1 k1 rl1=>hr xs vs G1 H1 q Q hr1 rs h1 (af.back k1)
def NO {x:Str} {p:Pos} {id:String} {r3:List T->Gp->Q3->Prop} {r:List V->Hp->VK->Prop} (hc:Q4 X (.builtin id) r) (hr:CD X.K r3 r) (hg:Gl X x) (hm:X.mg x=none) (hv:bootBuiltins x=some (.builtin id)) (ha:A3 X (e::es) t) (hn:x≠"__name__" := by decide) (hdb:(x==("__debug__" : Str))=false:=by decide)
  (he:starEach (e::es) X.env=(false,eval e X.env)::starEach es X.env:=by rfl) (hpl:(backTo pos (starEach es X.env)).any (·.1)=false:=by rfl):E3 X (.Call (.Name x p) (e::es) [] pos) (cb3 r3 t):=
 UI (DR hc hg hm hv ha hn hdb he hpl) λ_ _ _ h=>qca hr h
def T6 {x:Str} {p:Pos} {ty:String} {r3:List T->Gp->Q3->Prop} {r:List V->Hp->VK->Prop} (hc:Q4 X (.type ty) r) (hr:CD X.K r3 r) (hg:Gl X x) (hm:X.mg x=none) (hv:bootBuiltins x=some (.type ty)) (ha:A3 X (e::es) t) (hn:x≠"__name__" := by decide) (hdb:(x==("__debug__" : Str))=false:=by decide)
  (he:starEach (e::es) X.env=(false,eval e X.env)::starEach es X.env:=by rfl) (hpl:(backTo pos (starEach es X.env)).any (·.1)=false:=by rfl):E3 X (.Call (.Name x p) (e::es) [] pos) (cb3 r3 t):=
 UI (CT hc hg hm hv ha hn hdb he hpl) λ_ _ _ h=>qca hr h
end
def getL (G:Gp) (p:Addr):Option (List T):=match G p with|some (.lst xs)=>some xs|some (.frz xs)=>some xs|_=>none
section
variable {K:Frg} {G G':Gp} {H H':Hp}
def zH (hr:HR K G H) {p:Addr} {xs:List T} (h:getL G p=some xs):∃ vs,SqL K H p vs/\Rps K H xs vs:=by
 unfold getL at h;split at h
 ·rename_i ys e;cases h;obtain ⟨vs,h1,h2⟩:=hr p _ e;exact ⟨vs,SqL.of h1,h2⟩
 ·rename_i ys e;cases h;obtain ⟨vs,⟨o,h1⟩,h2⟩:=hr p _ e;exact ⟨vs,.inl (.inr ⟨o,h1⟩),h2⟩
 ·cases h
def HR.lst (hr:HR K G H) {p:Addr} {xs:List T} (h:G p=some (.lst xs)):∃ vs,H p=some (.lst vs)/\Rps K H xs vs:=hr p _ h
def Rps.atI {xs:List T} {vs:List V} {i:Int} {x:T} (r:Rps K H xs vs) (h:atI xs i=some x):∃ v,L2.atI vs i=some v/\Rp K H x v:=by
 unfold L2.atI at h ⊢;rw [← r.length];cases e:ixN xs.length i with
 |none=>rw [e] at h;cases h
 |some j=>
  rw [e] at h;exact r.get (by simpa using h)
end
def ix3:R3:=λx y G q=>match x,y with
 |.tup xs,.int i=>(match atI xs i with|some z=>q z G|none=>False)
 |.ref p,.int i=>(match getL G p with|some xs=>(match atI xs i with|some z=>q z G|none=>False)|none=>False)
 |_,_=>False
section
variable {X:Cx} {a b c e:Expr} {es:List Expr} {ta tb tc te:TE3} {t:TA3} {pos:Pos}
def qcL {K:Frg}:XO K ix3 (rIx K):=λx y v u G H q Q hr rx ry h af=>by
 cases x<;>try exact h.elim
 case tup xs=>
  cases y<;>try exact h.elim
  case int i=>
   unfold ix3 at h;simp only at h;split at h
   ·rename_i z e;cases ry;cases rx with
    |tup hs rs=>
     obtain ⟨w,e2,rw'⟩:=rs.atI e;exact .inr (.inl ⟨_,_,i,w,rfl,rfl,hs,e2,af z G h w H rw' hr Kp.refl⟩)
   ·exact h.elim
 case ref p=>
  cases y<;>try exact h.elim
  case int i=>
   unfold ix3 at h;simp only at h;split at h
   ·rename_i xs e0;split at h
    ·rename_i z e;cases ry;cases rx;obtain ⟨vs,hs,rs⟩:=zH hr e0;obtain ⟨w,e2,rw'⟩:=rs.atI e;exact .inl ⟨p,vs,i,w,rfl,rfl,hs,e2,af z G h w H rw' hr Kp.refl⟩
    ·exact h.elim
   ·exact h.elim
def qgE (ha:E3 X a ta) (hb:E3 X b tb) (hs:EL b:=by intro _ _;rfl):E3 X (.Subscript a b pos) (o3 ix3 ta tb):=UI (qei qct ha hb hs) λ_ _ _ h=>N7 qcL h
def VV {α:Type} (xs:List α) (lo hi:Option Int):List α:=(xs.drop (HT.sIx xs.length 0 lo)).take (HT.sIx xs.length xs.length hi-HT.sIx xs.length 0 lo)
def Rps.cut {K:Frg} {H:Hp} {xs:List T} {vs:List V} (r:Rps K H xs vs) (lo hi:Option Int):Rps K H (VV xs lo hi) (MI vs lo hi):=by
 unfold VV MI;rw [r.length];exact (r.drop _).take _
abbrev TO3:=St3->Gp->(Option Int->Gp->Prop)->Prop
def lO (K:Frg) (t:TO3):TO:=λσ H Q=>∃ τ G q,Rel K τ G σ H/\t τ G q/\∀ x G',q x G'->∀ H',HR K G' H'->Kp G H G' H'->Q x H'
abbrev P3 (X:Cx) (e:Option Expr) (t:TO3):Prop:=PO X e (lO X.K t)
def np3:TO3:=λ_ G q=>q none G
def sp3 (t:TE3):TO3:=λτ G q=>t τ G λx G1=>match x with|.int i=>q (some i) G1|_=>False
def qfK {X:Cx} {e:Option Expr} {t t':TO} (h:PO X e t) (w:∀ σ H Q,t' σ H Q->t σ H Q):PO X e t':=λpins s σ H Q I q=>h pins s σ H Q I (w σ H Q q)
def qc0:P3 X none np3:=qfK N8 λ_ H _ ⟨τ,G,q,rl,h,af⟩=>af none G h H rl.hp Kp.refl
def qaQ (h:E3 X e te):P3 X (some e) (sp3 te):=qfK (M3 h) λ_ _ _ ⟨τ,G,q,rl,h,af⟩=>zT rl h λx G1 h1 v H1 rx hr1 k1 rl1=>by
 cases x<;>try exact h1.elim
 cases rx;exact ⟨_,rfl,af _ G1 h1 H1 hr1 k1⟩
def sl3:T->Option Int->Option Int->Gp->Q3->Prop:=λx lo hi G q=>match x with
 |.tup xs=>¬ (HT.sIx xs.length 0 lo=0/\HT.sIx xs.length xs.length hi=xs.length)/\q (.tup (VV xs lo hi)) G
 |.ref p=>(match getL G p with|some xs=>∀ a,G a=none->q (.ref a) (gu G a (.lst (VV xs lo hi)))|none=>False)
 |_=>False
def qbl (te:TE3) (tl th:TO3):TE3:=λτ G q=>te τ G λx G1=>tl τ G1 λl G2=>th τ G2 λu G3=>sl3 x l u G3 q
def RT {K:Frg} {H:Hp} {xs:List T} {vs:List V} (r:Rps K H xs vs):vs=[]↔xs=[]:=by
 cases r<;>simp
def zN:R3:=λx y G q=>match x,y with
 |.tup xs,.tup ys=>xs≠[]/\xs.length+ys.length<=sizeLine/\q (.tup (xs++ys)) G
 |.ref a,.ref b=>(match G a,G b with|some (.lst xs),some (.lst ys)=>xs.length+ys.length<=sizeLine/\∀ p,G p=none->q (.ref p) (gu G p (.lst (xs++ys)))|_,_=>False)
 |.int i,.int j=>q (.int (i+j)) G
 |_,_=>False
def UB {K:Frg}:XO K zN (λx y H Q=>(rI0 (λi j=>.int (i+j)) x y H Q\/qaB K x y H Q)\/qeN x y H Q):=λx y v u G H q Q hr rx ry h af=>by
 cases x<;>try exact h.elim
 case int i=>
  cases y<;>try exact h.elim
  cases rx;cases ry;exact .inl (.inl ⟨_,_,rfl,rfl,af _ G h _ H (.int _) hr Kp.refl⟩)
 case tup xs=>
  cases y<;>try exact h.elim
  case tup ys=>
   obtain ⟨h1,h2,h3⟩:=h;cases rx with
   |tup hs rs=>
    cases ry with
    |tup hs' rs'=>
     refine .inl (.inr ⟨_,_,_,_,rfl,rfl,hs,hs',λz=>h1 ((RT rs).mp z),by rw [← rs.length,← rs'.length];exact h2,λz=>?_,λz p hp=>?_⟩)
     ·have e:=(RT rs').mp z;subst e;rw [List.append_nil] at h3;exact af _ G h3 _ H (.tup hs rs) hr Kp.refl
     ·exact af _ G h3 _ _ (.tup (SqT.of qY) ((rs.append rs').keep hr (Kp.laid hp))) (hr.laid hp) (Kp.laid hp)
 case ref a=>
  cases y<;>try exact h.elim
  case ref b=>
   unfold zN at h;simp only at h;split at h
   ·rename_i xs ys e1 e2;cases rx;cases ry;obtain ⟨vs,g1,r1⟩:=hr.lst e1;obtain ⟨us,g2,r2⟩:=hr.lst e2;refine .inr ⟨a,b,vs,us,rfl,rfl,g1,g2,by rw [← r1.length,← r2.length];exact h.1,λp hp=>?_⟩;exact af _ _ (h.2 p (hr.free hp)) _ _ (.ref p) (hr.newL hp (r1.append r2)) (Kp.newL hp)
   ·exact h.elim
def qbZ (ha:E3 X a ta) (hb:E3 X b tb):E3 X (.BinOp a .Add b pos) (o3 zN ta tb):=qaE ((KR.or SF).or LG) UB ha hb
def UV:T->Bool
 |.non=>true|.bl _=>true|.int _=>true|.str _=>true|_=>false
def eqF:T->T->Bool
 |.non,.non=>true
 |.bl a,.bl b=>a==b
 |.bl a,.int b=>(if a then 1 else 0)==b
 |.int a,.bl b=>a==(if b then 1 else 0)
 |.int a,.int b=>a==b
 |.str a,.str b=>a==b
 |_,_=>false
def in3 (neg:Bool):R3:=λx y G q=>UV x=true/\match y with
 |.tup ys=>ys.all UV=true/\q (.bl (if neg then !(ys.any λy=>eqF y x) else (ys.any λy=>eqF y x))) G
 |.ref p=>(match getL G p with|some ys=>ys.all UV=true/\q (.bl (if neg then !(ys.any λy=>eqF y x) else (ys.any λy=>eqF y x))) G|none=>False)
 |_=>False
def XQ:List T->Gp->Q3->Prop:=λxs G q=>match xs with
 |[.tup ys]=>q (.int ys.length) G
 |[.str y]=>y.length<=sizeLine/\q (.int y.length) G
 |[.ref p]=>(match getL G p with|some ys=>q (.int ys.length) G|none=>False)
 |_=>False
def XG {K:Frg} {H:Hp} {x:T} {vs:List V} (r:Rps K H [x] vs):∃ v,vs=[v]/\Rp K H x v:=by
 cases r with
 |cons a b=>cases b;exact ⟨_,rfl,a⟩
def qfD {K:Frg} {H:Hp} {x y:T} {vs:List V} (r:Rps K H [x,y] vs):∃ v u,vs=[v,u]/\Rp K H x v/\Rp K H y u:=by
 cases r with
 |cons a b=>cases b with|cons c d=>cases d;exact ⟨_,_,rfl,a,c⟩
def R1 {K:Frg}:CD K XQ (λxs H Q=>∃ x n,xs=[x]/\qfl K x H n/\Q (.int n) H):=λxs vs G H q Q hr rs h af=>by
 unfold XQ at h;split at h
 ·obtain ⟨v,rfl,r⟩:=XG rs;cases r with
  |tup hs r2=>exact ⟨_,_,rfl,.inr ⟨_,hs,rfl⟩,by rw [← r2.length];exact af _ G h _ H (.int _) hr Kp.refl⟩
 ·obtain ⟨v,rfl,r⟩:=XG rs;cases r;exact ⟨_,_,rfl,⟨h.1,rfl⟩,af _ G h.2 _ H (.int _) hr Kp.refl⟩
 ·obtain ⟨v,rfl,r⟩:=XG rs;split at h
  ·rename_i ys e;cases r;obtain ⟨us,hs,r2⟩:=zH hr e;exact ⟨_,_,rfl,.inl ⟨_,hs,rfl⟩,by rw [← r2.length];exact af _ G h _ H (.int _) hr Kp.refl⟩
  ·exact h.elim
 ·exact h.elim
def SX:List T->Gp->Q3->Prop:=λxs G q=>match xs with|[.int i]=>q (.int (if i<0 then -i else i)) G|_=>False
def R5 {K:Frg}:CD K SX (λxs H Q=>∃ i,xs=[.int i]/\Q (.int (if i<0 then -i else i)) H):=λxs vs G H q Q hr rs h af=>by
 unfold SX at h;split at h
 ·obtain ⟨v,rfl,r⟩:=XG rs;cases r;exact ⟨_,rfl,af _ G h _ H (.int _) hr Kp.refl⟩
 ·exact h.elim
def SU:List T->Gp->Q3->Prop:=λxs G q=>match xs with|[.int i,.int j]=>q (.int (if j<i then j else i)) G|_=>False
def NM {K:Frg}:CD K SU (λxs H Q=>∃ i j,xs=[.int i,.int j]/\Q (.int (if j<i then j else i)) H):=λxs vs G H q Q hr rs h af=>by
 unfold SU at h;split at h
 ·obtain ⟨v,u,rfl,r,r'⟩:=qfD rs;cases r;cases r';exact ⟨_,_,rfl,af _ G h _ H (.int _) hr Kp.refl⟩
 ·exact h.elim
def qbA:List T->Gp->Q3->Prop:=λxs G q=>match xs with|[.int i,.int j]=>q (.int (if j > i then j else i)) G|_=>False
def qbB:List T->Gp->Q3->Prop:=λxs G q=>match xs with|[.int i]=>q (.int i) G|[.bl k]=>q (.int (if k then 1 else 0)) G|_=>False
def zA:List T->Gp->Q3->Prop:=λxs G q=>match xs with
 |[.tup ys]=>q (.tup ys) G
 |[.ref p]=>(match getL G p with|some ys=>q (.tup ys) G|none=>False)
 |_=>False
def jy {K:Frg}:CD K zA (λxs H Q=>∃ p ys,xs=[.ref p]/\((SqL K H p ys/\∀ l,H l=none->Q (.ref l) (upd H l (.tup ys)))\/(SqT K H p ys/\Q (.ref p) H))):=λxs vs G H q Q hr rs h af=>by
 unfold zA at h;split at h
 ·obtain ⟨v,rfl,r⟩:=XG rs;cases r with
  |tup hs r2=>exact ⟨_,_,rfl,.inr ⟨hs,af _ G h _ H (.tup hs r2) hr Kp.refl⟩⟩
 ·obtain ⟨v,rfl,r⟩:=XG rs;split at h
  ·rename_i ys e;cases r;obtain ⟨us,hs,r2⟩:=zH hr e;exact ⟨_,_,rfl,.inl ⟨hs,λl hl=>af _ G h _ _ (.tup (SqT.of qY) (r2.keep hr (Kp.laid hl))) (hr.laid hl) (Kp.laid hl)⟩⟩
  ·exact h.elim
 ·exact h.elim
def JT:List T->Gp->Q3->Prop:=λxs G q=>match xs with
 |[.tup ys]=>∀ p,G p=none->q (.ref p) (gu G p (.lst ys))
 |[.ref p]=>(match getL G p with|some ys=>∀ p,G p=none->q (.ref p) (gu G p (.lst ys))|none=>False)
 |_=>False
def WF {K:Frg}:CD K JT (λxs H Q=>∃ p ys,xs=[.ref p]/\(SqL K H p ys\/SqT K H p ys)/\∀ l,H l=none->Q (.ref l) (upd H l (.lst ys))):=λxs vs G H q Q hr rs h af=>by
 unfold JT at h;split at h
 ·obtain ⟨v,rfl,r⟩:=XG rs;cases r with
  |tup hs r2=>exact ⟨_,_,rfl,.inr hs,λl hl=>af _ _ (h l (hr.free hl)) _ _ (.ref l) (hr.newL hl r2) (Kp.newL hl)⟩
 ·obtain ⟨v,rfl,r⟩:=XG rs;split at h
  ·rename_i ys e;cases r;obtain ⟨us,hs,r2⟩:=zH hr e;exact ⟨_,_,rfl,.inl hs,λl hl=>af _ _ (h l (hr.free hl)) _ _ (.ref l) (hr.newL hl r2) (Kp.newL hl)⟩
  ·exact h.elim
 ·exact h.elim
def qbi:T->List T->Gp->Q3->Prop:=λx xs G q=>match x,xs with
 |.ref l,[.ref b]=>(match G l,G b with|some (.lst ys),some (.lst zs)=>ys.length+zs.length<=sizeLine/\q .non (gu G l (.lst (ys++zs)))|_,_=>False)
 |_,_=>False
def EA:T->List T->Gp->Q3->Prop:=λx xs G q=>match x,xs with
 |.ref l,[y]=>(match G l with|some (.lst ys)=>ys.length<sizeLine/\q .non (gu G l (.lst (ys++[y])))|_=>False)
 |_,_=>False
def qdD (K:Frg) (r3:T->List T->Gp->Q3->Prop) (r:V->List V->Hp->VK->Prop):Prop:=∀ x xs v vs G H q Q,HR K G H->Rp K H x v->Rps K H xs vs->r3 x xs G q->Aft K G H q Q->r v vs H Q
def qaj {K:Frg}:qdD K EA C0:=λx xs v vs G H q Q hr rx rs h af=>by
 unfold EA at h;split at h
 ·rename_i l y;split at h
  ·rename_i ys e1;cases rx;obtain ⟨u,rfl,r⟩:=XG rs;obtain ⟨vs,g1,r1⟩:=hr.lst e1;exact ⟨l,vs,u,rfl,rfl,g1,by rw [← r1.length];exact h.1,af _ _ h.2 _ _ .non (hr.wr e1 (r1.append (.cons r .nil))) (Kp.wr e1)⟩
  ·exact h.elim
 ·exact h.elim
def bm3 (r:T->List T->Gp->Q3->Prop) (to:TE3) (t:TA3):TE3:=λτ G q=>to τ G λx G1=>(match x with|.ref p=>(getL G1 p).isSome=true|_=>False)/\t τ G1 λxs G2=>r x xs G2 q
def qf5 {o:Expr} {to:TE3} {name:Str} {apos cpos:Pos} {id:String} {r3:T->List T->Gp->Q3->Prop} {r:V->List V->Hp->VK->Prop} (slot:Slot "list" name id) (hty:typeOf (.builtin id)=pure (.type "method_descriptor")) (hm:MtR X id r) (hr:qdD X.K r3 r) (ho:E3 X o to) (ha:A3 X (e::es) t)
  (hbase:attributeBase o name X.env (eval o X.env)=eval o X.env:=by rfl)
  (hfew:((backTo cpos (starEach (e::es) X.env)).all (λx=>!x.1)&&(backToKw cpos (keywordEach [] X.env)).all (λx=>x.1.isSome)
   && decide ((e::es).length+([]:List Keyword).length+(if ([]:List Keyword).isEmpty then 0 else 1)<30))=true:=by rfl)
  (hline:(apos.endLine==cpos.line)=true:=by rfl) (hs:starEach (e::es) X.env=(false,eval e X.env)::starEach es X.env:=by rfl) (hplain:(backTo cpos (starEach es X.env)).any (·.1)=false:=by rfl) :
  E3 X (.Call (.Attribute o name apos) (e::es) [] cpos) (bm3 r3 to t):=
 UI (qbg PySem.F.plainAttrs_list slot hty hm ho ha hbase hfew hline hs hplain) λ_ _ _ ⟨τ,G,q,rl,h,af⟩=>zT rl h λx G1 h1 v H1 rx hr1 k1 rl1=>by
  obtain ⟨hp,h1⟩:=h1;cases x<;>try exact hp.elim
  case ref p=>
   cases rx;have hp':(getL G1 p).isSome=true:=hp;obtain ⟨ys,e⟩:=Option.isSome_iff_exists.mp hp';obtain ⟨us,hs,r2⟩:=zH hr1 e;exact ⟨.inl ⟨rfl,us,hs⟩,QN rl1 h1 λxs G2 h2 vs H2 rs hr2 k2 rl2=>hr _ xs _ vs G2 H2 q _ hr2 (.ref p) rs h2 (af.back (k1.trans k2))⟩
def TW {o:Expr} {to:TE3} {apos cpos:Pos} (ho:E3 X o to) (ha:A3 X [e] t)
  (hbase:attributeBase o "append" X.env (eval o X.env)=eval o X.env:=by rfl)
  (hfew:((backTo cpos (starEach [e] X.env)).all (λx=>!x.1)&&(backToKw cpos (keywordEach [] X.env)).all (λx=>x.1.isSome)
   && decide (([e]:List Expr).length+([]:List Keyword).length+(if ([]:List Keyword).isEmpty then 0 else 1)<30))=true:=by rfl)
  (hline:(apos.endLine==cpos.line)=true:=by rfl) (hs:starEach [e] X.env=(false,eval e X.env)::starEach [] X.env:=by rfl) (hplain:(backTo cpos (starEach [] X.env)).any (·.1)=false:=by rfl) :
  E3 X (.Call (.Attribute o "append" apos) [e] [] cpos) (bm3 EA to t):=qf5 PySem.F.slot_list_append PySem.F.type_list_append JR qaj ho ha hbase hfew hline hs hplain
end
def tyT (G:Gp):T->Option String
 |.non=>some "NoneType" |.bl _=>some "bool" |.int _=>some "int" |.str _=>some "str" |.tup _=>some "tuple"
 |.ref p=>if (getL G p).isSome then some "list" else none
def W4 (t c:String):Bool:=t==c||(t == "bool" && c == "int")
def T5 (K:Frg):∀ t∈["NoneType","bool","int","str","tuple","list"],∀ c∈["bool","int","str","tuple","list"],PySem.W.kitOne K (.type t) (.type c)=some (W4 t c):=by
 intro t ht c hc;simp only [mem_cons,not_mem_nil,or_false] at ht hc;rcases ht with rfl|rfl|rfl|rfl|rfl|rfl<;>rcases hc with rfl|rfl|rfl|rfl|rfl<;>kernel_rfl
section
variable {X:Cx} {a b c e:Expr} {es:List Expr} {ta tb tc te:TE3} {t:TA3} {pos:Pos}
def TyS (K:Frg) (H:Hp) (x:V) (t:String):Prop:=match x with
 |.non=>t="NoneType" |.bl _=>t="bool" |.int _=>t="int" |.str _=>t="str"
 |.ref a=>(t="tuple"/\∃ vs,SqT K H a vs)\/(t="list"/\∃ vs,SqL K H a vs)
 |_=>False
def TyS.mem {K:Frg} {H:Hp} {x:V} {t:String} (h:TyS K H x t):t∈["NoneType","bool","int","str","tuple","list"]:=by
 cases x<;>simp [TyS] at h<;>first|(subst h;decide)|(rcases h with ⟨rfl,_⟩|⟨rfl,_⟩<;>decide)
def TyS.kitx {pins:List (Addr×Obj)} {σ:L2.St} {H:Hp} {s:Shared} {x:V} {u:Value} {t:String} (I:Inv X pins σ H s) (rx:zW x u) (h:TyS X.K H x t) :
  ∃ HH:Heap->Prop,PySem.W.KitX X.K u (.type t) HH/\HH s.heap/\u≠.builtin "__main__.__loader__#opaque" := by
 cases x with
 |non=>cases (show u=Value.none from rx);cases (show t=_ from h);exact ⟨_,PySem.W.kitx_none,True.intro,λz=>nomatch z⟩
 |bl y=>cases (show u=Value.bool y from rx);cases (show t=_ from h);exact ⟨_,PySem.W.kitx_bool,True.intro,λz=>nomatch z⟩
 |int i=>obtain ⟨tk,q⟩:=(show ∃ t,u=Value.int i t from rx);cases q;cases (show t=_ from h);exact ⟨_,PySem.W.kitx_int,True.intro,λz=>nomatch z⟩
 |str y=>obtain ⟨tk,q⟩:=(show ∃ t,u=Value.str y t from rx);cases q;cases (show t=_ from h);exact ⟨_,PySem.W.kitx_str,True.intro,λz=>nomatch z⟩
 |ref a=>
  cases (show u=Value.ref a from rx);rcases (show (t="tuple"/\∃ vs,SqT X.K H a vs)\/(t="list"/\∃ vs,SqL X.K H a vs) from h) with ⟨rfl,vs,hs⟩|⟨rfl,vs,hs⟩
  ·obtain ⟨its,_,p,_⟩:=I.tuple hs;obtain ⟨o,h1,h2,_⟩:=p;exact ⟨_,PySem.W.kitx_tuple,⟨o,h1,h2⟩,λz=>nomatch z⟩
  ·obtain ⟨its,_,p,_⟩:=I.list hs;obtain ⟨o,n,h1,h2,_⟩:=p;exact ⟨_,PySem.W.kitx_list,⟨o,h1,h2⟩,λz=>nomatch z⟩
 |_=>exact False.elim h
abbrev DA:List String:=["bool","int","str","tuple","list"]
def KM:Q4 X (.builtin "isinstance") (λxs H Q=>∃ x t c,xs=[x,.ty c]/\TyS X.K H x t/\c∈DA/\Q (.bl (W4 t c)) H):=by
 intro pins s σ H xs us Q I r h;obtain ⟨x,t,c,rfl,ht,hc,q⟩:=h;obtain ⟨u,w,rfl,rx,rc⟩:=qcI r;cases (show w=Value.type c from rc);obtain ⟨HH,kx,hh,ne⟩:=ht.kitx I rx;exact PySem.W.kia_one kx I.kIn hh (T5 X.K t ht.mem c hc) ne λtk=>⟨.bl _,H,I.tok tk,rfl,q⟩
def qcf {K:Frg} {G:Gp} {H:Hp} (hr:HR K G H) {x:T} {v:V} {t:String} (r:Rp K H x v) (h:tyT G x=some t):TyS K H v t:=by
 cases r with
 |non=>cases h;rfl
 |bl _=>cases h;rfl
 |int _=>cases h;rfl
 |str _=>cases h;rfl
 |tup hs rs=>cases h;exact .inl ⟨rfl,_,hs⟩
 |ref a=>
  have h:(if (getL G a).isSome then some "list" else none)=some t:=h;split at h
  ·rename_i e;cases h;obtain ⟨ys,e⟩:=Option.isSome_iff_exists.mp e;obtain ⟨us,hs,_⟩:=zH hr e;exact .inr ⟨rfl,us,hs⟩
  ·cases h
def SW (f:String->Bool) (te:TE3):TE3:=λτ G q=>te τ G λx G1=>match tyT G1 x with|some t=>q (.bl (f t)) G1|none=>False
def qex {tn:Str} {ty:String} {p p2:Pos} (he:E3 X e te) (hg:Gl X "isinstance") (hm:X.mg "isinstance" = none) (hg2:Gl X tn) (hm2:X.mg tn=none) (hv:bootBuiltins tn=some (.type ty)) (hmem:ty∈DA:=by decide) (hn:tn≠"__name__" := by decide) (hdb:(tn==("__debug__" : Str))=false:=by decide)
  (hs:starEach [e,.Name tn p2] X.env=(false,eval e X.env)::starEach [.Name tn p2] X.env:=by rfl) (hs2:starEach [.Name tn p2] X.env=(false,eval (.Name tn p2) X.env)::starEach [] X.env:=by rfl) (hpl:(backTo pos (starEach [.Name tn p2] X.env)).any (·.1)=false:=by rfl) :
  E3 X (.Call (.Name "isinstance" p) [e,.Name tn p2] [] pos) (SW (λt=>W4 t ty) te):=
 UI (DR KM hg hm PyProof.Rows.boot_isinstance (ED he (ED (qal (v:=.ty ty) hg2 hm2 hv rfl hn hdb) LD hs2) hs) (by decide) (by decide) hs hpl)
  λ_ _ _ ⟨τ,G,q,rl,h,af⟩=>zT rl h λx G1 h1 v H1 rx hr1 k1 rl1=>by
   split at h1
   ·rename_i t e1;exact ⟨_,t,ty,rfl,qcf hr1 rx e1,hmem,af _ G1 h1 _ H1 (.bl _) hr1 k1⟩
   ·exact h1.elim
structure Ends3 where
 nx:St3->Gp->Prop
 rt:Q3
 bk:St3->Gp->Prop:=λ_ _=>False
 ct:St3->Gp->Prop:=λ_ _=>False
abbrev TS3:=Ends3->St3->Gp->Prop
def MN (K:Frg) (G:Gp) (H:Hp) (q:St3->Gp->Prop) (Q:L2.St->Hp->Prop):Prop:=∀ τ G',q τ G'->∀ σ H',Rel K τ G' σ H'->Kp G H G' H'->Q σ H'
structure AftD (K:Frg) (G:Gp) (H:Hp) (d:Ends3) (D:Ends):Prop where
 nx:MN K G H d.nx D.nx
 rt:Aft K G H d.rt D.rt
 bk:MN K G H d.bk D.bk
 ct:MN K G H d.ct D.ct
def MN.back {K:Frg} {G G1:Gp} {H H1:Hp} {q:St3->Gp->Prop} {Q:L2.St->Hp->Prop} (a:MN K G H q Q) (k:Kp G H G1 H1):MN K G1 H1 q Q:=λx G' h v H' r k'=>a x G' h v H' r (k.trans k')
def AftD.back {K:Frg} {G G1:Gp} {H H1:Hp} {d:Ends3} {D:Ends} (a:AftD K G H d D) (k:Kp G H G1 H1):AftD K G1 H1 d D:=⟨a.nx.back k,a.rt.back k,a.bk.back k,a.ct.back k⟩
def lS (K:Frg) (t:TS3):TS:=λD σ H=>∃ τ G d,Rel K τ G σ H/\t d τ G/\AftD K G H d D
abbrev S3 (X:Cx) (st:Stmt) (t:TS3):Prop:=PS X st (lS X.K t)
abbrev B3 (X:Cx) (st:List Stmt) (t:TS3):Prop:=PSs X st (lS X.K t)
def T8 {X:Cx} {st:Stmt} {t t':TS} (h:PS X st t) (w:∀ D σ H,t' D σ H->t D σ H):PS X st t':=λpins s σ H D I q=>h pins s σ H D I (w D σ H q)
def qdr {X:Cx} {st:List Stmt} {t t':TS} (h:PSs X st t) (w:∀ D σ H,t' D σ H->t D σ H):PSs X st t':=λpins s σ H D I q=>h pins s σ H D I (w D σ H q)
variable {st:Stmt} {QP:List Stmt} {t1 t2:TS3} {tA:TT3}
def qK:TS3:=λd τ G=>d.nx τ G
def qE (t u:TS3):TS3:=λd τ G=>t { d with nx:=u d } τ G
def qe1:B3 X [] qK:=qdr qay λ_ σ H ⟨τ,G,d,rl,h,af⟩=>af.nx τ G h σ H rl Kp.refl
def qbj (h1:S3 X st t1) (h2:B3 X QP t2):B3 X (st::QP) (qE t1 t2):=qdr (T0 h1 h2) λD σ H ⟨τ,G,d,rl,h,af⟩=>
 ⟨τ,G,{ d with nx:=t2 d },rl,h,⟨λτ' G' h' σ' H' rl' k'=>⟨τ',G',d,rl',h',af.back k'⟩,af.rt,af.bk,af.ct⟩⟩
def qeH (h1:S3 X st t1):B3 X [st] t1:=N0 h1
def ZH (te:TE3):TS3:=λd τ G=>te τ G λ_ G1=>d.nx τ G1
def qbn (he:E3 X e te) (hs:swapsWith e none pos.line X.env=pure false:=by rfl):S3 X (.Expr e pos) (ZH te):=T8 (qad he hs) λ_ σ H ⟨τ,G,d,rl,h,af⟩=>
 zT rl h λx G1 h1 v H1 rx hr1 k1 rl1=>af.nx τ G1 h1 σ H1 rl1 k1
def qX (te:TE3):TS3:=λd τ G=>te τ G d.rt
def qel (he:E3 X e te):S3 X (.Return (some e) pos) (qX te):=T8 (qcC he) λ_ σ H ⟨τ,G,d,rl,h,af⟩=>⟨τ,G,d.rt,rl,h,af.rt⟩
def SL:TS3:=λd _ G=>d.rt .non G
def zV (c:TT3) (t u:TS3):TS3:=λd τ G=>c τ G λk G1=>if k=true then t d τ G1 else u d τ G1
def qgb {c:Expr} {ba bb:List Stmt} (hc:C3 X c tA) (ha:B3 X ba t1) (hb:B3 X bb t2):S3 X (.If c ba bb pos) (zV tA t1 t2):=T8 (qdX hc ha hb) λ_ σ H ⟨τ,G,d,rl,h,af⟩=>
 YU rl h λk G1 h1 H1 hr1 k1 rl1=>by
  cases k with
  |true=>rw [if_pos rfl] at h1 ⊢;exact ⟨τ,G1,d,rl1,h1,af.back k1⟩
  |false=>rw [if_neg Bool.false_ne_true] at h1 ⊢;exact ⟨τ,G1,d,rl1,h1,af.back k1⟩
def qbR:TS3:=λ_ _ _=>False
abbrev TG3:=T->St3->Gp->(St3->Gp->Prop)->Prop
abbrev VF:=List T->St3->Gp->(St3->Gp->Prop)->Prop
def lG (K:Frg) (t:TG3):TG:=λv σ H Q=>∃ x τ G q,Rp K H x v/\Rel K τ G σ H/\t x τ G q/\MN K G H q Q
def lGs (K:Frg) (t:VF):TGs:=λv σ H Q=>∃ x τ G q,Rps K H x v/\Rel K τ G σ H/\t x τ G q/\MN K G H q Q
abbrev G3 (X:Cx) (e:Expr) (t:TG3):Prop:=PG X e (lG X.K t)
abbrev Gs3 (X:Cx) (es:List Expr) (t:VF):Prop:=PGs X es (lGs X.K t)
def qdz {X:Cx} {e:Expr} {t t':TG} (h:PG X e t) (w:∀ v σ H Q,t' v σ H Q->t v σ H Q):PG X e t':=λpins s σ H v u Q I r q=>h pins s σ H v u Q I r (w v σ H Q q)
def qcZ {X:Cx} {e:List Expr} {t t':TGs} (h:PGs X e t) (w:∀ v σ H Q,t' v σ H Q->t v σ H Q):PGs X e t':=λpins s σ H v u Q I r q=>h pins s σ H v u Q I r (w v σ H Q q)
def gn3 (i:Nat):TG3:=λx τ G q=>q (τ.set i (some x)) G
def qcp {i:Nat} {x:Str} (hN:X.N.Nodup) (hi:X.N[i]?=some x:=by rfl) (hx:Loc X.env.scope x:=by first|exact Or.inl rfl|exact Or.inr rfl) (hf:X.fn x=true\/X.env.scope.names.lookup x=some .local:=by first|exact .inl rfl|exact .inr rfl):G3 X (.Name x pos) (gn3 i):=
 qdz (qae hN hi hx hf) λv σ H Q ⟨x,τ,G,q,rx,rl,h,af⟩=>af _ G h _ H (rl.set i rx) Kp.refl
def jA:VF:=λxs τ G q=>match xs with|[]=>q τ G|_=>False
def qI (t:TG3) (u:VF):VF:=λxs τ G q=>match xs with|x::r=>t x τ G λτ' G'=>u r τ' G' q|[]=>False
def qdU:Gs3 X [] jA:=qcZ N9 λv σ H Q ⟨x,τ,G,q,rx,rl,h,af⟩=>by
 cases rx with
 |nil=>exact ⟨rfl,af _ G h _ H rl Kp.refl⟩
 |cons _ _=>exact h.elim
def qbG {tg:TG3} {tgs:VF} (h1:G3 X e tg) (h2:Gs3 X es tgs) (hs:(assignEach (e::es) X.env).map (·.2)=assign e X.env::(assignEach es X.env).map (·.2):=by rfl):Gs3 X (e::es) (qI tg tgs):=qcZ (KN h1 h2 hs) λv σ H Q ⟨x,τ,G,q,rx,rl,h,af⟩=>by
 cases rx with
 |nil=>exact h.elim
 |cons r rs=>exact ⟨_,_,rfl,_,τ,G,_,r,rl,h,λτ' G' h' σ' H' rl' k'=>⟨_,τ',G',q,rs.keep rl.hp k',rl',h',af.back k'⟩⟩
def jB (n:Nat) (t:VF):TG3:=λx τ G q=>match x with|.tup xs=>xs.length=n/\t xs τ G q|_=>False
def qeO {k:Nat} {tgs:VF} {n:Nat} (hc:X.calm=true) (h:Gs3 X es tgs) (hn:(assignEach es X.env).length=n:=by rfl) (hst:(assignEach es X.env).findIdx? (·.1)=none:=by rfl):G3 X (.Tuple es k pos) (jB n tgs):=
 qdz (qbF hc h hn hst) λv σ H Q ⟨x,τ,G,q,rx,rl,h,af⟩=>by
  cases x<;>try exact h.elim
  case tup xs=>
   cases rx with
   |tup hs rs=>exact ⟨_,_,rfl,hs,by rw [← rs.length];exact h.1,_,τ,G,q,rs,rl,h.2,af⟩
def XN:T->T->T->Gp->(Gp->Prop)->Prop:=λo i v G q=>match o,i with
 |.ref p,.int k=>(match G p with|some (.lst xs)=>(match ixN xs.length k with|some j=>q (gu G p (.lst (xs.set j v)))|none=>False)|_=>False)
 |_,_=>False
def Q6 (to ti:TE3):TG3:=λx τ G q=>to τ G λo G1=>ti τ G1 λi G2=>XN o i x G2 λG3=>q τ G3
def qdM {o i : Expr} {to ti : TE3} (ho : E3 X o to) (hi : E3 X i ti) (ha : ∀ v,assign (.Subscript o i pos) X.env v = (do
      let ov←holding [v] (eval o X.env)
      let iv←holding [v,ov] (eval i X.env)
      standAt pos
      holding [v,ov,iv] (setItem ov iv v)
      release [v,ov,iv] []):=by intro _;rfl):G3 X (.Subscript o i pos) (Q6 to ti):=
  qdz (qby ho hi T1 ha) λv σ H Q ⟨x,τ,G,q,rx,rl,h,af⟩=>zT rl h λy G1 h1 u H1 ry hr1 k1 rl1=>zT rl1 h1 λz G2 h2 w H2 rz hr2 k2 rl2=>by
    have rx2:=(rx.keep rl.hp k1).keep hr1 k2;have ry2:=ry.keep hr1 k2;unfold XN at h2;split at h2
    · rename_i p k;split at h2
      · rename_i xs e;split at h2
        · rename_i j ej;cases ry2;cases rz;obtain ⟨vs,g1,r1⟩:=hr2.lst e;have kk:Kp G2 H2 (gu G2 p (.lst (xs.set j x))) (upd H2 p (.lst (vs.set j v))):=Kp.wr e;exact ⟨p,vs,k,j,rfl,rfl,g1,by rw [← r1.length];exact ej,af τ _ h2 σ _ (rl2.next (hr2.wr e (r1.set rx2 j)) kk) ((k1.trans k2).trans kk)⟩
        · exact h2.elim
      · exact h2.elim
    · exact h2.elim
def qS (te:TE3) (g:TG3):TS3:=λd τ G=>te τ G λx G1=>g x τ G1 d.nx
def qd0 {tg e:Expr} {g:TG3} (he:E3 X e te) (hg:G3 X tg g) (hs:swapsWithSole [tg] e pos.line X.env=pure false:=by rfl) (hw:swappedStores [tg] e X.env=pure none:=by rfl)
  (h1:(assignEach [tg] X.env).map (·.2)=[assign tg X.env]:=by rfl):S3 X (.Assign [tg] e pos) (qS te g):=T8 (qbT he hg hs hw h1) λ_ σ H ⟨τ,G,d,rl,h,af⟩=>
 zT rl h λx G1 h1 v H1 rx hr1 k1 rl1=>⟨x,τ,G1,d.nx,rx,rl1,h1,af.nx.back k1⟩
def qeP (i:Nat) {x:Str} {e:Expr} {pos':Pos} (hN:X.N.Nodup) (he:E3 X e te) (hi:X.N[i]?=some x:=by rfl) (hx:Loc X.env.scope x:=by first|exact Or.inl rfl|exact Or.inr rfl) (hs:swapsWith e (some (.Name x pos')) pos.line X.env=pure false:=by rfl) (hf:X.fn x=true\/X.env.scope.names.lookup x=some .local:=by first|exact .inl rfl|exact .inr rfl) :
  S3 X (.Assign [.Name x pos'] e pos) (qS te (gn3 i)):=T8 (qcw hN hi hx he hs hf) λ_ σ H ⟨τ,G,d,rl,h,af⟩=>
 zT rl h λx G1 h1 v H1 rx hr1 k1 rl1=>af.nx _ G1 h1 _ H1 (rl1.set i rx) k1
def YO (i j:Nat) (ta:TA3):TS3:=λd τ G=>ta τ G λxs G1=>match xs with|[x,y]=>d.nx ((τ.set i (some x)).set j (some y)) G1|_=>False
def qe8 {i j:Nat} {x y:Str} {a b:Expr} {tt:TA3} {px py pt:Pos} {kt k2 pt2} (hc:X.calm=true) (hN:X.N.Nodup) (hi:X.N[i]?=some x) (hj:X.N[j]?=some y) (hij:i≠j)
  (hx:X.env.scope.names.lookup x=some .local) (hy:X.env.scope.names.lookup y=some .local) (ha:A3 X [a,b] tt)
  (hw:swappedStores [.Tuple [.Name x px,.Name y py] kt pt] (.Tuple [a,b] k2 pt2) X.env=pure (some [x,y]):=by rfl)
  (hs:swapsWithSole [.Tuple [.Name x px,.Name y py] kt pt] (.Tuple [a,b] k2 pt2) pos.line X.env=pure false:=by rfl) :
  S3 X (.Assign [.Tuple [.Name x px,.Name y py] kt pt] (.Tuple [a,b] k2 pt2) pos) (YO i j tt):=T8 (qcj hc hN hi hj hij hx hy ha hw hs) λ_ σ H ⟨τ,G,d,rl,h,af⟩=>
 QN rl h λxs G1 h1 vs H1 rs hr1 k1 rl1=>by
  split at h1
  ·obtain ⟨v,u,rfl,r,r'⟩:=qfD rs;exact ⟨v,u,rfl,af.nx _ G1 h1 _ H1 ((rl1.set i r).set j r') k1⟩
  ·exact h1.elim
end
abbrev TI3:=St3->Gp->(List T->(Gp->Prop)->Gp->Prop)->Prop
def qdw (K:Frg) (J:It) (items:List T) (stay:Gp->Prop) (G0:Gp) (H0:Hp):Prop:=∀ G H,HR K G H->Kp G0 H0 G H->stay G ->
 (∀ i x,items[i]?=some x->J.go i H)/\(∀ i x v H',items[i]?=some x->J.yld i H v H'->Rp K H' x v/\HR K G H'/\Kp G H G H')/\J.stop items.length H
def lI (K:Frg) (wi:TI3):TI:=λσ H R=>∃ τ G r,Rel K τ G σ H/\wi τ G r/\∀ items stay G',r items stay G'->∀ J H',HR K G' H'->Kp G H G' H'->qdw K J items stay G' H'->R J H'
abbrev I3 (X:Cx) (tg iter:Expr) (wi:TI3):Prop:=PI X tg iter (lI X.K wi)
def qeb {X:Cx} {tg e:Expr} {t t':TI} (h:PI X tg e t) (w:∀ σ H R,t' σ H R->t σ H R):PI X tg e t':=λpins s σ H R I q=>h pins s σ H R I (w σ H R q)
section
variable {X:Cx} {a b c e l tg:Expr} {es:List Expr} {ta tb tc te:TE3} {t:TA3} {pos:Pos}
def qbE {tl:TE} (hl:PE X l tl):PI X tg l (λσ H R=>tl σ H λx H1=>∃ a,x=.ref a/\(((∃ xs,SqL X.K H1 a xs)/\R (Itl X.K a) H1)\/((∃ xs,SqT X.K H1 a xs)/\R (Itt X.K a) H1))):=by
 intro pins s σ H R I h;refine thn (hl pins s σ H _ I h) λv s1 ⟨x,H1,I1,r1,q1⟩=>?_;obtain ⟨a,e,⟨⟨xs,hq⟩,q⟩|⟨⟨xs,hq⟩,q⟩⟩:=q1
 ·subst e;cases r1;obtain ⟨its,rv,p,hz⟩:=I1.list hq;refine wpAny_pyIter_list p.isList ?_;refine ⟨s1.heap.objs.size,[s1.heap.objs.size],_,_,H1,rfl,I1.kept (t':=s1.toks) λb o e=>Heap.get?_push_of_some _ e,RW a _,⟨_,Heap.get?_push_size _ rfl,rfl,rfl⟩,λb hb=>?_,q⟩;have e:b=s1.heap.objs.size:=by simpa using hb
  subst e;exact I1.fpOk (Nat.le_refl _) (I1.hok.fresh (Nat.le_refl _))
 ·subst e;cases r1;obtain ⟨its,rv,p,hz⟩:=I1.tuple hq;refine wpAny_pyIter_tuple (show s1.heap.IsTuple a its.toArray from p) ?_;refine ⟨s1.heap.objs.size,[s1.heap.objs.size],_,_,H1,rfl,I1.kept (t':=s1.toks) λb o e=>Heap.get?_push_of_some _ e,W6 a _,⟨_,Heap.get?_push_size _ rfl,rfl,rfl⟩,λb hb=>?_,q⟩;have e:b=s1.heap.objs.size:=by simpa using hb
  subst e;exact I1.fpOk (Nat.le_refl _) (I1.hok.fresh (Nat.le_refl _))
def QK (tl:TE3):TI3:=λτ G r=>tl τ G λx G1=>match x with
 |.tup xs=>r xs (λ_=>True) G1
 |.ref p=>(match getL G1 p with|some xs=>r xs (λG=>getL G p=some xs) G1|none=>False)
 |_=>False
def qbL {K:Frg} {p:Addr} {xs:List T} {G0:Gp} {H0:Hp}:qdw K (Itl K p) xs (λG=>getL G p=some xs) G0 H0:=by
 intro G H hr _ hs;obtain ⟨vs,sq,rs⟩:=zH hr hs;refine ⟨λi x hi=>?_,λi x v H' hi y=>?_,⟨vs,sq,by rw [rs.length];exact Nat.le_refl _⟩⟩
 ·obtain ⟨v,hv,_⟩:=rs.get hi;exact ⟨vs,v,sq,hv⟩
 ·obtain ⟨e,y⟩:=y;subst e;obtain ⟨w,hw,rw'⟩:=rs.get hi;have e2:=(y vs sq).symm.trans hw;cases e2;exact ⟨rw',hr,Kp.refl⟩
def qaU {K:Frg} {p:Addr} {xs:List T} {vs:List V} {G0:Gp} {H0:Hp} (hr0:HR K G0 H0) (sq0:SqT K H0 p vs) (rs0:Rps K H0 xs vs):qdw K (Itt K p) xs (λ_=>True) G0 H0:=by
 intro G H hr k _;have sq:=VY hr0 k sq0;have rs:=rs0.keep hr0 k;refine ⟨λi x hi=>?_,λi x v H' hi y=>?_,⟨vs,sq,by rw [rs.length];exact Nat.le_refl _⟩⟩
 ·obtain ⟨v,hv,_⟩:=rs.get hi;exact ⟨vs,v,sq,hv⟩
 ·obtain ⟨e,y⟩:=y;subst e;obtain ⟨w,hw,rw'⟩:=rs.get hi;have e2:=(y vs sq).symm.trans hw;cases e2;exact ⟨rw',hr,Kp.refl⟩
def qeo (hl:E3 X l te):I3 X tg l (QK te):=qeb (qbE hl) λσ H R ⟨τ,G,r,rl,h,af⟩=>zT rl h λx G1 h1 v H1 rx hr1 k1 rl1=>by
 cases x<;>try exact h1.elim
 case tup xs=>
  cases rx with
  |tup hs rs=>exact ⟨_,rfl,.inr ⟨⟨_,hs⟩,af _ _ G1 h1 _ H1 hr1 k1 (qaU hr1 hs rs)⟩⟩
 case ref p=>
  simp only at h1;split at h1
  ·rename_i xs e0;cases rx;obtain ⟨vs,hs,rs⟩:=zH hr1 e0;exact ⟨_,rfl,.inl ⟨⟨_,hs⟩,af _ _ G1 h1 _ H1 hr1 k1 qbL⟩⟩
  ·exact h1.elim
def DT (lo:Int) (n:Nat):List T:=(List.range n).map λ(i:Nat)=>T.int (lo+(i:Int))
def qbQ {K:Frg} {lo:Int} {n:Nat} {G0:Gp} {H0:Hp}:qdw K (Itr lo n) (DT lo n) (λ_=>True) G0 H0:=by
 intro G H hr k _;have hl:(DT lo n).length=n:=by simp [DT]
 refine ⟨λi x hi=>?_,λi x v H' hi y=>?_,(show n<=(DT lo n).length by rw [hl];exact Nat.le_refl n)⟩
 ·have:=(List.getElem?_eq_some_iff.mp hi).1;rw [hl] at this;exact this
 ·obtain ⟨e,y⟩:=y;subst e;subst y;have h1:=(List.getElem?_eq_some_iff.mp hi).1;rw [hl] at h1;unfold DT at hi;rw [getElem?_map,List.getElem?_range h1] at hi;have e:T.int (lo+(i:Int))=x:=by simpa using hi
  subst e;exact ⟨.int _,hr,Kp.refl⟩
def zQ (ta:TA3):TI3:=λτ G r=>ta τ G λxs G1=>match xs with
 |[.int j]=>(-(2 ^ 62)<=j/\j<2 ^ 62)/\r (DT 0 j.toNat) (λ_=>True) G1
 |[.int i,.int j]=>(-(2 ^ 62)<=i/\i<2 ^ 62/\-(2 ^ 62)<=j/\j<2 ^ 62)/\r (DT i (j-i).toNat) (λ_=>True) G1
 |_=>False
def KI {p:Pos} (hg:Gl X "range") (hm:X.mg "range" = none) (ha:A3 X [a] t) (hs:starEach [a] X.env=[(false,eval a X.env)]:=by rfl) (h1:∀ τ G q,t τ G q->t τ G λxs G=>q xs G/\xs.length=1):I3 X tg (.Call (.Name "range" p) [a] [] pos) (zQ t):=
 qeb (CL hg hm ha hs) λσ H R ⟨τ,G,r,rl,h,af⟩=>QN rl (h1 _ _ _ h) λxs G1 h1 vs H1 rs hr1 k1 rl1=>by
  obtain ⟨h1,hl⟩:=h1;simp only at h1;split at h1
  ·obtain ⟨v,rfl,r1⟩:=XG rs;cases r1;exact ⟨_,rfl,h1.1.1,h1.1.2,af _ _ G1 h1.2 _ H1 hr1 k1 qbQ⟩
  ·simp at hl
  ·exact h1.elim
def VZ (stay:Gp->Prop) (g:TG3) (tb:TS3) (d:Ends3):List T->St3->Gp->Prop
 |[],τ,G=>stay G/\d.nx τ G
 |x::r,τ,G=>stay G/\g x τ G λτ2 G2=>tb { d with nx:=VZ stay g tb d r,ct:=VZ stay g tb d r,bk:=d.nx } τ2 G2
def U8 (wi:TI3) (g:TG3) (tb:TS3):TS3:=λd τ G=>wi τ G λitems stay G1=>VZ stay g tb d items τ G1
def qeI {iter:Expr} {body:List Stmt} {wi:TI3} {g:TG3} {tb:TS3} (hp:PassesOwn (model X.prog X.w) X.A X.env X.xe) (hc:X.calm=true) (hi:I3 X tg iter wi) (hg:G3 X tg g) (hb:B3 X body tb)
  (hs:∀ x,foldedSetIterable iter X.env x=pure x:=by intro _;rfl):S3 X (.For tg iter body [] pos) (U8 wi g tb):=
 T8 (qc3 hp hc hi hg hb hs) λD σ H ⟨τ,G,d,rl,h,af⟩=>by
  refine ⟨τ,G,_,rl,h,λitems stay G1 h1 J H1 hr1 k1 ok=>?_⟩;refine ⟨λi m σ' H'=>m=items.length-i/\i<=items.length/\∃ τ' G',Rel X.K τ' G' σ' H'/\Kp G1 H1 G' H'/\VZ stay g tb d (items.drop i) τ' G',⟨_,rfl,Nat.zero_le _,τ,G1,rl.next hr1 k1,Kp.refl,by simpa using h1⟩,?_⟩;rintro i m σ' H' ⟨rfl,hi,τ',G',rl',k',h'⟩;by_cases hlt:i<items.length
  ·rw [List.drop_eq_getElem_cons hlt] at h';obtain ⟨hst,h'⟩:=h';obtain ⟨go,yld,_⟩:=ok G' H' rl'.hp k' hst;have hx:items[i]?=some items[i]:=getElem?_eq_getElem hlt;refine .inr ⟨go i _ hx,λσ2 H2=>∃ τ2 G2,Rel X.K τ2 G2 σ2 H2/\Kp G1 H1 G2 H2/\VZ stay g tb d (items.drop (i+1)) τ2 G2,λσ2 H2 h2=>⟨_,by omega,rfl,hlt,h2⟩,λv H2 y=>?_⟩;obtain ⟨rv,hr2,k2⟩:=yld i _ v H2 hx y;have k3:Kp G1 H1 G' H2:=k'.trans k2;refine ⟨_,τ',G',_,rv,rl'.next hr2 k2,h',λτ3 G3 h3 σ3 H3 rl3 k4=>?_⟩;have k5:Kp G H G3 H3:=(k1.trans k3).trans k4;refine ⟨τ3,G3,_,rl3,h3,⟨λτ4 G4 h4 σ4 H4 rl4 k6=>⟨τ4,G4,rl4,(k3.trans k4).trans k6,h4⟩,af.rt.back k5,af.nx.back k5,λτ4 G4 h4 σ4 H4 rl4 k6=>⟨τ4,G4,rl4,(k3.trans k4).trans k6,h4⟩⟩⟩
  ·have e:i=items.length:=by omega
   subst e;rw [List.drop_length] at h';obtain ⟨_,_,stop⟩:=ok G' H' rl'.hp k' h'.1;exact .inl ⟨stop,af.nx τ' G' h'.2 σ' H' rl' (k1.trans k')⟩
def J6 {stay:Gp->Prop} {g:TG3} {tb:TS3} {d:Ends3} (items:List T) (Pv:Nat->St3->Gp->Prop) {τ:St3} {G:Gp} (h0:Pv 0 τ G) (hst:∀ i τ G,i<=items.length->Pv i τ G->stay G)
  (hs:∀ i x τ G (nx:St3->Gp->Prop),items[i]?=some x->Pv i τ G->(∀ τ G,Pv (i+1) τ G->nx τ G)->g x τ G λτ2 G2=>tb { d with nx:=nx,ct:=nx,bk:=d.nx } τ2 G2)
  (hd:∀ τ G,Pv items.length τ G->d.nx τ G):VZ stay g tb d items τ G:=by
 have key:∀ (r:List T) (i:Nat) τ G,items.drop i=r->i<=items.length->Pv i τ G->VZ stay g tb d r τ G:=by
  intro r;induction r with
  |nil=>
   intro i τ G e hi p;have:i=items.length:=by have:=congrArg List.length e;simp at this;omega
   subst this;exact ⟨hst _ τ G hi p,hd τ G p⟩
  |cons x r ih=>
   intro i τ G e hi p;have hl:i<items.length:=by
    apply Classical.byContradiction;intro z;rw [List.drop_eq_nil_of_le (by omega)] at e;cases e
   have e':=List.drop_eq_getElem_cons hl;rw [e] at e';injection e' with e1 e2;refine ⟨hst i τ G hi p,hs i x τ G _ (by rw [getElem?_eq_getElem hl,e1]) p λτ2 G2 p2=>ih (i+1) τ2 G2 e2.symm hl p2⟩
 exact key items 0 τ G (by simp) (Nat.zero_le _) h0
def WE (c:TT3) (tb:TS3):TS3:=λd τ G=>∃ W:Nat->St3->Gp->Prop,(∃ m,W m τ G)/\∀ m τ G,W m τ G ->
 c τ G λb G1=>if b=true then ∃ N:St3->Gp->Prop,(∀ τ' G',N τ' G'->∃ m',m'<m/\W m' τ' G')/\tb { d with nx:=N,ct:=N,bk:=d.nx } τ G1 else d.nx τ G1
def NI {c:Expr} {body:List Stmt} {tc:TT3} {tb:TS3} (hp:PassesOwn (model X.prog X.w) X.A X.env X.xe) (hc:C3 X c tc) (hb:B3 X body tb):S3 X (.While c body [] pos) (WE tc tb):=
 T8 (TD hp hc hb) λD σ H ⟨τ,G,d,rl,⟨W,⟨m0,w0⟩,turn⟩,af⟩=>by
  refine ⟨λm σ' H'=>∃ τ' G',Rel X.K τ' G' σ' H'/\Kp G H G' H'/\W m τ' G',⟨m0,τ,G,rl,Kp.refl,w0⟩,?_⟩;rintro m σ' H' ⟨τ',G',rl',k',w'⟩;refine YU rl' (turn m τ' G' w') λb G1 h1 H1 hr1 k1 rl1=>?_;cases b with
  |true=>
   rw [if_pos rfl] at h1 ⊢;obtain ⟨N,hN,h1⟩:=h1;refine ⟨λσ2 H2=>∃ τ2 G2,Rel X.K τ2 G2 σ2 H2/\Kp G H G2 H2/\N τ2 G2,λσ2 H2 ⟨τ2,G2,r2,k2,n2⟩=>?_,τ',G1,_,rl1,h1,⟨λτ2 G2 h2 σ2 H2 r2 k2=>⟨τ2,G2,r2,(k'.trans k1).trans k2,h2⟩,af.rt.back (k'.trans k1),af.nx.back (k'.trans k1),λτ2 G2 h2 σ2 H2 r2 k2=>⟨τ2,G2,r2,(k'.trans k1).trans k2,h2⟩⟩⟩;obtain ⟨m',hm,w2⟩:=hN τ2 G2 n2;exact ⟨m',hm,τ2,G2,r2,k2,w2⟩
  |false=>
   rw [if_neg Bool.false_ne_true] at h1 ⊢;exact af.nx τ' G1 h1 σ' H1 rl1 (k'.trans k1)
abbrev Sp3:=List T->Gp->Q3->Prop
def lSp (K:Frg) (sp:Sp3):Sp:=λvs H Q _=>∃ ts G q,HR K G H/\Rps K H ts vs/\sp ts G q/\Aft K G H q Q
def Fn3 (P:Program) (w:World) (K:Frg) (mg:Str->Option Value) (base:Heap) (k:Nat) (x:Str) (sp:Sp3):Prop:=
 ∃ f fd ps,FnOk P w K mg base CX0 k f fd ps (lSp K sp)/\zY K fd ps []/\PySem.W.keepIn K (.ref f)=true/\mg x=some (.ref f)
def Fn3.mono {P:Program} {w:World} {K:Frg} {mg:Str->Option Value} {base:Heap} {j k:Nat} {x:Str} {sp:Sp3} (F:Fn3 P w K mg base j x sp) (h:j<=k):Fn3 P w K mg base k x sp:=
 let ⟨f,fd,ps,a,b,c,d⟩:=F;⟨f,fd,ps,a.mono h,b,c,d⟩
def Fn3.imp {P:Program} {w:World} {K:Frg} {mg:Str->Option Value} {base:Heap} {k:Nat} {x:Str} {sp sp':Sp3} (F:Fn3 P w K mg base k x sp) (h:∀ ts G q,sp' ts G q->sp ts G q):Fn3 P w K mg base k x sp':=
 let ⟨f,fd,ps,a,b,c,d⟩:=F;⟨f,fd,ps,a.imp λvs H Q E ⟨ts,G,q,h1,h2,h3,h4⟩=>⟨ts,G,q,h1,h2,h _ _ _ h3,h4⟩,b,c,d⟩
def qbM {k:Nat} {x:Str} {p:Pos} {sp:Sp3} (F:Fn3 X.prog X.w X.K X.mg X.base k x sp) (hr:Room k X.A) (hg:Gl X x) (ha:A3 X (e::es) t) (hdb:(x==("__debug__" : Str))=false:=by decide)
  (he:starEach (e::es) X.env=(false,eval e X.env)::starEach es X.env:=by rfl) (hpl:(backTo pos (starEach es X.env)).any (·.1)=false:=by rfl):E3 X (.Call (.Name x p) (e::es) [] pos) (cb3 sp t):=by
 obtain ⟨f,fd,ps,F,b,kp,m⟩:=F;refine UI (M5 F hr hg m kp b .nil qeA ha hdb he hpl) λσ H Q ⟨τ,G,q,rl,h,af⟩=>QN rl h λxs G1 h1 vs H1 rs hr1 k1 rl1=>?_;rw [List.append_nil];exact ⟨xs,G1,q,hr1,rs,h1,af.back k1⟩
def qk (N:List Str) (ts:List T):St3:=ts.map some++List.replicate (N.length-ts.length) none
def UR {K:Frg} {N:List Str} {G:Gp} {H:Hp} {ts:List T} {vs:List V} (hr:HR K G H) (rs:Rps K H ts vs):Rel K (qk N ts) G (L2.YK N vs) H:=by
 refine ⟨hr,by simp [qk,L2.YK,rs.length],λi t e=>?_⟩;unfold qk at e;by_cases hi:i<ts.length
 ·rw [List.getElem?_append_left (by simpa using hi),getElem?_map] at e;cases q:ts[i]? with
  |none=>rw [q] at e;cases e
  |some z=>
   rw [q] at e;have e':z=t:=by simpa using e
   subst e';obtain ⟨v,hv,r⟩:=rs.get q;refine ⟨v,?_,r⟩;unfold L2.YK;rw [List.getElem?_append_left (by rw [length_map,← rs.length];exact hi),getElem?_map,hv];rfl
 ·rw [List.getElem?_append_right (by simpa using hi),List.getElem?_replicate] at e;split at e<;>cases e
def qbU {P:Program} {w:World} {K:Frg} {mg:Str->Option Value} {base:Heap} {x qual:Str} {st:Stmt} {f:Addr} {fd:FuncData} {N ps:List Str} {k:Nat} {sp:Sp3} {t3:TS3} (F:Fun K x qual st f fd) (S:FnScope N ps (qi st)) (bd:zY K fd ps []) (hm:mg x=some (.ref f))
  (body:∀ (cdv:Value) (A:Around) (outer:List Env) (s:Shared) (H:Hp) (E:XK),Room k (A.deeper (envOfC qual (qi st) s.heap.objs.size f cdv)) ->
   B3 (SR CX0 P w K mg base N qual (qi st) f cdv A outer s H E).nox (zF st) t3)
  (read:∀ ts G q,sp ts G q->ts.length=ps.length/\t3 { nx:=λ_ G'=>q .non G',rt:=q } (qk N ts) G):Fn3 P w K mg base (k+1) x sp:=by
 refine ⟨f,fd,ps,F.ok S (λvs H Q E ⟨ts,G,q,h1,h2,h3,h4⟩=>by rw [← h2.length];exact (read ts G q h3).1) λcdv A outer s H vs Q E hr ⟨ts,G,q,h1,h2,h3,h4⟩=>?_,bd,F.kp,hm⟩;refine ⟨_,body cdv A outer s H E hr,qk N ts,G,_,UR h1 h2,(read ts G q h3).2,⟨λτ' G' h' σ' H' rl' k'=>h4 _ G' h' _ H' .non rl'.hp k',h4,λ_ _ z=>z.elim,λ_ _ z=>z.elim⟩⟩
def qfo (xs:List T):Option Bool:=match xs with
 |[]=>some true
 |.bl k::r=>(match qfo r with|some j=>some (k&&j)|none=>none)
 |_=>none
def qfj (xs:List T):Option Bool:=match xs with
 |[]=>some false
 |.bl k::r=>(match qfj r with|some j=>some (k||j)|none=>none)
 |_=>none
end
def YQ (env:Env):List (Str×NameKind)->List (Str×Addr)->List (Str×Addr)
 |[],cs=>cs
 | (n,k)::r,cs=>if k=.free then YQ env r ((n,(env.cells.lookup n).getD 0)::cs) else YQ env r cs
def Q7 {scope:Scope} {env:Env} (h:∀ y∈scope.names,y.2=.free->∃ c,env.cells.lookup y.1=some c):closureFor scope env=pure (YQ env scope.names []):=by
 have key:∀ (l:List (Str×NameKind)) (cs:List (Str×Addr)),(∀ y∈l,y.2=.free->∃ c,env.cells.lookup y.1=some c) ->
   (forIn l cs λ(x:Str×NameKind) (r:List (Str×Addr))=>if (x.2==NameKind.free)=true then (do let a←cellOf env x.1;pure (ForInStep.yield ((x.1,a)::r))) else pure (ForInStep.yield r))=(pure (YQ env l cs):Sem _):=by
  intro l;induction l with
  |nil=>intro cs _;rfl
  |cons y r ih=>
   intro cs hl;obtain ⟨n,k⟩:=y;rw [List.forIn_cons];by_cases hk:k=.free
   ·subst hk;obtain ⟨c,hc⟩:=hl (n,.free) List.mem_cons_self rfl;have e:cellOf env n=pure c:=by unfold cellOf;rw [show List.lookup n env.cells=some c from hc]
    simp only [beq_self_eq_true,if_true];rw [e,pure_bind,pure_bind];show forIn r ((n,c)::cs) _=_;rw [ih _ λz hz=>hl z (List.mem_cons_of_mem _ hz)];show _=(pure (if NameKind.free=NameKind.free then YQ env r ((n,(env.cells.lookup n).getD 0)::cs) else YQ env r cs):Sem _);rw [if_pos rfl,show List.lookup n env.cells=some c from hc];rfl
   ·have hb:(k==NameKind.free)=false:=by cases k<;>first|rfl|exact absurd rfl hk
    simp only [hb,Bool.false_eq_true,if_false];rw [pure_bind];show forIn r cs _=_;rw [ih _ λz hz=>hl z (List.mem_cons_of_mem _ hz)];show _=(pure (if k=NameKind.free then YQ env r ((n,(env.cells.lookup n).getD 0)::cs) else YQ env r cs):Sem _);rw [if_neg hk]
 have:=key scope.names [] h;unfold closureFor;refine Eq.trans ?_ this;exact bind_pure (m:=Sem) _
def QY {env:Env}:∀ (l:List (Str×NameKind)) (cs:List (Str×Addr)) (x:Str) (c:Addr),(∀ y∈l,y.2=.free->∃ c,env.cells.lookup y.1=some c) ->
  (∀ x c,cs.lookup x=some c->env.cells.lookup x=some c)->(YQ env l cs).lookup x=some c->env.cells.lookup x=some c
 |[],_,_,_,_,h,e=>h _ _ e
 | (n,k)::r,cs,x,c,hl,h,e=>by
  unfold YQ at e;split at e
  ·rename_i hk;refine QY r _ x c (λy hy=>hl y (List.mem_cons_of_mem _ hy)) (λx c e=>?_) e;rw [List.lookup_cons] at e;split at e
   ·rename_i hx;have hx':x=n:=by simpa using hx
    subst hx';obtain ⟨d,hd⟩:=hl (x,k) List.mem_cons_self hk;have hd:List.lookup x env.cells=some d:=hd;rw [hd] at e ⊢;exact e
   ·exact h _ _ e
  ·exact QY r cs x c (λy hy=>hl y (List.mem_cons_of_mem _ hy)) h e
def JM {env:Env}:∀ (l:List (Str×NameKind)) (cs:List (Str×Addr)) (x:Str),((x,NameKind.free)∈l\/∃ c,cs.lookup x=some c)->∃ c,(YQ env l cs).lookup x=some c
 |[],_,_,h=>by
  rcases h with h|h
  ·simp at h
  ·exact h
 | (n,k)::r,cs,x,h=>by
  unfold YQ;have put:∀ d:Addr,(x=n\/∃ c,cs.lookup x=some c)->∃ c,((n,d)::cs).lookup x=some c:=λd z=>by
   rw [List.lookup_cons];cases hx:x==n with
   |true=>exact ⟨d,rfl⟩
   |false=>
    rcases z with z|z
    ·rw [z] at hx;simp at hx
    ·exact z
  split
  ·rename_i hk;refine JM r _ x ?_;rcases h with h|h
   ·rcases mem_cons.mp h with e|e
    ·cases e;exact .inr (put _ (.inl rfl))
    ·exact .inl e
   ·exact .inr (put _ (.inr h))
  ·rename_i hk;refine JM r _ x ?_;rcases h with h|h
   ·rcases mem_cons.mp h with e|e
    ·cases e;exact absurd rfl hk
    ·exact .inl e
   ·exact .inr h
def V9 {env:Env}:∀ (l:List (Str×NameKind)) (cs:List (Str×Addr)) (x:Str) (c:Addr),(YQ env l cs).lookup x=some c->(x,NameKind.free)∈l\/cs.lookup x=some c
 |[],_,_,_,e=>.inr e
 | (n,k)::r,cs,x,c,e=>by
  unfold YQ at e;split at e
  ·rename_i hk;rcases V9 r _ x c e with z|z
   ·exact .inl (List.mem_cons_of_mem _ z)
   ·rw [List.lookup_cons] at z;split at z
    ·rename_i hx;have hx':x=n:=by simpa using hx
     subst hx';subst hk;exact .inl List.mem_cons_self
    ·exact .inr z
  ·rcases V9 r cs x c e with z|z
   ·exact .inl (List.mem_cons_of_mem _ z)
   ·exact .inr z
def ZS {α:Type}:∀ (xs ys:List (Str×α)) (x:Str),(xs++ys).lookup x=(match xs.lookup x with|some c=>some c|none=>ys.lookup x)
 |[],ys,x=>rfl
 | (n,c)::xs,ys,x=>by
  rw [cons_append,List.lookup_cons,List.lookup_cons];cases x==n with
  |true=>rfl
  |false=>exact ZS xs ys x
def zB:∀ (l:List (Str×NameKind)) {n:Nat} {acc:List (Str×Addr)},cellsFrom n l acc=cellsFrom n l []++acc
 |[],_,_=>rfl
 | (x,k)::r,n,acc=>by
  unfold cellsFrom;split
  ·rw [zB r (acc:=(x,n)::acc),zB r (acc:=[(x,n)]),List.append_assoc];rfl
  ·exact zB r
def jP:∀ (l:List (Str×NameKind)) (n:Nat) (acc:List (Str×Addr)) (x:Str) (c:Addr),(x,c)∈cellsFrom n l acc->(x,NameKind.cell)∈l\/(x,c)∈acc
 |[],_,_,_,_,h=>.inr h
 | (y,k)::r,n,acc,x,c,h=>by
  unfold cellsFrom at h;split at h
  ·rename_i hk;have hk:k=.cell:=by simpa using hk
   rcases jP r _ _ x c h with z|z
   ·exact .inl (List.mem_cons_of_mem _ z)
   ·rcases mem_cons.mp z with e|e
    ·cases e;subst hk;exact .inl List.mem_cons_self
    ·exact .inr e
  ·rcases jP r _ _ x c h with z|z
   ·exact .inl (List.mem_cons_of_mem _ z)
   ·exact .inr z
def z7:∀ (l:List (Str×NameKind)) (n:Nat) (acc:List (Str×Addr)) (x:Str),((x,NameKind.cell)∈l\/∃ c,acc.lookup x=some c)->∃ c,(cellsFrom n l acc).lookup x=some c
 |[],_,_,_,h=>by
  rcases h with h|h
  ·simp at h
  ·exact h
 | (y,k)::r,n,acc,x,h=>by
  unfold cellsFrom;have put:(x=y\/∃ c,acc.lookup x=some c)->∃ c,((y,n)::acc).lookup x=some c:=λz=>by
   rw [List.lookup_cons];cases hx:x==y with
   |true=>exact ⟨n,rfl⟩
   |false=>
    rcases z with z|z
    ·rw [z] at hx;simp at hx
    ·exact z
  split
  ·refine z7 r _ _ x ?_;rcases h with h|h
   ·rcases mem_cons.mp h with e|e
    ·cases e;exact .inr (put (.inl rfl))
    ·exact .inl e
   ·exact .inr (put (.inr h))
  ·rename_i hk;refine z7 r _ _ x ?_;rcases h with h|h
   ·rcases mem_cons.mp h with e|e
    ·cases e;exact absurd rfl hk
    ·exact .inl e
   ·exact .inr h
def jS {M:Model} {A:Around} {E:Value->Shared->Prop} {s:Shared} {scope:Scope} {globals:Addr} {cl:List (Str×Addr)} {qual:Str} {env:Env} {Q:Env->Shared->Prop}
  (hQ:∀ h₁:Heap,h₁.Ns s.heap.objs.size (λ_=>none)->(∀ b o,s.heap.get? b=some o->h₁.get? b=some o)->CellsOk h₁ (s.heap.objs.size+1) (cellsFrom (s.heap.objs.size+1) scope.names [])->Q (newEnv scope s.heap.objs.size globals (cellsFrom (s.heap.objs.size+1) scope.names cl) qual none .none (some env) builtinsNs) { s with heap:=h₁ }) :
  wpAny M A (newFunctionEnv scope globals cl [] qual none .none (some env)) Q E s:=by
 simp only [newFunctionEnv,Option.isSome_some,if_true];refine wpAny_bind (wpAny_alloc ?_);refine wpAny_bind (wpAny_layCells _ (λname kind cells=>by cases hkc:kind==NameKind.cell<;>simp [hkc]) _ _ _ _ ?_);have ok:=cellsFrom_ok scope.names (s.heap.push { cls:=.type "dict",data:=.dict #[] }) (s.heap.objs.size+1) [] ⟨λ_ _ hm=>(nomatch hm),List.Pairwise.nil⟩ (by rw [Heap.size_push];exact Nat.le_refl _);rw [Heap.size_push] at ok;rw [show ({ s with heap:=s.heap.push { cls:=.type "dict",data:=.dict #[] } }:Shared).heap.objs.size=s.heap.objs.size+1 from Heap.size_push ..];rw [List.forIn_nil];refine wpAny_bind (wpAny_pure (wpAny_pure ?_));exact hQ _ ((Heap.Ns.new s.heap (.type "dict")).keeps (pushCells_keeps _ _)) (λb o e=>pushCells_keeps _ _ b o (Heap.get?_push_of_some _ e)) ok
def qo (X:Cx) (N':List Str) (scope:Scope) (s:Shared) (H:Hp) (fp:List Addr):Cx where
 prog:=X.prog
 w:=X.w
 K:=X.K
 mg:=X.mg
 base:=X.base
 A:=X.A
 N:=N'
 s₀:=s
 H₀:=H
 env:=compEnvC scope (cellsFrom (s.heap.objs.size+1) scope.names (YQ X.env scope.names [])) s.heap.objs.size X.env
 outer:=X.stack
 stack:=X.stack
 ex:=fp
 fn:=λx=>scope.names.lookup x==some .cell
 calm:=true
 pn:=[]
 xe:=λ_ _=>False
def T3 (outer inner:Scope):Bool:=(inner.kind==.function)&&inner.names.all λy=>
 (y.2 != .cell||inner.names.lookup y.1==some .cell)&&(y.2 != .local||inner.names.lookup y.1==some .local)&&(y.2 != .free||(inner.names.lookup y.1==some .free&&(outer.names.lookup y.1==some .cell||outer.names.lookup y.1==some .free)))
def cap {α:Type} (m:List (Option Nat)) (σ:List (Option α)):List (Option α):=m.map λo=>match o with|some j=>(σ[j]?).join|none=>none
def JK (N N':List Str) (scope:Scope) (m:List (Option Nat)):Bool:=(m.length==N'.length)&&(m.zip N').all λp=>match p.1 with
 |none=>true
 |some j=>N[j]?==some p.2&&scope.names.lookup p.2==some .free
def CM {α:Type} {m:List (Option Nat)} {σ:List (Option α)} {i:Nat} {v:α} (h:(cap m σ)[i]?=some (some v)):∃ j,m[i]?=some (some j)/\σ[j]?=some (some v):=by
 unfold cap at h;rw [getElem?_map] at h;cases e:m[i]? with
 |none=>rw [e] at h;cases h
 |some o=>
  rw [e] at h;cases o with
  |none=>cases h
  |some j=>
   refine ⟨j,rfl,?_⟩;have h':(σ[j]?).join=some v:=by simpa using h
   cases q:σ[j]? with
   |none=>rw [q] at h';cases h'
   |some z=>rw [q] at h';exact congrArg some h'
def CG {N N':List Str} {scope:Scope} {m:List (Option Nat)} (h:JK N N' scope m=true) {i j:Nat} {x:Str} (e:m[i]?=some (some j)) (hx:N'[i]?=some x):N[j]?=some x/\scope.names.lookup x=some .free:=by
 unfold JK at h;rw [Bool.and_eq_true] at h;have hm:(some j,x)∈m.zip N':=mem_of_getElem? (i:=i) (List.getElem?_zip_eq_some.mpr ⟨e,hx⟩);have:=List.all_eq_true.mp h.2 _ hm;simp only [Bool.and_eq_true,beq_iff_eq] at this;exact this
def M6 {N N':List Str} {scope:Scope} {m:List (Option Nat)} {α:Type} (σ:List (Option α)) (h:JK N N' scope m=true):(cap m σ).length=N'.length:=by
 unfold JK at h;rw [Bool.and_eq_true] at h;unfold cap;rw [length_map];simpa using h.1
structure ScFacts (outer inner:Scope):Prop where
 kind:inner.kind=.function
 own:∀ y∈inner.names,y.2=.cell->inner.names.lookup y.1=some .cell
 loc:∀ y∈inner.names,y.2=.local->inner.names.lookup y.1=some .local
 free:∀ y∈inner.names,y.2=.free->inner.names.lookup y.1=some .free/\(outer.names.lookup y.1=some .cell\/outer.names.lookup y.1=some .free)
def Y9 {outer inner:Scope} (h:T3 outer inner=true):ScFacts outer inner:=by
 unfold T3 at h;rw [Bool.and_eq_true] at h;have ha:=List.all_eq_true.mp h.2;refine ⟨by simpa using h.1,λy hy e=>?_,λy hy e=>?_,λy hy e=>?_⟩
 ·have:=ha y hy;rw [e] at this;simpa using this
 ·have:=ha y hy;rw [e] at this;simpa using this
 ·have:=ha y hy;rw [e] at this;simpa using this
def js {scope:Scope} {env:Env} {x:Str} {k:NameKind} (h:(relabel scope env).names.lookup x=some k):scope.names.lookup x=some k\/(k=.cell/\scope.names.lookup x=some .free):=by
 have key:∀ (l:List (Str×NameKind)),(l.map λ(n,k)=>if (k==NameKind.free&&env.scope.kind==.function&&env.kindOf n==some .cell) then (n,NameKind.cell) else (n,k)).lookup x=some k->l.lookup x=some k\/(k=.cell/\l.lookup x=some .free):=by
  intro l;induction l with
  |nil=>intro h;simp at h
  |cons y r ih=>
   intro h;obtain ⟨n,j⟩:=y;rw [map_cons] at h;dsimp only at h;by_cases hc:(j==NameKind.free&&env.scope.kind==.function&&env.kindOf n==some .cell)=true
   ·rw [if_pos hc,List.lookup_cons] at h;rw [List.lookup_cons];cases hx:x==n with
    |true=>
     rw [hx] at h;have hk:NameKind.cell=k:=by simpa using h
     have hj:j=.free:=by simp only [Bool.and_eq_true,beq_iff_eq] at hc;exact hc.1.1
     exact .inr ⟨hk.symm,by rw [hj]⟩
    |false=>rw [hx] at h;exact ih h
   ·rw [if_neg hc,List.lookup_cons] at h;rw [List.lookup_cons];cases hx:x==n with
    |true=>rw [hx] at h;exact .inl h
    |false=>rw [hx] at h;exact ih h
 exact key scope.names h
def PF (X:Cx) (ifs:List Expr) (t:TT):Prop:=
 ∀ (pins:List (Addr×Obj)) (s:Shared) (σ:L2.St) (H:Hp) (Q:Bool->Hp->Prop),Inv X pins σ H s->t σ H Q ->
  wpAny (model X.prog X.w) X.A (forIn ifs true λc r=>if r=true then do let ok←isTrue c X.env (eval c X.env);pure (ForInStep.yield ok) else pure (ForInStep.yield r)) (TP X pins σ Q) X.xe s
def qcF {X:Cx}:PF X [] (λ_ H Q=>Q true H):=λ_ _ _ H _ I h=>wpAny_tests_nil ⟨H,I,h⟩
def qci {X:Cx} {c:Expr} {t:TT} (h:PT X c t):PF X [c] t:=λpins s σ H Q I q=>wpAny_tests_one (h pins s σ H Q I q)
section
variable {X:Cx} {pins:List (Addr×Obj)} {σ:L2.St} {H:Hp} {s:Shared}
def WG {N':List Str} {scope:Scope} {fp:List Addr} {m:List (Option Nat)} {h1:Heap} {mm:Str->Option Value} (hc:X.calm=true) (I:Inv X pins σ H s) (sc:ScFacts X.env.scope scope) (hcap:JK X.N N' scope m=true)
  (hfp:∀ b∈fp,DY X pins H b) (hob:∀ b∈fp,∃ o,s.heap.get? b=some o) (hns:h1.Ns s.heap.objs.size mm) (hk:∀ b o,s.heap.get? b=some o->h1.get? b=some o) (hown:CellsOk h1 (s.heap.objs.size+1) (cellsFrom (s.heap.objs.size+1) scope.names [])) :
  Inv (qo X N' scope s H fp) [] (cap m σ) H { s with heap:=h1 }:=by
 have hcl:∀ y∈scope.names,y.2=.free->∃ c,X.env.cells.lookup y.1=some c:=λy hy e=>by
  rcases (sc.free y hy e).2 with z|z
  ·exact I.ok.has y.1 (.inl z)
  ·exact I.ok.has y.1 (.inr z)
 have cl:∀ x c,(YQ X.env scope.names []).lookup x=some c->X.env.cells.lookup x=some c:=λx c e=>QY scope.names [] x c hcl (λ_ _ z=>by simp at z) e;have clt:∀ x c,(YQ X.env scope.names []).lookup x=some c->c<s.heap.objs.size:=λx c e=>by
  obtain ⟨v,q⟩:=I.cell x c (cl x c e);exact q.lt
 -- a cell of the block: its own,or one from around
 have cs:∀ x c,(cellsFrom (s.heap.objs.size+1) scope.names (YQ X.env scope.names [])).lookup x=some c->((x,c)∈cellsFrom (s.heap.objs.size+1) scope.names []/\s.heap.objs.size+1<=c/\h1.IsCell c none)\/(YQ X.env scope.names []).lookup x=some c:=λx c e=>by
  rw [zB,ZS] at e;cases q:(cellsFrom (s.heap.objs.size+1) scope.names []).lookup x with
  |none=>rw [q] at e;exact .inr e
  |some d=>
   rw [q] at e;cases e;have mem:=PySem.mem_of_lookup q;exact .inl ⟨mem,(hown.empty x _ mem).2,(hown.empty x _ mem).1⟩
 have fpne:∀ b∈fp,b≠s.heap.objs.size:=λb hb=>let ⟨o,e⟩:=hob b hb;Nat.ne_of_lt (Heap.lt_size e)
 refine ⟨⟨I.ok.mod,sc.kind,I.ok.glob,I.ok.blt,Nat.le_refl _,λx y c e1 e2=>?_,λx hx=>?_,λx c hf e=>?_,λ_=>I.ok.hd hc,I.ok.frames,.inl rfl,λb hb=>⟨fpne b hb,λx c e=>?_⟩,I.bs,Nat.le_trans I.ok.bsz I.sz,λb o e hb=>?_,λb hb z=>?_,I.stack,I.stkFree⟩,
  rfl,I.bare,Un.kept hk,⟨mm,hns,λi x v e1 e2 e3=>?_⟩,λx c e=>?_,I.fresh,λx c e=>?_,λp hp=>absurd (show p∈([]:List (Addr×Obj)) from hp) (by simp),I.hok.kept hk,M6 σ hcap⟩
 ·rcases cs x c e1 with ⟨m1,l1,_⟩|z1<;>rcases cs y c e2 with ⟨m2,l2,_⟩|z2
  ·exact PySem.name_of_addr hown.apart m1 m2
  ·exact absurd (clt y c z2) (Nat.not_lt.mpr (Nat.le_trans (Nat.le_succ _) l1))
  ·exact absurd (clt x c z1) (Nat.not_lt.mpr (Nat.le_trans (Nat.le_succ _) l2))
  ·exact I.ok.inj x y c (cl x c z1) (cl y c z2)
 ·have hx:(relabel scope X.env).names.lookup x=some .cell\/(relabel scope X.env).names.lookup x=some .free:=hx;have hf:scope.names.lookup x=some .cell\/scope.names.lookup x=some .free:=by
   rcases hx with z|z
   ·rcases js z with q|⟨_,q⟩
    ·exact .inl q
    ·exact .inr q
   ·rcases js z with q|⟨q,_⟩
    ·exact .inr q
    ·cases q
  show ∃ c,(cellsFrom (s.heap.objs.size+1) scope.names (YQ X.env scope.names [])).lookup x=some c;rcases hf with hf|hf
  ·exact z7 scope.names _ _ x (.inl (PySem.mem_of_lookup hf))
  ·exact z7 scope.names _ _ x (.inr (JM scope.names [] x (.inl (PySem.mem_of_lookup hf))))
 ·have hf:scope.names.lookup x=some .cell:=by simpa [qo] using hf
  rcases cs x c e with ⟨_,l1,_⟩|z1
  ·exact Nat.le_trans (Nat.le_succ _) l1
  ·rcases V9 scope.names [] x c z1 with q|q
   ·rw [(sc.free _ q rfl).1] at hf;cases hf
   ·simp at q
 ·rcases cs x c e with ⟨_,l1,_⟩|z1
  ·obtain ⟨o,eo⟩:=hob b hb;exact Nat.ne_of_gt (Nat.lt_of_lt_of_le (Heap.lt_size eo) (Nat.le_trans (Nat.le_succ _) l1))
  ·exact (hfp b hb).2.2.2.2.1 x c (cl x c z1)
 ·rcases (hfp b hb).2.2.2.1 with z|z
  ·exact I.ok.noex b o e z
  ·exact absurd (Nat.lt_of_lt_of_le (Heap.lt_size e) (Nat.le_trans I.ok.bsz z)) (Nat.lt_irrefl _)
 ·rcases mem_cons.mp (I.stkSub b z) with q|q
  ·exact (hfp b hb).2.1 q
  ·exact (hfp b hb).2.2.1 q
 ·obtain ⟨j,ej,es⟩:=CM e2;obtain ⟨hN,hfr⟩:=CG hcap ej e1;have mem:=PySem.mem_of_lookup hfr;have ho:=(sc.free _ mem rfl).2;obtain ⟨m0,hn0,hl0⟩:=I.loc;obtain ⟨u,ru,lk⟩:=hl0 j x v hN es (ho.elim (λz=>.inr (.inl z)) λz=>.inr (.inr z));refine ⟨u,ru,.inr ⟨?_,?_⟩⟩
  ·rcases e3 with z|z|z
   ·rcases js z with q|⟨q,_⟩
    ·rw [hfr] at q;cases q
    ·cases q
   ·exact .inl z
   ·exact .inr z
  ·rcases lk with ⟨z,_⟩|⟨_,c,hc',hcell⟩
   ·have z:X.env.scope.names.lookup x=some .local:=z;rcases ho with q|q<;>(rw [z] at q;cases q)
   ·obtain ⟨c',hc2⟩:=JM (env:=X.env) scope.names [] x (.inl mem);have e:=cl x c' hc2;rw [hc'] at e;cases e;obtain ⟨o,eo,d⟩:=hcell;refine ⟨c,?_,o,hk c o eo,d⟩;show (cellsFrom (s.heap.objs.size+1) scope.names (YQ X.env scope.names [])).lookup x=some c;rw [zB,ZS];cases q:(cellsFrom (s.heap.objs.size+1) scope.names []).lookup x with
    |none=>exact hc2
    |some d=>
     rcases jP scope.names _ [] x d (PySem.mem_of_lookup q) with z|z
     ·rw [sc.own _ z rfl] at hfr;cases hfr
     ·simp at z
 ·rcases cs x c e with ⟨_,_,z⟩|z1
  ·exact ⟨none,z⟩
  ·obtain ⟨v,o,eo,d⟩:=I.cell x c (cl x c z1);exact ⟨v,o,hk c o eo,d⟩
 ·rcases cs x c e with ⟨_,l1,_⟩|z1
  ·exact I.hok.fresh (Nat.le_trans (Nat.le_succ _) l1)
  ·exact I.freeC x c (cl x c z1)
def Y0 {N':List Str} {scope:Scope} {fp:List Addr} {pins':List (Addr×Obj)} {σ':L2.St} {H':Hp} {s':Shared} {h2:Heap} (I:Inv X pins σ H s) (hfp:∀ b∈fp,DY X pins H b) (J:Inv (qo X N' scope s H fp) pins' σ' H' s')
  (sb:Heap.SameBut s.heap.objs.size s'.heap h2):Inv X pins σ H' { s' with heap:=h2 }:=by
 have ne:∀ b o,s.heap.get? b=some o->b≠s.heap.objs.size:=λb o e=>Nat.ne_of_lt (Heap.lt_size e);have g:∀ b,b≠s.heap.objs.size->h2.get? b=s'.heap.get? b:=λb hb=>sb.2 b hb;have hn:H' s.heap.objs.size=none:=J.free;have u:Un (frs X.stack) fp H H' s.heap s'.heap:=J.base;refine I.call' (s':={ s' with heap:=h2 }) J.os ⟨λb o e n hb hx=>?_,λb o e n hb hx=>?_,u.free,λb o e hx=>?_,u.tups,u.frzs,u.tbls⟩ (λa o e=>?_) J.bare λb hb=>⟨(hfp b hb).2.2.2.1,(hfp b hb).2.1,(hfp b hb).2.2.2.2.1,(hfp b hb).2.2.2.2.2⟩
 ·show h2.get? b=_;rw [g b (ne b o e)];exact u.keep b o e n hb hx
 ·show ∃ sl,h2.get? b=_;rw [g b (ne b o e)];exact u.slot b o e n hb hx
 ·show ∃ o',h2.get? b=_;rw [g b (ne b o e)];exact u.there b o e hx
 ·refine (J.hok a o e).stay (λb v hb q=>?_) (λ_ q=>q) λ_ _ q=>q;have hb':b≠s.heap.objs.size:=by
   intro z;subst z;rcases hb with z|z
   ·rw [← z] at e;rw [hn] at e;cases e
   ·rw [hn] at z;cases z
  rw [g b hb'];exact q
end
def tLC (wi:TI) (g:TG) (tif:TT) (te:TE) (m:List (Option Nat)):TE:=λσ H Q=>wi σ H λJ H1=>∀ D,H1 D=none ->
 ∃ W:Nat->Nat->L2.St->Hp->Prop,(∃ n,W 0 n (cap m σ) (upd H1 D (.lst [])))/\∀ i n σ H,W i n σ H ->
  (J.stop i H/\Q (.ref D) H)\/(J.go i H/\∀ x H',J.yld i H x H'->g x σ H' λσ2 H2=>tif σ2 H2 λk H3=>
   if k=true then te σ2 H3 λy H4=>∃ zs,H4 D=some (.lst zs)/\zs.length<sizeLine/\∃ n',n'<n/\W (i+1) n' σ2 (upd H4 D (.lst (zs++[y])))
   else ∃ n',n'<n/\W (i+1) n' σ2 H3)
section
variable {X:Cx}
def qd6 {elt tg iter:Expr} {ifs:List Expr} {scope:Scope} {pos:Pos} {N':List Str} {m:List (Option Nat)} {wi:TI} {g:TG} {tif:TT} {te:TE} (hc:X.calm=true) (hi:PI X tg iter wi)
  (hg:∀ s H fp,PG (qo X N' scope s H fp) tg g) (hf:∀ s H fp,PF (qo X N' scope s H fp) ifs tif) (he:∀ s H fp,PE (qo X N' scope s H fp) elt te)
  (hsc:T3 X.env.scope scope=true) (hcap:JK X.N N' scope m=true) (hs:∀ x,foldedSetIterable iter X.env x=pure x:=by intro _;rfl) :
  PE X (.ListComp elt [⟨tg,iter,ifs,0⟩] scope pos) (tLC wi g tif te m):=by
 intro pins s σ H Q I h;have sc:=Y9 hsc;have hcl:∀ y∈scope.names,y.2=.free->∃ c,X.env.cells.lookup y.1=some c:=λy hy e=>by
  rcases (sc.free y hy e).2 with z|z
  ·exact I.ok.has y.1 (.inl z)
  ·exact I.ok.has y.1 (.inr z)
 rw [eval_ListComp];refine wpAny_comprehension_free (use:=none) (g:=⟨tg,iter,ifs,0⟩) (gs:=[]) rfl hs (Q7 hcl) sc.kind sc.loc ?_;show wpAny _ _ (eval iter X.env) _ _ s;refine thn (hi pins s σ H _ I h) λv s1 h1=>thn h1 λitv s2 h2=>?_;obtain ⟨it,fp,tn,J,H2,rfl,I2,T,st2,f2,hW⟩:=h2;refine wpAny_newObj_type ?_;have hD:H2 s2.heap.objs.size=none:=I2.fresh;obtain ⟨W,⟨n0,w0⟩,turn⟩:=hW _ hD;generalize hDe:s2.heap.objs.size=D at *;have I3:Inv X pins σ (upd H2 D (.lst [])) { s2 with heap:=s2.heap.push { cls:=.type "list",dict:=none,data:=.seq ([]:List Value).toArray } }:=by
  subst hDe;exact I2.laid (t':=s2.toks) (λb u e=>Heap.get?_push_of_some _ e) (Nat.le_refl _) ⟨Nat.zero_le _,[],0,.nil,Heap.get?_push_size _ rfl⟩
 have ob2:=T.obj 0 _ st2;have ob3:∀ b∈fp,∃ o,(s2.heap.push { cls:=.type "list",dict:=none,data:=.seq ([]:List Value).toArray }).get? b=some o:=λb hb=>let ⟨o,e,_⟩:=ob2 b hb;⟨o,Heap.get?_push_of_some _ e⟩
 have f3:∀ b∈fp,DY X pins (upd H2 D (.lst [])) b:=λb hb=>by
  obtain ⟨o,e,_⟩:=ob2 b hb;have:b≠D:=by rw [← hDe];exact Nat.ne_of_lt (Heap.lt_size e)
  exact ⟨by rw [qB this];exact (f2 b hb).1,(f2 b hb).2⟩
 have k23:∀ b o,s2.heap.get? b=some o->(s2.heap.push { cls:=.type "list",dict:=none,data:=.seq ([]:List Value).toArray }).get? b=some o:=λb o e=>Heap.get?_push_of_some _ e;generalize hH3:upd H2 D (.lst [])=H3 at *;generalize hs3:({ s2 with heap:=s2.heap.push { cls:=.type "list",dict:=none,data:=.seq ([]:List Value).toArray } }:Shared)=s3 at *;have ob3:∀ b∈fp,∃ o,s3.heap.get? b=some o:=by rw [← hs3];exact ob3
 have k23:∀ b o,s2.heap.get? b=some o->s3.heap.get? b=some o:=by rw [← hs3];exact k23
 refine jS λh₁ hns hk hown=>?_;have I4:Inv (qo X N' scope s3 H3 fp) [] (cap m σ) H3 { s3 with heap:=h₁ }:=WG hc I3 sc hcap f3 ob3 hns hk hown;have tn4:tn 0 h₁:=T.keep _ _ _ st2 λb hb o e=>hk b o (k23 b o e);have fr4:∀ b∈fp,H3 b=none:=λb hb=>(f3 b hb).1;have stat:∀ {H':Hp},(∀ b∈fp,H' b=none)->∀ b∈fp,DY (qo X N' scope s3 H3 fp) [] H' b:=λhn b hb=>by
  refine ⟨hn b hb,I4.ok.exf b hb |>.1,I4.ok.exfs b hb,.inl hb,λx c e=>(I4.ok.exf b hb).2 x c e,λp hp=>absurd (show p∈([]:List (Addr×Obj)) from hp) (by simp)⟩
 show codeAny (model X.prog X.w) X.A (.compStart (.ListComp elt [⟨tg,iter,ifs,0⟩] scope pos) 0 (.ref it) (.ref D) (qo X N' scope s3 H3 fp).env) (compPost (model X.prog X.w) X.A X.xe none (EP X pins σ Q) (.ref D) s3.heap.objs.size) { s3 with heap:=h₁ };have loop:codeAny (model X.prog X.w) X.A (.compLoop (.ListComp elt [⟨tg,iter,ifs,0⟩] scope pos) 0 (.ref it) (.ref D) (qo X N' scope s3 H3 fp).env) (compPost (model X.prog X.w) X.A X.xe none (EP X pins σ Q) (.ref D) s3.heap.objs.size) { s3 with heap:=h₁ }:=by
  refine codeAny_loop rfl (λn s'=>∃ i σ' H',Inv (qo X N' scope s3 H3 fp) [] σ' H' s'/\tn i s'.heap/\(∀ b∈fp,H' b=none)/\W i n σ' H') (λn s' hI=>?_) n0 ⟨0,cap m σ,H3,I4,tn4,fr4,w0⟩;show wpAny _ X.A ((compTurn (.ListComp elt [⟨tg,iter,ifs,0⟩] scope pos) 0 (.ref it) (.ref D) (qo X N' scope s3 H3 fp).env).onRaise (λx=>do noteFrame x (qo X N' scope s3 H3 fp).env;theTreesLotGoes x)) _ _ s';refine wpAny_noted ?_;rw [compTurn_list];refine wpAny_bind (wpAny_standAt (wpAny_bind ?_));obtain ⟨i,σ5,H5,I5,st5,fr5,w5⟩:=hI;rcases turn i n σ5 H5 w5 with ⟨stop,q⟩|⟨go,step⟩
  ·refine thn (T.done (qo X N' scope s3 H3 fp) rfl rfl rfl rfl i [] s' σ5 H5 _ I5 (stat fr5) st5 stop) λr s6 ⟨hr,I6⟩=>?_;subst hr;refine wpAny_pure ?_;obtain ⟨mm,hn6,_⟩:=I6.loc;exact ⟨mm,hn6,λh' sb=>⟨.ref D,H5,Y0 I3 f3 I6 sb,rfl,q⟩⟩
  ·refine thn (T.item (qo X N' scope s3 H3 fp) rfl rfl rfl rfl i [] s' σ5 H5 _ I5 (stat fr5) st5 go) λr s6 ⟨u,hr,h6⟩=>?_;subst hr;refine wpAny_bind (thn h6 λ_ s7 ⟨x,H7,I7,r7,y7,st7,fr7⟩=>?_);have I7':=I7.pinned (stat fr7) (T.obj _ _ st7);have again:∀ {σ8:L2.St} {H8:Hp} {s8:Shared},Inv (qo X N' scope s3 H3 fp) ([]++VE fp s7.heap) σ8 H8 s8->(∃ n',n'<n/\W (i+1) n' σ8 H8) ->
     ∃ m',m'<n/\∃ i σ' H',Inv (qo X N' scope s3 H3 fp) [] σ' H' s8/\tn i s8.heap/\(∀ b∈fp,H' b=none)/\W i m' σ' H':=λ{σ8 H8 s8} I8 ⟨n',hn,w8⟩=>by
    refine ⟨n',hn,i+1,σ8,H8,I8.unpinned,T.keep _ _ _ st7 λb hb o e=>(I8.pin (b,o) (mem_append_right _ (mem_append_right _ (ja hb e)))).1,λb hb=>?_,w8⟩;obtain ⟨o,e,d⟩:=T.obj _ _ st7 b hb;exact (I8.pin (b,o) (mem_append_right _ (mem_append_right _ (ja hb e)))).2.1
   refine wpAny_bind (wpAny_mono (hg s3 H3 fp _ s7 σ5 H7 x u _ I7' r7 (step x H7 y7)) (λ_ s8 ⟨σ8,H8,I8,q8⟩=>?_) λ_ _ z=>z.elim);refine wpAny_bind (wpAny_mono (hf s3 H3 fp _ s8 σ8 H8 _ I8 q8) (λk s9 ⟨H9,I9,q9⟩=>?_) λ_ _ z=>z.elim);cases k with
   |false=>
    rw [if_neg Bool.false_ne_true] at q9;exact wpAny_pure ⟨rfl,again I9 q9⟩
   |true=>
    rw [if_pos rfl] at q9;refine wpAny_bind (wpAny_bind (wpAny_mono (he s3 H3 fp _ s9 σ8 H9 _ I9 q9) (λw s10 ⟨y,H10,I10,r10,q10⟩=>?_) λ_ _ z=>z.elim));obtain ⟨zs,hz,hl,q10⟩:=q10;refine wpAny_bind (wpAny_mono (JR (X:=qo X N' scope s3 H3 fp) _ s10 σ8 H10 (.ref D) [y] (.ref D) [w] (λ_ H11=>H11=upd H10 D (.lst (zs++[y]))) I10 rfl (.cons r10 .nil) ⟨D,zs,y,rfl,rfl,hz,hl,rfl⟩) (λ_ s11 ⟨_,H11,I11,_,e11⟩=>?_) λ_ _ z=>z.elim);subst e11;exact wpAny_pure (wpAny_pure ⟨rfl,again I11 q10⟩)
 exact codeAny_compStart_list loop (T.self X.A 0 _ _ _ tn4 loop)
end
section
variable {K:Frg} {G G':Gp} {H H':Hp}
def NX {D:Addr} {o:HO} {ws:List V} (hD:H D=some (.lst ws)) {a:Addr} {vs:List V} (h:SqT K H a vs):SqT K (upd H D o) a vs:=by
 rcases h with h|h
 ·refine .inl ?_;rcases h with h|⟨ob,h⟩
  ·have:a≠D:=by intro e;subst e;rw [hD] at h;cases h
   exact .inl (by rw [qB this];exact h)
  ·have:a≠D:=by intro e;subst e;rw [hD] at h;cases h
   exact .inr ⟨ob,by rw [qB this];exact h⟩
 ·exact .inr h
mutual
def Rp.wrD {D:Addr} {o:HO} {ws:List V} (hD:H D=some (.lst ws)):∀ {x:T} {v:V},Rp K H x v->Rp K (upd H D o) x v
 |_,_,.non=>.non
 |_,_,.bl b=>.bl b
 |_,_,.int i=>.int i
 |_,_,.str x=>.str x
 |_,_,.ref a=>.ref a
 |_,_,.tup h hs=>.tup (NX hD h) (Rps.wrD hD hs)
def Rps.wrD {D:Addr} {o:HO} {ws:List V} (hD:H D=some (.lst ws)):∀ {x:List T} {v:List V},Rps K H x v->Rps K (upd H D o) x v
 |_,_,.nil=>.nil
 |_,_,.cons a b=>.cons (Rp.wrD hD a) (Rps.wrD hD b)
end
def HR.wrD {D:Addr} {o:HO} {ws:List V} (hr:HR K G H) (hD:H D=some (.lst ws)) (g:G D=none):HR K G (upd H D o):=λa ob e=>by
 have ha:a≠D:=by intro z;subst z;rw [g] at e;cases e
 have q:=hr a ob e;cases ob with
 |lst xs=>obtain ⟨vs,h1,h2⟩:=q;exact ⟨vs,by rw [qB ha];exact h1,h2.wrD hD⟩
 |frz xs=>obtain ⟨vs,⟨o1,h1⟩,h2⟩:=q;exact ⟨vs,⟨o1,by rw [qB ha];exact h1⟩,h2.wrD hD⟩
 |dct kvs=>obtain ⟨vs,h1,h2⟩:=q;exact ⟨vs,by rw [qB ha];exact h1,h2.wrD hD⟩
 |exn C=>have h1:H a=some (.ext (IsX a C)):=q;exact (show _=_ by rw [qB ha];exact h1)
 |tab ks xs=>obtain ⟨vs,h1,h2⟩:=q;exact ⟨vs,by rw [qB ha];exact h1,h2.wrD hD⟩
def Rel.wrD {D:Addr} {o:HO} {ws:List V} {τ:St3} {σ:L2.St} (r:Rel K τ G σ H) (hD:H D=some (.lst ws)) (g:G D=none):Rel K τ G σ (upd H D o):=
 ⟨r.hp.wrD hD g,r.len,λi t e=>let ⟨v,h1,h2⟩:=r.st i t e;⟨v,h1,h2.wrD hD⟩⟩
def Kp.wrD {D:Addr} {o:HO} (k:Kp G H G' H') (hD:H D=none):Kp G H G' (upd H' D o):=λa ob h g=>by
 obtain ⟨h1,h2⟩:=k a ob h g;exact ⟨by rw [qB (qt h hD)];exact h1,h2⟩
def KH {α:Type} {m:List (Option Nat)} {σ:List (Option α)} {i j:Nat} (h:m[i]?=some (some j)):(cap m σ)[i]?=some ((σ[j]?).join):=by
 unfold cap;rw [getElem?_map,h];rfl
def Rel.cap {τ:St3} {σ:L2.St} (r:Rel K τ G σ H) (m:List (Option Nat)):Rel K (cap m τ) G (L3.cap m σ) H:=by
 refine ⟨r.hp,by simp [L3.cap],λi t e=>?_⟩;obtain ⟨j,e1,e2⟩:=CM e;obtain ⟨v,h1,h2⟩:=r.st j t e2;exact ⟨v,by rw [KH e1,h1];rfl,h2⟩
end
def YW (stay:Gp->Prop) (g:TG3) (tif:TT3) (te:TE3) (q:Q3):List T->List T->St3->Gp->Prop
 |[],ys,_,G=>stay G/\∀ p,G p=none->q (.ref p) (gu G p (.lst ys))
 |x::r,ys,τ,G=>stay G/\g x τ G λτ2 G2=>tif τ2 G2 λk G3=>if k=true then te τ2 G3 λy G4=>ys.length<sizeLine/\YW stay g tif te q r (ys++[y]) τ2 G4 else YW stay g tif te q r ys τ2 G3
def lc3 (wi:TI3) (g:TG3) (tif:TT3) (te:TE3) (m:List (Option Nat)):TE3:=λτ G q=>wi τ G λitems stay G1=>YW stay g tif te q items [] (cap m τ) G1
abbrev F3 (X:Cx) (ifs:List Expr) (t:TT3):Prop:=PF X ifs (lT X.K t)
def tt3:TT3:=λ_ G q=>q true G
def qeT {X:Cx}:F3 X [] tt3:=λpins s σ H Q I ⟨τ,G,q,rl,h,af⟩=>qcF pins s σ H Q I (af true G h H rl.hp Kp.refl)
def qe6 {X:Cx} {c:Expr} {t:TT3} (h:C3 X c t):F3 X [c] t:=qci h
section
variable {X:Cx}
def qga {elt tg iter:Expr} {ifs:List Expr} {scope:Scope} {pos:Pos} (N':List Str) (m:List (Option Nat)) {wi:TI3} {g:TG3} {tif:TT3} {te:TE3} (hc:X.calm=true) (hi:I3 X tg iter wi)
  (hg:∀ s H fp,G3 (qo X N' scope s H fp) tg g) (hf:∀ s H fp,F3 (qo X N' scope s H fp) ifs tif) (he:∀ s H fp,E3 (qo X N' scope s H fp) elt te)
  (hsc:T3 X.env.scope scope=true) (hcap:JK X.N N' scope m=true) (hs:∀ x,foldedSetIterable iter X.env x=pure x:=by intro _;rfl) :
  E3 X (.ListComp elt [⟨tg,iter,ifs,0⟩] scope pos) (lc3 wi g tif te m):=
 UI (qd6 (g:=lG X.K g) (tif:=lT X.K tif) (te:=lE X.K te) hc hi hg hf he hsc hcap hs) λσ H Q ⟨τ,G,q,rl,h,af⟩=>by
  refine ⟨τ,G,_,rl,h,λitems stay G1 h1 J H1 hr1 k1 ok D hD=>?_⟩;have gD:G1 D=none:=hr1.free hD;refine ⟨λi n σ' H'=>n=items.length-i/\i<=items.length/\∃ τ' G' ys vs,Rel X.K τ' G' σ' H'/\Kp G1 H1 G' H'/\H' D=some (.lst vs)/\Rps X.K H' ys vs/\G' D=none/\YW stay g tif te q (items.drop i) ys τ' G',
   ⟨_,rfl,Nat.zero_le _,cap m τ,G1,[],[],((rl.next hr1 k1).cap m).next (hr1.laid hD) (Kp.laid hD),Kp.laid hD,qY,.nil,gD,by simpa using h1⟩,?_⟩
  rintro i n σ' H' ⟨rfl,hi,τ',G',ys,vs,rl',k',hDl,rys,gD',h'⟩;by_cases hlt:i<items.length
  ·rw [List.drop_eq_getElem_cons hlt] at h';obtain ⟨hst,h'⟩:=h';obtain ⟨go,yld,_⟩:=ok G' H' rl'.hp k' hst;have hx:items[i]?=some items[i]:=getElem?_eq_getElem hlt;refine .inr ⟨go i _ hx,λv H2 y=>?_⟩;obtain ⟨rv,hr2,k2⟩:=yld i _ v H2 hx y;have nxt:∀ {τ4:St3} {G4:Gp} {σ4:L2.St} {H4:Hp} {ys4:List T} {vs4:List V},Rel X.K τ4 G4 σ4 H4->Kp G1 H1 G4 H4->H4 D=some (.lst vs4)->Rps X.K H4 ys4 vs4->G4 D=none->YW stay g tif te q (items.drop (i+1)) ys4 τ4 G4 ->
     ∃ n',n'<items.length-i/\(n'=items.length-(i+1)/\i+1<=items.length/\∃ τ' G' ys vs,Rel X.K τ' G' σ4 H4/\Kp G1 H1 G' H4/\H4 D=some (.lst vs)/\Rps X.K H4 ys vs/\G' D=none/\YW stay g tif te q (items.drop (i+1)) ys τ' G'):=
    λ{τ4 G4 σ4 H4 ys4 vs4} a b c d e f=>⟨_,by omega,rfl,hlt,τ4,G4,ys4,vs4,a,b,c,d,e,f⟩
   refine ⟨_,τ',G',_,rv,rl'.next hr2 k2,h',λτ3 G3 h3 σ3 H3 rl3 k3=>⟨τ3,G3,_,rl3,h3,λk G4 h4 H4 hr4 k4=>?_⟩⟩;have kk:=(k2.trans k3).trans k4;obtain ⟨hD4,gD4⟩:=kk D _ hDl gD';have rys4:=rys.keep rl'.hp kk;cases k with
   |false=>
    rw [if_neg Bool.false_ne_true] at h4;refine qfi ?_;exact nxt (rl3.next hr4 k4) (k'.trans kk) hD4 rys4 gD4 h4
   |true=>
    rw [if_pos rfl] at h4;refine qfc ?_;refine ⟨τ3,G4,_,rl3.next hr4 k4,h4,λz G5 h5 w H5 rw5 hr5 k5=>?_⟩;obtain ⟨hD5,gD5⟩:=k5 D _ hD4 gD4;have rys5:=rys4.keep hr4 k5;exact ⟨vs,hD5,by rw [← rys.length];exact h5.1,nxt (((rl3.next hr4 k4).next hr5 k5).wrD hD5 gD5) (((k'.trans kk).trans k5).wrD hD) qY ((rys5.append (.cons rw5 .nil)).wrD hD5) gD5 h5.2⟩
  ·have e:i=items.length:=by omega
   subst e;rw [List.drop_length] at h';obtain ⟨_,_,stop⟩:=ok G' H' rl'.hp k' h'.1;refine .inl ⟨stop,af _ _ (h'.2 D gD') _ H' (.ref D) (λa o e=>?_) λa o e ga=>?_⟩
   ·by_cases ha:a=D
    ·subst ha;rw [qr] at e;cases e;exact ⟨vs,hDl,rys⟩
    ·rw [zz ha] at e;exact rl'.hp a o e
   ·obtain ⟨e1,g1⟩:=k1 a o e ga;obtain ⟨e2,g2⟩:=k' a o e1 g1;exact ⟨e2,by rw [zz (qt e1 hD)];exact g2⟩
end
structure Src (P:Program) (w:World) (it c:Addr) (St:Nat->Heap->Prop) (Has:Array Value->Heap->Prop):Prop where
 obj:∀ {k h},St k h->∃ o,h.get? it=some o/\∀ v,o.data≠.cell v
 keep:∀ {k h h'},St k h->(∀ o,h.get? it=some o->h'.get? it=some o)->St k h'
 hkeep:∀ {xs h h'},Has xs h->(∀ o,h.get? c=some o->h'.get? c=some o)->Has xs h'
 item:∀ {A:Around} {s:Shared} {k:Nat} {xs:Array Value} {x:Value} {Q:Value->Shared->Prop} {E:Value->Shared->Prop},St k s.heap->Has xs s.heap->xs[k]?=some x ->
  (∀ h',St (k+1) h'->Heap.SameBut it s.heap h'->Q x { s with heap:=h' })->wpAny (model P w) A (Builtin.SmallTypes.nextOf (.ref it)) Q E s
 done:∀ {A:Around} {s:Shared} {k:Nat} {xs:Array Value} {Q:Value->Shared->Prop} {E:Value->Shared->Prop},A.handled=none->St k s.heap->Has xs s.heap->xs[k]?=none ->
  (∀ h' e,Heap.ExtBut it s.heap h'->(∃ o,h'.get? e=some o/\o.cls=.type "StopIteration")->E (.ref e) { s with heap:=h' })->wpAny (model P w) A (Builtin.SmallTypes.nextOf (.ref it)) Q E s
def KB {P:Program} {w:World} (it l:Addr):Src P w it l (λk h=>h.IsListIter it l k) (λxs h=>h.IsList l xs) where
 obj:=λst=>let ⟨o,e,_,d⟩:=st;⟨o,e,λv z=>by rw [d] at z;cases z⟩
 keep:=λst k=>st.at λo e=>k o e
 hkeep:=λst k=>st.at λo e=>k o e
 item:=λst hl hx hQ=>wpAny_nextOf_list_item st hl hx hQ
 done:=λhh st hl hx hE=>wpAny_nextOf_list_end hh st hl hx hE
def W9 {P:Program} {w:World} {A:Around} {s:Shared} {it t:Addr} {i:Nat} {its:Array Value} {x:Value} {Q:Value->Shared->Prop} {E:Value->Shared->Prop} (hit:s.heap.IsTupleIter it t i) (ht:s.heap.IsTuple t its) (hx:its[i]?=some x)
  (hQ:∀ h',h'.IsTupleIter it t (i+1)->Heap.SameBut it s.heap h'->Q x { s with heap:=h' }):wpAny (model P w) A (Builtin.SmallTypes.nextOf (.ref it)) Q E s:=by
 obtain ⟨o1,e1,c1,d1⟩:=id hit;obtain ⟨o2,e2,_,n2,d2⟩:=ht;unfold Builtin.SmallTypes.nextOf;refine wpAny_bind (wpAny_callSpecial?_slot (name:=Str.ofString "__next__") hit.typeIs F.slot_tuple_iterator_next (wpAny_call_entry F.slot_tuple_iterator_next hit.typeIs F.entry_tuple_iterator_next ?_ (F.args_tuple_iterator_next_1 _)));refine wpAny_bind (m:=field (.ref it) 0) (wpAny_field e1 d1 (x:=.ref t) rfl ?_);rw [if_neg (show ¬ ((Value.ref t==Value.none)=true) by exact Bool.false_ne_true)];refine wpAny_bind (m:=field (.ref it) 1) (wpAny_field e1 d1 (x:=.int i 0) rfl ?_);refine wpAny_bind (m:=seqItems? (.ref t)) (wpAny_seqItems e2 d2 ?_);simp only [Int.toNat_natCast,hx];refine wpAny_bind (wpAny_setField e1 d1 (by simp) (wpAny_pure ⟨x,rfl,wpAny_pure (hQ _ ⟨_,Heap.get?_update_self _ e1 (Obj.isFreed_of_fields (Obj.data_mapFields d1 _)),(Obj.cls_mapFields ..).trans c1,?_⟩ (Heap.SameBut.update ..))⟩));rw [Obj.data_mapFields d1];simp [rawInt]
def YR {P:Program} {w:World} {A:Around} {s:Shared} {it t:Addr} {i:Nat} {its:Array Value} {Q:Value->Shared->Prop} {E:Value->Shared->Prop} (hh:A.handled=none) (hit:s.heap.IsTupleIter it t i) (ht:s.heap.IsTuple t its) (hx:its[i]?=none)
  (hE:∀ h' e,Heap.ExtBut it s.heap h'->(∃ o,h'.get? e=some o/\o.cls=.type "StopIteration")->E (.ref e) { s with heap:=h' }):wpAny (model P w) A (Builtin.SmallTypes.nextOf (.ref it)) Q E s:=by
 obtain ⟨o1,e1,c1,d1⟩:=id hit;obtain ⟨o2,e2,_,n2,d2⟩:=ht;unfold Builtin.SmallTypes.nextOf;refine wpAny_bind (wpAny_callSpecial?_slot (name:=Str.ofString "__next__") hit.typeIs F.slot_tuple_iterator_next (wpAny_call_entry F.slot_tuple_iterator_next hit.typeIs F.entry_tuple_iterator_next ?_ (F.args_tuple_iterator_next_1 _)));refine wpAny_bind (m:=field (.ref it) 0) (wpAny_field e1 d1 (x:=.ref t) rfl ?_);rw [if_neg (show ¬ ((Value.ref t==Value.none)=true) by exact Bool.false_ne_true)];refine wpAny_bind (m:=field (.ref it) 1) (wpAny_field e1 d1 (x:=.int i 0) rfl ?_);refine wpAny_bind (m:=seqItems? (.ref t)) (wpAny_seqItems e2 d2 ?_);simp only [Int.toNat_natCast,hx];refine wpAny_bind (wpAny_rule (wpAny_bind (wpAny_setField e1 d1 (by simp) ?_)));refine wpAny_bind (m:=newExc (.type "StopIteration") []) ?_;simp only [newExc,newTuple];refine wpAny_bind (wpAny_newObj_type ?_ (by size_fits));refine wpAny_bind (m:=firstArgMember _ _) (wpAny_of_eq (a:=Value.none) (by first|rfl|(simp only [firstArgMember]<;>rfl)) (wpAny_newObj_type ?_ (by size_fits)));simp only [raiseNew];refine wpAny_bind (wpAny_handled ?_)
 first|rw [show A.in1.handled=Option.none from hh]|rw [show A.handled=Option.none from hh]
 exact wpAny_bind (wpAny_pure (wpAny_throw (hE _ _ (((Heap.SameBut.update ..).extBut.push _).push _) ⟨_,Heap.get?_push_size _ rfl,rfl⟩)))
def qaC {P:Program} {w:World} (it t:Addr):Src P w it t (λk h=>h.IsTupleIter it t k) (λxs h=>h.IsTuple t xs) where
 obj:=λst=>let ⟨o,e,_,d⟩:=st;⟨o,e,λv z=>by rw [d] at z;cases z⟩
 keep:=λst k=>st.at λo e=>k o e
 hkeep:=λst k=>st.at λo e=>k o e
 item:=λst hl hx hQ=>W9 st hl hx hQ
 done:=λhh st hl hx hE=>YR hh st hl hx hE
section
variable {P:Program} {w:World} {A:Around} {s:Shared} {z ti to i1 i2 c1 c2:Addr} {S1 S2:Nat->Heap->Prop} {H1 H2:Array Value->Heap->Prop} {k1 k2:Nat} {xs ys:Array Value} {x y a b:Value} {E:Value->Shared->Prop}
end
abbrev qdS (b:Bool):String:=if b then "list_iterator" else "tuple_iterator"
abbrev DG (b:Bool) (c:Addr):Obj:={ cls:=.type (qdS b),data:=.fields #[.ref c,.int 0 0] }
def qbX (b:Bool) (it c:Addr) (k:Nat) (h:Heap):Prop:=match b with|true=>h.IsListIter it c k|false=>h.IsTupleIter it c k
def LB (b:Bool) (c:Addr) (xs:Array Value) (h:Heap):Prop:=match b with|true=>h.IsList c xs|false=>h.IsTuple c xs
def jZ {P:Program} {w:World} (b:Bool) (it c:Addr):Src P w it c (qbX b it c) (LB b c):=by
 cases b
 ·exact qaC it c
 ·exact KB it c
def NP {P:Program} {w:World} {A:Around} {s:Shared} {b:Bool} {c:Addr} {xs:Array Value} {Q:Value->Shared->Prop} {E:Value->Shared->Prop} (h:LB b c xs s.heap) (q:Q (.ref s.heap.objs.size) { s with heap:=s.heap.push (DG b c) }) :
  wpAny (model P w) A (pyIter (.ref c)) Q E s:=by
 cases b
 ·exact wpAny_pyIter_tuple (show s.heap.IsTuple c xs from h) q
 ·exact wpAny_pyIter_list (show s.heap.IsList c xs from h) q
section
variable {P:Program} {w:World} {A:Around} {s:Shared} {E:Value->Shared->Prop}
end
def SqB (K:Frg) (b:Bool) (H:Hp) (a:Addr) (xs:List V):Prop:=match b with|true=>SqL K H a xs|false=>SqT K H a xs
def SqB.get {X:Cx} {pins:List (Addr×Obj)} {σ:L2.St} {H:Hp} {s:Shared} {b:Bool} {a:Addr} {xs:List V} (I:Inv X pins σ H s) (h:SqB X.K b H a xs):∃ its:List Value,zq xs its/\LB b a its.toArray s.heap/\xs.length<=sizeLine:=by
 cases b
 ·obtain ⟨its,r,p,hz⟩:=I.tuple (show SqT X.K H a xs from h);exact ⟨its,r,(show s.heap.IsTuple a its.toArray from p),hz⟩
 ·obtain ⟨its,r,p,hz⟩:=I.list (show SqL X.K H a xs from h);exact ⟨its,r,p.isList,hz⟩
def SqB.inj {X:Cx} {pins:List (Addr×Obj)} {σ:L2.St} {H:Hp} {s:Shared} {b:Bool} {a:Addr} {xs ys:List V} (I:Inv X pins σ H s) (h:SqB X.K b H a xs) (h':SqB X.K b H a ys):xs=ys:=by
 cases b
 ·exact I.tuple_inj h h'
 ·exact I.list_inj h h'
def qeZ {b:Bool} {c:Addr} {xs:Array Value} {h:Heap} (q:LB b c xs h):c<h.objs.size:=by
 cases b
 ·obtain ⟨o,e,_⟩:=(show h.IsTuple c xs from q);exact Heap.lt_size e
 ·obtain ⟨o,e,_⟩:=(show h.IsList c xs from q);exact Heap.lt_size e
section
variable {X:Cx} {a b e l:Expr} {es:List Expr} {pos:Pos}
end
def UA (G:Gp):T->Option (List T)
 |.tup xs=>some xs
 |.ref p=>getL G p
 |_=>none
def qbP {K:Frg} {G0:Gp} {H0:Hp} {x:T} {v:V} {us:List T} (hr0:HR K G0 H0) (rx:Rp K H0 x v) (h:UA G0 x=some us) :
  ∃ b c,v=.ref c/\∀ G H,HR K G H->Kp G0 H0 G H->UA G x=some us->∃ vs,SqB K b H c vs/\Rps K H us vs:=by
 cases rx with
 |tup hs rs=>
  cases h;exact ⟨false,_,rfl,λG H hr k _=>⟨_,(VY hr0 k hs:SqT K H _ _),rs.keep hr0 k⟩⟩
 |ref a=>exact ⟨true,a,rfl,λG H hr k hq=>let ⟨vs,h1,h2⟩:=zH hr (show getL G a=some us from hq);⟨vs,h1,h2⟩⟩
 |_=>cases h
def qe7 (us vs:List T):List T:=(us.zip vs).map λp=>.tup [p.1,p.2]
section
variable {X:Cx} {a b e l:Expr} {es:List Expr} {pos:Pos} {t:TA3}
def qcX:List T->Gp->Q3->Prop:=λxs G q=>match xs with
 |[.ref p]=>(match getL G p with|some ys=>(match qfo ys with|some k=>q (.bl k) G|none=>False)|none=>False)
 |_=>False
end
def qeX:Value->Bool
 |.type t=>t == "list"
 |_=>false
def Z4:List (Addr×Obj)->Bool
 |[]=>true
 |p::r=>if qeX p.2.cls then false else Z4 r
def VG:∀ {K:List (Addr×Obj)} {a:Addr} {o:Obj},Z4 K=true->K.lookup a=some o->o.cls≠.type "list"
 |[],_,_,_,e=>by simp at e
 | (b,x)::r,a,o,h,e=>by
  unfold Z4 at h;split at h
  ·cases h
  ·rename_i hx;rw [List.lookup_cons] at e;split at e
   ·cases e;intro z;rw [z] at hx;exact hx rfl
   ·exact VG h e
def XA {K:Frg} {H:Hp} {a:Addr} {ns:List Int} (hK:Z4 K=true) (hO:qdH H) (hS:SqL K H a (ns.map V.int)):∃ o,H a=some (.frz o (.lst (ns.map V.int))):=by
 rcases hS with (h|h)|⟨o,its,n,h1,h2,_⟩
 ·rcases hO a with z|⟨o,xs,z⟩<;>(rw [h] at z;cases z)
 ·exact h
 ·exact absurd h2 (VG hK h1)
def only (a:Addr) (ns:List Int):Gp:=λb=>if b=a then some (.frz (ns.map T.int)) else none
def NE {K:Frg} {H:Hp} {a:Addr} {ns:List Int} (h:∃ o,H a=some (.frz o (.lst (ns.map V.int)))):HR K (only a ns) H:=λb o e=>by
 unfold only at e;split at e
 ·rename_i hb;subst hb;cases e;exact ⟨_,h,Rps.ints ns⟩
 ·cases e
def VB:Sp3:=λts G q=>∃ (a:Addr) (ns:List Int),ts=[.ref a]/\G a=some (.frz (ns.map T.int))/\ns.length<=63/\∀ G',q (.bl true) G'
def qd7 {l:PySem.W.OpenLaw} {k:Nat} {q:Program} {loose:List Str} {XP:(Str->Option Value)->Heap->Prop} {YP:World->Heap->Prop} {d:DefRec} {K:Params->PySem.W.Frag} {x:Str} (hn:l.most=some 63) (hdf:d.params.defaults=[]) (hr:Room k callerA)
  (hY:∀ (w:World) (h:Heap),YP w h->(K w.params).In h) (hK:∀ w:World,Z4 (K w.params)=true)
  (F:∀ (w:World) (mg:Str->Option Value) (fa:Addr) (h:Heap),(K w.params).In h->h.Ns mainGlobals mg->mg d.name=some (.ref fa) ->
   ∃ fd:FuncData,(∀ (s:Shared) (u:Value),BindsTo s fd ⟨[u],[]⟩ [(x,u)])/\∀ base:Heap,(K w.params).In base->base.Ns mainGlobals mg->FnOk l.prog w (K w.params) mg base CX0 k fa fd [x] (lSp (K w.params) VB)) :
  PySem.W.WalkO q loose XP YP l.row.toRowW d [] (λf vs=>PySem.call f vs):=
 L2.N4 (n:=63) (k:=k) (x:=x) (CX:=λ_=>CX0) (sp:=λw=>lSp (K w.params) VB) hn (by decide) hdf hr hY F
  (λw H a ns hl hO hS=>⟨[.ref a],only a ns,λt _=>t=.bl true,NE (XA (hK w) hO hS),.cons (.ref a) .nil,⟨a,ns,rfl,by simp [only],hl,λ_=>rfl⟩,λt G' e v H' r _ _=>by subst e;cases r;rfl⟩) λ_ _ _ _ _ z=>z
def NW {P:Program} {w:World} {K:Frg} {mg:Str->Option Value} {base:Heap} {x qual:Str} {st:Stmt} {f:Addr} {fd:FuncData} {N ps:List Str} {k:Nat} {sp:Sp3} {t3:TS3} (F:Fun K x qual st f fd) (S:FnScope N ps (qi st))
  (body:∀ (cdv:Value) (A:Around) (outer:List Env) (s:Shared) (H:Hp) (E:XK),Room k (A.deeper (envOfC qual (qi st) s.heap.objs.size f cdv)) ->
   B3 (SR CX0 P w K mg base N qual (qi st) f cdv A outer s H E).nox (zF st) t3)
  (read:∀ ts G q,sp ts G q->ts.length=ps.length/\t3 { nx:=λ_ G'=>q .non G',rt:=q } (qk N ts) G):FnOk P w K mg base CX0 (k+1) f fd ps (lSp K sp):=by
 refine F.ok S (λvs H Q E ⟨ts,G,q,h1,h2,h3,h4⟩=>by rw [← h2.length];exact (read ts G q h3).1) λcdv A outer s H vs Q E hr ⟨ts,G,q,h1,h2,h3,h4⟩=>?_;refine ⟨_,body cdv A outer s H E hr,qk N ts,G,_,UR h1 h2,(read ts G q h3).2,⟨λτ' G' h' σ' H' rl' k'=>h4 _ G' h' _ H' .non rl'.hp k',h4,λ_ _ z=>z.elim,λ_ _ z=>z.elim⟩⟩
abbrev eh1 (h:Heap) (o1:Obj):Heap:=h.push o1
abbrev eh2 (h:Heap) (o1:Obj):Heap:=(eh1 h o1).push { cls:=.type "enumerate",data:=.fields #[.none,.bool false,.ref h.objs.size,rawInt 0,.none,.none] }
def XJ (c:Addr) (o1:Obj) (ob:Obj) :
  Meets (Builtin.«enumerate.__new__» ⟨[.type "enumerate",.ref c],[]⟩) (λ_ R s=>s.heap.get? c=some ob /\
   (∀ (P:Program) (w:World) (A:Around) (Q:Value->Shared->Prop) (E:Value->Shared->Prop),Q (.ref s.heap.objs.size) { s with heap:=eh1 s.heap o1 }->wpAny (model P w) A (pyIter (.ref c)) Q E s) /\
   R (.ok (.ret (.ref (eh1 s.heap o1).objs.size))) { s with heap:=eh2 s.heap o1 }):=
 .of_wp λprog w A R s h=>by
  obtain ⟨hp,g,d,tk,os⟩:=s;obtain ⟨hl,h1,h⟩:=h;have hsub:=sub_enumerate;have k1:=λA Q E=>h1 prog w A Q E
  wp_walk using wpAny_loadPart' hl
  refine wpAny_stack_any λst=>wpAny_pure ?_;split
  ·rename_i c _ _ _ _ _;cases (c==Value.type "enumerate")
   ·wp_walk using wpAny_loadPart' hl,k1 _ _ _
    exact ⟨_,rfl,h⟩
   ·wp_walk using wpAny_loadPart' hl,k1 _ _ _
    exact ⟨_,rfl,h⟩
  ·wp_walk using wpAny_loadPart' hl,k1 _ _ _
   exact ⟨_,rfl,h⟩
def TC {b:Bool} {c:Addr} {xs:Array Value} {h:Heap} (q:LB b c xs h):∃ o,h.get? c=some o:=by
 cases b
 ·obtain ⟨o,e,_⟩:=(show h.IsTuple c xs from q);exact ⟨o,e⟩
 ·obtain ⟨o,e,_⟩:=(show h.IsList c xs from q);exact ⟨o,e⟩
section
variable {P:Program} {w:World} {A:Around} {s:Shared} {E:Value->Shared->Prop}
def C1 {b:Bool} {c:Addr} {xs:Array Value} {Q:Value->Shared->Prop} (h1:LB b c xs s.heap)
  (q:∀ h',IsEnum h' (s.heap.objs.size+1) s.heap.objs.size 0 .none->qbX b s.heap.objs.size c 0 h'->(∀ c o,s.heap.get? c=some o->h'.get? c=some o)->Q (.ref (s.heap.objs.size+1)) { s with heap:=h' }) :
  wpAny (model P w) A (call (.type "enumerate") [.ref c]) Q E s:=by
 obtain ⟨ob,hob⟩:=TC h1;refine callType_new F.called_enumerate (by decide) (F.typeCall_enumerate_1 _) (F.newCall_enumerate_1 _) (λobj=>F.args_object_init_2 obj _) F.entry_enumerate_new
  (XJ c (DG b c) ob) ⟨hob,λP w A Q E q=>NP h1 q,?_⟩
 have e1:(eh1 s.heap (DG b c)).objs.size=s.heap.objs.size+1:=Heap.size_push ..;have g2:(eh2 s.heap (DG b c)).get? (eh1 s.heap (DG b c)).objs.size=some _:=Heap.get?_push_size _ rfl;have g1:(eh2 s.heap (DG b c)).get? s.heap.objs.size=some (DG b c):=Heap.get?_push_of_some _ (Heap.get?_push_size _ rfl);show _/\_;rw [e1] at g2 ⊢;refine ⟨⟨_,g2,rfl⟩,q _ g2 ?_ λc o e=>Heap.get?_push_of_some _ (Heap.get?_push_of_some _ e)⟩;cases b<;>exact ⟨_,g1,rfl,rfl⟩
end
def KG {P:Program} {w:World} {A:Around} (hh:A.handled=none) (b:Bool) (it c:Addr) (hne:c≠it) (xs:Array Value) :
  Draws P w A it [it,c] xs.size (λi v=>xs[i]?=some v) (λi h=>qbX b it c i h/\LB b c xs h) where
 live:=λi h st=>let ⟨o,e,_⟩:=(jZ (P:=P) (w:=w) b it c).obj st.1;⟨o,e⟩
 frame:=λi h h' st hk=>⟨(jZ (P:=P) (w:=w) b it c).keep st.1 λo e=>hk it (by simp) o e,(jZ (P:=P) (w:=w) b it c).hkeep st.2 λo e=>hk c (by simp) o e⟩
 item:=λi s Q E hi st hQ=>by
  refine (jZ (P:=P) (w:=w) b it c).item st.1 st.2 (x:=xs[i]) (by simp [hi]) λh' st' sb=>?_;exact hQ _ h' s.toks (by simp [hi]) ⟨st',(jZ (P:=P) (w:=w) b it c).hkeep st.2 λo e=>(sb.2 c hne).trans e⟩ sb
 done:=λs Q E st hE=>(jZ (P:=P) (w:=w) b it c).done hh st.1 st.2 (by simp) hE
def V6 {P:Program} {w:World} {A:Around} {s:Shared} {E:Value->Shared->Prop} {b:Bool} {e it c:Addr} {i:Nat} {xs:Array Value} {old:Value} {Q:Option Value->Shared->Prop} (hh:A.handled=none) (he:IsEnum s.heap e it i old) (p1:qbX b it c i s.heap) (l1:LB b c xs s.heap) (hx:xs[i]?=none)
  (hQ:∀ h',Heap.ExtBut it s.heap h'->Q none { s with heap:=h' }):wpAny (model P w) A (pyNext (.ref e)) Q E s:=by
 have hT:s.TypeIs (.ref e) "enumerate" := ⟨_,he,rfl⟩
 unfold pyNext;refine wpAny_bind (wpAny_attempt (wpAny_callSpecial?_slot (name:=Str.ofString "__next__") hT F.slot_enumerate_next
  (wpAny_call_entry F.slot_enumerate_next hT F.entry_enumerate_next ?_ (F.args_enumerate_next_1 _))))
 show wpAny _ _ (field (.ref e) 2 >>= _) _ _ _;refine wpAny_bind (wpAny_field he rfl (x:=.ref it) rfl ?_);refine wpAny_bind ((jZ (P:=P) (w:=w) b it c).done (show A.in1.handled=none from hh) p1 l1 hx λh' x he' hx'=>?_);obtain ⟨o,ho,hc⟩:=hx';refine wpAny_bind (wpAny_isInstance (T:="StopIteration") (b:=true) ⟨o,ho,hc⟩ isSubtype_stop ?_);exact wpAny_pure (hQ _ he')
def Ite (K:Frg) (b:Bool) (c:Addr):It:=
  ⟨λi H=>∃ xs x,SqB K b H c xs/\xs[i]?=some x,
   λi H v H'=>∃ p x,H p=none/\v=.ref p/\H'=upd H p (.tup [.int i,x])/\(∀ xs,SqB K b H c xs->xs[i]?=some x),
   λi H=>∃ xs,SqB K b H c xs/\xs.length<=i⟩
def qaO (b:Bool) (e it c:Addr) (k:Nat) (h:Heap):Prop:=(∃ old,IsEnum h e it k old)/\qbX b it c k h
def XZ {P:Program} {w:World} {K:Frg} {es:List Expr} {k1:Nat} {pt:Pos} {b:Bool} {e it c:Addr} (n1:e≠it) (n2:c≠e) (n3:c≠it):Turn P w K (.Tuple es k1 pt) (Ite K b c) [e,it] e (qaO b e it c) where
 mem:=by simp
 obj:=λi h ⟨⟨old,he⟩,p1⟩ d hd=>by
  simp only [mem_cons,not_mem_nil,or_false] at hd;rcases hd with rfl|rfl
  ·exact ⟨_,he,λv q=>by cases q⟩
  ·exact (jZ (P:=P) (w:=w) b d c).obj p1
 keep:=λi h h' ⟨⟨old,he⟩,p1⟩ k=>⟨⟨old,k e (by simp) _ he⟩,(jZ (P:=P) (w:=w) b it c).keep p1 λo e=>k it (by simp) o e⟩
 item:=by
  intro X hP hw hK hc i pins s σ H E I hf st hg;subst hP hw hK;obtain ⟨xs,x,sq,hx⟩:=hg;obtain ⟨its,rv,l1,z1⟩:=sq.get I;obtain ⟨u,hu,ru⟩:=rv.get hx;obtain ⟨⟨old,he⟩,p1⟩:=st;have hil:i<its.toArray.size:=by have:=(List.getElem?_eq_some_iff.mp hu).1;simpa using this
  refine wpAny_pyNext_enum_itemD (KG (show X.A.in1.handled=none from I.ok.hd hc) b it c n3 its.toArray) he ⟨p1,l1⟩ hil n1 (by simp only [mem_cons,not_mem_nil,or_false,not_or];exact ⟨n1,Ne.symm n2⟩) λy h' tk hy ho st' ht hsz hk=>?_;have hy':y=u:=by
   have:its.toArray[i]?=some u:=by simpa using hu
   rw [this] at hy;exact (Option.some.inj hy).symm
  subst hy';have hfr:H s.heap.objs.size=none:=I.fresh;have free:∀ b∈[e,it],H b=none:=λb hb=>(hf b hb).1;refine ⟨_,rfl,wpAny_letOwnedTupleGo_enum ho λh2 hz2 s2=>?_⟩;have elt:e<s.heap.objs.size:=Heap.lt_size he;have hp2:h2.get? s.heap.objs.size=some { cls:=.type "tuple",data:=.seq #[.int i tk,y] }:=(s2.2 _ (Nat.ne_of_gt elt)).trans ht;have up:∀ c o,c≠e->h'.get? c=some o->h2.get? c=some o:=λc o hc e=>(s2.2 c hc).trans e;have kk:∀ c o,c∉[e,it]->s.heap.get? c=some o->h2.get? c=some o:=λc o hc q=>by
   simp only [mem_cons,not_mem_nil,or_false,not_or] at hc;exact up c o hc.1 (hk c o hc.1 hc.2 q)
  have I3:Inv X pins σ (upd H s.heap.objs.size (.tup [.int i,x])) { s with heap:=h2,toks:=tk+1 }:=by
   refine I.step (g':=s.gens) (d':=s.drawn) (t':=tk+1) (ch:=[e,it]) (λb hb=>?_) (λb o _ _ hcb e _=>kk b o hcb e) (λb o _ _ hcb e _=>⟨o.slots,kk b o hcb e⟩) (λb o _ e n=>by rw [qB (Nat.ne_of_lt (Heap.lt_size e))];exact n) (λb o hcb e=>⟨o,kk b o hcb e⟩)
    (λb _ e=>by rw [qB (qt e hfr)];exact e) (λb _ _ e=>by rw [qB (qt e hfr)];exact e) (λb ps e=>⟨#[],by rw [qB (qt e hfr),e];simp⟩) (λm hm=>?_) (λb u e=>?_) I.bare
   ·obtain ⟨f0,f1,f2,f3,f4,f5⟩:=hf b hb;exact ⟨f3,f1,f4,f5⟩
   ·obtain ⟨o,es',ep,ho',r⟩:=hm;refine ⟨o,es',ep,kk _ o (λq=>?_) ho',r⟩;obtain ⟨f0,f1,_⟩:=hf X.env.locals q;exact f1 rfl
   ·by_cases hb:b=s.heap.objs.size
    ·subst hb;rw [qY] at e;cases e;exact ⟨by show 2<=sizeLine;decide,[.int i tk,y],.cons ⟨tk,rfl⟩ (.cons ru .nil),⟨_,hp2,rfl,_,rfl,rfl⟩⟩
    ·rw [qB hb] at e;refine (I.hok b u e).stay (λc v hcb q=>kk c v (λm=>?_) q) (λ_ q=>by rw [qB (qt q hfr)];exact q) λ_ _ q=>by rw [qB (qt q hfr)];exact q
     have hn:=free c m;rcases hcb with q|q
     ·rw [q] at hn;rw [hn] at e;cases e
     ·rw [hn] at q;cases q
  refine ⟨.ref s.heap.objs.size,_,I3,rfl,⟨_,x,hfr,rfl,rfl,λzs q=>by rw [q.inj I sq];exact hx⟩,⟨⟨_,by push_cast;exact hz2⟩,(jZ (P:=X.prog) (w:=X.w) b it c).keep st'.1 λo e=>up _ o (Ne.symm n1) e⟩,λb hb=>?_⟩;rw [qB (λq=>?_)]
  ·exact free b hb
  ·subst q;simp only [mem_cons,not_mem_nil,or_false] at hb;rcases hb with q|q
   ·exact absurd q (Nat.ne_of_gt elt)
   ·obtain ⟨o,e,_⟩:=(jZ (P:=X.prog) (w:=X.w) b it c).obj p1;exact absurd q (Nat.ne_of_gt (Heap.lt_size e))
 done:=by
  intro X hP hw hK hc i pins s σ H E I hf st hg;subst hP hw hK;obtain ⟨xs,sq,hend⟩:=hg;obtain ⟨its,rv,l1,z1⟩:=sq.get I;obtain ⟨⟨old,he⟩,p1⟩:=st;have e1:=rv.length;have free:∀ b∈[e,it],H b=none:=λb hb=>(hf b hb).1;refine V6 (I.ok.hd hc) he p1 l1 (by simp;omega) λh' hk0=>⟨rfl,?_⟩
  have hk:∀ c o,c∉[e,it]->s.heap.get? c=some o->h'.get? c=some o:=λc o hcb q=>hk0 c o (by simp only [mem_cons,not_mem_nil,or_false,not_or] at hcb;exact hcb.2) q;refine I.step (g':=s.gens) (d':=s.drawn) (t':=s.toks) (ch:=[e,it]) (λb hb=>?_) (λb o _ _ hcb e _=>hk b o hcb e) (λb o _ _ hcb e _=>⟨o.slots,hk b o hcb e⟩) (λ_ _ _ _ n=>n) (λb o hcb e=>⟨o,hk b o hcb e⟩) (λ_ _ e=>e) (λ_ _ _ e=>e) (λb ps e=>⟨#[],by rw [e];simp⟩) (λm hm=>?_) (λb u e=>?_) I.bare
  ·obtain ⟨f0,f1,f2,f3,f4,f5⟩:=hf b hb;exact ⟨f3,f1,f4,f5⟩
  ·obtain ⟨o,es',ep,ho',r⟩:=hm;refine ⟨o,es',ep,hk _ o (λq=>?_) ho',r⟩;obtain ⟨f0,f1,_⟩:=hf X.env.locals q;exact f1 rfl
  ·refine (I.hok b u e).stay (λc v hcb q=>hk c v (λm=>?_) q) (λ_ q=>q) λ_ _ q=>q;have hn:=free c m;rcases hcb with q|q
   ·rw [q] at hn;rw [hn] at e;cases e
   ·rw [hn] at q;cases q
 self:=λA i s Q E st h=>let ⟨⟨old,he⟩,_⟩:=st;wpAny_pyIter_enum he h
section
variable {X:Cx} {a b e l:Expr} {es:List Expr} {pos:Pos}
def ND {p pt:Pos} {k1:Nat} {ta:TA} (hg:Gl X "enumerate") (hm:X.mg "enumerate" = none) (ha:PA X [a] ta) (hs:starEach [a] X.env=[(false,eval a X.env)]:=by rfl) :
  PI X (.Tuple es k1 pt) (.Call (.Name "enumerate" p) [a] [] pos) (λσ H R=>ta σ H λvs H1=>∃ b1 c1 xs,vs=[.ref c1]/\SqB X.K b1 H1 c1 xs/\R (Ite X.K b1 c1) H1):=by
 intro pins s σ H R I h;refine Call_ (UQ I hg hm PyProof.Rows.boot_enumerate (PyProof.Rows.callWith_type1 (thn (ha pos pins s σ H _ I h) λus s1 ⟨vs,H1,I1,r1,q1⟩=>?_) (by rw [hs];rfl) (by rfl)));obtain ⟨b1,c1,xs,rfl,sq1,q⟩:=q1;obtain ⟨u1,rfl,e1⟩:=EM r1;cases (show u1=Value.ref c1 from e1);obtain ⟨its1,rv1,l1,z1⟩:=sq1.get I1;refine C1 l1 λh' he hit hk=>wpAny_pyIter_enum he ?_;have lt:=qeZ l1;have ne3:∀ n c:Nat,c<n->n+1≠n/\c≠n+1/\c≠n:=λn c h=>by omega
 obtain ⟨m1,m2,m3⟩:=ne3 _ _ lt;refine ⟨s1.heap.objs.size+1,[s1.heap.objs.size+1,s1.heap.objs.size],_,_,H1,rfl,I1.kept (t':=s1.toks) hk,XZ m1 m2 m3,⟨⟨_,he⟩,hit⟩,λc hc=>?_,q⟩;have hle:s1.heap.objs.size<=c:=by
  simp only [mem_cons,not_mem_nil,or_false] at hc;rcases hc with rfl|rfl<;>first|exact Nat.le_refl _|exact Nat.le_add_right _ _
 exact I1.fpOk hle (I1.hok.fresh hle)
end
def z9 (k:Nat):List T->List T
 |[]=>[]
 |x::r=>.tup [.int (k:Int),x]::z9 (k+1) r
def TB (us:List T):List T:=z9 0 us
def JB:∀ {us:List T} {k i:Nat} {x:T},(z9 k us)[i]?=some x->∃ a,us[i]?=some a/\x=.tup [.int ((k+i:Nat):Int),a]
 |[],_,_,_,h=>by simp [z9] at h
 |u::us,k,0,x,h=>by simp [z9] at h;exact ⟨u,rfl,by simp [← h]⟩
 |u::us,k,i+1,x,h=>by
  simp [z9] at h;obtain ⟨a,ha,hx⟩:=JB h;exact ⟨a,by simpa using ha,by rw [hx];congr 4;omega⟩
def JF:∀ (us:List T) (k:Nat),(z9 k us).length=us.length
 |[],_=>rfl
 |u::us,k=>by simp [z9,JF us]
def CK (us:List T):(TB us).length=us.length:=JF us 0
def US {us:List T} {i:Nat} {x:T} (h:(TB us)[i]?=some x):∃ a,us[i]?=some a/\x=.tup [.int (i:Int),a]:=by
 obtain ⟨a,ha,hx⟩:=JB h;exact ⟨a,ha,by rw [hx];congr 4;omega⟩
def qaT {K:Frg} {b1:Bool} {c1:Addr} {x:T} {us:List T} {G0:Gp} {H0:Hp}
  (f1:∀ G H,HR K G H->Kp G0 H0 G H->UA G x=some us->∃ vs,SqB K b1 H c1 vs/\Rps K H us vs) :
  qdw K (Ite K b1 c1) (TB us) (λG=>UA G x=some us) G0 H0:=by
 intro G H hr k h1;obtain ⟨p,sp,rp⟩:=f1 G H hr k h1;refine ⟨λi z hz=>?_,λi z v H' hz hy=>?_,⟨p,sp,?_⟩⟩
 ·obtain ⟨a,ha,_⟩:=US hz;obtain ⟨v,hv,_⟩:=rp.get ha;exact ⟨p,v,sp,hv⟩
 ·obtain ⟨a,ha,rfl⟩:=US hz;obtain ⟨t,v1,ht,rfl,rfl,g1⟩:=hy;obtain ⟨v,hv,rv⟩:=rp.get ha;have e1:=(g1 p sp).symm.trans hv;obtain rfl:v1=v:=Option.some.inj e1;have kk:Kp G H G (upd H t (.tup [.int i,v1])):=Kp.laid ht;exact ⟨.tup (SqT.of qY) (.cons (.int _) (.cons (rv.keep hr kk) .nil)),hr.laid ht,kk⟩
 ·rw [← rp.length,CK];exact Nat.le_refl _
def WT (ta:TA3):TI3:=λτ G r=>ta τ G λxs G1=>match xs with
 |[x]=>(match UA G1 x with|some us=>r (TB us) (λG=>UA G x=some us) G1|_=>False)
 |_=>False
section
variable {X:Cx} {a b e l:Expr} {es:List Expr} {pos:Pos} {t:TA3}
def qdc {p pt:Pos} {k1:Nat} (hg:Gl X "enumerate") (hm:X.mg "enumerate" = none) (ha:A3 X [a] t) (hs:starEach [a] X.env=[(false,eval a X.env)]:=by rfl) :
  I3 X (.Tuple es k1 pt) (.Call (.Name "enumerate" p) [a] [] pos) (WT t):=
 qeb (ND hg hm ha hs) λσ H R ⟨τ,G,r,rl,h,af⟩=>QN rl h λxs G1 h1 vs H1 rs hr1 k1 rl1=>by
  split at h1
  ·rename_i x;split at h1
   ·rename_i us e1;obtain ⟨v,rfl,r1⟩:=XG rs;obtain ⟨b1,c1,rfl,f1⟩:=qbP hr1 r1 e1;obtain ⟨p,sp,_⟩:=f1 G1 H1 hr1 Kp.refl e1;exact ⟨b1,c1,p,rfl,sp,af _ _ G1 h1 _ H1 hr1 k1 (qaT f1)⟩
   ·exact h1.elim
  ·exact h1.elim
end
section
variable {X:Cx} {a b c e:Expr} {es:List Expr} {ta tb tc te:TE3} {t:TA3} {pos:Pos}
def qdu (i:Nat) (r:R3) (te:TE3):TS3:=λd τ G=>match τ[i]? with
 |some (some x)=>te τ G λy G1=>r x y G1 λz G2=>d.nx (τ.set i (some z)) G2
 |_=>False
def qdx:List T->Gp->Q3->Prop:=λxs G q=>match xs with
 |[.ref p]=>(match getL G p with|some ys=>(match qfj ys with|some k=>q (.bl k) G|none=>False)|none=>False)
 |_=>False
end
section
variable {X:Cx}
def M9 {elt tg iter:Expr} {ifs:List Expr} {scope:Scope} {pos cpos:Pos} {N':List Str} {m:List (Option Nat)} {wi:TI} {g:TG} {tif:TT} {te:TE} {use:Option (Value->Sem Unit)} {Qc:Value->Shared->Prop} {QD:Addr->Hp->Prop} (hc:X.calm=true) (hi:PI X tg iter wi)
  (hg:∀ s H fp,PG (qo X N' scope s H fp) tg g) (hf:∀ s H fp,PF (qo X N' scope s H fp) ifs tif) (he:∀ s H fp,PE (qo X N' scope s H fp) elt te)
  (hsc:T3 X.env.scope scope=true) (hcap:JK X.N N' scope m=true) (hs:∀ x,foldedSetIterable iter X.env x=pure x) {pins:List (Addr×Obj)} {s:Shared} {σ:L2.St} {H:Hp} (I:Inv X pins σ H s)
  (h:wi σ H λJ H1=>∀ D,H1 D=none ->
   ∃ W:Nat->Nat->L2.St->Hp->Prop,(∃ n,W 0 n (cap m σ) (upd H1 D (.lst [])))/\∀ i n σ H,W i n σ H ->
    (J.stop i H/\QD D H)\/(J.go i H/\∀ x H',J.yld i H x H'->g x σ H' λσ2 H2=>tif σ2 H2 λk H3=>
     if k=true then te σ2 H3 λy H4=>∃ zs,H4 D=some (.lst zs)/\zs.length<sizeLine/\∃ n',n'<n/\W (i+1) n' σ2 (upd H4 D (.lst (zs++[y])))
     else ∃ n',n'<n/\W (i+1) n' σ2 H3))
  (fin:∀ (D:Addr) (s3:Shared) (H3:Hp) (fp:List Addr) (s6:Shared) (H6:Hp) (σ6:L2.St) (r:Flow),Inv X pins σ H3 s3->(∀ b∈fp,DY X pins H3 b)->Inv (qo X N' scope s3 H3 fp) [] σ6 H6 s6->QD D H6->compPost (model X.prog X.w) X.A X.xe use Qc (.ref D) s3.heap.objs.size (.ok r) s6) :
  wpAny (model X.prog X.w) X.A (comprehension (.ListComp elt [⟨tg,iter,ifs,0⟩] scope pos) scope X.env cpos (newList []) false (eval iter X.env) use) Qc X.xe s:=by
 have sc:=Y9 hsc;have hcl:∀ y∈scope.names,y.2=.free->∃ c,X.env.cells.lookup y.1=some c:=λy hy e=>by
  rcases (sc.free y hy e).2 with z|z
  ·exact I.ok.has y.1 (.inl z)
  ·exact I.ok.has y.1 (.inr z)
 refine wpAny_comprehension_free (g:=⟨tg,iter,ifs,0⟩) (gs:=[]) rfl hs (Q7 hcl) sc.kind sc.loc ?_;show wpAny _ _ (eval iter X.env) _ _ s;refine thn (hi pins s σ H _ I h) λv s1 h1=>thn h1 λitv s2 h2=>?_;obtain ⟨it,fp,tn,J,H2,rfl,I2,T,st2,f2,hW⟩:=h2;refine wpAny_newObj_type ?_;have hD:H2 s2.heap.objs.size=none:=I2.fresh;obtain ⟨W,⟨n0,w0⟩,turn⟩:=hW _ hD;generalize hDe:s2.heap.objs.size=D at *;have I3:Inv X pins σ (upd H2 D (.lst [])) { s2 with heap:=s2.heap.push { cls:=.type "list",dict:=none,data:=.seq ([]:List Value).toArray } }:=by
  subst hDe;exact I2.laid (t':=s2.toks) (λb u e=>Heap.get?_push_of_some _ e) (Nat.le_refl _) ⟨Nat.zero_le _,[],0,.nil,Heap.get?_push_size _ rfl⟩
 have ob2:=T.obj 0 _ st2;have ob3:∀ b∈fp,∃ o,(s2.heap.push { cls:=.type "list",dict:=none,data:=.seq ([]:List Value).toArray }).get? b=some o:=λb hb=>let ⟨o,e,_⟩:=ob2 b hb;⟨o,Heap.get?_push_of_some _ e⟩
 have f3:∀ b∈fp,DY X pins (upd H2 D (.lst [])) b:=λb hb=>by
  obtain ⟨o,e,_⟩:=ob2 b hb;have:b≠D:=by rw [← hDe];exact Nat.ne_of_lt (Heap.lt_size e)
  exact ⟨by rw [qB this];exact (f2 b hb).1,(f2 b hb).2⟩
 have k23:∀ b o,s2.heap.get? b=some o->(s2.heap.push { cls:=.type "list",dict:=none,data:=.seq ([]:List Value).toArray }).get? b=some o:=λb o e=>Heap.get?_push_of_some _ e;generalize hH3:upd H2 D (.lst [])=H3 at *;generalize hs3:({ s2 with heap:=s2.heap.push { cls:=.type "list",dict:=none,data:=.seq ([]:List Value).toArray } }:Shared)=s3 at *;have ob3:∀ b∈fp,∃ o,s3.heap.get? b=some o:=by rw [← hs3];exact ob3
 have k23:∀ b o,s2.heap.get? b=some o->s3.heap.get? b=some o:=by rw [← hs3];exact k23
 refine jS λh₁ hns hk hown=>?_;have I4:Inv (qo X N' scope s3 H3 fp) [] (cap m σ) H3 { s3 with heap:=h₁ }:=WG hc I3 sc hcap f3 ob3 hns hk hown;have tn4:tn 0 h₁:=T.keep _ _ _ st2 λb hb o e=>hk b o (k23 b o e);have fr4:∀ b∈fp,H3 b=none:=λb hb=>(f3 b hb).1;have stat:∀ {H':Hp},(∀ b∈fp,H' b=none)->∀ b∈fp,DY (qo X N' scope s3 H3 fp) [] H' b:=λhn b hb=>by
  refine ⟨hn b hb,I4.ok.exf b hb |>.1,I4.ok.exfs b hb,.inl hb,λx c e=>(I4.ok.exf b hb).2 x c e,λp hp=>absurd (show p∈([]:List (Addr×Obj)) from hp) (by simp)⟩
 show codeAny (model X.prog X.w) X.A (.compStart (.ListComp elt [⟨tg,iter,ifs,0⟩] scope pos) 0 (.ref it) (.ref D) (qo X N' scope s3 H3 fp).env) (compPost (model X.prog X.w) X.A X.xe use Qc (.ref D) s3.heap.objs.size) { s3 with heap:=h₁ };have loop:codeAny (model X.prog X.w) X.A (.compLoop (.ListComp elt [⟨tg,iter,ifs,0⟩] scope pos) 0 (.ref it) (.ref D) (qo X N' scope s3 H3 fp).env) (compPost (model X.prog X.w) X.A X.xe use Qc (.ref D) s3.heap.objs.size) { s3 with heap:=h₁ }:=by
  refine codeAny_loop rfl (λn s'=>∃ i σ' H',Inv (qo X N' scope s3 H3 fp) [] σ' H' s'/\tn i s'.heap/\(∀ b∈fp,H' b=none)/\W i n σ' H') (λn s' hI=>?_) n0 ⟨0,cap m σ,H3,I4,tn4,fr4,w0⟩;show wpAny _ X.A ((compTurn (.ListComp elt [⟨tg,iter,ifs,0⟩] scope pos) 0 (.ref it) (.ref D) (qo X N' scope s3 H3 fp).env).onRaise (λx=>do noteFrame x (qo X N' scope s3 H3 fp).env;theTreesLotGoes x)) _ _ s';refine wpAny_noted ?_;rw [compTurn_list];refine wpAny_bind (wpAny_standAt (wpAny_bind ?_));obtain ⟨i,σ5,H5,I5,st5,fr5,w5⟩:=hI;rcases turn i n σ5 H5 w5 with ⟨stop,q⟩|⟨go,step⟩
  ·refine thn (T.done (qo X N' scope s3 H3 fp) rfl rfl rfl rfl i [] s' σ5 H5 _ I5 (stat fr5) st5 stop) λr s6 ⟨hr,I6⟩=>?_;subst hr;refine wpAny_pure ?_;exact fin D s3 H3 fp s6 H5 σ5 _ I3 f3 I6 q
  ·refine thn (T.item (qo X N' scope s3 H3 fp) rfl rfl rfl rfl i [] s' σ5 H5 _ I5 (stat fr5) st5 go) λr s6 ⟨u,hr,h6⟩=>?_;subst hr;refine wpAny_bind (thn h6 λ_ s7 ⟨x,H7,I7,r7,y7,st7,fr7⟩=>?_);have I7':=I7.pinned (stat fr7) (T.obj _ _ st7);have again:∀ {σ8:L2.St} {H8:Hp} {s8:Shared},Inv (qo X N' scope s3 H3 fp) ([]++VE fp s7.heap) σ8 H8 s8->(∃ n',n'<n/\W (i+1) n' σ8 H8) ->
     ∃ m',m'<n/\∃ i σ' H',Inv (qo X N' scope s3 H3 fp) [] σ' H' s8/\tn i s8.heap/\(∀ b∈fp,H' b=none)/\W i m' σ' H':=λ{σ8 H8 s8} I8 ⟨n',hn,w8⟩=>by
    refine ⟨n',hn,i+1,σ8,H8,I8.unpinned,T.keep _ _ _ st7 λb hb o e=>(I8.pin (b,o) (mem_append_right _ (mem_append_right _ (ja hb e)))).1,λb hb=>?_,w8⟩;obtain ⟨o,e,d⟩:=T.obj _ _ st7 b hb;exact (I8.pin (b,o) (mem_append_right _ (mem_append_right _ (ja hb e)))).2.1
   refine wpAny_bind (wpAny_mono (hg s3 H3 fp _ s7 σ5 H7 x u _ I7' r7 (step x H7 y7)) (λ_ s8 ⟨σ8,H8,I8,q8⟩=>?_) λ_ _ z=>z.elim);refine wpAny_bind (wpAny_mono (hf s3 H3 fp _ s8 σ8 H8 _ I8 q8) (λk s9 ⟨H9,I9,q9⟩=>?_) λ_ _ z=>z.elim);cases k with
   |false=>
    rw [if_neg Bool.false_ne_true] at q9;exact wpAny_pure ⟨rfl,again I9 q9⟩
   |true=>
    rw [if_pos rfl] at q9;refine wpAny_bind (wpAny_bind (wpAny_mono (he s3 H3 fp _ s9 σ8 H9 _ I9 q9) (λw s10 ⟨y,H10,I10,r10,q10⟩=>?_) λ_ _ z=>z.elim));obtain ⟨zs,hz,hl,q10⟩:=q10;refine wpAny_bind (wpAny_mono (JR (X:=qo X N' scope s3 H3 fp) _ s10 σ8 H10 (.ref D) [y] (.ref D) [w] (λ_ H11=>H11=upd H10 D (.lst (zs++[y]))) I10 rfl (.cons r10 .nil) ⟨D,zs,y,rfl,rfl,hz,hl,rfl⟩) (λ_ s11 ⟨_,H11,I11,_,e11⟩=>?_) λ_ _ z=>z.elim);subst e11;exact wpAny_pure (wpAny_pure ⟨rfl,again I11 q10⟩)
 exact codeAny_compStart_list loop (T.self X.A 0 _ _ _ tn4 loop)
def TJ {i:Nat} {y:Str} {py spos:Pos} {elt tg iter:Expr} {ifs:List Expr} {scope:Scope} {pos:Pos} {N':List Str} {m:List (Option Nat)} {wi:TI} {g:TG} {tif:TT} {te:TE} (hc:X.calm=true) (hN:X.N.Nodup) (hi:PI X tg iter wi)
  (hg:∀ s H fp,PG (qo X N' scope s H fp) tg g) (hf:∀ s H fp,PF (qo X N' scope s H fp) ifs tif) (he:∀ s H fp,PE (qo X N' scope s H fp) elt te)
  (hsc:T3 X.env.scope scope=true) (hcap:JK X.N N' scope m=true) (hs:∀ x,foldedSetIterable iter X.env x=pure x) (hiy:X.N[i]?=some y) (hl:X.env.scope.names.lookup y=some .local)
  (hsw:swapsWith (.ListComp elt [⟨tg,iter,ifs,0⟩] scope pos) (some (.Name y py)) spos.line X.env=pure true) :
  PS X (.Assign [.Name y py] (.ListComp elt [⟨tg,iter,ifs,0⟩] scope pos) spos) (qdL (tLC wi g tif te m) (NT i)):=by
 intro pins s σ H D I h;rw [exec_Assign_Name_used _ _ _ _ hsw];refine wpAny_bind (wpAny_standAt (wpAny_bind ?_));show wpAny _ X.A (do let _←comprehension (.ListComp elt [⟨tg,iter,ifs,0⟩] scope pos) scope X.env _ (newList []) false (eval iter X.env) (some (assign (.Name y py) X.env))) _ _ s;refine wpAny_bind (wpAny_mono (M9 (use:=some (assign (.Name y py) X.env)) (QD:=λD' H'=>D.nx (σ.set i (some (.ref D'))) H') (Qc:=λ_ s'=>∃ σ' H',Inv X pins σ' H' s'/\D.nx σ' H') hc hi hg hf he hsc hcap hs I h λD' s3 H3 fp s6 H6 σ6 r I3 f3 I6 q=>?_) (λ_ s' hq=>wpAny_pure (wpAny_pure hq)) λ_ _ e=>e);have I7:Inv X pins σ H6 s6:=Y0 (h2:=s6.heap) I3 f3 I6 ⟨rfl,λ_ _=>rfl⟩;obtain ⟨mm,hn6,_⟩:=I6.loc;have hfC:DY X pins H6 s3.heap.objs.size:=I3.fpOk (Nat.le_refl _) I6.free;obtain ⟨f0,f1,f2,f3',f4,f5⟩:=hfC;show wpAny _ X.A (assign (.Name y py) X.env (.ref D')) _ _ _;refine wpAny_assign_Name (UD I7 hN hiy (.inl hl) (v:=.ref D') rfl (λs8 I8 hch=>?_) (.inr hl));obtain ⟨a,sb,ha⟩:=hch;have hne:s3.heap.objs.size≠a:=by
  rcases ha with rfl|ha
  ·exact f1
  ·exact Ne.symm (f4 _ _ ha)
 refine ⟨mm,hn6.sameBut sb hne,λh' sb'=>⟨_,_,I8.turned (t':=s8.toks) (λb o hb e=>(sb'.2 b hb).trans e) f0 f1 f3' f4 f5,q⟩⟩
end
def qdQ {K:Frg} {m:List (Option Nat)} {wi:TI3} {g:TG3} {tif:TT3} {te:TE3} {σ:L2.St} {H:Hp} {Q:VK} (hh:lE K (lc3 wi g tif te m) σ H Q):tLC (lI K wi) (lG K g) (lT K tif) (lE K te) m σ H Q:=by
  obtain ⟨τ,G,q,rl,h,af⟩:=hh;refine ⟨τ,G,_,rl,h,λitems stay G1 h1 J H1 hr1 k1 ok D hD=>?_⟩;have gD:G1 D=none:=hr1.free hD;refine ⟨λi n σ' H'=>n=items.length-i/\i<=items.length/\∃ τ' G' ys vs,Rel K τ' G' σ' H'/\Kp G1 H1 G' H'/\H' D=some (.lst vs)/\Rps K H' ys vs/\G' D=none/\YW stay g tif te q (items.drop i) ys τ' G',
   ⟨_,rfl,Nat.zero_le _,cap m τ,G1,[],[],((rl.next hr1 k1).cap m).next (hr1.laid hD) (Kp.laid hD),Kp.laid hD,qY,.nil,gD,by simpa using h1⟩,?_⟩
  rintro i n σ' H' ⟨rfl,hi,τ',G',ys,vs,rl',k',hDl,rys,gD',h'⟩;by_cases hlt:i<items.length
  ·rw [List.drop_eq_getElem_cons hlt] at h';obtain ⟨hst,h'⟩:=h';obtain ⟨go,yld,_⟩:=ok G' H' rl'.hp k' hst;have hx:items[i]?=some items[i]:=getElem?_eq_getElem hlt;refine .inr ⟨go i _ hx,λv H2 y=>?_⟩;obtain ⟨rv,hr2,k2⟩:=yld i _ v H2 hx y;have nxt:∀ {τ4:St3} {G4:Gp} {σ4:L2.St} {H4:Hp} {ys4:List T} {vs4:List V},Rel K τ4 G4 σ4 H4->Kp G1 H1 G4 H4->H4 D=some (.lst vs4)->Rps K H4 ys4 vs4->G4 D=none->YW stay g tif te q (items.drop (i+1)) ys4 τ4 G4 ->
     ∃ n',n'<items.length-i/\(n'=items.length-(i+1)/\i+1<=items.length/\∃ τ' G' ys vs,Rel K τ' G' σ4 H4/\Kp G1 H1 G' H4/\H4 D=some (.lst vs)/\Rps K H4 ys vs/\G' D=none/\YW stay g tif te q (items.drop (i+1)) ys τ' G'):=
    λ{τ4 G4 σ4 H4 ys4 vs4} a b c d e f=>⟨_,by omega,rfl,hlt,τ4,G4,ys4,vs4,a,b,c,d,e,f⟩
   refine ⟨_,τ',G',_,rv,rl'.next hr2 k2,h',λτ3 G3 h3 σ3 H3 rl3 k3=>⟨τ3,G3,_,rl3,h3,λk G4 h4 H4 hr4 k4=>?_⟩⟩;have kk:=(k2.trans k3).trans k4;obtain ⟨hD4,gD4⟩:=kk D _ hDl gD';have rys4:=rys.keep rl'.hp kk;cases k with
   |false=>
    rw [if_neg Bool.false_ne_true] at h4;refine qfi ?_;exact nxt (rl3.next hr4 k4) (k'.trans kk) hD4 rys4 gD4 h4
   |true=>
    rw [if_pos rfl] at h4;refine qfc ?_;refine ⟨τ3,G4,_,rl3.next hr4 k4,h4,λz G5 h5 w H5 rw5 hr5 k5=>?_⟩;obtain ⟨hD5,gD5⟩:=k5 D _ hD4 gD4;have rys5:=rys4.keep hr4 k5;exact ⟨vs,hD5,by rw [← rys.length];exact h5.1,nxt (((rl3.next hr4 k4).next hr5 k5).wrD hD5 gD5) (((k'.trans kk).trans k5).wrD hD) qY ((rys5.append (.cons rw5 .nil)).wrD hD5) gD5 h5.2⟩
  ·have e:i=items.length:=by omega
   subst e;rw [List.drop_length] at h';obtain ⟨_,_,stop⟩:=ok G' H' rl'.hp k' h'.1;refine .inl ⟨stop,af _ _ (h'.2 D gD') _ H' (.ref D) (λa o e=>?_) λa o e ga=>?_⟩
   ·by_cases ha:a=D
    ·subst ha;rw [qr] at e;cases e;exact ⟨vs,hDl,rys⟩
    ·rw [zz ha] at e;exact rl'.hp a o e
   ·obtain ⟨e1,g1⟩:=k1 a o e ga;obtain ⟨e2,g2⟩:=k' a o e1 g1;exact ⟨e2,by rw [zz (qt e1 hD)];exact g2⟩
def qax {X:Cx} {py spos:Pos} {elt tg iter:Expr} {ifs:List Expr} {scope:Scope} {pos:Pos} {y:Str} (i:Nat) (N':List Str) (m:List (Option Nat)) {wi:TI3} {g:TG3} {tif:TT3} {te:TE3} (hc:X.calm=true) (hN:X.N.Nodup) (hi:I3 X tg iter wi)
  (hg:∀ s H fp,G3 (qo X N' scope s H fp) tg g) (hf:∀ s H fp,F3 (qo X N' scope s H fp) ifs tif) (he:∀ s H fp,E3 (qo X N' scope s H fp) elt te)
  (hsc:T3 X.env.scope scope=true) (hcap:JK X.N N' scope m=true) (hl:X.env.scope.names.lookup y=some .local) (hsw:swapsWith (.ListComp elt [⟨tg,iter,ifs,0⟩] scope pos) (some (.Name y py)) spos.line X.env=pure true) (hiy:X.N[i]?=some y:=by rfl) (hs:∀ x,foldedSetIterable iter X.env x=pure x:=by intro _;rfl) :
  S3 X (.Assign [.Name y py] (.ListComp elt [⟨tg,iter,ifs,0⟩] scope pos) spos) (qS (lc3 wi g tif te m) (gn3 i)):=
 T8 (TJ (g:=lG X.K g) (tif:=lT X.K tif) (te:=lE X.K te) hc hN hi hg hf he hsc hcap hs hiy hl hsw) λ_ σ H ⟨τ,G,d,rl,h,af⟩=>
  qdQ ⟨τ,G,_,rl,h,λx G1 h1 v H1 rx hr1 k1=>af.nx _ G1 h1 _ H1 ((rl.next hr1 k1).set i rx) k1⟩
end L3
set_option autoImplicit true
namespace L3
open PySem PySem.Spec PyProof.Rows L2
structure jE3 (X:Cx) (e:Expr) (t:TE3):Prop where h:E3 X e t
structure jC3 (X:Cx) (e:Expr) (t:TT3):Prop where h:C3 X e t
structure jW3 (X:Cx) (e:Expr) (t:TT3):Prop where h:W3 X e t
structure jA3 (X:Cx) (e:List Expr) (t:TA3):Prop where h:A3 X e t
structure jP3 (X:Cx) (e:Option Expr) (t:TO3):Prop where h:P3 X e t
structure jS3 (X:Cx) (e:Stmt) (t:TS3):Prop where h:S3 X e t
structure jB3 (X:Cx) (e:List Stmt) (t:TS3):Prop where h:B3 X e t
structure jG3 (X:Cx) (e:Expr) (t:TG3):Prop where h:G3 X e t
structure jGs3 (X:Cx) (e:List Expr) (t:VF):Prop where h:Gs3 X e t
structure jI3 (X:Cx) (tg e:Expr) (t:TI3):Prop where h:I3 X tg e t
structure jF3 (X:Cx) (e:List Expr) (t:TT3):Prop where h:F3 X e t
def qc {X:Cx} (i:Nat) {x:Str} {pos:Pos} (hN:X.N[i]?=some x:=by rfl) (hv:Vis X.env.scope x:=by first|exact Or.inl rfl|exact Or.inr (Or.inl rfl)|exact Or.inr (Or.inr rfl)) (hd:(x==("__debug__" : Str))=false:=by decide)
  (hcd:(x==("__classdict__" : Str))=false:=by decide):jE3 X (.Name x pos) (v3 i):=
 ⟨qew (i:=i) (hN:=hN) (hv:=hv) (hd:=hd) (hcd:=hcd)⟩
def qd {X:Cx} {i:Int} {j pos}:jE3 X (.Constant (.int i) j pos) (c3 (.int i)):=
 ⟨qep ⟩
def NY {X:Cx} {b:Bool} {j pos}:jE3 X (.Constant (.bool b) j pos) (c3 (.bl b)):=
 ⟨qf4 ⟩
def qm {X:Cx} {x:Str} {j pos}:jE3 X (.Constant (.str x) j pos) (c3 (.str x)):=
 ⟨qeh ⟩
def qN {ta:TE3} {tb:TE3} {pos:Pos} {a:Expr} {b:Expr} {X:Cx} {op:CmpOp} {r3:R3} {r:R2} (ho:OpR X (compareOp op) r) (hr:XO X.K r3 r) (ha:jE3 X a ta) (hb:jE3 X b tb) (hm:behindInMarks op b=false):jC3 X (.Compare a [op] [b] pos) (tb3 (o3 r3 ta tb)):=
 ⟨qes (ho:=ho) (hr:=hr) (ha:=ha.h) (hb:=hb.h) (hm:=hm)⟩
def JX {ta:TE3} {tb:TE3} {pos:Pos} {a:Expr} {b:Expr} {X:Cx} (ha:jE3 X a ta) (hb:jE3 X b tb):jE3 X (.BinOp a .Mult b pos) (o3 (iC D8 (·*·)) ta tb):=
 ⟨qet (ha:=ha.h) (hb:=hb.h)⟩
def Z7 {ta:TE3} {tb:TE3} {pos:Pos} {a:Expr} {b:Expr} {X:Cx} (ha:jE3 X a ta) (hb:jE3 X b tb):jE3 X (.BinOp a .Mod b pos) (o3 (iC (λ_ j=>0<j) (·%·)) ta tb):=
 ⟨qeC (ha:=ha.h) (hb:=hb.h)⟩
def WN {ta:TE3} {tb:TE3} {pos:Pos} {a:Expr} {b:Expr} {X:Cx} (ha:jE3 X a ta) (hb:jE3 X b tb):jE3 X (.BinOp a .FloorDiv b pos) (o3 (iC NG (·/·)) ta tb):=
 ⟨qeM (ha:=ha.h) (hb:=hb.h)⟩
def qbv {ta:TE3} {tb:TE3} {pos:Pos} {a:Expr} {b:Expr} {X:Cx} (ha:jE3 X a ta) (hb:jE3 X b tb):jE3 X (.BinOp a .Pow b pos) (o3 (iC qdp (λi j=>i ^ j.toNat)) ta tb):=
 ⟨qdV (ha:=ha.h) (hb:=hb.h)⟩
def DP {ta:TE3} {pos:Pos} {a:Expr} {X:Cx} (ha:jE3 X a ta):jE3 X (.UnaryOp .USub a pos) (u3 DU ta):=
 ⟨qev (ha:=ha.h)⟩
def qav {tA:TT3} {pos:Pos} {a:Expr} {X:Cx} (ha:jC3 X a tA):jW3 X (.BoolOp .And [a] pos) tA:=
 ⟨qa6 (ha:=ha.h)⟩
def qbN {tA:TT3} {pos:Pos} {a:Expr} {X:Cx} (ha:jC3 X a tA):jW3 X (.BoolOp .Or [a] pos) tA:=
 ⟨qe3 (ha:=ha.h)⟩
def qch {QP:List Expr} {tA:TT3} {tB:TT3} {pos:Pos} {a:Expr} {X:Cx} (ha:jC3 X a tA) (hb:jW3 X (.BoolOp .And (b::QP) pos) tB):jW3 X (.BoolOp .And (a::b::QP) pos) (SS tA tB):=
 ⟨qd4 (ha:=ha.h) (hb:=hb.h)⟩
def qbH {QP:List Expr} {tA:TT3} {tB:TT3} {pos:Pos} {a:Expr} {X:Cx} (ha:jC3 X a tA) (hb:jW3 X (.BoolOp .Or (b::QP) pos) tB):jW3 X (.BoolOp .Or (a::b::QP) pos) (or3 tA tB):=
 ⟨qf1 (ha:=ha.h) (hb:=hb.h)⟩
def qa4 {tA:TT3} {pos:Pos} {a:Expr} {X:Cx} (ha:jC3 X a tA):jC3 X (.UnaryOp .Not a pos) (SV tA):=
 ⟨qek (ha:=ha.h)⟩
def qc1 {X:Cx} {e:Expr} {t:TE3} (h:jE3 X e t) (he:∀ whole,isTrue e X.env whole=(do let v←whole;standAt e.pos;holding [v] (truthy v)):=by intro _;rfl):jC3 X e (tb3 t):=
 ⟨qeu (h:=h.h) (he:=he)⟩
def NJ {tA:TT3} {ta:TE3} {tb:TE3} {pos:Pos} {a:Expr} {b:Expr} {X:Cx} {c:Expr} (hc:jC3 X c tA) (ha:jE3 X a ta) (hb:jE3 X b tb):jE3 X (.IfExp c a b pos) (if3 tA ta tb):=
 ⟨qgx (hc:=hc.h) (ha:=ha.h) (hb:=hb.h)⟩
def qe {X:Cx} :jA3 X [] qh:=
 ⟨qeJ ⟩
def qa {te:TE3} {t:TA3} {es:List Expr} {X:Cx} (ha:jE3 X e te) (hr:jA3 X es t) (hs:starEach (e::es) X.env=(false,eval e X.env)::starEach es X.env:=by rfl):jA3 X (e::es) (qb te t):=
 ⟨qdg (ha:=ha.h) (hr:=hr.h) (hs:=hs)⟩
def qs {t:TA3} {pos:Pos} {es:List Expr} {X:Cx} {x1} (h:jA3 X es t):jE3 X (.Tuple es x1 pos) (zp t):=
 ⟨qeL (h:=h.h)⟩
def zx {t:TA3} {pos:Pos} {es:List Expr} {X:Cx} (h:jA3 X es t):jE3 X (.List es pos) (ju t):=
 ⟨qeF (h:=h.h)⟩
def ZA {t:TA3} {pos:Pos} {es:List Expr} {X:Cx} {x:Str} {p:Pos} {id:String} {r3:List T->Gp->Q3->Prop} {r:List V->Hp->VK->Prop} (hc:Q4 X (.builtin id) r) (hr:CD X.K r3 r) (hg:Gl X x) (hm:X.mg x=none) (hv:bootBuiltins x=some (.builtin id)) (ha:jA3 X (e::es) t) (hn:x≠"__name__" := by decide) (hdb:(x==("__debug__" : Str))=false:=by decide)
  (he:starEach (e::es) X.env=(false,eval e X.env)::starEach es X.env:=by rfl) (hpl:(backTo pos (starEach es X.env)).any (·.1)=false:=by rfl):jE3 X (.Call (.Name x p) (e::es) [] pos) (cb3 r3 t):=
 ⟨NO (hc:=hc) (hr:=hr) (hg:=hg) (hm:=hm) (hv:=hv) (ha:=ha.h) (hn:=hn) (hdb:=hdb) (he:=he) (hpl:=hpl)⟩
def qL {t:TA3} {pos:Pos} {es:List Expr} {X:Cx} {x:Str} {p:Pos} {ty:String} {r3:List T->Gp->Q3->Prop} {r:List V->Hp->VK->Prop} (hc:Q4 X (.type ty) r) (hr:CD X.K r3 r) (hg:Gl X x) (hm:X.mg x=none) (hv:bootBuiltins x=some (.type ty)) (ha:jA3 X (e::es) t) (hn:x≠"__name__" := by decide) (hdb:(x==("__debug__" : Str))=false:=by decide)
  (he:starEach (e::es) X.env=(false,eval e X.env)::starEach es X.env:=by rfl) (hpl:(backTo pos (starEach es X.env)).any (·.1)=false:=by rfl):jE3 X (.Call (.Name x p) (e::es) [] pos) (cb3 r3 t):=
 ⟨T6 (hc:=hc) (hr:=hr) (hg:=hg) (hm:=hm) (hv:=hv) (ha:=ha.h) (hn:=hn) (hdb:=hdb) (he:=he) (hpl:=hpl)⟩
def zd {ta:TE3} {tb:TE3} {pos:Pos} {a:Expr} {b:Expr} {X:Cx} (ha:jE3 X a ta) (hb:jE3 X b tb) (hs:EL b:=by intro _ _;rfl):jE3 X (.Subscript a b pos) (o3 ix3 ta tb):=
 ⟨qgE (ha:=ha.h) (hb:=hb.h) (hs:=hs)⟩
def RP {X:Cx} :jP3 X none np3:=
 ⟨qc0 ⟩
def V0 {te:TE3} {e:Expr} {X:Cx} (h:jE3 X e te):jP3 X (some e) (sp3 te):=
 ⟨qaQ (h:=h.h)⟩
def qJ {ta:TE3} {tb:TE3} {pos:Pos} {a:Expr} {b:Expr} {X:Cx} (ha:jE3 X a ta) (hb:jE3 X b tb):jE3 X (.BinOp a .Add b pos) (o3 zN ta tb):=
 ⟨qbZ (ha:=ha.h) (hb:=hb.h)⟩
def JW {t:TA3} {e:Expr} {X:Cx} {o:Expr} {to:TE3} {apos cpos:Pos} (ho:jE3 X o to) (ha:jA3 X [e] t)
  (hbase:attributeBase o "append" X.env (eval o X.env)=eval o X.env:=by rfl)
  (hfew:((backTo cpos (starEach [e] X.env)).all (λx=>!x.1)&&(backToKw cpos (keywordEach [] X.env)).all (λx=>x.1.isSome)
   && decide (([e]:List Expr).length+([]:List Keyword).length+(if ([]:List Keyword).isEmpty then 0 else 1)<30))=true:=by rfl)
  (hline:(apos.endLine==cpos.line)=true:=by rfl) (hs:starEach [e] X.env=(false,eval e X.env)::starEach [] X.env:=by rfl) (hplain:(backTo cpos (starEach [] X.env)).any (·.1)=false:=by rfl):jE3 X (.Call (.Attribute o "append" apos) [e] [] cpos) (bm3 EA to t):=
 ⟨TW (ho:=ho.h) (ha:=ha.h) (hbase:=hbase) (hfew:=hfew) (hline:=hline) (hs:=hs) (hplain:=hplain)⟩
def qdl {te:TE3} {pos:Pos} {e:Expr} {X:Cx} {tn:Str} {ty:String} {p p2:Pos} (he:jE3 X e te) (hg:Gl X "isinstance") (hm:X.mg "isinstance" = none) (hg2:Gl X tn) (hm2:X.mg tn=none) (hv:bootBuiltins tn=some (.type ty)) (hmem:ty∈DA:=by decide) (hn:tn≠"__name__" := by decide) (hdb:(tn==("__debug__" : Str))=false:=by decide)
  (hs:starEach [e,.Name tn p2] X.env=(false,eval e X.env)::starEach [.Name tn p2] X.env:=by rfl) (hs2:starEach [.Name tn p2] X.env=(false,eval (.Name tn p2) X.env)::starEach [] X.env:=by rfl) (hpl:(backTo pos (starEach [.Name tn p2] X.env)).any (·.1)=false:=by rfl):jE3 X (.Call (.Name "isinstance" p) [e,.Name tn p2] [] pos) (SW (λt=>W4 t ty) te):=
 ⟨qex (he:=he.h) (hg:=hg) (hm:=hm) (hg2:=hg2) (hm2:=hm2) (hv:=hv) (hmem:=hmem) (hn:=hn) (hdb:=hdb) (hs:=hs) (hs2:=hs2) (hpl:=hpl)⟩
def zi {X:Cx} :jB3 X [] qK:=
 ⟨qe1 ⟩
def qf {QP:List Stmt} {st:Stmt} {t1:TS3} {t2:TS3} {X:Cx} (h1:jS3 X st t1) (h2:jB3 X QP t2):jB3 X (st::QP) (qE t1 t2):=
 ⟨qbj (h1:=h1.h) (h2:=h2.h)⟩
def qq {st:Stmt} {t1:TS3} {X:Cx} (h1:jS3 X st t1):jB3 X [st] t1:=
 ⟨qeH (h1:=h1.h)⟩
def DF {te:TE3} {pos:Pos} {e:Expr} {X:Cx} (he:jE3 X e te) (hs:swapsWith e none pos.line X.env=pure false:=by rfl):jS3 X (.Expr e pos) (ZH te):=
 ⟨qbn (he:=he.h) (hs:=hs)⟩
def qC {te:TE3} {pos:Pos} {e:Expr} {X:Cx} (he:jE3 X e te):jS3 X (.Return (some e) pos) (qX te):=
 ⟨qel (he:=he.h)⟩
def ji {tA:TT3} {t1:TS3} {t2:TS3} {pos:Pos} {X:Cx} {c:Expr} {ba bb:List Stmt} (hc:jC3 X c tA) (ha:jB3 X ba t1) (hb:jB3 X bb t2):jS3 X (.If c ba bb pos) (zV tA t1 t2):=
 ⟨qgb (hc:=hc.h) (ha:=ha.h) (hb:=hb.h)⟩
def qQ {pos:Pos} {X:Cx} {i:Nat} {x:Str} (hN:X.N.Nodup) (hi:X.N[i]?=some x:=by rfl) (hx:Loc X.env.scope x:=by first|exact Or.inl rfl|exact Or.inr rfl) (hf:X.fn x=true\/X.env.scope.names.lookup x=some .local:=by first|exact .inl rfl|exact .inr rfl):jG3 X (.Name x pos) (gn3 i):=
 ⟨qcp (hN:=hN) (hi:=hi) (hx:=hx) (hf:=hf)⟩
def YL {X:Cx} :jGs3 X [] jA:=
 ⟨qdU ⟩
def zc {es:List Expr} {X:Cx} {tg:TG3} {tgs:VF} (h1:jG3 X e tg) (h2:jGs3 X es tgs) (hs:(assignEach (e::es) X.env).map (·.2)=assign e X.env::(assignEach es X.env).map (·.2):=by rfl):jGs3 X (e::es) (qI tg tgs):=
 ⟨qbG (h1:=h1.h) (h2:=h2.h) (hs:=hs)⟩
def YZ {pos:Pos} {es:List Expr} {X:Cx} {k:Nat} {tgs:VF} {n:Nat} (hc:X.calm=true) (h:jGs3 X es tgs) (hn:(assignEach es X.env).length=n:=by rfl) (hst:(assignEach es X.env).findIdx? (·.1)=none:=by rfl):jG3 X (.Tuple es k pos) (jB n tgs):=
 ⟨qeO (hc:=hc) (h:=h.h) (hn:=hn) (hst:=hst)⟩
def K8 {pos : Pos} {X : Cx} {o i : Expr} {to ti : TE3} (ho : jE3 X o to) (hi : jE3 X i ti) (ha : ∀ v,assign (.Subscript o i pos) X.env v = (do
      let ov←holding [v] (eval o X.env)
      let iv←holding [v,ov] (eval i X.env)
      standAt pos
      holding [v,ov,iv] (setItem ov iv v)
      release [v,ov,iv] []):=by intro _;rfl):jG3 X (.Subscript o i pos) (Q6 to ti):=
  ⟨qdM (ho:=ho.h) (hi:=hi.h) (ha:=ha)⟩
def YD {te:TE3} {pos:Pos} {X:Cx} {tg e:Expr} {g:TG3} (he:jE3 X e te) (hg:jG3 X tg g) (hs:swapsWithSole [tg] e pos.line X.env=pure false:=by rfl) (hw:swappedStores [tg] e X.env=pure none:=by rfl)
  (h1:(assignEach [tg] X.env).map (·.2)=[assign tg X.env]:=by rfl):jS3 X (.Assign [tg] e pos) (qS te g):=
 ⟨qd0 (he:=he.h) (hg:=hg.h) (hs:=hs) (hw:=hw) (h1:=h1)⟩
def qR {te:TE3} {pos:Pos} {X:Cx} (i:Nat) {x:Str} {e:Expr} {pos':Pos} (hN:X.N.Nodup) (he:jE3 X e te) (hi:X.N[i]?=some x:=by rfl) (hx:Loc X.env.scope x:=by first|exact Or.inl rfl|exact Or.inr rfl) (hs:swapsWith e (some (.Name x pos')) pos.line X.env=pure false:=by rfl) (hf:X.fn x=true\/X.env.scope.names.lookup x=some .local:=by first|exact .inl rfl|exact .inr rfl):jS3 X (.Assign [.Name x pos'] e pos) (qS te (gn3 i)):=
 ⟨qeP (i:=i) (hN:=hN) (he:=he.h) (hi:=hi) (hx:=hx) (hs:=hs) (hf:=hf)⟩
def Y8 {pos:Pos} {X:Cx} {i j:Nat} {x y:Str} {a b:Expr} {tt:TA3} {px py pt:Pos} {kt k2 pt2} (hc:X.calm=true) (hN:X.N.Nodup) (hi:X.N[i]?=some x) (hj:X.N[j]?=some y) (hij:i≠j)
  (hx:X.env.scope.names.lookup x=some .local) (hy:X.env.scope.names.lookup y=some .local) (ha:jA3 X [a,b] tt)
  (hw:swappedStores [.Tuple [.Name x px,.Name y py] kt pt] (.Tuple [a,b] k2 pt2) X.env=pure (some [x,y]):=by rfl)
  (hs:swapsWithSole [.Tuple [.Name x px,.Name y py] kt pt] (.Tuple [a,b] k2 pt2) pos.line X.env=pure false:=by rfl):jS3 X (.Assign [.Tuple [.Name x px,.Name y py] kt pt] (.Tuple [a,b] k2 pt2) pos) (YO i j tt):=
 ⟨qe8 (hc:=hc) (hN:=hN) (hi:=hi) (hj:=hj) (hij:=hij) (hx:=hx) (hy:=hy) (ha:=ha.h) (hw:=hw) (hs:=hs)⟩
def ZK {te:TE3} {X:Cx} {tg:Expr} {l:Expr} (hl:jE3 X l te):jI3 X tg l (QK te):=
 ⟨qeo (hl:=hl.h)⟩
def zb {t:TA3} {pos:Pos} {a:Expr} {X:Cx} {tg:Expr} {p:Pos} (hg:Gl X "range") (hm:X.mg "range" = none) (ha:jA3 X [a] t) (hs:starEach [a] X.env=[(false,eval a X.env)]:=by rfl) (h1:∀ τ G q,t τ G q->t τ G λxs G=>q xs G/\xs.length=1):jI3 X tg (.Call (.Name "range" p) [a] [] pos) (zQ t):=
 ⟨KI (hg:=hg) (hm:=hm) (ha:=ha.h) (hs:=hs) (h1:=h1)⟩
def Y7 {pos:Pos} {X:Cx} {tg:Expr} {iter:Expr} {body:List Stmt} {wi:TI3} {g:TG3} {tb:TS3} (hp:PassesOwn (model X.prog X.w) X.A X.env X.xe) (hc:X.calm=true) (hi:jI3 X tg iter wi) (hg:jG3 X tg g) (hb:jB3 X body tb)
  (hs:∀ x,foldedSetIterable iter X.env x=pure x:=by intro _;rfl):jS3 X (.For tg iter body [] pos) (U8 wi g tb):=
 ⟨qeI (hp:=hp) (hc:=hc) (hi:=hi.h) (hg:=hg.h) (hb:=hb.h) (hs:=hs)⟩
def S4 {pos:Pos} {X:Cx} {c:Expr} {body:List Stmt} {tc:TT3} {tb:TS3} (hp:PassesOwn (model X.prog X.w) X.A X.env X.xe) (hc:jC3 X c tc) (hb:jB3 X body tb):jS3 X (.While c body [] pos) (WE tc tb):=
 ⟨NI (hp:=hp) (hc:=hc.h) (hb:=hb.h)⟩
def qg {t:TA3} {pos:Pos} {es:List Expr} {X:Cx} {k:Nat} {x:Str} {p:Pos} {sp:Sp3} (F:Fn3 X.prog X.w X.K X.mg X.base k x sp) (hr:Room k X.A) (hg:Gl X x) (ha:jA3 X (e::es) t) (hdb:(x==("__debug__" : Str))=false:=by decide)
  (he:starEach (e::es) X.env=(false,eval e X.env)::starEach es X.env:=by rfl) (hpl:(backTo pos (starEach es X.env)).any (·.1)=false:=by rfl):jE3 X (.Call (.Name x p) (e::es) [] pos) (cb3 sp t):=
 ⟨qbM (F:=F) (hr:=hr) (hg:=hg) (ha:=ha.h) (hdb:=hdb) (he:=he) (hpl:=hpl)⟩
def YG {X:Cx} {elt tg iter:Expr} {ifs:List Expr} {scope:Scope} {pos:Pos} (N':List Str) (m:List (Option Nat)) {wi:TI3} {g:TG3} {tif:TT3} {te:TE3} (hc:X.calm=true) (hi:jI3 X tg iter wi)
  (hg:∀ s H fp,jG3 (qo X N' scope s H fp) tg g) (hf:∀ s H fp,jF3 (qo X N' scope s H fp) ifs tif) (he:∀ s H fp,jE3 (qo X N' scope s H fp) elt te)
  (hsc:T3 X.env.scope scope=true) (hcap:JK X.N N' scope m=true) (hs:∀ x,foldedSetIterable iter X.env x=pure x:=by intro _;rfl):jE3 X (.ListComp elt [⟨tg,iter,ifs,0⟩] scope pos) (lc3 wi g tif te m):=
 ⟨qga (N':=N') (m:=m) (hc:=hc) (hi:=hi.h) (hg:=(λs H fp=>(hg s H fp).h)) (hf:=(λs H fp=>(hf s H fp).h)) (he:=(λs H fp=>(he s H fp).h)) (hsc:=hsc) (hcap:=hcap) (hs:=hs)⟩
def jp {X:Cx}:jF3 X [] tt3:=
 ⟨qeT ⟩
def qb2 {X:Cx} {c:Expr} {t:TT3} (h:jC3 X c t):jF3 X [c] t:=
 ⟨qe6 (h:=h.h)⟩
def qan {t:TA3} {pos:Pos} {es:List Expr} {a:Expr} {X:Cx} {p pt:Pos} {k1:Nat} (hg:Gl X "enumerate") (hm:X.mg "enumerate" = none) (ha:jA3 X [a] t) (hs:starEach [a] X.env=[(false,eval a X.env)]:=by rfl):jI3 X (.Tuple es k1 pt) (.Call (.Name "enumerate" p) [a] [] pos) (WT t):=
 ⟨qdc (hg:=hg) (hm:=hm) (ha:=ha.h) (hs:=hs)⟩
def JN {X:Cx} {py spos:Pos} {elt tg iter:Expr} {ifs:List Expr} {scope:Scope} {pos:Pos} {y:Str} (i:Nat) (N':List Str) (m:List (Option Nat)) {wi:TI3} {g:TG3} {tif:TT3} {te:TE3} (hc:X.calm=true) (hN:X.N.Nodup) (hi:jI3 X tg iter wi)
  (hg:∀ s H fp,jG3 (qo X N' scope s H fp) tg g) (hf:∀ s H fp,jF3 (qo X N' scope s H fp) ifs tif) (he:∀ s H fp,jE3 (qo X N' scope s H fp) elt te)
  (hsc:T3 X.env.scope scope=true) (hcap:JK X.N N' scope m=true) (hl:X.env.scope.names.lookup y=some .local) (hsw:swapsWith (.ListComp elt [⟨tg,iter,ifs,0⟩] scope pos) (some (.Name y py)) spos.line X.env=pure true) (hiy:X.N[i]?=some y:=by rfl) (hs:∀ x,foldedSetIterable iter X.env x=pure x:=by intro _;rfl):jS3 X (.Assign [.Name y py] (.ListComp elt [⟨tg,iter,ifs,0⟩] scope pos) spos) (qS (lc3 wi g tif te m) (gn3 i)):=
 ⟨qax (i:=i) (N':=N') (m:=m) (hc:=hc) (hN:=hN) (hi:=hi.h) (hg:=(λs H fp=>(hg s H fp).h)) (hf:=(λs H fp=>(hf s H fp).h)) (he:=(λs H fp=>(he s H fp).h)) (hsc:=hsc) (hcap:=hcap) (hl:=hl) (hsw:=hsw) (hiy:=hiy) (hs:=hs)⟩
def jpt {X:Cx} {e:Expr} {t:TT3} (h:jW3 X e t):jC3 X e t:=⟨PW.pt h.h⟩
def zl {P:Program} {w:World} {K:Frg} {mg:Str->Option Value} {base:Heap} {x qual:Str} {st:Stmt} {f:Addr} {fd:FuncData} {N ps:List Str} {k:Nat} {sp:Sp3} {t3:TS3} (F:Fun K x qual st f fd) (S:FnScope N ps (qi st)) (bd:zY K fd ps []) (hm:mg x=some (.ref f))
  (body:∀ (cdv:Value) (A:Around) (outer:List Env) (s:Shared) (H:Hp) (E:XK),Room k (A.deeper (envOfC qual (qi st) s.heap.objs.size f cdv)) ->
   jB3 (SR CX0 P w K mg base N qual (qi st) f cdv A outer s H E).nox (zF st) t3)
  (read:∀ ts G q,sp ts G q->ts.length=ps.length/\t3 { nx:=λ_ G'=>q .non G',rt:=q } (qk N ts) G):Fn3 P w K mg base (k+1) x sp:=
 qbU F S bd hm (λcdv A outer s H E hr=>(body cdv A outer s H E hr).h) read
def S8 {P:Program} {w:World} {K:Frg} {mg:Str->Option Value} {base:Heap} {x qual:Str} {st:Stmt} {f:Addr} {fd:FuncData} {N ps:List Str} {k:Nat} {sp:Sp3} {t3:TS3} (F:Fun K x qual st f fd) (S:FnScope N ps (qi st))
  (body:∀ (cdv:Value) (A:Around) (outer:List Env) (s:Shared) (H:Hp) (E:XK),Room k (A.deeper (envOfC qual (qi st) s.heap.objs.size f cdv)) ->
   jB3 (SR CX0 P w K mg base N qual (qi st) f cdv A outer s H E).nox (zF st) t3)
  (read:∀ ts G q,sp ts G q->ts.length=ps.length/\t3 { nx:=λ_ G'=>q .non G',rt:=q } (qk N ts) G):FnOk P w K mg base CX0 (k+1) f fd ps (lSp K sp):=
 NW F S (λcdv A outer s H E hr=>(body cdv A outer s H E hr).h) read
open PySem.SeqAt
def Ex (G G':Gp):Prop:=∀ b o,G b=some o->G' b=some o
def Ex.refl {G:Gp}:Ex G G:=λ_ _ e=>e
def Ex.trans {G G1 G2:Gp} (a:Ex G G1) (b:Ex G1 G2):Ex G G2:=λx o e=>b x o (a x o e)
def ZD {G:Gp} {p:Addr} {o:O} (hp:G p=none):Ex G (gu G p o):=λb ob e=>by
 rw [zz (by rintro rfl;rw [hp] at e;cases e)];exact e
mutual
inductive Dp (G:Gp):T->PyData->Prop
 |non:Dp G .non .none
 |bl (b:Bool):Dp G (.bl b) (.bool b)
 |int (i:Int):Dp G (.int i) (.int i)
 |str (x:Str):Dp G (.str x) (.str x)
 |tup {xs:List T} {ds:List PyData}:Dps G xs ds->Dp G (.tup xs) (.tuple ds)
 |lst {p:Addr} {xs:List T} {ds:List PyData}:getL G p=some xs->Dps G xs ds->Dp G (.ref p) (.list ds)
inductive Dps (G:Gp):List T->List PyData->Prop
 |nil:Dps G [] []
 |cons {x:T} {d:PyData} {xs:List T} {ds:List PyData}:Dp G x d->Dps G xs ds->Dps G (x::xs) (d::ds)
end
def Ex.getL {G G':Gp} (e:Ex G G') {p:Addr} {xs:List T} (h:getL G p=some xs):getL G' p=some xs:=by
 unfold L3.getL at h ⊢;split at h
 ·rename_i ys g;cases h;rw [e _ _ g]
 ·rename_i ys g;cases h;rw [e _ _ g]
 ·cases h
mutual
inductive DV (K:Frg) (H:Hp):V->PyData->Prop
 |non:DV K H .non .none
 |bl (b:Bool):DV K H (.bl b) (.bool b)
 |int (i:Int):DV K H (.int i) (.int i)
 |str (x:Str):DV K H (.str x) (.str x)
 |tup {a:Addr} {vs:List V} {ds:List PyData}:SqT K H a vs->DVs K H vs ds->DV K H (.ref a) (.tuple ds)
 |lst {a:Addr} {vs:List V} {ds:List PyData}:SqL K H a vs->DVs K H vs ds->DV K H (.ref a) (.list ds)
inductive DVs (K:Frg) (H:Hp):List V->List PyData->Prop
 |nil:DVs K H [] []
 |cons {x:V} {d:PyData} {xs:List V} {ds:List PyData}:DV K H x d->DVs K H xs ds->DVs K H (x::xs) (d::ds)
end
mutual
def Dp.dv {K:Frg} {G:Gp} {H:Hp} (hr:HR K G H):∀ {x:T} {d:PyData} {v:V},Dp G x d->Rp K H x v->DV K H v d
 |_,_,_,.non,.non=>.non
 |_,_,_,.bl b,.bl _=>.bl b
 |_,_,_,.int i,.int _=>.int i
 |_,_,_,.str x,.str _=>.str x
 |_,_,_,.tup h,.tup hs rs=>.tup hs (Dps.dv hr h rs)
 |_,_,_,.lst g h,r=>by
  cases r;obtain ⟨_,hs,rs⟩:=zH hr g;exact .lst hs (Dps.dv hr h rs)
def Dps.dv {K:Frg} {G:Gp} {H:Hp} (hr:HR K G H):∀ {x:List T} {d:List PyData} {v:List V},Dps G x d->Rps K H x v->DVs K H v d
 |_,_,_,.nil,.nil=>.nil
 |_,_,_,.cons a b,.cons c d=>.cons (Dp.dv hr a c) (Dps.dv hr b d)
end
mutual
def zE:PyData->PyData->Option Bool
 |.none,.none=>some true
 |.bool a,.bool b=>some (a==b)
 |.int a,.int b=>some (a==b)
 |.str a,.str b=>some (a==b)
 |.list xs,.list ys=>ZR xs ys
 |.tuple xs,.tuple ys=>ZR xs ys
 |.int _,.none=>some false
 |.none,.int _=>some false
 |_,_=>none
def ZR:List PyData->List PyData->Option Bool
 |[],[]=>some true
 |x::xs,y::ys=>match zE x y,ZR xs ys with|some a,some b=>some (a&&b)|_,_=>none
 |_,_=>some false
end
mutual
def dpt:PyData->Nat
 |.list xs=>VQ xs+1
 |.tuple xs=>VQ xs+1
 |_=>0
def VQ:List PyData->Nat
 |[]=>0
 |x::xs=>max (dpt x) (VQ xs)
end
section
variable {X:Cx} {pins:List (Addr×Obj)} {σ:L2.St} {H:Hp} {s:Shared}
mutual
def DV.inj (I:Inv X pins σ H s):∀ {v:V} {d e:PyData},DV X.K H v d->DV X.K H v e->d=e
 |_,_,_,.non,.non=>rfl
 |_,_,_,.bl _,.bl _=>rfl
 |_,_,_,.int _,.int _=>rfl
 |_,_,_,.str _,.str _=>rfl
 |_,_,_,.tup h hs,.tup k ks=>by
  have:=I.tuple_inj h k;subst this;rw [DVs.inj I hs ks]
 |_,_,_,.lst h hs,.lst k ks=>by
  have:=I.list_inj h k;subst this;rw [DVs.inj I hs ks]
 |_,_,_,.tup h hs,.lst k ks=>by
  obtain ⟨i1,_,p1,_⟩:=I.tuple h;obtain ⟨i2,_,p2,_⟩:=I.list k;exact absurd rfl (ne_of_list_tuple p2.isList (show s.heap.IsTuple _ i1.toArray from p1))
 |_,_,_,.lst k ks,.tup h hs=>by
  obtain ⟨i1,_,p1,_⟩:=I.tuple h;obtain ⟨i2,_,p2,_⟩:=I.list k;exact absurd rfl (ne_of_list_tuple p2.isList (show s.heap.IsTuple _ i1.toArray from p1))
def DVs.inj (I:Inv X pins σ H s):∀ {v:List V} {d e:List PyData},DVs X.K H v d->DVs X.K H v e->d=e
 |_,_,_,.nil,.nil=>rfl
 |_,_,_,.cons a b,.cons c d=>by rw [DV.inj I a c,DVs.inj I b d]
end
mutual
def UL:∀ {d:PyData} {b:Bool},zE d d=some b->b=true
 |.none,_,h=>by simp [zE] at h;exact h
 |.bool _,_,h=>by simp [zE] at h;exact h
 |.int _,_,h=>by simp [zE] at h;exact h
 |.str _,_,h=>by simp [zE] at h;exact h
 |.list xs,_,h=>by simp only [zE] at h;exact Z3 h
 |.tuple xs,_,h=>by simp only [zE] at h;exact Z3 h
 |.dict _,_,h=>by simp [zE] at h
def Z3:∀ {d:List PyData} {b:Bool},ZR d d=some b->b=true
 |[],_,h=>by simp [ZR] at h;exact h
 |x::xs,b,h=>by
  simp only [ZR] at h;split at h
  ·rename_i a c e1 e2;rw [UL e1,Z3 e2] at h;simpa using h.symm
  ·cases h
end
def jV:∀ {xs ys:List PyData} {b:Bool},ZR xs ys=some b->xs.length=ys.length->∃ e:Nat->Bool,(∀ (j:Nat) x y,xs[j]?=some x->ys[j]?=some y->zE x y=some (e j))/\b=(List.range xs.length).all e
 |[],[],b,h,_=>by simp [ZR] at h;exact ⟨λ_=>true,by simp,by simp [h]⟩
 |x::xs,y::ys,b,h,hl=>by
  simp only [ZR] at h;split at h
  ·rename_i a c e1 e2;obtain ⟨e,h1,h2⟩:=jV e2 (by simpa using hl);refine ⟨λj=>match j with|0=>a|j+1=>e j,λj u v hu hv=>?_,?_⟩
   ·cases j with
    |zero=>simp at hu hv;subst hu;subst hv;exact e1
    |succ j=>exact h1 j u v (by simpa using hu) (by simpa using hv)
   ·rw [length_cons,List.range_succ_eq_map,List.all_cons,List.all_map];cases h;rw [h2];rfl
  ·cases h
 |[],_::_,_,_,hl=>by simp at hl
 |_::_,[],_,_,hl=>by simp at hl
def j0:∀ {xs ys:List PyData} {b:Bool},ZR xs ys=some b->xs.length≠ys.length->b=false/\∃ e:Nat->Bool,∀ (j:Nat) x y,xs[j]?=some x->ys[j]?=some y->zE x y=some (e j)
 |[],[],_,_,hl=>by simp at hl
 |[],_::_,b,h,_=>by simp [ZR] at h;exact ⟨h,λ_=>true,by simp⟩
 |_::_,[],b,h,_=>by simp [ZR] at h;exact ⟨h,λ_=>true,by simp⟩
 |x::xs,y::ys,b,h,hl=>by
  simp only [ZR] at h;split at h
  ·rename_i a c e1 e2;obtain ⟨h0,e,h1⟩:=j0 e2 (by simpa using hl);subst h0;refine ⟨by simpa using h.symm,λj=>match j with|0=>a|j+1=>e j,λj u v hu hv=>?_⟩;cases j with
   |zero=>simp at hu hv;subst hu;subst hv;exact e1
   |succ j=>exact h1 j u v (by simpa using hu) (by simpa using hv)
  ·cases h
def jM:∀ {xs:List PyData} {x:PyData},x∈xs->dpt x<=VQ xs
 |[],_,h=>by simp at h
 |y::ys,x,h=>by
  simp only [VQ];rcases mem_cons.mp h with e|e
  ·subst e;omega
  ·have:=jM e;omega
def DVs.get {K:Frg} {H:Hp}:∀ {xs:List V} {ds:List PyData} {i:Nat} {x:V},DVs K H xs ds->xs[i]?=some x->∃ d,ds[i]?=some d/\DV K H x d
 |_,_,_,_,.nil,e=>by simp at e
 |_,_,0,_,.cons r _,e=>by simp at e;subst e;exact ⟨_,rfl,r⟩
 |_,_,i+1,x,.cons _ t,e=>by
  obtain ⟨u,h1,h2⟩:=DVs.get (i:=i) (x:=x) t (by simpa using e);exact ⟨u,by simpa using h1,h2⟩
def DVs.length {K:Frg} {H:Hp}:∀ {xs:List V} {ds:List PyData},DVs K H xs ds->xs.length=ds.length
 |_,_,.nil=>rfl
 |_,_,.cons _ b=>by simp [DVs.length b]
def zX {vs:List V} {us:List Value} (r:zq vs us) {j:Nat} (h:j<us.toArray.size):∃ v,vs[j]?=some v/\zW v us.toArray[j]:=by
 have hj:j<vs.length:=by rw [r.length];simpa using h
 obtain ⟨u,hu,ru⟩:=r.get (getElem?_eq_getElem hj);refine ⟨vs[j],getElem?_eq_getElem hj,?_⟩;have hj2:j<us.length:=by simpa using h
 rw [getElem?_eq_getElem hj2] at hu;have:us[j]=u:=Option.some.inj hu;simpa [this] using ru
def EK (I:Inv X pins σ H s):∀ (n:Nat) {v u:V} {d e:PyData} {b:Bool} {x y:Value} {A:Around},DV X.K H v d->DV X.K H u e->zE d e=some b->dpt d<=n->A.units+n<cLine->zW v x->zW u y ->
  RcAt A s x y b/\EqAt A s x y b:=by
 intro n;induction n with
 |zero=>
  intro v u d e b x y A hv hu h hd hn rx ry;cases hv with
  |non=>
   cases hu with
   |non=>simp [zE] at h;subst h;cases (show x=Value.none from rx);cases (show y=Value.none from ry);exact ⟨RcAt.none_none,EqAt.same _⟩
   |int c=>simp [zE] at h;subst h;cases (show x=Value.none from rx);obtain ⟨t',rfl⟩:=(show ∃ t,y=Value.int _ t from ry);exact ⟨RcAt.none_int _ _,EqAt.none_int _ _⟩
   |bl _=>simp [zE] at h
   |str _=>simp [zE] at h
   |tup _ _=>simp [zE] at h
   |lst _ _=>simp [zE] at h
  |bl a=>cases hu<;>simp [zE] at h;subst h;cases (show x=Value.bool _ from rx);cases (show y=Value.bool _ from ry);exact ⟨RcAt.bool_bool _ _,EqAt.bool_bool _ _⟩
  |int a=>
   cases hu with
   |int c=>simp [zE] at h;subst h;obtain ⟨t,rfl⟩:=(show ∃ t,x=Value.int _ t from rx);obtain ⟨t',rfl⟩:=(show ∃ t,y=Value.int _ t from ry);exact ⟨RcAt.int_int _ _ _ _,EqAt.int_int _ _ _ _⟩
   |non=>simp [zE] at h;subst h;obtain ⟨t,rfl⟩:=(show ∃ t,x=Value.int _ t from rx);cases (show y=Value.none from ry);exact ⟨RcAt.int_none _ _,EqAt.int_none _ _⟩
   |bl _=>simp [zE] at h
   |str _=>simp [zE] at h
   |tup _ _=>simp [zE] at h
   |lst _ _=>simp [zE] at h
  |str a=>cases hu<;>simp [zE] at h;subst h;obtain ⟨t,rfl⟩:=(show ∃ t,x=Value.str _ t from rx);obtain ⟨t',rfl⟩:=(show ∃ t,y=Value.str _ t from ry);exact ⟨RcAt.str_str _ _ _ _,EqAt.str_str _ _ _ _⟩
  |tup=>simp [dpt] at hd
  |lst=>simp [dpt] at hd
 |succ n ih=>
  intro v u d e b x y A hv hu h hd hn rx ry;have fin:∀ {l l':Addr} {k:Bool},x=.ref l->y=.ref l'->v=.ref l->u=.ref l'->b=k->RcAt A s x y k->RcAt A s x y b/\EqAt A s x y b:=by
   rintro l l' k rfl rfl rfl rfl rfl rc;refine ⟨rc,?_⟩;by_cases hll:l=l'
   ·subst hll;have:=DV.inj I hv hu;subst this;rw [UL h];exact EqAt.same _
   ·exact EqAt.of_refs hll rc
  cases hv with
  |non=>
   cases hu with
   |non=>simp [zE] at h;subst h;cases (show x=Value.none from rx);cases (show y=Value.none from ry);exact ⟨RcAt.none_none,EqAt.same _⟩
   |int c=>simp [zE] at h;subst h;cases (show x=Value.none from rx);obtain ⟨t',rfl⟩:=(show ∃ t,y=Value.int _ t from ry);exact ⟨RcAt.none_int _ _,EqAt.none_int _ _⟩
   |bl _=>simp [zE] at h
   |str _=>simp [zE] at h
   |tup _ _=>simp [zE] at h
   |lst _ _=>simp [zE] at h
  |bl a=>cases hu<;>simp [zE] at h;subst h;cases (show x=Value.bool _ from rx);cases (show y=Value.bool _ from ry);exact ⟨RcAt.bool_bool _ _,EqAt.bool_bool _ _⟩
  |int a=>
   cases hu with
   |int c=>simp [zE] at h;subst h;obtain ⟨t,rfl⟩:=(show ∃ t,x=Value.int _ t from rx);obtain ⟨t',rfl⟩:=(show ∃ t,y=Value.int _ t from ry);exact ⟨RcAt.int_int _ _ _ _,EqAt.int_int _ _ _ _⟩
   |non=>simp [zE] at h;subst h;obtain ⟨t,rfl⟩:=(show ∃ t,x=Value.int _ t from rx);cases (show y=Value.none from ry);exact ⟨RcAt.int_none _ _,EqAt.int_none _ _⟩
   |bl _=>simp [zE] at h
   |str _=>simp [zE] at h
   |tup _ _=>simp [zE] at h
   |lst _ _=>simp [zE] at h
  |str a=>cases hu<;>simp [zE] at h;subst h;obtain ⟨t,rfl⟩:=(show ∃ t,x=Value.str _ t from rx);obtain ⟨t',rfl⟩:=(show ∃ t,y=Value.str _ t from ry);exact ⟨RcAt.str_str _ _ _ _,EqAt.str_str _ _ _ _⟩
  |tup hq hs=>
   cases hu with
   |tup kq ks=>
    rename_i a1 vs1 ds1 a2 vs2 ds2;simp only [zE] at h;obtain ⟨i1,r1,p1,z1⟩:=I.tuple hq;obtain ⟨i2,r2,p2,z2⟩:=I.tuple kq;have l1:=hs.length;have l2:=ks.length;have m1:=r1.length;have m2:=r2.length;have el:∀ (e:Nat->Bool),(∀ (j:Nat) x y,ds1[j]?=some x->ds2[j]?=some y->zE x y=some (e j))->∀ j (h1:j<i1.toArray.size) (h2:j<i2.toArray.size),EqAt A.in1 s i1.toArray[j] i2.toArray[j] (e j):=λe he j h1 h2=>by
     obtain ⟨w1,g1,q1⟩:=zX r1 h1;obtain ⟨w2,g2,q2⟩:=zX r2 h2;obtain ⟨d1,f1,dv1⟩:=hs.get g1;obtain ⟨d2,f2,dv2⟩:=ks.get g2;have:=jM (mem_of_getElem? f1);exact (ih dv1 dv2 (he j d1 d2 f1 f2) (by simp only [dpt] at hd;omega) (show A.units+1+n<cLine by omega) q1 q2).2
    cases (show x=Value.ref a1 from rx);cases (show y=Value.ref a2 from ry);by_cases hl:ds1.length=ds2.length
    ·obtain ⟨e,he,hb⟩:=jV h hl;refine fin rfl rfl rfl rfl (k:=(List.range (min i1.toArray.size i2.toArray.size)).all e&&i1.toArray.size==i2.toArray.size) ?_ (RcAt.tuples (show s.heap.IsTuple a1 i1.toArray from p1) (show s.heap.IsTuple a2 i2.toArray from p2) (by omega) (el e he));have e1:i1.toArray.size=ds1.length:=by rw [size_toArray];omega
     have e2:i2.toArray.size=ds1.length:=by rw [size_toArray];omega
     rw [e1,e2,hb];simp
    ·obtain ⟨hb,e,he⟩:=j0 h hl;refine fin rfl rfl rfl rfl (k:=(List.range (min i1.toArray.size i2.toArray.size)).all e&&i1.toArray.size==i2.toArray.size) ?_ (RcAt.tuples (show s.heap.IsTuple a1 i1.toArray from p1) (show s.heap.IsTuple a2 i2.toArray from p2) (by omega) (el e he));have e1:i1.toArray.size≠i2.toArray.size:=by rw [size_toArray,size_toArray];omega
     rw [hb];simp [e1];intro;omega
   |_=>simp [zE] at h
  |lst hq hs=>
   cases hu with
   |lst kq ks=>
    rename_i a1 vs1 ds1 a2 vs2 ds2;simp only [zE] at h;obtain ⟨i1,r1,p1,z1⟩:=I.list hq;obtain ⟨i2,r2,p2,z2⟩:=I.list kq;have l1:=hs.length;have l2:=ks.length;have m1:=r1.length;have m2:=r2.length;have el:∀ (e:Nat->Bool),(∀ (j:Nat) x y,ds1[j]?=some x->ds2[j]?=some y->zE x y=some (e j))->∀ j (h1:j<i1.toArray.size) (h2:j<i2.toArray.size),EqAt A.in1 s i1.toArray[j] i2.toArray[j] (e j):=λe he j h1 h2=>by
     obtain ⟨w1,g1,q1⟩:=zX r1 h1;obtain ⟨w2,g2,q2⟩:=zX r2 h2;obtain ⟨d1,f1,dv1⟩:=hs.get g1;obtain ⟨d2,f2,dv2⟩:=ks.get g2;have:=jM (mem_of_getElem? f1);exact (ih dv1 dv2 (he j d1 d2 f1 f2) (by simp only [dpt] at hd;omega) (show A.units+1+n<cLine by omega) q1 q2).2
    cases (show x=Value.ref a1 from rx);cases (show y=Value.ref a2 from ry);by_cases hl:ds1.length=ds2.length
    ·obtain ⟨e,he,hb⟩:=jV h hl;refine fin rfl rfl rfl rfl (k:=(List.range i1.toArray.size).all e) ?_ (RcAt.lists p1.isList p2.isList (by rw [size_toArray,size_toArray];omega) (by omega) (el e he));have e1:i1.toArray.size=ds1.length:=by rw [size_toArray];omega
     rw [e1,hb]
    ·obtain ⟨hb,e,he⟩:=j0 h hl;refine fin rfl rfl rfl rfl (k:=false) hb (RcAt.lists_lengths p1.isList p2.isList (by rw [size_toArray,size_toArray];simp;omega) (by omega))
   |_=>simp [zE] at h
def qai (I:Inv X pins σ H s) {n:Nat} {v u:V} {d e:PyData} {b:Bool} {x y:Value} {A:Around} (hv:DV X.K H v d) (hu:DV X.K H u e) (h:zE d e=some b) (hd:dpt d<=n+1) (hn:A.units+(n+1)<cLine) (rx:zW v x) (ry:zW u y) (hs:dpt d≠0):RcNeAt A s x y (!b):=by
 cases hv with
 |tup hq hs'=>
  cases hu with
  |tup kq ks=>
   rename_i a1 vs1 ds1 a2 vs2 ds2;simp only [zE] at h;obtain ⟨i1,r1,p1,z1⟩:=I.tuple hq;obtain ⟨i2,r2,p2,z2⟩:=I.tuple kq;have l1:=hs'.length;have l2:=ks.length;have m1:=r1.length;have m2:=r2.length;have el:∀ (e:Nat->Bool),(∀ (j:Nat) x y,ds1[j]?=some x->ds2[j]?=some y->zE x y=some (e j))->∀ j (h1:j<i1.toArray.size) (h2:j<i2.toArray.size),EqAt A.in1 s i1.toArray[j] i2.toArray[j] (e j):=λe he j h1 h2=>by
    obtain ⟨w1,g1,q1⟩:=zX r1 h1;obtain ⟨w2,g2,q2⟩:=zX r2 h2;obtain ⟨d1,f1,dv1⟩:=hs'.get g1;obtain ⟨d2,f2,dv2⟩:=ks.get g2;have:=jM (mem_of_getElem? f1);exact (EK I n dv1 dv2 (he j d1 d2 f1 f2) (by simp only [dpt] at hd;omega) (show A.units+1+n<cLine by omega) q1 q2).2
   cases (show x=Value.ref a1 from rx);cases (show y=Value.ref a2 from ry);by_cases hl:ds1.length=ds2.length
   ·obtain ⟨e,he,hb⟩:=jV h hl;have:=RcNeAt.tuples (show s.heap.IsTuple a1 i1.toArray from p1) (show s.heap.IsTuple a2 i2.toArray from p2) (A:=A) (by omega) (el e he);have e1:i1.toArray.size=ds1.length:=by rw [size_toArray];omega
    have e2:i2.toArray.size=ds1.length:=by rw [size_toArray];omega
    rw [e1,e2] at this;rw [hb];simpa using this
   ·obtain ⟨hb,e,he⟩:=j0 h hl;have:=RcNeAt.tuples (show s.heap.IsTuple a1 i1.toArray from p1) (show s.heap.IsTuple a2 i2.toArray from p2) (A:=A) (by omega) (el e he);have e1:(i1.toArray.size==i2.toArray.size)=false:=by rw [size_toArray,size_toArray];simp;omega
    rw [e1] at this;rw [hb];simpa using this
  |_=>simp [zE] at h
 |lst hq hs'=>
  cases hu with
  |lst kq ks=>
   rename_i a1 vs1 ds1 a2 vs2 ds2;simp only [zE] at h;obtain ⟨i1,r1,p1,z1⟩:=I.list hq;obtain ⟨i2,r2,p2,z2⟩:=I.list kq;have l1:=hs'.length;have l2:=ks.length;have m1:=r1.length;have m2:=r2.length;have el:∀ (e:Nat->Bool),(∀ (j:Nat) x y,ds1[j]?=some x->ds2[j]?=some y->zE x y=some (e j))->∀ j (h1:j<i1.toArray.size) (h2:j<i2.toArray.size),EqAt A.in1 s i1.toArray[j] i2.toArray[j] (e j):=λe he j h1 h2=>by
    obtain ⟨w1,g1,q1⟩:=zX r1 h1;obtain ⟨w2,g2,q2⟩:=zX r2 h2;obtain ⟨d1,f1,dv1⟩:=hs'.get g1;obtain ⟨d2,f2,dv2⟩:=ks.get g2;have:=jM (mem_of_getElem? f1);exact (EK I n dv1 dv2 (he j d1 d2 f1 f2) (by simp only [dpt] at hd;omega) (show A.units+1+n<cLine by omega) q1 q2).2
   cases (show x=Value.ref a1 from rx);cases (show y=Value.ref a2 from ry);by_cases hl:ds1.length=ds2.length
   ·obtain ⟨e,he,hb⟩:=jV h hl;have:=RcNeAt.lists p1.isList p2.isList (A:=A) (by rw [size_toArray,size_toArray];omega) (by omega) (el e he);have e1:i1.toArray.size=ds1.length:=by rw [size_toArray];omega
    rw [e1] at this;rw [hb];exact this
   ·obtain ⟨hb,e,he⟩:=j0 h hl;rw [hb];exact RcNeAt.lists_lengths p1.isList p2.isList (by rw [size_toArray,size_toArray];simp;omega) (by omega)
  |_=>simp [zE] at h
 |_=>simp [dpt] at hs
def qaD (K:Frg) (neg:Bool):R2:=λx y H Q=>∃ d e b,DV K H x d/\DV K H y e/\zE d e=some b/\dpt d<=40/\dpt d≠0/\Q (.bl (if neg then !b else b)) H
def qdk (hu:X.A.units+64<cLine):OpR X (compareOp .Eq) (qaD X.K false):=by
 intro pins s σ H x y v u Q I rx ry h;obtain ⟨d,e,b,hx,hy,hb,hd,_,q⟩:=h;exact (EK I 40 hx hy hb hd (by omega) rx ry).1 X.prog X.w X.xe _ ⟨.bl b,H,I,rfl,q⟩
def qcR (hu:X.A.units+64<cLine):OpR X (compareOp .NotEq) (qaD X.K true):=by
 intro pins s σ H x y v u Q I rx ry h;obtain ⟨d,e,b,hx,hy,hb,hd,hs,q⟩:=h;exact qai I (n:=40) hx hy hb (by omega) (by omega) rx ry hs X.prog X.w X.xe _ ⟨.bl (!b),H,I,rfl,q⟩
end
def z6 (neg:Bool):R3:=λx y G q=>match jf x y with
 |some k=>q (.bl (if neg then !k else k)) G
 |none=>∃ d e b,Dp G x d/\Dp G y e/\zE d e=some b/\dpt d<=40/\dpt d≠0/\q (.bl (if neg then !b else b)) G
def zn {K:Frg}:XO K (z6 false) (λx y H Q=>rEq x y H Q\/qaD K false x y H Q):=λx y v u G H q Q hr rx ry h af=>by
 unfold z6 at h;split at h
 ·rename_i k e;obtain ⟨h1,h2⟩:=DS rx ry e;refine .inl ⟨h1,?_⟩;rw [h2];exact af _ G h _ H (.bl _) hr Kp.refl
 ·obtain ⟨d,e,b,h1,h2,h3,h4,h5,h6⟩:=h;exact .inr ⟨d,e,b,h1.dv hr rx,h2.dv hr ry,h3,h4,h5,af _ G h6 _ H (.bl _) hr Kp.refl⟩
def V2 {K:Frg}:XO K (z6 true) (λx y H Q=>rNe x y H Q\/qaD K true x y H Q):=λx y v u G H q Q hr rx ry h af=>by
 unfold z6 at h;split at h
 ·rename_i k e;obtain ⟨h1,h2⟩:=DS rx ry e;refine .inl ⟨h1,?_⟩;rw [h2];exact af _ G h _ H (.bl _) hr Kp.refl
 ·obtain ⟨d,e,b,h1,h2,h3,h4,h5,h6⟩:=h;exact .inr ⟨d,e,b,h1.dv hr rx,h2.dv hr ry,h3,h4,h5,af _ G h6 _ H (.bl _) hr Kp.refl⟩
def zZ {X:Cx} (hu:X.A.units+64<cLine):OpR X (compareOp .Eq) (λx y H Q=>rEq x y H Q\/qaD X.K false x y H Q):=qez.or (qdk hu)
def D4 {X:Cx} (hu:X.A.units+64<cLine):OpR X (compareOp .NotEq) (λx y H Q=>rNe x y H Q\/qaD X.K true x y H Q):=qer.or (qcR hu)
end L3
namespace L3
open PySem PySem.Spec PyProof.Rows L2
section
variable {X:Cx} {pins:List (Addr×Obj)} {σ:L2.St} {H:Hp} {s:Shared}
mutual
def DV.reads (I:Inv X pins σ H s):∀ {v:V} {d:PyData} {x:Value},DV X.K H v d->zW v x->∃ as,Reads s.heap x d as
 |_,_,x,.non,r=>by cases (show x=Value.none from r);exact ⟨_,.none⟩
 |_,_,x,.bl b,r=>by cases (show x=Value.bool b from r);exact ⟨_,.bool b⟩
 |_,_,x,.int i,r=>by obtain ⟨t,rfl⟩:=(show ∃ t,x=Value.int i t from r);exact ⟨_,.int i t⟩
 |_,_,x,.str y,r=>by obtain ⟨t,rfl⟩:=(show ∃ t,x=Value.str y t from r);exact ⟨_,.str y t⟩
 |_,_,x,.tup (a:=a) h hs,r=>by
  cases (show x=Value.ref a from r);obtain ⟨its,rv,⟨o,h1,h2,n,h3⟩,_⟩:=I.tuple h;obtain ⟨as,ra⟩:=DVs.reads I hs rv;exact ⟨as,.tuple h1 h2 h3 (by simpa using ra)⟩
 |_,_,x,.lst (a:=a) h hs,r=>by
  cases (show x=Value.ref a from r);obtain ⟨its,rv,p,_⟩:=I.list h;obtain ⟨o,h1,h2,n,h3⟩:=p.isList;obtain ⟨as,ra⟩:=DVs.reads I hs rv;exact ⟨a::as,.list h1 h2 h3 (by simpa using ra)⟩
def DVs.reads (I:Inv X pins σ H s):∀ {v:List V} {d:List PyData} {x:List Value},DVs X.K H v d->zq v x->∃ as,ReadsAll s.heap x d as
 |_,_,_,.nil,.nil=>⟨_,.nil⟩
 |_,_,_,.cons a b,.cons c d=>by
  obtain ⟨as,r1⟩:=DV.reads I a c;obtain ⟨bs,r2⟩:=DVs.reads I b d;exact ⟨_,.cons r1 r2⟩
end
structure ShOk (d:PyData):Prop where
 sh:d.showable=true
 nd:d.hasDict=false
 dp:d.depth<=40
 lv:d.leavesShort 13=true
 bk:d.bulk<=2 ^ 20
end
section
variable {X:Cx}
end
section
variable {prog:Program} {w:World} {A:Around} {R:Result->Shared->Prop} {s:Shared}
end
section
variable {X:Cx}
end
section
variable {K:Frg}
end
section
variable {X:Cx}
end
section
variable {X:Cx}
end
section
variable {X:Cx} {tg a b c:Expr} {pos:Pos}
end
section
variable {X:Cx}
end
section
variable {X:Cx} {a b:Expr} {ta tb:TE3} {pos:Pos}
structure ShW (d:PyData):Prop where
 sh:d.showable=true
 nd:d.hasDict=false
 dp:d.depth<=40
 fit:d.shown.length<=sizeLine
def ShOk.w {d:PyData} (h:ShOk d):ShW d:=⟨h.sh,h.nd,h.dp,PyData.shown_fits_bulk (by decide) (by decide) h.lv h.bk⟩
def SG (hg:X.A.guards=some []) (hu:X.A.units+64<cLine):Q4 X (.type "str") (λxs H Q=>∃ a d,xs=[.ref a]/\DV X.K H (.ref a) d/\ShW d/\Q (.str d.shown) H):=by
 intro pins s σ H xs us Q I r h;obtain ⟨a,d,rfl,dv,ok,q⟩:=h;obtain ⟨u,rfl,rp⟩:=EM r;cases (show u=Value.ref a from rp);obtain ⟨as,rd⟩:=dv.reads I (show zW (.ref a) (.ref a) from rfl);refine str_of_reads rd ok.sh (PyData.noDict_hsm ok.nd) hg (by have:=ok.dp;omega) (λ_ _ e=>e) (λh' u tk hk=>?_) ok.fit;exact ⟨.str _,H,I.kept (h':=h') (t':=tk) hk,⟨_,rfl⟩,q⟩
def shV (st:Bool):V->Hp->(Str->Prop)->Prop:=λv H q=>match v with
 |.non=>q (Str.ofString "None")
 |.bl b=>q (if b=true then Str.ofString "True" else Str.ofString "False")
 |.int i=>i.natAbs.log2<1920/\q (Str.ofString (toString i))
 |.str x=>if st then q x else (reprText x).length<=sizeLine/\q (reprText x)
 |.ref a=>∃ d,DV X.K H (.ref a) d/\ShW d/\q d.shown
 |_=>False
def zv (hg:X.A.guards=some []) (hu:X.A.units+64<cLine):Q4 X (.type "str") (λxs H Q=>∃ v,xs=[v]/\shV (X:=X) true v H λx=>Q (.str x) H):=by
 intro pins s σ H xs us Q I r h;obtain ⟨v,rfl,h⟩:=h;obtain ⟨u,rfl,rp⟩:=EM r;cases v with
 |non=>cases (show u=Value.none from rp);exact P.str_of_none ⟨.str _,H,I.tok _,⟨_,rfl⟩,h⟩
 |bl b=>cases (show u=Value.bool b from rp);exact P.str_of_bool ⟨.str _,H,I.tok _,⟨_,rfl⟩,h⟩
 |int i=>obtain ⟨t,rfl⟩:=(show ∃ t,u=Value.int i t from rp);exact P.str_of_int h.1 ⟨.str _,H,I.tok _,⟨_,rfl⟩,h.2⟩
 |str x=>obtain ⟨t,rfl⟩:=(show ∃ t,u=Value.str x t from rp);exact P.str_of_str ⟨.str _,H,I,⟨_,rfl⟩,h⟩
 |ref a=>
  obtain ⟨d,dv,ok,q⟩:=h;exact SG hg hu _ _ _ _ _ _ _ I r ⟨a,d,rfl,dv,ok,q⟩
 |_=>exact h.elim
def shT (st:Bool):T->Gp->(Str->Prop)->Prop:=λx G q=>match x with
 |.non=>q (Str.ofString "None")
 |.bl b=>q (if b=true then Str.ofString "True" else Str.ofString "False")
 |.int i=>i.natAbs.log2<1920/\q (Str.ofString (toString i))
 |.str x=>if st then q x else (reprText x).length<=sizeLine/\q (reprText x)
 |.tup _=>∃ d,Dp G x d/\ShW d/\q d.shown
 |.ref _=>∃ d,Dp G x d/\ShW d/\q d.shown
def JI (st:Bool):List T->Gp->Q3->Prop:=λxs G q=>match xs with
 |[x]=>shT st x G λy=>q (.str y) G
 |_=>False
def jN {st:Bool}:CD X.K (JI st) (λxs H Q=>∃ v,xs=[v]/\shV (X:=X) st v H λx=>Q (.str x) H):=λxs vs G H q Q hr rs h af=>by
 unfold JI at h;split at h
 ·rename_i x;obtain ⟨v,rfl,r⟩:=XG rs;refine ⟨v,rfl,?_⟩;cases r with
  |non=>exact af _ G h _ H (.str _) hr Kp.refl
  |bl b=>exact af _ G h _ H (.str _) hr Kp.refl
  |int i=>exact ⟨h.1,af _ G h.2 _ H (.str _) hr Kp.refl⟩
  |str x=>
   cases st with
   |true=>exact af _ G h _ H (.str _) hr Kp.refl
   |false=>exact ⟨h.1,af _ G h.2 _ H (.str _) hr Kp.refl⟩
  |tup hs r2=>
   obtain ⟨d,h1,h2,h3⟩:=h;exact ⟨d,h1.dv hr (.tup hs r2),h2,af _ G h3 _ H (.str _) hr Kp.refl⟩
  |ref a=>
   obtain ⟨d,h1,h2,h3⟩:=h;exact ⟨d,h1.dv hr (.ref a),h2,af _ G h3 _ H (.str _) hr Kp.refl⟩
 ·exact h.elim
def TX:OpR X (binaryOp .Add) (λx y H Q=>∃ a b ys,x=.ref a/\y=.ref b/\SqT X.K H a []/\SqT X.K H b ys/\Q (.ref b) H):=by
 intro pins s σ H x y v u Q I rx ry h;obtain ⟨a,b,ys,rfl,rfl,ha,hb,q⟩:=h;cases rx;cases ry;obtain ⟨its,r1,p1,_⟩:=I.tuple ha;obtain ⟨its2,r2,p2,_⟩:=I.tuple hb;cases r1;obtain ⟨⟨cls,dd,data,sl⟩,ho,hc,n,hd⟩:=id p1;obtain ⟨⟨cls2,dd2,data2,sl2⟩,ho2,hc2,n2,hd2⟩:=id p2;simp only at hc hd hc2 hd2;subst hc hd hc2 hd2;exact concat_meets ⟨_,ho,rfl⟩ ⟨_,ho2,rfl⟩ noFill_tuple_add seq_tuple_add PySem.F.slot_tuple_add PySem.F.entry_tuple_add (PySem.F.args_tuple_add_2 _ _)
   (tuple_addW0 a b #[] its2.toArray n n2 dd dd2 sl sl2 rfl) ⟨ho,ho2,⟨.ref b,H,I,rfl,q⟩⟩
def ZC:R3:=λx y G q=>match x,y with
 |.tup xs,.tup ys=>xs.length+ys.length<=sizeLine/\q (.tup (xs++ys)) G
 |.ref a,.ref b=>(match G a,G b with|some (.lst xs),some (.lst ys)=>xs.length+ys.length<=sizeLine/\∀ p,G p=none->q (.ref p) (gu G p (.lst (xs++ys)))|_,_=>False)
 |.int i,.int j=>q (.int (i+j)) G
 |_,_=>False
def S7:XO X.K ZC (λx y H Q=>((rI0 (λi j=>.int (i+j)) x y H Q\/qaB X.K x y H Q)\/qeN x y H Q)\/∃ a b ys,x=.ref a/\y=.ref b/\SqT X.K H a []/\SqT X.K H b ys/\Q (.ref b) H):=λx y v u G H q Q hr rx ry h af=>by
 cases x with
 |tup xs=>
  cases y with
  |tup ys=>
   cases xs with
   |nil=>
    cases rx with
    |tup hs rs=>
     cases rs;cases ry with
     |tup hs' rs'=>exact .inr ⟨_,_,_,rfl,rfl,hs,hs',af _ G h.2 _ H (.tup hs' rs') hr Kp.refl⟩
   |cons x xs=>exact .inl (UB _ _ v u G H q Q hr rx ry ⟨by simp,h⟩ af)
  |_=>exact h.elim
 |ref a=>
  cases y with
  |ref b=>exact .inl (UB (.ref a) (.ref b) v u G H q Q hr rx ry h af)
  |_=>exact h.elim
 |int i=>
  cases y with
  |int j=>exact .inl (UB (.int i) (.int j) v u G H q Q hr rx ry h af)
  |_=>exact h.elim
 |_=>exact h.elim
def zK (ha:jE3 X a ta) (hb:jE3 X b tb):jE3 X (.BinOp a .Add b pos) (o3 ZC ta tb):=⟨qaE (((KR.or SF).or LG).or TX) S7 ha.h hb.h⟩
def ZP {prog:Program} {w:World} {A:Around} {E:Value->Shared->Prop} {s:Shared} {t sl:Addr} {items:Array Value} {vl vu:Value} {lo hi:Option Int} {Q:Value->Shared->Prop} (ht:IsTup s.heap t items) (hs:s.heap.IsSliceOf sl vl vu .none) (pl:IsPart vl lo) (pu:IsPart vu hi)
  (hw:HT.sIx items.size 0 lo=0/\HT.sIx items.size items.size hi=items.size) (h:Q (.ref t) s):wpAny (model prog w) A (getItem (.ref t) (.ref sl)) Q E s:=by
 obtain ⟨os,hos,hcs,hds⟩:=id hs;have hTs:s.TypeIs (.ref sl) "slice" := ⟨os,hos,hcs⟩
 unfold getItem
 try with_reducible refine wpAny_holding ?_
 first|refine wpAny_bind (wpAny_pure ?_)|skip
 refine wpAny_bind (wpAny_sequenceKey ht.typeIs (by decide) ?_);refine wpAny_bind (wpAny_callSpecial?_slot (name:=Str.ofString "__getitem__") ht.typeIs PyProof.Rows.slot_tuple_getitem
  (wpAny_call_entry PyProof.Rows.slot_tuple_getitem ht.typeIs entry_tuple_getitem ?_ (args_tuple_getitem _ _)))
 show wpAny _ _ (Builtin.Tuple.tupleItemsOf (.ref t) >>= _) _ _ s;refine wpAny_bind (tupleItemsOf_ ht ?_);refine wpAny_bind (wpAny_typeOf hTs ?_);rw [if_pos (by decide)];refine wpAny_bind (HT.jT hs pl pu ?_);have hyes:(((HT.sIx items.size 0 lo:Nat):Int)==0&&(1:Int)==1&&(HT.sIx items.size items.size hi-HT.sIx items.size 0 lo)==items.size)=true:=by
  rw [hw.1,hw.2];simp
 show wpAny _ _ (if (((HT.sIx items.size 0 lo:Nat):Int)==0&&(1:Int)==1&&(HT.sIx items.size items.size hi-HT.sIx items.size 0 lo)==items.size)=true then _ else _) _ _ s;rw [if_pos hyes];unfold Builtin.Tuple.tupleIsExact;refine wpAny_bind (wpAny_bind (wpAny_typeOf ht.typeIs (wpAny_pure ?_)));rw [if_pos (by decide)];refine wpAny_bind (wpAny_rule ?_);exact wpAny_pure ⟨_,rfl,wpAny_pure h⟩
def qf8 (K:Frg):V->Option Int->Option Int->Hp->VK->Prop:=λx lo hi H Q=>∃ a xs,x=.ref a/\SqT K H a xs/\(HT.sIx xs.length 0 lo=0/\HT.sIx xs.length xs.length hi=xs.length)/\Q (.ref a) H
def TV:SlR X (qf8 X.K):=by
 intro pins s σ H x v vl vu lo hi sl Q I rx hs pl pu h;obtain ⟨a,xs,rfl,hx,hw,q⟩:=h;cases rx;obtain ⟨its,r,ht,hz⟩:=I.tuple hx;have hlen:its.toArray.size=xs.length:=by rw [size_toArray];exact r.length.symm
 refine ⟨"tuple",_,PyProof.Rows.slot_tuple_getitem.lookup,ht.typeIs,?_⟩;exact ZP ht hs pl pu (by rw [hlen];exact hw) ⟨.ref a,H,I,rfl,q⟩
def qeG:T->Option Int->Option Int->Gp->Q3->Prop:=λx lo hi G q=>match x with
 |.tup xs=>q (.tup (VV xs lo hi)) G
 |.ref p=>(match getL G p with|some xs=>∀ a,G a=none->q (.ref a) (gu G a (.lst (VV xs lo hi)))|none=>False)
 |_=>False
def C9 (te:TE3) (tl th:TO3):TE3:=λτ G q=>te τ G λx G1=>tl τ G1 λl G2=>th τ G2 λu G3=>qeG x l u G3 q
def YM {e:Expr} {te:TE3} {lo hi:Option Expr} {tl th:TO3} {p2:Pos} (he:jE3 X e te) (hl:jP3 X lo tl) (hu:jP3 X hi th):jE3 X (.Subscript e (.Slice lo hi none p2) pos) (C9 te tl th):=
 ⟨UI (T7 ((qaH.or qac).or TV) he.h hl.h hu.h) λ_ _ _ ⟨τ,G,q,rl,h,af⟩=>zT rl h λx G1 h1 v H1 rx hr1 k1 rl1=>
  ⟨τ,G1,_,rl1,h1,λl G2 h2 H2 hr2 k2=>⟨τ,G2,_,rl1.next hr2 k2,h2,λu G3 h3 H3 hr3 k3=>by
   have kk:=(k1.trans k2).trans k3;have rx3:=(rx.keep hr1 k2).keep hr2 k3;cases x<;>try exact h3.elim
   case tup xs=>
    cases rx3 with
    |tup hs rs=>
     by_cases hw:HT.sIx xs.length 0 l=0/\HT.sIx xs.length xs.length u=xs.length
     ·refine .inr ⟨_,_,rfl,hs,by rw [← rs.length];exact hw,?_⟩;have e:VV xs l u=xs:=by unfold VV;rw [hw.1,hw.2];simp
      have h4:q (.tup (VV xs l u)) G3:=h3;rw [e] at h4;exact af _ G3 h4 _ _ (.tup hs rs) hr3 kk
     ·refine .inl (.inl ⟨_,_,rfl,hs,by rw [← rs.length];exact hw,λp hp=>?_⟩);exact af _ G3 h3 _ _ (.tup (SqT.of qY) ((rs.cut _ _).keep hr3 (Kp.laid hp))) (hr3.laid hp) (kk.trans (Kp.laid hp))
   case ref p=>
    unfold qeG at h3;simp only at h3;split at h3
    ·rename_i xs e0;cases rx3;obtain ⟨vs,hs,rs⟩:=zH hr3 e0;refine .inl (.inr ⟨p,vs,rfl,hs,λa ha=>?_⟩);exact af _ _ (h3 a (hr3.free ha)) _ _ (.ref a) (hr3.newL ha (rs.cut _ _)) (kk.trans (Kp.newL ha))
    ·exact h3.elim⟩⟩⟩
end
end L3
namespace HT
open PySem PySem.Spec PyProof.Rows
section
variable {prog:Program} {w:World} {A:Around} {E:Value->Shared->Prop} {s:Shared}
end
end HT
namespace L3
open PySem PySem.Spec PyProof.Rows L2
section
variable {X:Cx} {e ek:Expr} {p2 pos:Pos}
end
section
variable {X:Cx} {a b:Expr} {ta tb:TE3} {pos:Pos}
end
abbrev Rd (sp:Sp3) (n:Nat) (t:TS3) (N:List Str):Prop:=∀ ts G q,sp ts G q->ts.length=n/\t { nx:=λ_ G'=>q .non G',rt:=q } (qk N ts) G
def jgn {pos:Pos} {X:Cx} {x:Str} (i:Nat) (hN:decide X.N.Nodup=true:=by kernel_rfl) (hi:X.N[i]?=some x:=by rfl) (hx:Loc X.env.scope x:=by first|exact Or.inl rfl|exact Or.inr rfl) (hf:X.fn x=true\/X.env.scope.names.lookup x=some .local:=by first|exact .inl rfl|exact .inr rfl):jG3 X (.Name x pos) (gn3 i):=
 qQ (of_decide_eq_true hN) hi hx hf
end L3
namespace L2
open PySem PySem.Spec PyProof.Rows
section
variable {X:Cx} {pos:Pos}
end
end L2
namespace L3
open PySem PySem.Spec PyProof.Rows L2
section
variable {X:Cx} {pos:Pos}
end
end L3
namespace HT
open PySem PyProof.Rows
section
variable {prog:Program} {w:World} {A:Around} {E:Value->Shared->Prop} {s:Shared}
end
end HT
namespace L3
open PySem PySem.Spec PyProof.Rows L2
section
variable {X:Cx}
end
def F0 (f0:Value):Prop:=f0=.none\/∃ n:Nat,f0=rawInt n
section
variable {P:Program} {w:World} {A:Around} {s:Shared} {z ti to i1 i2 c1 c2:Addr} {S1 S2:Nat->Heap->Prop} {H1 H2:Array Value->Heap->Prop} {k1 k2:Nat} {xs ys:Array Value} {x y a b f0 f1:Value} {E:Value->Shared->Prop}
end
section
variable {P:Program} {w:World} {A:Around} {s:Shared} {E:Value->Shared->Prop}
end
section
variable {X:Cx} {a b e l:Expr} {es:List Expr} {pos:Pos} {t:TA3}
end
end L3
namespace Tb8
open PySem PySem.SetTable
end Tb8
namespace Tb8
open PySem PyProof.Rows
section
variable {prog:Program} {w:World} {A:Around} {E:Value->Shared->Prop} {s:Shared}
end
end Tb8
namespace Tb8
open PySem PyProof.Rows PySem.SetTable
section
variable {prog:Program} {w:World} {A:Around} {E:Value->Shared->Prop} {s:Shared}
end
end Tb8
namespace Tb8
open PySem PySem.SetTable
end Tb8
namespace Tb8
open PySem PyProof.Rows PySem.SetTable
section
variable {prog:Program} {w:World} {A:Around} {E:Value->Shared->Prop} {s:Shared}
end
section
variable {prog:Program} {w:World} {A:Around} {R:Result->Shared->Prop} {I:Addr} {fp wr:List Addr} {n:Nat} {P:Nat->Value->Prop} {St:Nat->Heap->Prop}
end
section
variable {prog:Program} {w:World} {A:Around} {E:Value->Shared->Prop} {s:Shared}
end
end Tb8
namespace L3
open PySem PySem.Spec PyProof.Rows L2
section
variable {X:Cx}
end
end L3
namespace Tb8
open PySem PyProof.Rows PySem.SetTable
section
variable {prog:Program} {w:World} {A:Around} {E:Value->Shared->Prop} {s:Shared}
end
end Tb8
namespace L3
open PySem PySem.Spec PyProof.Rows L2
section
variable {X:Cx}
end
section
variable {X:Cx} {K:Frg} {w:World} {mg:Str->Option Value}
end
section
variable {X:Cx}
end
open PySem.SeqAt
section
variable {X:Cx} {pins:List (Addr×Obj)} {σ:L2.St} {H:Hp} {s:Shared}
end
end L3
namespace HT
open PySem PySem.Spec PyProof.Rows L2
section
open PySem.SeqAt
open PySem.MeetsSeq PySem.MeetsSeq2 PySem.MeetsSeq3
end
section
variable {prog:Program} {w:World} {A:Around} {E:Value->Shared->Prop} {s:Shared}
end
end HT
namespace L3
open PySem PySem.Spec PyProof.Rows L2
section
variable {X:Cx}
end
end L3
namespace HT
open PySem PyProof.Rows
section
variable {prog:Program} {w:World} {A:Around} {R:Result->Shared->Prop} {I:Addr} {fp wr:List Addr} {n:Nat} {P:Nat->Value->Prop} {St:Nat->Heap->Prop}
end
section
variable {prog:Program} {w:World} {A:Around} {E:Value->Shared->Prop} {s:Shared}
end
end HT
namespace L3
open PySem PySem.Spec PyProof.Rows L2
section
variable {X:Cx}
end
section
variable {X:Cx}
end
section
variable {X:Cx}
end
section
variable {X:Cx} {a b:Expr} {ta tb:TE3} {pos:Pos}
end
end L3
namespace L3
open PySem PySem.Spec PyProof.Rows L2 PySem.SeqAt
section
variable {X:Cx} {a b:Expr} {ta tb:TE3} {pos:Pos}
end
end L3
namespace L3
open PySem PySem.Spec PyProof.Rows L2
section
variable {X:Cx} {a b e:Expr} {ta tb te:TE3} {pos:Pos}
end
section
variable {X:Cx} {a b:Expr} {ta tb:TE3} {pos:Pos}
end
section
variable {X:Cx}
end
def ev {α:Type}:List α->List α
 |[]=>[]
 |[x]=>[x]
 |x::_::r=>x::ev r
section
variable {X:Cx} {e el ek:Expr} {p2 pos:Pos}
end
section
variable {X:Cx} {pos:Pos} {e:Expr} {te:TE3}
end
section
variable {X:Cx} {pos:Pos} {o i e:Expr} {to ti te:TE3}
end
section
variable {K:Frg} {G G':Gp} {H H':Hp}
def qee (kvs:List (Int×T)):List Key:=kvs.map λp=>(Sum.inl p.1:Key)
def qej (kvs:List (Int×T)):List T:=kvs.map λp=>p.2
def HR.dct (hr:HR K G H) {p:Addr} {kvs:List (Int×T)} (g:G p=some (.dct kvs)):∃ vs,H p=some (.dK ((qee kvs).zip vs))/\Rps K H (qej kvs) vs:=hr p _ g
end
section
variable {X:Cx} {pos:Pos} {o i e:Expr} {to ti te:TE3}
variable {es:List Expr} {t:TA3}
end
end L3
namespace L3
open PySem PySem.Spec PyProof.Rows L2 PySem.SeqAt
section
variable {prog:Program} {w:World} {A:Around} {E:Value->Shared->Prop} {s:Shared}
end
section
variable {X:Cx}
end
end L3
namespace L2
open PySem PySem.Spec PyProof.Rows
section
variable {X:Cx} {pins:List (Addr×Obj)} {σ:St} {H:Hp} {s:Shared}
end
def QL.there {P:Program} {w:World} {H:Hp} {h:Heap} {a:Addr} {o:HO} (x:QL P w H h a o):∃ u,h.get? a=some u:=by
 cases o with
 |lst xs=>obtain ⟨_,_,_,_,e⟩:=x;exact ⟨_,e⟩
 |tup xs=>obtain ⟨_,_,_,ob,e,_⟩:=x;exact ⟨_,e⟩
 |dK kvs=>obtain ⟨_,_,_,_,o,_,_,e,_⟩:=x;exact ⟨_,e⟩
 |dT kvs=>obtain ⟨_,_,_,_,o,_,_,e,_⟩:=x;exact ⟨_,e⟩
 |set S n=>obtain ⟨o,_,_,_,e,_⟩:=x;exact ⟨_,e⟩
 |ins C dx fs=>obtain ⟨_,_,_,e,_⟩:=x;exact ⟨_,e⟩
 |own y=>obtain ⟨_,e⟩:=x;exact ⟨_,e⟩
 |xd fs=>obtain ⟨_,⟨_,_,_,e,_⟩,_⟩:=x;exact ⟨_,e⟩
 |rng lo hi=>obtain ⟨_,_,_,e⟩:=x;exact ⟨_,e⟩
 |frz ob u=>obtain ⟨e,_⟩:=x;exact ⟨_,e⟩
 |tbl ps=>exact ⟨_,(show h.get? a=some _ from x)⟩
 |met f y=>exact ⟨_,(show h.get? a=some _ from x)⟩
 |ext φ=>obtain ⟨_,⟨_,e⟩,_⟩:=x;exact ⟨_,e⟩
def HOk.nil {P:Program} {w:World} {H:Hp} {h:Heap} {a:Addr} (x:HOk P w H h) (e:h.get? a=none):H a=none:=by
 cases q:H a with
 |none=>rfl
 |some u=>
  obtain ⟨z,y⟩:=(x a u q).there;rw [e] at y;cases y
section
variable {P:Program} {w:World} {K:Frg} {mg:Str->Option Value} {base:Heap} {N:List Str} {qual:Str} {scope:Scope} {f:Addr} {cd:Value} {A:Around} {outer:List Env} {s0:Shared} {H0:Hp} {E:XK} {CX:CXT}
 {pins:List (Addr×Obj)} {σ:St} {H:Hp} {s:Shared}
end
section
variable {X:Cx} {x:Str} {C:Addr} {B Bn newId nid initId inN:String} {bm bmN:List Value} {np cpos pos:Pos} {e:Expr} {es:List Expr} {t:TA} {EE:Hp->Prop}
end
end L2
namespace L3
open PySem PySem.Spec PyProof.Rows L2
abbrev X3:=Addr->Gp->Prop
abbrev Spx:=List T->Gp->X3->Prop
section
variable {X:Cx} {x:Str} {C:Addr} {B Bn newId nid initId inN:String} {bm bmN:List Value} {np cpos pos:Pos} {e:Expr} {es:List Expr} {t:TA3} {dx:X3}
end
section
variable {K:Frg} {G G':Gp} {H H':Hp}
def HR.kind (hr:HR K G H) {a:Addr} (n:G a≠none):(∃ vs,H a=some (.lst vs))\/(∃ o vs,H a=some (.frz o (.lst vs)))\/(∃ kvs,H a=some (.dK kvs))\/∃ φ,H a=some (.ext φ):=by
 cases e:G a with
 |none=>exact absurd e n
 |some o=>
  have q:=hr a o e;cases o with
  |lst xs=>obtain ⟨vs,h1,_⟩:=q;exact .inl ⟨vs,h1⟩
  |frz xs=>obtain ⟨vs,⟨o,h1⟩,_⟩:=q;exact .inr (.inl ⟨o,vs,h1⟩)
  |dct kvs=>obtain ⟨vs,h1,_⟩:=q;exact .inr (.inr (.inl ⟨_,h1⟩))
  |tab ks xs=>obtain ⟨vs,h1,_⟩:=q;exact .inr (.inr (.inl ⟨_,h1⟩))
  |exn C=>exact .inr (.inr (.inr ⟨_,q⟩))
end
end L3
namespace L2
open PySem PySem.Spec PyProof.Rows
section
variable {X:Cx} {pins:List (Addr×Obj)} {σ:St} {H H':Hp} {s s':Shared}
end
section
variable {M:Model} {A:Around} {E:Value->Shared->Prop}
variable {nm q nm' q':Str} {C N B N':Addr} {bs bm bs' bm':List Value} {hdct hdct':Bool} {sn sn':List Str} {sub sub':List Value} {ab ab':Bool} {col col':Option Bool} {dd dd':Option Addr} {k0 k1 k2 k3 k5 l0 l1 l2 l3 l5:Option Value} {newId newId':String}
end
open L3 (IsX)
section
variable {X:Cx} {pins:List (Addr×Obj)} {σ:St} {H:Hp} {s:Shared} {ea:Addr} {o:HO}
end
section
variable {X:Cx} {pins:List (Addr×Obj)} {σ σ0:St} {H:Hp} {s:Shared} {E:XK} {e:Value}
end
section
variable {X:Cx} {pins:List (Addr×Obj)} {σ:St} {H:Hp} {s s':Shared} {E:XK} {ev:Value}
end
end L2
namespace L2
open PySem PySem.Spec PyProof.Rows PySem.W PySem.Calls Builtin Builtin.ObjectAttr Builtin.Getset_descriptor
open L3 (IsX)
section
variable {prog:Program} {w:World} {A:Around} {E:Value->Shared->Prop} {K:Frag} {e C:Addr}
end
end L2
namespace L3
open PySem PySem.Spec PyProof.Rows L2
abbrev TX3:=X3->St3->Gp->Prop
section
variable {X:Cx} {k:Nat} {x:Str} {sx:Spx} {p pos:Pos} {e:Expr} {es:List Expr} {ta:TA3} {tx ty:TX3}
end
section
variable {X:Cx} {e ce:Expr} {te:TE3} {p pos:Pos} {D:List (Option Addr×Bool)}
end
section
variable {X:Cx}
def qgg (ks:List Str):List Key:=ks.map λk=>(Sum.inr k:Key)
def HR.tab {K:Frg} {G:Gp} {H:Hp} (hr:HR K G H) {p:Addr} {ks:List Str} {xs:List T} (g:G p=some (.tab ks xs)):∃ vs,H p=some (.dK ((qgg ks).zip vs))/\Rps K H xs vs:=hr p _ g
end
end L3
namespace L3
open PySem PySem.Spec PyProof.Rows L2 PySem.SeqAt
section
end
section
variable {X:Cx}
end
end L3
namespace L3
open PySem PySem.Spec PyProof.Rows L2
section
variable {X:Cx} {tg a b c:Expr} {pos:Pos}
end
section
variable {X:Cx}
end
section
variable {prog:Program} {w:World} {A:Around} {E:Value->Shared->Prop} {s:Shared}
end
section
variable {X:Cx}
end
section
variable {prog:Program} {w:World} {A:Around} {E:Value->Shared->Prop} {s:Shared}
end
section
variable {prog:Program} {w:World} {A:Around} {E:Value->Shared->Prop} {s:Shared}
end
section
variable {X:Cx}
end
def YY:∀ {its:List Value} {ys:List Str},zq (ys.map V.str) its->StrsAre its ys
 |_,[],h=>by cases h;exact .nil
 |_,y::ys,h=>by
  cases h with
  |cons r t=>
   obtain ⟨k,rfl⟩:=r;exact .cons y k (YY t)
def EU:List T->Option (List Str)
 |[]=>some []
 |.str x::r=>(match EU r with|some ns=>some (x::ns)|none=>none)
 |_=>none
def RB (ns:List Str):EU (ns.map T.str)=some ns:=by
 induction ns with
 |nil=>rfl
 |cons n r ih=>simp [EU,ih]
def DX:∀ {xs:List T} {ns:List Str},EU xs=some ns->xs=ns.map T.str
 |[],_,h=>by simp [EU] at h;subst h;rfl
 |x::r,ns,h=>by
  unfold EU at h;split at h
  ·cases h;assumption
  ·rename_i a b c;split at h
   ·rename_i ms e;cases h;cases c;rw [map_cons,← DX e]
   ·cases h
  ·cases h
def WQ {K:Frg} {H:Hp}:∀ {ys:List Str} {vs:List V},Rps K H (ys.map T.str) vs->vs=ys.map V.str
 |[],_,h=>by cases h;rfl
 |y::ys,_,h=>by
  cases h with
  |cons a b=>cases a;rw [WQ b];rfl
section
variable {X:Cx}
def EO (sep:Str) (ys:List Str):Prop:=(ys.map (·.length)).sum+ys.length*sep.length<=16777216
def NR:MtM X "str.join" (λx vs H Q=>∃ sep p ys,x=.str sep/\vs=[.ref p]/\SqL X.K H p (ys.map V.str)/\EO sep ys/\Q (.str (Txt.join sep ys)) H):=by
 intro pins s σ H x vs v us Q I rx rv h;obtain ⟨sep,p,ys,rfl,rfl,hq,hb,q⟩:=h;obtain ⟨t,rfl⟩:=rx;obtain ⟨u,rfl,ru⟩:=rv.one;cases (show u=Value.ref p from ru);obtain ⟨its,r,pl,hz⟩:=I.list hq;refine join_list pl.isList (ys:=ys) (by simpa using YY r) hb λt' k=>?_;exact ⟨.str _,H,I.kept (t':=k) λb o e=>e,⟨t',rfl⟩,q⟩
def V5:T->List T->Gp->Q3->Prop:=λx xs G q=>match x,xs with
 |.str sep,[.ref p]=>(match getL G p with|some ts=>(match EU ts with|some ys=>EO sep ys/\q (.str (Txt.join sep ys)) G|none=>False)|none=>False)
 |_,_=>False
def KA {K:Frg}:qdD K V5 (λx vs H Q=>∃ sep p ys,x=.str sep/\vs=[.ref p]/\SqL K H p (ys.map V.str)/\EO sep ys/\Q (.str (Txt.join sep ys)) H):=λx xs v vs G H q Q hr rx rs h af=>by
 unfold V5 at h;split at h
 ·rename_i sep p;split at h
  ·rename_i ts e;split at h
   ·rename_i ys e2;have:=DX e2;subst this;cases rx;obtain ⟨u,rfl,r⟩:=XG rs;cases r;obtain ⟨us,hs,r2⟩:=zH hr e;have:=WQ r2;subst this;exact ⟨sep,p,ys,rfl,rfl,hs,h.1,af _ G h.2 _ H (.str _) hr Kp.refl⟩
   ·exact h.elim
  ·exact h.elim
 ·exact h.elim
def M8 (r:T->List T->Gp->Q3->Prop) (to:TE3) (t:TA3):TE3:=λτ G q=>to τ G λx G1=>(match x with|.str _=>True|_=>False)/\t τ G1 λxs G2=>r x xs G2 q
def qeW {e:Expr} {es:List Expr} {t:TA3} {o:Expr} {to:TE3} {name:Str} {apos cpos:Pos} {id:String} {r3:T->List T->Gp->Q3->Prop} {r:V->List V->Hp->VK->Prop} (slot:Slot "str" name id) (hty:typeOf (.builtin id)=pure (.type "method_descriptor")) (hm:MtM X id r) (hr:qdD X.K r3 r) (ho:E3 X o to) (ha:A3 X (e::es) t)
  (hbase:attributeBase o name X.env (eval o X.env)=eval o X.env:=by rfl)
  (hfew:((backTo cpos (starEach (e::es) X.env)).all (λx=>!x.1)&&(backToKw cpos (keywordEach [] X.env)).all (λx=>x.1.isSome)
   && decide ((e::es).length+([]:List Keyword).length+(if ([]:List Keyword).isEmpty then 0 else 1)<30))=true:=by rfl)
  (hline:(apos.endLine==cpos.line)=true:=by rfl) (hs:starEach (e::es) X.env=(false,eval e X.env)::starEach es X.env:=by rfl) (hplain:(backTo cpos (starEach es X.env)).any (·.1)=false:=by rfl) :
  E3 X (.Call (.Attribute o name apos) (e::es) [] cpos) (M8 r3 to t):=
 UI (qbg PySem.F.plainAttrs_str slot hty hm ho ha hbase hfew hline hs hplain) λ_ _ _ ⟨τ,G,q,rl,h,af⟩=>zT rl h λx G1 h1 v H1 rx hr1 k1 rl1=>by
  obtain ⟨hp,h1⟩:=h1;cases x<;>try exact hp.elim
  case str c=>
   cases rx;exact ⟨rfl,QN rl1 h1 λxs G2 h2 vs H2 rs hr2 k2 rl2=>hr _ xs _ vs G2 H2 q _ hr2 (.str c) rs h2 (af.back (k1.trans k2))⟩
def DK {t:TA3} {e:Expr} {o:Expr} {to:TE3} {apos cpos:Pos} (ho:jE3 X o to) (ha:jA3 X [e] t)
  (hbase:attributeBase o "join" X.env (eval o X.env)=eval o X.env:=by rfl)
  (hfew:((backTo cpos (starEach [e] X.env)).all (λx=>!x.1)&&(backToKw cpos (keywordEach [] X.env)).all (λx=>x.1.isSome)
   && decide (([e]:List Expr).length+([]:List Keyword).length+(if ([]:List Keyword).isEmpty then 0 else 1)<30))=true:=by rfl)
  (hline:(apos.endLine==cpos.line)=true:=by rfl) (hs:starEach [e] X.env=(false,eval e X.env)::starEach [] X.env:=by rfl) (hplain:(backTo cpos (starEach [] X.env)).any (·.1)=false:=by rfl) :
  jE3 X (.Call (.Attribute o "join" apos) [e] [] cpos) (M8 V5 to t):=⟨qeW PySem.F.slot_str_join PySem.F.type_str_join NR KA ho.h ha.h hbase hfew hline hs hplain⟩
def tFs:List (Str ⊕ TE)->Str->TE
 |[],acc=>λ_ H Q=>acc.length<=sizeLine/\Q (.str acc) H
 |.inl x::r,acc=>λσ H Q=>(acc++x).length<=sizeLine/\tFs r (acc++x) σ H Q
 |.inr te::r,acc=>λσ H Q=>te σ H λv H1=>(∃ y,v=.str y/\y.length<=sizeLine/\(acc++y).length<=sizeLine/\tFs r (acc++y) σ H1 Q)\/(∃ i:Int,v=.int i/\i.natAbs.log2<1920/\(acc++Str.ofString (toString i)).length<=sizeLine/\tFs r (acc++Str.ofString (toString i)) σ H1 Q)
inductive FsOk (X:Cx):List Expr->List (Str ⊕ TE)->Prop
 |nil:FsOk X [] []
 |lit {x j pos es r}:FsOk X es r->FsOk X (.Constant (.str x) j pos::es) (.inl x::r)
 |val {e te pos es r}:PE X e te->FsOk X es r->FsOk X (.FormattedValue e (-1) none pos::es) (.inr te::r)
def JO:∀ {es:List Expr} {ps:List (Str ⊕ TE)},FsOk X es ps->∀ {acc:Str} {σ:L2.St} {H:Hp} {Q:VK} {pins:List (Addr×Obj)} {s:Shared},Inv X pins σ H s->tFs ps acc σ H Q ->
  Joins (model X.prog X.w) X.A X.xe (evalEach es X.env) acc (λout s₁=>out.length<=sizeLine/\EP X pins σ Q (.str out s₁.toks) { s₁ with toks:=s₁.toks+1 }) s
 |_,_,.nil,acc,σ,H,Q,pins,s,I,h=>⟨h.1,.str acc,H,I.tok _,⟨_,rfl⟩,h.2⟩
 |_,_,.lit f,acc,σ,H,Q,pins,s,I,h=>Calls.Constant_str ⟨_,_,rfl,h.1,JO f (I.tok _) h.2⟩
 |_,_,.val he f,acc,σ,H,Q,pins,s,I,h=>by
  refine PyProof.Rows.FormattedValue_plain (thn (he pins s σ H _ I h) λv s1 ⟨x,H1,I1,r1,q⟩=>?_);rcases q with ⟨y,rfl,hy,hl,q⟩|⟨i,rfl,hi,hl,q⟩
  ·obtain ⟨t,rfl⟩:=r1;exact PyProof.Rows.formatField_str (λt' tk=>⟨y,t',rfl,hl,JO f (I1.kept (t':=tk) λb o e=>e) q⟩) hy
  ·obtain ⟨t,rfl⟩:=r1;exact wpAny_formatField_int hi ⟨_,_,rfl,hl,JO f (I1.kept (t':=s1.toks+1+1) λb o e=>e) q⟩
def qeU {a b:Expr} {es:List Expr} {ps:List (Str ⊕ TE)} {pos:Pos} (h:FsOk X (a::b::es) ps):PE X (.JoinedStr (a::b::es) pos) (tFs ps Str.empty):=λpins s σ H Q I ht=>wpAny_JoinedStr (JO h I ht)
def fs3:List (Str ⊕ TE3)->Str->TE3
 |[],acc=>λ_ G q=>acc.length<=sizeLine/\q (.str acc) G
 |.inl x::r,acc=>λτ G q=>(acc++x).length<=sizeLine/\fs3 r (acc++x) τ G q
 |.inr te::r,acc=>λτ G q=>te τ G λv G1=>match v with
  |.str y=>y.length<=sizeLine/\(acc++y).length<=sizeLine/\fs3 r (acc++y) τ G1 q
  |.int i=>i.natAbs.log2<1920/\(acc++Str.ofString (toString i)).length<=sizeLine/\fs3 r (acc++Str.ofString (toString i)) τ G1 q
  |_=>False
inductive Fs3 (X:Cx):List Expr->List (Str ⊕ TE3)->Prop
 |nil:Fs3 X [] []
 |lit {x j pos es r}:Fs3 X es r->Fs3 X (.Constant (.str x) j pos::es) (.inl x::r)
 |val {e te pos es r}:jE3 X e te->Fs3 X es r->Fs3 X (.FormattedValue e (-1) none pos::es) (.inr te::r)
def lP (K:Frg):Str ⊕ TE3->Str ⊕ TE
 |.inl x=>.inl x
 |.inr te=>.inr (lE K te)
def Fs3.ok:∀ {es:List Expr} {ps:List (Str ⊕ TE3)},Fs3 X es ps->FsOk X es (ps.map (lP X.K))
 |_,_,.nil=>.nil
 |_,_,.lit f=>.lit f.ok
 |_,_,.val h f=>.val h.h f.ok
def TF {K:Frg}:∀ {ps:List (Str ⊕ TE3)} {acc:Str} {σ:L2.St} {H:Hp} {Q:VK},lE K (fs3 ps acc) σ H Q->tFs (ps.map (lP K)) acc σ H Q
 |[],acc,σ,H,Q,⟨τ,G,q,rl,h,af⟩=>⟨h.1,af _ G h.2 _ H (.str _) rl.hp Kp.refl⟩
 |.inl x::r,acc,σ,H,Q,⟨τ,G,q,rl,h,af⟩=>⟨h.1,TF ⟨τ,G,q,rl,h.2,af⟩⟩
 |.inr te::r,acc,σ,H,Q,⟨τ,G,q,rl,h,af⟩=>by
  refine zT rl h λx G1 h1 v H1 rx hr1 k1 rl1=>?_;cases x<;>try exact h1.elim
  case str y=>cases rx;exact .inl ⟨y,rfl,h1.1,h1.2.1,TF ⟨τ,G1,q,rl1,h1.2.2,af.back k1⟩⟩
  case int i=>cases rx;exact .inr ⟨i,rfl,h1.1,h1.2.1,TF ⟨τ,G1,q,rl1,h1.2.2,af.back k1⟩⟩
def qbz {a b:Expr} {es:List Expr} {ps:List (Str ⊕ TE3)} {pos:Pos} (h:Fs3 X (a::b::es) ps):jE3 X (.JoinedStr (a::b::es) pos) (fs3 ps Str.empty):=⟨UI (qeU h.ok) λ_ _ _ h=>TF h⟩
end
section
variable {prog:Program} {w:World} {A:Around} {E:Value->Shared->Prop} {s:Shared}
def U0 {it t:Addr} {items:Array Value} (hne:t≠it):∀ (n i:Nat) (s:Shared) (Q:List Value->Shared->Prop),s.heap.IsListIter it t i->s.heap.IsList t items->i+n<=items.size ->
  (∀ h':Heap,h'.IsListIter it t (i+n)->Heap.SameBut it s.heap h'->Q ((items.toList.drop i).take n) { s with heap:=h' })->wpAny (model prog w) A (draw (.ref it) n) Q E s
 |0,i,s,Q,hit,_,_,hQ=>by
  show wpAny _ _ (pure []) Q E s;exact wpAny_pure (by simpa using hQ s.heap hit (Heap.SameBut.refl ..))
 |n+1,i,s,Q,hit,ht,hle,hQ=>by
  have hlt:i<items.size:=by omega
  show wpAny _ _ (pyNext (.ref it) >>= _) Q E s;refine wpAny_bind (wpAny_pyNext_list_item hit ht (x:=items[i]) (by simp [hlt]) λh₁ hit₁ hs₁=>?_);refine wpAny_bind (wpAny_holding (U0 hne n (i+1) _ _ hit₁ (ht.extBut hs₁.extBut hne) (by omega) λh₂ hit₂ hs₂=>wpAny_pure ?_));have hd:items.toList.drop i=items[i]::items.toList.drop (i+1):=by simp [List.drop_eq_getElem_cons,hlt]
  have:=hQ h₂ (by rw [show i+(n+1)=i+1+n by omega];exact hit₂) (hs₁.trans hs₂);rw [hd,List.take_succ_cons] at this;exact this
def JJ {t:Addr} {items:Array Value} {Q:List Value->Shared->Prop} (hh:A.handled=none) (ht:s.heap.IsList t items)
  (hQ:∀ h',Heap.ExtBut s.heap.objs.size s.heap h'->Q items.toList { s with heap:=h' }):wpAny (model prog w) A (unpackItems (.ref t) items.size none) Q E s:=by
 have hlt:t≠s.heap.objs.size:=by obtain ⟨o,ho,_⟩:=ht;exact Nat.ne_of_lt (Heap.lt_size ho)
 unfold unpackItems;refine wpAny_bind ?_;unfold notIterableAtAll;refine wpAny_bind (wpAny_specialOf ht.typeIs PySem.F.slot_list_iter.lookup ?_);refine wpAny_pure ?_;simp only [Bool.false_eq_true,if_false];refine wpAny_bind (wpAny_holding (wpAny_pyIter_list ht ?_));have hpush:(s.heap.push { cls:=.type "list_iterator",data:=.fields #[.ref t,.int 0 0] }).IsList t items:=by
  obtain ⟨o,e,c,d⟩:=ht;exact ⟨o,Heap.get?_push_of_some _ e,c,d⟩
 refine wpAny_bind (wpAny_holding (U0 hlt items.size 0 _ _ ⟨_,Heap.get?_push_size _ rfl,rfl,rfl⟩ hpush (by omega) λh₁ hit₁ hs₁=>?_));have hall:List.take items.size (List.drop 0 items.toList)=items.toList:=by
  rw [List.drop_zero];exact List.take_of_length_le (by simp)
 rw [hall];rw [if_neg (by simp)];have ht₁:h₁.IsList t items:=hpush.extBut hs₁.extBut hlt;refine wpAny_bind (wpAny_holding (wpAny_pyNext_list_end hh hit₁ ht₁ (by simp) λh₂ he₂=>?_));simp only [Option.isSome_none,Bool.false_eq_true,if_false];exact wpAny_pure (hQ h₂ λb o hb e=>he₂ b o hb (hs₁.extBut b o hb (Heap.get?_push_of_some _ e)))
def ZX {env:Env} {elts:List Expr} {x1} {pos:Pos} {t:Addr} {items:Array Value} {Q:Unit->Shared->Prop} (hh:A.handled=none) (ht:s.heap.IsList t items)
  (hn:(assignEach elts env).length=items.size) (hstar:(assignEach elts env).findIdx? (·.1)=none)
  (h:∀ h',Heap.ExtBut s.heap.objs.size s.heap h'->wpAny (model prog w) A (assignInOrder ((assignEach elts env).map (·.2)) items.toList) Q E { s with heap:=h' }) :
  wpAny (model prog w) A (assign (.Tuple elts x1 pos) env (.ref t)) Q E s:=by
 rw [assign_Tuple];refine wpAny_bind (wpAny_standAt ?_);unfold unpack;rw [hn,hstar];exact wpAny_bind (wpAny_holding (JJ hh ht h))
end
section
variable {X:Cx} {pos:Pos}
def qen (K:Frg) (n:Nat) (t:TGs):TG:=λv σ H Q=>∃ a xs,v=.ref a/\SqL K H a xs/\xs.length=n/\t xs σ H Q
def M7 {es:List Expr} {k:Nat} {t:TGs} {n:Nat} (hc:X.calm=true) (h:PGs X es t)
  (hn:(assignEach es X.env).length=n:=by rfl) (hst:(assignEach es X.env).findIdx? (·.1)=none:=by rfl):PG X (.Tuple es k pos) (qen X.K n t):=by
 intro pins s σ H v u Q I r hw;obtain ⟨a,xs,e1,hq,hl,hw⟩:=hw;subst e1;cases r;obtain ⟨its,rv,ht,hz⟩:=I.list hq;refine ZX (I.ok.hd hc) ht.isList (by simp [hn,← hl,rv.length]) hst λh' hx=>?_;have I1:Inv X pins σ H { s with heap:=h' }:=I.kept (t':=s.toks) λb o e=>hx b o (Nat.ne_of_lt (Heap.lt_size e)) e;exact h pins _ σ H xs _ Q I1 (by simpa using rv) hw
def DN (n:Nat) (t:VF):TG3:=λx τ G q=>match x with|.ref p=>(match getL G p with|some xs=>xs.length=n/\t xs τ G q|none=>False)|_=>False
def M0 {es:List Expr} {k:Nat} {tgs:VF} {n:Nat} (hc:X.calm=true) (h:jGs3 X es tgs) (hn:(assignEach es X.env).length=n:=by rfl) (hst:(assignEach es X.env).findIdx? (·.1)=none:=by rfl):jG3 X (.Tuple es k pos) (DN n tgs):=
 ⟨qdz (M7 hc h.h hn hst) λv σ H Q ⟨x,τ,G,q,rx,rl,h,af⟩=>by
  cases x<;>try exact h.elim
  case ref p=>
   cases rx;have h':(match getL G p with|some xs=>xs.length=n/\tgs xs τ G q|none=>False):=h;split at h'
   ·rename_i xs e;obtain ⟨us,hs,r2⟩:=zH rl.hp e;exact ⟨_,us,rfl,hs,by rw [← r2.length];exact h'.1,_,τ,G,q,r2,rl,h'.2,af⟩
   ·exact h'.elim⟩
end
open PySem.SeqAt
mutual
def Pl:PyData->Prop
 |.int _=>True
 |.str _=>True
 |.tuple xs=>Pls xs
 |_=>False
def Pls:List PyData->Prop
 |[]=>True
 |x::xs=>Pl x/\Pls xs
end
def Pls.mem:∀ {xs:List PyData} {x:PyData},Pls xs->x∈xs->Pl x
 |[],_,_,h=>by cases h
 |y::ys,x,h,m=>by
  rcases mem_cons.mp m with rfl|m
  ·exact h.1
  ·exact Pls.mem h.2 m
def deq {α:Type} (d e:α):Bool:=@decide (d=e) (Classical.propDecidable _)
def JH {α:Type} {d e:α} (h:d=e):deq d e=true:=@decide_eq_true _ (Classical.propDecidable _) h
def QM {α:Type} {d e:α} (h:d≠e):deq d e=false:=@decide_eq_false _ (Classical.propDecidable _) h
def RH {xs ys:List PyData}:((List.range (min xs.length ys.length)).all (λj=>deq xs[j]? ys[j]?)&&xs.length==ys.length)=deq xs ys:=by
 by_cases h:xs=ys
 ·subst h;rw [JH rfl];simp only [Nat.min_self,beq_self_eq_true,Bool.and_true,List.all_eq_true];intro j _;exact JH rfl
 ·rw [QM h];by_cases hl:xs.length=ys.length
  ·rw [Bool.and_eq_false_iff];refine .inl (Bool.eq_false_iff.mpr λha=>h ?_);rw [List.all_eq_true] at ha;refine List.ext_getElem? λj=>?_;by_cases hj:j<xs.length
   ·have:=ha j (mem_range.mpr (by omega));exact Classical.byContradiction λz=>by rw [QM z] at this;cases this
   ·rw [List.getElem?_eq_none (by omega),List.getElem?_eq_none (by omega)]
  ·simp [hl]
section
variable {X:Cx} {pins:List (Addr×Obj)} {σ:L2.St} {H:Hp} {s:Shared}
def TN (I:Inv X pins σ H s):∀ (n:Nat) {v u:V} {d e:PyData} {x y:Value} {A:Around},DV X.K H v d->DV X.K H u e->Pl d->Pl e->dpt d<=n->A.units+n+1<cLine->zW v x->zW u y->EqAt A s x y (deq d e):=by
 intro n;induction n with
 |zero=>
  intro v u d e x y A hv hu pd pe hd hn rx ry;cases hv with
  |int a=>
   obtain ⟨t,rfl⟩:=(show ∃ t,x=Value.int _ t from rx)
   cases hu with
   |int c=>
    obtain ⟨t',rfl⟩:=(show ∃ t,y=Value.int _ t from ry)
    have:deq (PyData.int a) (.int c)=(a==c):=by
     by_cases h:a=c
     ·subst h;rw [JH rfl];simp
     ·rw [QM (λz=>h (PyData.int.inj z))];simp [h]
    rw [this];exact EqAt.int_int _ _ _ _
   |str c=>obtain ⟨t',rfl⟩:=(show ∃ t,y=Value.str _ t from ry);rw [QM (by simp)];exact EqAt.int_str _ _ _ _
   |tup kq ks=>cases (show y=Value.ref _ from ry);obtain ⟨i2,r2,p2,z2⟩:=I.tuple kq;rw [QM (by simp)];exact EqAt.int_tuple _ _ (show s.heap.IsTuple _ i2.toArray from p2) (by omega)
   |_=>exact pe.elim
  |str a=>
   obtain ⟨t,rfl⟩:=(show ∃ t,x=Value.str _ t from rx)
   cases hu with
   |str c=>
    obtain ⟨t',rfl⟩:=(show ∃ t,y=Value.str _ t from ry)
    have:deq (PyData.str a) (.str c)=(a==c):=by
     by_cases h:a=c
     ·subst h;rw [JH rfl];simp
     ·rw [QM (λz=>h (PyData.str.inj z))];simp [h]
    rw [this];exact EqAt.str_str _ _ _ _
   |int c=>obtain ⟨t',rfl⟩:=(show ∃ t,y=Value.int _ t from ry);rw [QM (by simp)];exact EqAt.str_int _ _ _ _
   |tup kq ks=>cases (show y=Value.ref _ from ry);obtain ⟨i2,r2,p2,z2⟩:=I.tuple kq;rw [QM (by simp)];exact EqAt.str_tuple _ _ (show s.heap.IsTuple _ i2.toArray from p2) (by omega)
   |_=>exact pe.elim
  |tup=>simp [dpt] at hd
  |_=>exact pd.elim
 |succ n ih=>
  intro v u d e x y A hv hu pd pe hd hn rx ry;cases hv with
  |int a=>exact ih (.int a) hu pd pe (by simp [dpt]) (by omega) rx ry
  |str a=>exact ih (.str a) hu pd pe (by simp [dpt]) (by omega) rx ry
  |tup hq hs=>
   rename_i a1 vs1 ds1;cases (show x=Value.ref a1 from rx);obtain ⟨i1,r1,p1,z1⟩:=I.tuple hq;cases hu with
   |int c=>obtain ⟨t',rfl⟩:=(show ∃ t,y=Value.int _ t from ry);rw [QM (by simp)];exact EqAt.tuple_int _ _ (show s.heap.IsTuple _ i1.toArray from p1) (by omega)
   |str c=>obtain ⟨t',rfl⟩:=(show ∃ t,y=Value.str _ t from ry);rw [QM (by simp)];exact EqAt.tuple_str _ _ (show s.heap.IsTuple _ i1.toArray from p1) (by omega)
   |tup kq ks=>
    rename_i a2 vs2 ds2;cases (show y=Value.ref a2 from ry);obtain ⟨i2,r2,p2,z2⟩:=I.tuple kq;have l1:=hs.length;have l2:=ks.length;have m1:=r1.length;have m2:=r2.length;have el:∀ j (h1:j<i1.toArray.size) (h2:j<i2.toArray.size),EqAt A.in1 s i1.toArray[j] i2.toArray[j] (deq ds1[j]? ds2[j]?):=λj h1 h2=>by
     obtain ⟨w1,g1,q1⟩:=zX r1 h1;obtain ⟨w2,g2,q2⟩:=zX r2 h2;obtain ⟨d1,f1,dv1⟩:=hs.get g1;obtain ⟨d2,f2,dv2⟩:=ks.get g2;have:=jM (mem_of_getElem? f1);have ee:deq ds1[j]? ds2[j]?=deq d1 d2:=by
      rw [f1,f2];by_cases h:d1=d2
      ·subst h;rw [JH rfl,JH rfl]
      ·rw [QM h,QM (λz=>h (Option.some.inj z))]
     rw [ee];exact ih dv1 dv2 (Pls.mem pd (mem_of_getElem? f1)) (Pls.mem pe (mem_of_getElem? f2)) (by simp only [dpt] at hd;omega) (show A.units+1+n+1<cLine by omega) q1 q2
    have rc:=RcAt.tuples (show s.heap.IsTuple a1 i1.toArray from p1) (show s.heap.IsTuple a2 i2.toArray from p2) (A:=A) (by omega) el;have e1:i1.toArray.size=ds1.length:=by rw [size_toArray];omega
    have e2:i2.toArray.size=ds2.length:=by rw [size_toArray];omega
    rw [e1,e2,RH] at rc;have et:deq (PyData.tuple ds1) (.tuple ds2)=deq ds1 ds2:=by
     by_cases h:ds1=ds2
     ·subst h;rw [JH rfl,JH rfl]
     ·rw [QM h,QM (λz=>h (PyData.tuple.inj z))]
    rw [et];by_cases hll:a1=a2
    ·subst hll;have:=DV.inj I (.tup hq hs) (.tup kq ks);have:=PyData.tuple.inj this;subst this;rw [JH rfl];exact EqAt.same _
    ·exact EqAt.of_refs hll rc
   |_=>exact pe.elim
  |_=>exact pd.elim
def qfB (K:Frg):R2:=λx y H Q=>∃ ds es,DV K H x (.tuple ds)/\DV K H y (.tuple es)/\Pls ds/\Pls es/\VQ ds<=30/\Q (.bl (!deq ds es)) H
def qdn (hu:X.A.units+64<cLine):OpR X (compareOp .NotEq) (qfB X.K):=by
 intro pins s σ H x y v u Q I rx ry h;obtain ⟨ds1,ds2,hv,hu',pd,pe,hd,q⟩:=h;cases hv with
 |tup hq hs=>
  rename_i a1 vs1;cases hu' with
  |tup kq ks=>
   rename_i a2 vs2;cases (show v=Value.ref a1 from rx);cases (show u=Value.ref a2 from ry);obtain ⟨i1,r1,p1,z1⟩:=I.tuple hq;obtain ⟨i2,r2,p2,z2⟩:=I.tuple kq;have l1:=hs.length;have l2:=ks.length;have m1:=r1.length;have m2:=r2.length;have el:∀ j (h1:j<i1.toArray.size) (h2:j<i2.toArray.size),EqAt X.A.in1 s i1.toArray[j] i2.toArray[j] (deq ds1[j]? ds2[j]?):=λj h1 h2=>by
    obtain ⟨w1,g1,q1⟩:=zX r1 h1;obtain ⟨w2,g2,q2⟩:=zX r2 h2;obtain ⟨d1,f1,dv1⟩:=hs.get g1;obtain ⟨d2,f2,dv2⟩:=ks.get g2;have:=jM (mem_of_getElem? f1);have ee:deq ds1[j]? ds2[j]?=deq d1 d2:=by
     rw [f1,f2];by_cases h:d1=d2
     ·subst h;rw [JH rfl,JH rfl]
     ·rw [QM h,QM (λz=>h (Option.some.inj z))]
    rw [ee];exact TN I 30 dv1 dv2 (Pls.mem pd (mem_of_getElem? f1)) (Pls.mem pe (mem_of_getElem? f2)) (by omega) (show X.A.units+1+30+1<cLine by omega) q1 q2
   have rc:=RcNeAt.tuples (show s.heap.IsTuple a1 i1.toArray from p1) (show s.heap.IsTuple a2 i2.toArray from p2) (A:=X.A) (by omega) el;have e1:i1.toArray.size=ds1.length:=by rw [size_toArray];omega
   have e2:i2.toArray.size=ds2.length:=by rw [size_toArray];omega
   rw [e1,e2,RH] at rc;exact rc X.prog X.w X.xe _ ⟨.bl (!deq ds1 ds2),H,I,rfl,q⟩
end
def qdB:R3:=λx y G q=>∃ ds es,Dp G x (.tuple ds)/\Dp G y (.tuple es)/\Pls ds/\Pls es/\VQ ds<=30/\q (.bl (!deq ds es)) G
def NH {K:Frg}:XO K qdB (qfB K):=λx y v u G H q Q hr rx ry h af=>by
 obtain ⟨d,e,h1,h2,h3,h4,h5,h6⟩:=h;exact ⟨d,e,h1.dv hr rx,h2.dv hr ry,h3,h4,h5,af _ G h6 _ H (.bl _) hr Kp.refl⟩
end L3
namespace L3
open PySem PySem.Spec PyProof.Rows L2
def qaq:Sp3:=λ_ _ _=>False
def D6 {P:Program} {w:World} {K:Frg} {mg:Str->Option Value} {base:Heap} {x qual:Str} {st:Stmt} {f:Addr} {fd:FuncData} {ps:List Str} (F:Fun K x qual st f fd) (bd:zY K fd ps []) (hm:mg x=some (.ref f)):Fn3 P w K mg base 0 x qaq:=
 ⟨f,fd,ps,⟨λvs H Q E ⟨_,_,_,_,_,h,_⟩=>h.elim,λA outer s H args us vs Q E _ _ _ _ ⟨_,_,_,_,_,h,_⟩=>h.elim⟩,bd,F.kp,hm⟩
def ixT (xs:List T) (i:Int) (G:Gp) (q:Q3):ix3 (.tup xs) (.int i) G q=(match L2.atI xs i with|some z=>q z G|none=>False):=rfl
def ixR (p:Addr) (i:Int) (G:Gp) (q:Q3):ix3 (.ref p) (.int i) G q=(match getL G p with|some xs=>(match L2.atI xs i with|some z=>q z G|none=>False)|none=>False):=rfl
def cm {i j:Int} (h1:-1000000<j) (h2:j<1000000):D8 i j:=.inr ⟨by omega,by omega⟩
def WB {stay:Gp->Prop} {g:TG3} {tif:TT3} {te:TE3} {q:Q3} (items:List T) (Pv:Nat->List T->St3->Gp->Prop) {τ:St3} {G:Gp} (h0:Pv 0 [] τ G) (hst:∀ i ys τ G,i<=items.length->Pv i ys τ G->stay G)
  (hs:∀ i x ys τ G (R:List T->St3->Gp->Prop),items[i]?=some x->Pv i ys τ G->(∀ ys' τ' G',Pv (i+1) ys' τ' G'->R ys' τ' G') ->
   g x τ G λτ2 G2=>tif τ2 G2 λk G3=>if k=true then te τ2 G3 λy G4=>ys.length<sizeLine/\R (ys++[y]) τ2 G4 else R ys τ2 G3)
  (hd:∀ ys τ G,Pv items.length ys τ G->∀ p,G p=none->q (.ref p) (gu G p (.lst ys))):YW stay g tif te q items [] τ G:=by
 have key:∀ (r:List T) (i:Nat) ys τ G,items.drop i=r->i<=items.length->Pv i ys τ G->YW stay g tif te q r ys τ G:=by
  intro r;induction r with
  |nil=>
   intro i ys τ G e hi p;have:i=items.length:=by have:=congrArg List.length e;simp at this;omega
   subst this;exact ⟨hst _ ys τ G hi p,hd ys τ G p⟩
  |cons x r ih=>
   intro i ys τ G e hi p;have hl:i<items.length:=by
    apply Classical.byContradiction;intro z;rw [List.drop_eq_nil_of_le (by omega)] at e;cases e
   have e':=List.drop_eq_getElem_cons hl;rw [e] at e';injection e' with e1 e2;exact ⟨hst i ys τ G hi p,hs i x ys τ G _ (by rw [getElem?_eq_getElem hl,e1]) p λys2 τ2 G2 p2=>ih (i+1) ys2 τ2 G2 e2.symm hl p2⟩
 exact key items 0 [] τ G (by simp) (Nat.zero_le _) h0
def WJ {stay:Gp->Prop} {g:TG3} {te:TE3} {q:Q3} {G:Gp} (f:T->T) (Ok:St3->Prop) (hst:stay G):∀ (items ys:List T) (τ:St3),Ok τ ->
  (∀ x∈items,∀ τ,Ok τ->∀ R:St3->T->Gp->Prop,(∀ τ',Ok τ'->R τ' (f x) G)->g x τ G λτ2 G2=>te τ2 G2 λy G4=>R τ2 y G4) ->
  ys.length+items.length<sizeLine->(∀ p,G p=none->q (.ref p) (gu G p (.lst (ys++items.map f))))->YW stay g tt3 te q items ys τ G
 |[],ys,τ,_,_,_,h=>⟨hst,by simpa using h⟩
 |x::r,ys,τ,ok,step,len,h=>by
  refine ⟨hst,?_⟩;have e:(λτ2 G2=>tt3 τ2 G2 λk G3=>if k=true then te τ2 G3 λy G4=>ys.length<sizeLine/\YW stay g tt3 te q r (ys++[y]) τ2 G4 else YW stay g tt3 te q r ys τ2 G3)=(λτ2 G2=>te τ2 G2 λy G4=>ys.length<sizeLine/\YW stay g tt3 te q r (ys++[y]) τ2 G4):=by
   funext τ2 G2;simp [tt3]
  rw [e];rw [length_cons] at len;refine step x List.mem_cons_self τ ok _ λτ' ok'=>⟨by omega,WJ f Ok hst r (ys++[f x]) τ' ok' (λz hz=>step z (List.mem_cons_of_mem _ hz)) (by rw [length_append,List.length_singleton];omega) λp hp=>?_⟩
  simpa using h p hp
def SA {lo:Int} {n i:Nat} {x:T} (h:(DT lo n)[i]?=some x):i<n/\x=T.int (lo+(i:Int)):=by
 unfold DT at h;rw [getElem?_map] at h;cases e:(List.range n)[i]? with
 |none=>rw [e] at h;cases h
 |some k=>
  rw [e] at h;obtain ⟨hi,hk⟩:=List.getElem?_eq_some_iff.mp e;simp at hi hk;subst hk;exact ⟨hi,by simpa using h.symm⟩
def jw (lo:Int) (n:Nat):(DT lo n).length=n:=by simp [DT]
end L3
namespace Bk
open PySem L2 L3
def ZJ:TS3:=(qE (qS (o3 (iC (λ_ j=>0<j) (·%·)) (o3 (iC D8 (·*·)) (o3 zN (o3 zN (o3 (iC (λ_ j=>0<j) (·%·)) (v3 0) (c3 (.int 2147483629))) (o3 (iC D8 (·*·)) (o3 (iC D8 (·*·)) (v3 1) (v3 1)) (c3 (.int 7919)))) (c3 (.int 11))) (c3 (.int 48271))) (c3 (.int 2147483647))) (gn3 2)) (qX (o3 (iC (λ_ j=>0<j) (·%·)) (o3 (iC D8 (·*·)) (v3 2) (v3 2)) (c3 (.int 1999999973)))))
def QH:TS3:=(qE (qS (if3 (tb3 (o3 (iB λi j=>decide (i<j)) (v3 1) (cb3 XQ (qb (v3 0) qh)))) (o3 ix3 (v3 0) (v3 1)) (c3 (.int 0))) (gn3 2)) (qE (qS (if3 (tb3 (o3 (iB λi j=>decide (j<=i)) (cb3 SX (qb (v3 2) qh)) (o3 (iC qdp (λi j=>i ^ j.toNat)) (c3 (.int 10)) (c3 (.int 18))))) (cb3 SX (qb (v3 2) qh)) (c3 (.int 0))) (gn3 3)) (qX (ju (qb (v3 3) (qb (o3 zN (v3 2) (o3 (iC D8 (·*·)) (c3 (.int 1000003)) (v3 1))) (qb (c3 (.int 0)) qh)))))))
def QG (S_law_mix:Sp3):TS3:=(qE (qS (o3 zN (o3 ix3 (v3 0) (c3 (.int 2))) (c3 (.int 1))) (Q6 (v3 0) (c3 (.int 2)))) (qE (zV (tb3 (o3 (iB λi j=>decide (j<i)) (o3 ix3 (v3 0) (c3 (.int 0))) (c3 (.int 0)))) (qE (qS (o3 (iC (λ_ j=>0<j) (·%·)) (o3 ix3 (v3 0) (c3 (.int 0))) (v3 1)) (gn3 2)) (qE (qS (o3 (iC NG (·/·)) (o3 ix3 (v3 0) (c3 (.int 0))) (v3 1)) (Q6 (v3 0) (c3 (.int 0)))) (qX (v3 2)))) qK) (qX (o3 (iC (λ_ j=>0<j) (·%·)) (o3 (iC NG (·/·)) (cb3 S_law_mix (qb (cb3 S_law_mix (qb (o3 ix3 (v3 0) (c3 (.int 1))) (qb (o3 ix3 (v3 0) (c3 (.int 2))) qh))) (qb (o3 zN (o3 ix3 (v3 0) (c3 (.int 2))) (c3 (.int 64))) qh))) (c3 (.int 64))) (v3 1)))))
def jR (S_law_pick:Sp3):TS3:=(qE (qS (o3 ix3 (ju (qb (c3 (.int 6)) (qb (c3 (.int 6)) (qb (c3 (.int 6)) (qb (c3 (.int 16)) qh))))) (cb3 S_law_pick (qb (v3 0) (qb (c3 (.int 4)) qh)))) (gn3 1)) (qE (YO 2 3 (qb (o3 zN (c3 (.int 1)) (cb3 S_law_pick (qb (v3 0) (qb (v3 1) qh)))) (qb (o3 zN (c3 (.int 1)) (cb3 S_law_pick (qb (v3 0) (qb (v3 1) qh)))) qh))) (qX (o3 ix3 (ju (qb (zp (qb (v3 2) (qb (v3 3) qh))) (qb (zp (qb (v3 2) (qb (v3 3) qh))) (qb (zp (qb (v3 2) (qb (v3 3) qh))) (qb (zp (qb (v3 2) (qb (v3 2) qh))) qh))))) (cb3 S_law_pick (qb (v3 0) (qb (c3 (.int 4)) qh)))))))
def ZF:TS3:=(qE (WE (tb3 (o3 (iB λi j=>decide (j<i)) (v3 1) (c3 (.int 0)))) (YO 0 1 (qb (v3 1) (qb (o3 (iC (λ_ j=>0<j) (·%·)) (v3 0) (v3 1)) qh)))) (qX (v3 0)))
def QC (S_law_sides:Sp3) (S_law_pick:Sp3):TS3:=(qE (qS (cb3 S_law_sides (qb (v3 0) qh)) (jB 2 (qI (gn3 1) (qI (gn3 2) jA)))) (qE (qS (o3 zN (c3 (.int 1)) (cb3 S_law_pick (qb (v3 0) (qb (o3 ix3 (ju (qb (c3 (.int 8)) (qb (c3 (.int 8)) (qb (c3 (.int 17)) (qb (c3 (.int 32)) qh))))) (cb3 S_law_pick (qb (v3 0) (qb (c3 (.int 4)) qh)))) qh)))) (gn3 3)) (qE (qS (o3 ix3 (ju (qb (v3 3) (qb (c3 (.int 10)) (qb (c3 (.int 100)) qh)))) (cb3 S_law_pick (qb (v3 0) (qb (c3 (.int 3)) qh)))) (gn3 4)) (qX (zp (qb (c3 (.str "skew")) (qb (v3 1) (qb (v3 2) (qb (v3 3) (qb (cb3 S_law_pick (qb (v3 0) (qb (v3 4) qh))) (qb (cb3 S_law_pick (qb (v3 0) (qb (v3 4) qh))) qh)))))))))))
def jG (S_law_sides:Sp3) (S_law_pick:Sp3) (S_law_gcd:Sp3):TS3:=(qE (qS (cb3 S_law_sides (qb (v3 0) qh)) (jB 2 (qI (gn3 1) (qI (gn3 2) jA)))) (qE (qS (o3 zN (c3 (.int 1)) (cb3 S_law_pick (qb (v3 0) (qb (o3 ix3 (ju (qb (c3 (.int 8)) (qb (c3 (.int 17)) (qb (c3 (.int 32)) qh)))) (cb3 S_law_pick (qb (v3 0) (qb (c3 (.int 3)) qh)))) qh)))) (gn3 3)) (qE (qS (o3 zN (u3 DU (o3 (iC NG (·/·)) (o3 (iC D8 (·*·)) (u3 DU (v3 1)) (v3 2)) (v3 3))) (cb3 S_law_pick (qb (v3 0) (qb (c3 (.int 4)) qh)))) (gn3 4)) (qE (U8 (zQ (qb (c3 (.int 32)) qh)) (gn3 5) (zV (tb3 (o3 (iB λi j=>decide (j<i)) (cb3 S_law_gcd (qb (v3 3) (qb (v3 4) qh))) (c3 (.int 1)))) (qS (o3 zN (v3 4) (c3 (.int 1))) (gn3 4)) qK)) (qX (zp (qb (c3 (.str "rests")) (qb (v3 1) (qb (v3 2) (qb (v3 3) (qb (v3 4) qh)))))))))))
def QE (S_law_pick:Sp3):TS3:=(qE (YO 2 3 (qb (cb3 S_law_pick (qb (v3 0) (qb (o3 zN (v3 1) (c3 (.int 1))) qh))) (qb (cb3 S_law_pick (qb (v3 0) (qb (o3 zN (v3 1) (c3 (.int 1))) qh))) qh))) (qE (qS (lc3 (zQ (qb (cb3 S_law_pick (qb (v3 0) (qb (c3 (.int 6)) qh))) qh)) (gn3 0) tt3 (cb3 S_law_pick (qb (v3 1) (qb (c3 (.int 256)) qh))) [none,some 0]) (gn3 4)) (qE (qS (o3 ix3 (ju (qb (c3 (.int 1)) (qb (c3 (.int 2)) (qb (c3 (.int 4)) (qb (c3 (.int 8)) (qb (c3 (.int 16)) (qb (c3 (.int 32)) (qb (c3 (.int 64)) (qb (c3 (.int 128)) (qb (c3 (.int 256)) qh)))))))))) (o3 zN (v3 2) (v3 3))) (gn3 5)) (qX (zp (qb (c3 (.str "bits")) (qb (v3 2) (qb (v3 3) (qb (cb3 zA (qb (lc3 (QK (v3 4)) (gn3 0) tt3 (o3 (iC (λ_ j=>0<j) (·%·)) (v3 0) (v3 1)) [none,some 5]) qh)) qh)))))))))
def jI (S_law_sides:Sp3) (S_law_pick:Sp3):TS3:=(qE (qS (cb3 S_law_sides (qb (v3 0) qh)) (jB 2 (qI (gn3 1) (qI (gn3 2) jA)))) (qE (qS (o3 zN (c3 (.int 1)) (cb3 S_law_pick (qb (v3 0) (qb (o3 ix3 (ju (qb (c3 (.int 4)) (qb (c3 (.int 9)) (qb (c3 (.int 32)) qh)))) (cb3 S_law_pick (qb (v3 0) (qb (c3 (.int 3)) qh)))) qh)))) (gn3 3)) (qE (qS (lc3 (zQ (qb (v3 1) qh)) (gn3 0) tt3 (cb3 zA (qb (lc3 (zQ (qb (v3 3) qh)) (gn3 0) tt3 (cb3 S_law_pick (qb (v3 1) (qb (v3 2) qh))) [none,some 1,some 2]) qh)) [none,some 0,some 3,some 2]) (gn3 4)) (qX (zp (qb (c3 (.str "table")) (qb (v3 3) (qb (cb3 zA (qb (v3 4) qh)) qh))))))))
def jD (S_law_pick:Sp3) (S_law_gcd:Sp3):TS3:=(qE (qS (zp (qb (o3 zN (c3 (.int 1)) (cb3 S_law_pick (qb (v3 0) (qb (c3 (.int 4)) qh)))) (qb (o3 zN (c3 (.int 1)) (cb3 S_law_pick (qb (v3 0) (qb (c3 (.int 4)) qh)))) (qb (o3 zN (c3 (.int 1)) (cb3 S_law_pick (qb (v3 0) (qb (c3 (.int 5)) qh)))) qh)))) (jB 3 (qI (gn3 1) (qI (gn3 2) (qI (gn3 3) jA))))) (qE (qS (cb3 S_law_pick (qb (v3 0) (qb (c3 (.int 4)) qh))) (gn3 4)) (qE (zV (tb3 (o3 (z6 false) (v3 4) (c3 (.int 0)))) (qX (zp (qb (c3 (.str "skew")) (qb (v3 1) (qb (v3 2) (qb (v3 3) (qb (cb3 S_law_pick (qb (v3 0) (qb (v3 3) qh))) (qb (cb3 S_law_pick (qb (v3 0) (qb (c3 (.int 9)) qh))) qh)))))))) qK) (qE (zV (tb3 (o3 (z6 false) (v3 4) (c3 (.int 1)))) (qE (YO 5 6 (qb (cb3 S_law_pick (qb (v3 0) (qb (c3 (.int 3)) qh))) (qb (cb3 S_law_pick (qb (v3 0) (qb (c3 (.int 3)) qh))) qh))) (qE (qS (lc3 (zQ (qb (cb3 S_law_pick (qb (v3 0) (qb (c3 (.int 3)) qh))) qh)) (gn3 0) tt3 (cb3 S_law_pick (qb (v3 1) (qb (c3 (.int 16)) qh))) [none,some 0]) (gn3 7)) (qE (qS (o3 ix3 (ju (qb (c3 (.int 1)) (qb (c3 (.int 2)) (qb (c3 (.int 4)) (qb (c3 (.int 8)) (qb (c3 (.int 16)) qh)))))) (o3 zN (v3 5) (v3 6))) (gn3 8)) (qX (zp (qb (c3 (.str "bits")) (qb (v3 5) (qb (v3 6) (qb (cb3 zA (qb (lc3 (QK (v3 7)) (gn3 0) tt3 (o3 (iC (λ_ j=>0<j) (·%·)) (v3 0) (v3 1)) [none,some 8]) qh)) qh))))))))) qK) (qE (zV (tb3 (o3 (z6 false) (v3 4) (c3 (.int 2)))) (qE (qS (o3 zN (u3 DU (o3 (iC NG (·/·)) (o3 (iC D8 (·*·)) (u3 DU (v3 1)) (v3 2)) (v3 3))) (cb3 S_law_pick (qb (v3 0) (qb (c3 (.int 3)) qh)))) (gn3 9)) (qE (U8 (zQ (qb (c3 (.int 9)) qh)) (gn3 10) (zV (tb3 (o3 (iB λi j=>decide (j<i)) (cb3 S_law_gcd (qb (v3 3) (qb (v3 9) qh))) (c3 (.int 1)))) (qS (o3 zN (v3 9) (c3 (.int 1))) (gn3 9)) qK)) (qX (zp (qb (c3 (.str "rests")) (qb (v3 1) (qb (v3 2) (qb (v3 3) (qb (v3 9) qh))))))))) qK) (qE (qS (lc3 (zQ (qb (v3 1) qh)) (gn3 0) tt3 (cb3 zA (qb (lc3 (zQ (qb (v3 3) qh)) (gn3 0) tt3 (cb3 S_law_pick (qb (v3 1) (qb (v3 2) qh))) [none,some 1,some 2]) qh)) [none,some 0,some 3,some 2]) (gn3 11)) (qX (zp (qb (c3 (.str "table")) (qb (v3 3) (qb (cb3 zA (qb (v3 11) qh)) qh)))))))))))
def z5 (S_law_pick:Sp3) (S_law_skew:Sp3) (S_law_rests:Sp3) (S_law_bits:Sp3) (S_law_table:Sp3) (S_law_small:Sp3):TS3:=(qE (qS (cb3 S_law_pick (qb (v3 0) (qb (c3 (.int 8)) qh))) (gn3 1)) (qE (zV (tb3 (o3 (iB λi j=>decide (i<j)) (v3 1) (c3 (.int 2)))) (qX (cb3 S_law_skew (qb (v3 0) qh))) qK) (qE (zV (tb3 (o3 (z6 false) (v3 1) (c3 (.int 2)))) (qX (cb3 S_law_rests (qb (v3 0) qh))) qK) (qE (zV (tb3 (o3 (z6 false) (v3 1) (c3 (.int 3)))) (qX (cb3 S_law_bits (qb (v3 0) (qb (c3 (.int 4)) qh)))) qK) (qE (zV (tb3 (o3 (z6 false) (v3 1) (c3 (.int 4)))) (qX (cb3 S_law_table (qb (v3 0) qh))) qK) (qE (zV (tb3 (o3 (z6 false) (v3 1) (c3 (.int 5)))) (qE (qS (zp (qb (c3 (.str "joined")) (qb (zp (qb (c3 (.str "skew")) (qb (o3 zN (c3 (.int 1)) (cb3 S_law_pick (qb (v3 0) (qb (c3 (.int 2)) qh)))) (qb (c3 (.int 1)) (qb (c3 (.int 2)) (qb (c3 (.int 1)) (qb (c3 (.int 1)) qh))))))) (qb (zp (qb (c3 (.str "table")) (qb (c3 (.int 2)) (qb (zp (qb (zp (qb (c3 (.int 1)) (qb (c3 (.int 0)) qh))) qh)) qh)))) qh)))) (gn3 2)) (qE (qS (ju (qb (zp (qb (c3 (.str "joined")) (qb (v3 2) (qb (cb3 S_law_small (qb (v3 0) qh)) qh)))) (qb (zp (qb (c3 (.str "joined")) (qb (cb3 S_law_small (qb (v3 0) qh)) (qb (v3 2) qh)))) qh))) (gn3 3)) (qE (ZH (bm3 EA (v3 3) (qb (zp (qb (c3 (.str "joined")) (qb (zp (qb (c3 (.str "skew")) (qb (c3 (.int 8)) (qb (c3 (.int 1)) (qb (c3 (.int 3)) (qb (c3 (.int 1)) (qb (c3 (.int 1)) qh))))))) (qb (zp (qb (c3 (.str "rests")) (qb (c3 (.int 2)) (qb (c3 (.int 16)) (qb (c3 (.int 5)) (qb (c3 (.int 7)) qh)))))) qh)))) qh))) (qE (ZH (bm3 EA (v3 3) (qb (zp (qb (c3 (.str "joined")) (qb (zp (qb (c3 (.str "rests")) (qb (c3 (.int 1)) (qb (c3 (.int 8)) (qb (c3 (.int 3)) (qb (c3 (.int 4)) qh)))))) (qb (zp (qb (c3 (.str "skew")) (qb (c3 (.int 16)) (qb (c3 (.int 2)) (qb (c3 (.int 5)) (qb (c3 (.int 2)) (qb (c3 (.int 1)) qh))))))) qh)))) qh))) (qX (o3 ix3 (v3 3) (cb3 S_law_pick (qb (v3 0) (qb (c3 (.int 4)) qh))))))))) qK) (qX (zp (qb (c3 (.str "joined")) (qb (cb3 S_law_small (qb (v3 0) qh)) (qb (cb3 S_law_small (qb (v3 0) qh)) qh)))))))))))
inductive Dl where
 |skew (r c b x y:Int)
 |rests (r c b p:Int)
 |bits (h l:Nat) (ms:List Int)
 |table (b:Int) (cells:List (List Int))
 |joined (d e:Dl)
def qb7 (r:List Int):T:=.tup (r.map T.int)
def Dl.t:Dl->T
 |.skew r c b x y=>.tup [.str "skew",.int r,.int c,.int b,.int x,.int y]
 |.rests r c b p=>.tup [.str "rests",.int r,.int c,.int b,.int p]
 |.bits h l ms=>.tup [.str "bits",.int h,.int l,.tup (ms.map T.int)]
 |.table b cells=>.tup [.str "table",.int b,.tup (cells.map qb7)]
 |.joined d e=>.tup [.str "joined",d.t,e.t]
def Dl.R:Dl->Int
 |.skew r _ _ _ _=>r
 |.rests r _ _ _=>r
 |.bits h _ _=>2 ^ h
 |.table _ cells=>cells.length
 |.joined d e=>d.R*e.R
def Dl.C:Dl->Int
 |.skew _ c _ _ _=>c
 |.rests _ c _ _=>c
 |.bits _ l _=>2 ^ l
 |.table _ cells=>((cells[0]?).getD []).length
 |.joined d e=>d.C*e.C
def Dl.B:Dl->Int
 |.skew _ _ b _ _=>b
 |.rests _ _ b _=>b
 |.bits _ _ ms=>2 ^ ms.length
 |.table b _=>b
 |.joined d e=>d.B*e.B
def Dl.Ok:Dl->Prop
 |.skew r c b x y=>1<=r/\r<=60/\1<=c/\c<=60/\1<=b/\b<=1000/\0<=x/\x<=1000/\0<=y/\y<=1000
 |.rests r c b p=>1<=r/\r<=60/\1<=c/\c<=60/\1<=b/\b<=1000/\1<=p/\p<=100000/\Int.gcd b p=1/\r*c<=b*p
 |.bits h l ms=>h<=4/\l<=4/\ms.length<=5/\∀ m∈ms,0<=m/\m<2 ^ (h+l)
 |.table b cells=>1<=b/\b<=1000/\1<=cells.length/\cells.length<=60/\∃ c,1<=c/\c<=60/\∀ row∈cells,row.length=c/\∀ x∈row,0<=x/\x<b
 |.joined d e=>d.Ok/\e.Ok/\d.R*e.R<=4096/\d.C*e.C<=4096/\d.B*e.B<=4096
def Dl.dep:Dl->Nat
 |.joined d e=>max d.dep e.dep+1
 |_=>0
def p2 (n:Nat):((2:Int) ^ n)=((2 ^ n:Nat):Int):=by simp
def UE (n:Nat):(1:Int)<=2 ^ n:=by
 rw [p2];have:=Nat.one_le_two_pow (n:=n);omega
def JL {n k:Nat} (h:n<=k):(2:Int) ^ n<=2 ^ k:=by
 rw [p2,p2];have:=Nat.pow_le_pow_right (n:=2) (by omega) h;omega
structure Lims (d:Dl):Prop where
 r1:1<=d.R
 r2:d.R<=4096
 c1:1<=d.C
 c2:d.C<=4096
 b1:1<=d.B
 b2:d.B<=4096
def j8 {a b:Int} (h1:1<=a) (h2:1<=b):1<=a*b:=by
 have:=Int.mul_le_mul (a:=1) (b:=1) (c:=a) (d:=b) h1 h2 (by omega) (by omega);omega
def Dl.lims:∀ {d:Dl},d.Ok->Lims d
 |.skew r c b x y,⟨h1,h2,h3,h4,h5,h6,_⟩=>⟨h1,by simp [Dl.R];omega,h3,by simp [Dl.C];omega,h5,by simp [Dl.B];omega⟩
 |.rests r c b x,⟨h1,h2,h3,h4,h5,h6,_⟩=>⟨h1,by simp [Dl.R];omega,h3,by simp [Dl.C];omega,h5,by simp [Dl.B];omega⟩
 |.bits h l ms,⟨h1,h2,h3,_⟩=>by
  have e1:=JL h1;have e2:=JL h2;have e3:=JL h3;refine ⟨UE _,?_,UE _,?_,UE _,?_⟩<;>simp [Dl.R,Dl.C,Dl.B]<;>omega
 |.table b cells,⟨h1,h2,h3,h4,c,h5,h6,h7⟩=>by
  have e0:cells[0]?=some cells[0]:=getElem?_eq_getElem (by omega);have e1:=(h7 cells[0] (List.getElem_mem _)).1;have e2:(Dl.table b cells).C=c:=by simp [Dl.C,e0,e1]
  exact ⟨by simp [Dl.R];omega,by simp [Dl.R];omega,by rw [e2];omega,by rw [e2];omega,h1,by simp [Dl.B];omega⟩
 |.joined d e,⟨h1,h2,h3,h4,h5⟩=>by
  have a:=Dl.lims h1;have b:=Dl.lims h2;exact ⟨j8 a.r1 b.r1,h3,j8 a.c1 b.c1,h4,j8 a.b1 b.b1,h5⟩
abbrev X5 (q:Q3):Ends3:={ nx:=λ_ G'=>q .non G',rt:=q }
def jt {A B:TS3} {d:Ends3} {τ:St3} {G:Gp} (h:∀ nx,nx=B d->A { d with nx:=nx } τ G):qE A B d τ G:=h _ rfl
def Lf (G:Gp) (a:Addr) (n:Int):Prop:=∃ o c m,G a=some (.lst [.int o,.int c,.int m])/\0<=o/\0<=m/\m<=n
def Ext (a:Addr) (G G':Gp):Prop:=∀ b o,b≠a->G b=some o->G' b=some o
def Lf.ne {G:Gp} {a p:Addr} {n:Int} (h:Lf G a n) (hp:G p=none):p≠a:=by
 rintro rfl;obtain ⟨o,c,m,e,_⟩:=h;rw [hp] at e;cases e
def Lf.new {G:Gp} {a p:Addr} {n:Int} {ob:O} (h:Lf G a n) (hp:p≠a):Lf (gu G p ob) a n:=by
 obtain ⟨o,c,m,e,r⟩:=h;exact ⟨o,c,m,by rw [zz (Ne.symm hp)];exact e,r⟩
def Lf.mono {G:Gp} {a:Addr} {n k:Int} (h:Lf G a n) (hk:n<=k):Lf G a k:=by
 obtain ⟨o,c,m,e,h1,h2,h3⟩:=h;exact ⟨o,c,m,e,h1,h2,by omega⟩
def Lf.ex {G G':Gp} {a:Addr} {n:Int} (h:Lf G a n) (e:Ex G G'):Lf G' a n:=by
 obtain ⟨o,c,m,e1,h1⟩:=h;exact ⟨o,c,m,e _ _ e1,h1⟩
def Ext.refl {a:Addr} {G:Gp}:Ext a G G:=λ_ _ _ e=>e
def Ext.trans {a:Addr} {G G1 G2:Gp} (x:Ext a G G1) (y:Ext a G1 G2):Ext a G G2:=λb o hb e=>y b o hb (x b o hb e)
def zt {a p:Addr} {G:Gp} {ob:O} (hp:G p=none):Ext a G (gu G p ob):=λb o _ e=>by
 rw [zz (by rintro rfl;rw [hp] at e;cases e)];exact e
def VL {a:Addr} {G G':Gp} (h:Ex G G'):Ext a G G':=λb o _ e=>h b o e
def YX:Sp3:=λts G q=>∃ c k,ts=[.int c,.int k]/\0<=k/\k<4294967296/\∀ m,0<=m->m<1999999973->q (.int m) G
def jK:Sp3:=λts G q=>∃ (a:Addr) (k:Int) (ns:List Int),ts=[.ref a,.int k]/\G a=some (.frz (ns.map T.int))/\ns.length<=63/\0<=k/\k<=63/\∀ p o c,G p=none->0<=o->q (.ref p) (gu G p (.lst [.int o,.int c,.int 0]))
def qx:Sp3:=λts G q=>∃ a n many,ts=[.ref a,.int many]/\1<=many/\many<1073741824/\Lf G a n/\n<1073741824/\∀ d G',0<=d->d<many->Lf G' a (n+1)->Ext a G G'->q (.int d) G'
def jq:Sp3:=λts G q=>∃ a n,ts=[.ref a]/\Lf G a n/\n<100000000/\∀ r c G',1<=r->r<=16->1<=c->c<=16->Lf G' a (n+4)->Ext a G G'->q (.tup [.int r,.int c]) G'
def Z0:Sp3:=λts G q=>∃ x y:Int,ts=[.int x,.int y]/\0<=x/\0<=y/\q (.int (Int.gcd x y:Nat)) G
structure Dr (d:Dl) (r c b:Int):Prop where
 ok:d.Ok
 r2:d.R<=r
 c2:d.C<=c
 b2:d.B<=b
def YJ:Sp3:=λts G q=>∃ a n,ts=[.ref a]/\Lf G a n/\n<10000000/\∀ r c b x y G',Dr (.skew r c b x y) 16 16 32->Lf G' a (n+10)->Ext a G G'->q (Dl.skew r c b x y).t G'
def JC:Sp3:=λts G q=>∃ a n,ts=[.ref a]/\Lf G a n/\n<10000000/\∀ r c b p G',Dr (.rests r c b p) 16 16 32->Lf G' a (n+10)->Ext a G G'->q (Dl.rests r c b p).t G'
def qH {a:Addr} {n many:Int} {G:Gp} {q:Q3} (hL:Lf G a n) (h1:1<=many) (h2:many<1073741824) (hn:n<1073741824) (h:∀ d G',0<=d->d<many->Lf G' a (n+1)->Ext a G G'->q (.int d) G'):qx [.ref a,.int many] G q:=⟨a,n,many,rfl,h1,h2,hL,hn,h⟩
def XE:∀ ts G q,YX ts G q->ts.length=2/\ZJ (X5 q) (qk ["_law_cell","_law_k","_law_m"] ts) G:=by
 rintro ts G q ⟨c,k,rfl,h1,h2,h⟩;refine ⟨rfl,?_⟩;simp only [ZJ,qE,qS,o3,v3,qk,map_cons,List.map_nil,length_cons,length_nil,Nat.zero_add,Nat.reduceAdd,Nat.reduceSub,List.replicate_one,cons_append,List.nil_append,Nat.zero_lt_succ,getElem?_pos,getElem_cons_zero,c3,iC,Int.reduceLT,Nat.reduceLT,getElem_cons_succ,zN,gn3,qX,set_cons_succ,set_cons_zero,Nat.lt_add_one,true_and];exact ⟨.inl ⟨by omega,by omega⟩,cm (by omega) (by omega),cm (by omega) (by omega),.inl ⟨by omega,by omega⟩,h _ (Int.emod_nonneg _ (by omega)) (Int.emod_lt_of_pos _ (by omega))⟩
def cp:qdp 10 18:=⟨by decide,by decide,by decide⟩
def EC:∀ ts G q,jK ts G q->ts.length=2/\QH (X5 q) (qk ["_law_script","_law_k","_law_cell","_law_own"] ts) G:=by
 rintro ts G q ⟨a,k,ns,rfl,hG,hl,h1,h2,h⟩;refine ⟨rfl,?_⟩;simp only [QH,qE,qS,if3,tb3,o3,v3,qk,map_cons,List.map_nil,length_cons,length_nil,Nat.zero_add,Nat.reduceAdd,Nat.reduceSub,List.reduceReplicate,cons_append,List.nil_append,Nat.reduceLT,getElem?_pos,getElem_cons_succ,getElem_cons_zero,cb3,qb,Nat.zero_lt_succ,qh,XQ,getL,hG,iB,length_map,decide_eq_true_eq,gn3,set_cons_succ,set_cons_zero,SX,c3,iC,Int.reduceToNat,Int.reducePow,qX,ju,Nat.lt_add_one,zN,ne_eq,sizeLine_eq,Nat.reduceLeDiff,true_and,gu,ixR,atI,ixN,getElem?_map,Int.lt_irrefl,↓reduceIte,Int.reduceLE,decide_false,Bool.false_eq_true,Int.zero_add];have ck:D8 1000003 k:=cm (by omega) (by omega);by_cases hk:k<ns.length
 ·have hk':k.toNat<ns.length:=by omega
  simp [hk,h1,hk',cp,ck];split
  ·split
   ·exact λp hp=>h p (-ns[k.toNat]) _ hp (by omega)
   ·exact λp hp=>h p 0 _ hp (by omega)
  ·split
   ·exact λp hp=>h p ns[k.toNat] _ hp (by omega)
   ·exact λp hp=>h p 0 _ hp (by omega)
 ·simp [hk,cp,ck];exact λp hp=>h p 0 _ hp (by omega)
def E9:∀ ts G q,qx ts G q->ts.length=2/\QG YX (X5 q) (qk ["_law_left_here","_law_many","_law_digit"] ts) G:=by
 rintro ts G q ⟨a,n,many,rfl,m1,m2,⟨o,c,m,hG,ho,hm,hn⟩,h3,h⟩;refine ⟨rfl,?_⟩;unfold QG;refine jt λnx1 q1=>?_;simp only [qS,o3,v3,qk,map_cons,List.map_nil,length_cons,length_nil,Nat.zero_add,Nat.reduceAdd,Nat.reduceSub,List.replicate_one,cons_append,List.nil_append,Nat.zero_lt_succ,getElem?_pos,getElem_cons_zero,c3,zN,ne_eq,sizeLine_eq,Q6,XN,ixN,Int.zero_le_ofNat,↓reduceIte,Int.reduceToNat,tb3,iB,decide_eq_true_eq,Nat.reduceLT,getElem_cons_succ,iC,gn3,set_cons_succ,set_cons_zero,Std.le_refl,Int.natCast_pos,Int.toNat_zero,qX,Nat.lt_add_one,ixR,getL,atI,qK,cb3,qb,qh,Int.toNat_one,List.length_set,hG,Int.cast_ofNat_Int,Int.reduceLT,Option.bind_some,qr];rw [q1];clear q1;refine jt λnx2 q2=>?_;simp only [zV,qS,o3,v3,qk,map_cons,List.map_nil,length_cons,length_nil,Nat.zero_add,Nat.reduceAdd,Nat.reduceSub,List.replicate_one,cons_append,List.nil_append,Nat.zero_lt_succ,getElem?_pos,getElem_cons_zero,c3,zN,ne_eq,sizeLine_eq,Q6,XN,ixN,Int.zero_le_ofNat,↓reduceIte,Int.reduceToNat,tb3,iB,decide_eq_true_eq,Nat.reduceLT,getElem_cons_succ,iC,gn3,set_cons_succ,set_cons_zero,Std.le_refl,Int.natCast_pos,Int.toNat_zero,qX,Nat.lt_add_one,ixR,getL,atI,qK,cb3,qb,qh,Int.toNat_one,List.length_set,hG,Int.cast_ofNat_Int,Int.reduceLT,Option.bind_some,qr];split
 ·simp only [qE,qS,o3,v3,length_cons,length_nil,Nat.zero_add,Nat.reduceAdd,Nat.zero_lt_succ,getElem?_pos,getElem_cons_zero,c3,Nat.reduceLT,getElem_cons_succ,iC,gn3,set_cons_succ,set_cons_zero,Q6,XN,ixN,Std.le_refl,↓reduceIte,Int.natCast_pos,Int.toNat_zero,qX,Nat.lt_add_one,ixR,getL,atI,qr,Int.cast_ofNat_Int,Int.reduceLT,Option.bind_some];refine ⟨by omega,⟨by omega,m2⟩,h _ _ (Int.emod_nonneg _ (by omega)) (Int.emod_lt_of_pos _ (by omega)) ⟨o/many,c,m+1,qr,Int.ediv_nonneg ho (by omega),by omega,by omega⟩ λb ob hb e=>?_⟩;rw [zz hb,zz hb];exact e
 ·rw [q2];clear q2;simp only [qS,o3,v3,qk,map_cons,List.map_nil,length_cons,length_nil,Nat.zero_add,Nat.reduceAdd,Nat.reduceSub,List.replicate_one,cons_append,List.nil_append,Nat.zero_lt_succ,getElem?_pos,getElem_cons_zero,c3,zN,ne_eq,sizeLine_eq,Q6,XN,ixN,Int.zero_le_ofNat,↓reduceIte,Int.reduceToNat,tb3,iB,decide_eq_true_eq,Nat.reduceLT,getElem_cons_succ,iC,gn3,set_cons_succ,set_cons_zero,Std.le_refl,Int.natCast_pos,Int.toNat_zero,qX,Nat.lt_add_one,ixR,getL,atI,qK,cb3,qb,qh,Int.toNat_one,List.length_set,hG,Int.cast_ofNat_Int,Int.reduceLT,Option.bind_some,qr];refine ⟨c,m+1,rfl,by omega,by omega,λu u1 u2=>?_⟩;simp only [qS,o3,v3,qk,map_cons,List.map_nil,length_cons,length_nil,Nat.zero_add,Nat.reduceAdd,Nat.reduceSub,List.replicate_one,cons_append,List.nil_append,Nat.zero_lt_succ,getElem?_pos,getElem_cons_zero,c3,zN,ne_eq,sizeLine_eq,Q6,XN,ixN,Int.zero_le_ofNat,↓reduceIte,Int.reduceToNat,tb3,iB,decide_eq_true_eq,Nat.reduceLT,getElem_cons_succ,iC,gn3,set_cons_succ,set_cons_zero,Std.le_refl,Int.natCast_pos,Int.toNat_zero,qX,Nat.lt_add_one,ixR,getL,atI,qK,cb3,qb,qh,Int.toNat_one,List.length_set,hG,Int.cast_ofNat_Int,Int.reduceLT,Option.bind_some,qr];refine ⟨u,m+1+64,rfl,by omega,by omega,λv v1 v2=>?_⟩;refine ⟨⟨by omega,by omega⟩,by omega,h _ _ (Int.emod_nonneg _ (by omega)) (Int.emod_lt_of_pos _ (by omega)) ⟨o,c,m+1,qr,ho,by omega,by omega⟩ λb ob hb e=>?_⟩;rw [zz hb];exact e
def TU {x y:Int} (hy:0<y):Int.gcd y (x%y)=Int.gcd x y:=by
 rw [Int.emod_def,Int.gcd_comm x y];simp
def XB:∀ ts G q,Z0 ts G q->ts.length=2/\ZF (X5 q) (qk ["_law_one","_law_other"] ts) G:=by
 rintro ts G q ⟨x,y,rfl,hx,hy,h⟩;refine ⟨rfl,?_⟩;simp only [ZF,qE,WE,qk,map_cons,List.map_nil,length_cons,length_nil,Nat.zero_add,Nat.reduceAdd,Nat.sub_self,List.replicate_zero,List.append_nil,tb3,o3,v3,c3,iB,decide_eq_true_eq,YO,qb,iC,qh,qX];refine ⟨λn τ G'=>G'=G/\∃ u v:Int,τ=[some (.int u),some (.int v)]/\n=v.toNat/\0<=u/\0<=v/\Int.gcd u v=Int.gcd x y,⟨_,rfl,x,y,rfl,rfl,hx,hy,rfl⟩,?_⟩;rintro n τ G' ⟨eG,u,v,rfl,rfl,hu,hv,e⟩;simp;by_cases h0:0<v
 ·simp [h0];refine ⟨λτ' G'=>G'=G/\∃ x' y':Int,τ'=[some (.int x'),some (.int y')]/\y'.toNat<v.toNat/\0<=x'/\0<=y'/\Int.gcd x' y'=Int.gcd x y,λτ' G' ⟨e1,x',y',e2,e3,e4,e5,e6⟩=>⟨y'.toNat,by omega,e1,x',y',e2,rfl,e4,e5,e6⟩,eG,v,u%v,rfl,?_,hv,Int.emod_nonneg _ (by omega),by rw [TU h0,e]⟩;have:=Int.emod_lt_of_pos u h0;omega
 ·have:v=0:=by omega
  subst this;simp at e;simp [eG];have:u=(Int.gcd x y:Nat):=by omega
  rw [this];exact h
def qdy {d:Int} (h1:0<=d) (h2:d<4) {x0 x1 x2 x3:T} {P:T->Prop} (p0:P x0) (p1:P x1) (p2:P x2) (p3:P x3):∃ x,L2.atI [x0,x1,x2,x3] d=some x/\P x:=by
 have:d=0\/d=1\/d=2\/d=3:=by omega
 rcases this with rfl|rfl|rfl|rfl
 ·exact ⟨x0,rfl,p0⟩
 ·exact ⟨x1,rfl,p1⟩
 ·exact ⟨x2,rfl,p2⟩
 ·exact ⟨x3,rfl,p3⟩
def qdO {d:Int} (h1:0<=d) (h2:d<3) {x0 x1 x2:T} {P:T->Prop} (p0:P x0) (p1:P x1) (p2:P x2):∃ x,L2.atI [x0,x1,x2] d=some x/\P x:=by
 have:d=0\/d=1\/d=2:=by omega
 rcases this with rfl|rfl|rfl
 ·exact ⟨x0,rfl,p0⟩
 ·exact ⟨x1,rfl,p1⟩
 ·exact ⟨x2,rfl,p2⟩
def UJ:∀ ts G q,jq ts G q->ts.length=1/\jR qx (X5 q) (qk ["_law_left_here","_law_wide","_law_rows","_law_columns"] ts) G:=by
 rintro ts G q ⟨a,n,rfl,hL,hn,h⟩;refine ⟨rfl,?_⟩;unfold jR;refine jt λnx1 q1=>?_;simp only [qS,o3,ju,qb,c3,qh,length_cons,length_nil,Nat.zero_add,Nat.reduceAdd,sizeLine_eq,Nat.reduceLeDiff,cb3,v3,qk,map_cons,List.map_nil,Nat.add_one_sub_one,List.reduceReplicate,cons_append,List.nil_append,Nat.zero_lt_succ,getElem?_pos,getElem_cons_zero,gn3,set_cons_succ,set_cons_zero,true_and];intro p hp;have hpa:=hL.ne hp;refine qH (hL.new hpa) (by decide) (by decide) (by omega) λd G1 d1 d2 L1 E1=>?_;have g1:=E1 p _ hpa qr;obtain ⟨w,hw,w',rfl,w1,w2⟩:=qdy d1 d2 (P:=λt=>∃ w,t=T.int w/\1<=w/\w<=16) ⟨6,rfl,by decide⟩ ⟨6,rfl,by decide⟩ ⟨6,rfl,by decide⟩ ⟨16,rfl,by decide⟩;simp only [ixR,getL,g1,hw];rw [q1];clear q1;refine jt λnx2 q2=>?_;simp only [YO,qb,o3,c3,cb3,v3,length_cons,length_nil,Nat.zero_add,Nat.reduceAdd,Nat.zero_lt_succ,getElem?_pos,getElem_cons_zero,Nat.reduceLT,getElem_cons_succ,qh,zN,ne_eq,sizeLine_eq,set_cons_succ,set_cons_zero];refine qH L1 w1 (by omega) (by omega) λr G2 r1 r2 L2' E2=>?_;simp only [iI,qE,qS,o3,ju,qb,c3,qh,length_cons,length_nil,Nat.zero_add,Nat.reduceAdd,sizeLine_eq,Nat.reduceLeDiff,cb3,v3,qk,map_cons,List.map_nil,Nat.add_one_sub_one,List.reduceReplicate,cons_append,List.nil_append,Nat.zero_lt_succ,getElem?_pos,getElem_cons_zero,gn3,YO,set_cons_succ,set_cons_zero,Nat.reduceLT,getElem_cons_succ,zN,ne_eq,qX,zp,Nat.lt_add_one,true_and,gu];refine qH L2' w1 (by omega) (by omega) λc G3 c1 c2 L3' E3=>?_;simp only [iI,qE,qS,o3,ju,qb,c3,qh,length_cons,length_nil,Nat.zero_add,Nat.reduceAdd,sizeLine_eq,Nat.reduceLeDiff,cb3,v3,qk,map_cons,List.map_nil,Nat.add_one_sub_one,List.reduceReplicate,cons_append,List.nil_append,Nat.zero_lt_succ,getElem?_pos,getElem_cons_zero,gn3,YO,set_cons_succ,set_cons_zero,Nat.reduceLT,getElem_cons_succ,zN,ne_eq,qX,zp,Nat.lt_add_one,true_and,gu];rw [q2];clear q2;simp only [qX,o3,ju,qb,zp,v3,length_cons,length_nil,Nat.zero_add,Nat.reduceAdd,Nat.reduceLT,getElem?_pos,getElem_cons_succ,getElem_cons_zero,Nat.lt_add_one,qh,sizeLine_eq,Nat.reduceLeDiff,cb3,Nat.zero_lt_succ,c3,true_and];intro p2 hp2;have hpa2:=L3'.ne hp2;refine qH (L3'.new hpa2) (by decide) (by decide) (by omega) λe G4 e1 e2 L4 E4=>?_;have g4:=E4 p2 _ hpa2 qr;have x1:1<=1+r:=by omega
 have x2:1+r<=16:=by omega
 have x3:1<=1+c:=by omega
 have x4:1+c<=16:=by omega
 obtain ⟨t,ht,r',c',rfl,z1,z2,z3,z4⟩:=qdy e1 e2 (P:=λt=>∃ r' c',t=T.tup [.int r',.int c']/\1<=r'/\r'<=16/\1<=c'/\c'<=16) ⟨1+r,1+c,rfl,x1,x2,x3,x4⟩ ⟨1+r,1+c,rfl,x1,x2,x3,x4⟩ ⟨1+r,1+c,rfl,x1,x2,x3,x4⟩ ⟨1+r,1+r,rfl,x1,x2,x1,x2⟩;simp only [ixR,getL,g4,ht];exact h r' c' G4 z1 z2 z3 z4 (L4.mono (by omega)) ((((zt hp).trans E1).trans (E2.trans E3)).trans ((zt hp2).trans E4))
def EY:∀ ts G q,YJ ts G q->ts.length=1/\QC jq qx (X5 q) (qk ["_law_left_here","_law_rows","_law_columns","_law_banks","_law_wide"] ts) G:=by
 rintro ts G q ⟨a,n,rfl,hL,hn,h⟩;refine ⟨rfl,?_⟩;unfold QC;refine jt λnx1 q1=>?_;simp only [qS,cb3,qb,v3,qk,map_cons,List.map_nil,length_cons,length_nil,Nat.zero_add,Nat.reduceAdd,Nat.add_one_sub_one,List.reduceReplicate,cons_append,List.nil_append,Nat.zero_lt_succ,getElem?_pos,getElem_cons_zero,qh,jB,qI,gn3,jA,set_cons_succ,set_cons_zero];refine ⟨a,n,rfl,hL,by omega,λr c G1 r1 r2 c1 c2 L1 E1=>?_⟩;simp only [length_cons,length_nil,Nat.zero_add,Nat.reduceAdd,true_and];rw [q1];clear q1;refine jt λnx2 q2=>?_;simp only [qS,o3,c3,cb3,qb,v3,length_cons,length_nil,Nat.zero_add,Nat.reduceAdd,Nat.zero_lt_succ,getElem?_pos,getElem_cons_zero,ju,qh,sizeLine_eq,Nat.reduceLeDiff,zN,ne_eq,gn3,set_cons_succ,set_cons_zero,true_and];intro p hp;have hpa:=L1.ne hp;refine qH (L1.new hpa) (by decide) (by decide) (by omega) λd G2 d1 d2 L2' E2=>?_;have g2:=E2 p _ hpa qr;obtain ⟨w,hw,w',rfl,w1,w2⟩:=qdy d1 d2 (P:=λt=>∃ w,t=T.int w/\1<=w/\w<=32) ⟨8,rfl,by decide⟩ ⟨8,rfl,by decide⟩ ⟨17,rfl,by decide⟩ ⟨32,rfl,by decide⟩;simp only [ixR,getL,g2,hw];refine qH L2' w1 (by omega) (by omega) λb G3 b1 b2 L3' E3=>?_;simp [qE,qS,gn3,qX,SL,zV,ZH,qbR,qK,v3,c3,o3,u3,DU,L3.ixT,L3.ixR,zN,iI,iC,iB,z6,jf,qbf,tb3,SS,or3,SV,CY,qa8,X7,if3,ch3,cb3,qb,qh,SW,tyT,W4,zp,ju,qbl,np3,sp3,jB,qI,jA,Q6,XN,YO,qk,bm3,EA,qbi,XQ,SX,SU,qbA,qbB,zA,JT,qcX,qdx,qdu,VV,HT.sIx,getL,in3,UV,eqF,gu,sizeLine_eq,getElem?_cons_zero,getElem?_cons_succ];rw [q2];clear q2;refine jt λnx3 q3=>?_;simp only [qS,o3,ju,qb,v3,length_cons,length_nil,Nat.zero_add,Nat.reduceAdd,Nat.reduceLT,getElem?_pos,getElem_cons_succ,getElem_cons_zero,c3,qh,sizeLine_eq,Nat.reduceLeDiff,cb3,Nat.zero_lt_succ,gn3,set_cons_succ,set_cons_zero,true_and];intro p2 hp2;have hpa2:=L3'.ne hp2;refine qH (L3'.new hpa2) (by decide) (by decide) (by omega) λe G4 e1 e2 L4 E4=>?_;have g4:=E4 p2 _ hpa2 qr;obtain ⟨u,hu,u',rfl,u1,u2⟩:=qdO e1 e2 (P:=λt=>∃ w,t=T.int w/\1<=w/\w<=100) ⟨1+b,rfl,by omega,by omega⟩ ⟨10,rfl,by decide⟩ ⟨100,rfl,by decide⟩;simp only [ixR,getL,g4,hu];rw [q3];clear q3;simp only [qX,zp,qb,c3,v3,length_cons,length_nil,Nat.zero_add,Nat.reduceAdd,Nat.reduceLT,getElem?_pos,getElem_cons_succ,getElem_cons_zero,cb3,Nat.zero_lt_succ,Nat.lt_add_one,qh,sizeLine_eq,Nat.reduceLeDiff,true_and];refine qH L4 u1 (by omega) (by omega) λx G5 x1 x2 L5 E5=>?_
 try simp [qE,qS,gn3,qX,SL,zV,ZH,qbR,qK,v3,c3,o3,u3,DU,L3.ixT,L3.ixR,zN,iI,iC,iB,z6,jf,qbf,tb3,SS,or3,SV,CY,qa8,X7,if3,ch3,cb3,qb,qh,SW,tyT,W4,zp,ju,qbl,np3,sp3,jB,qI,jA,Q6,XN,YO,qk,bm3,EA,qbi,XQ,SX,SU,qbA,qbB,zA,JT,qcX,qdx,qdu,VV,HT.sIx,getL,in3,UV,eqF,gu,sizeLine_eq,getElem?_cons_zero,getElem?_cons_succ]
 refine qH L5 u1 (by omega) (by omega) λy G6 y1 y2 L6 E6=>?_
 try simp [qE,qS,gn3,qX,SL,zV,ZH,qbR,qK,v3,c3,o3,u3,DU,L3.ixT,L3.ixR,zN,iI,iC,iB,z6,jf,qbf,tb3,SS,or3,SV,CY,qa8,X7,if3,ch3,cb3,qb,qh,SW,tyT,W4,zp,ju,qbl,np3,sp3,jB,qI,jA,Q6,XN,YO,qk,bm3,EA,qbi,XQ,SX,SU,qbA,qbB,zA,JT,qcX,qdx,qdu,VV,HT.sIx,getL,in3,UV,eqF,gu,sizeLine_eq,getElem?_cons_zero,getElem?_cons_succ]
 exact h r c (1+b) x y G6 ⟨⟨r1,by omega,c1,by omega,by omega,by omega,x1,by omega,y1,by omega⟩,r2,c2,by show 1+b<=32;omega⟩ (L6.mono (by omega)) (E1.trans (((zt hp).trans E2).trans (E3.trans (((zt hp2).trans E4).trans (E5.trans E6)))))
def cop {b p:Int} (hb:1<=b):∃ k:Nat,(k:Int)<b/\Int.gcd b (p+k)=1:=by
 refine ⟨((1-p)%b).toNat,?_,?_⟩
 ·have:=Int.emod_nonneg (1-p) (show b≠0 by omega);have:=Int.emod_lt_of_pos (1-p) (show 0<b by omega);omega
 ·have h1:=Int.emod_nonneg (1-p) (show b≠0 by omega);have h2:=Int.emod_add_mul_ediv (1-p) b;have e:p+(((1-p)%b).toNat:Int)=1+b*(-((1-p)/b)):=by
   rw [Int.toNat_of_nonneg h1,Int.mul_neg];omega
  rw [e];simp
structure Plc (b p0 pl:Int) (i:Nat):Prop where
 lo:p0<=pl
 hi:pl<=p0+i
 at_:Int.gcd b pl=1\/(pl=p0+i/\∀ k:Nat,k<i->Int.gcd b (p0+k)≠1)
def Plc.done {b p0 pl:Int} {n:Nat} (h:Plc b p0 pl n) (hb:1<=b) (hn:b<=n):Int.gcd b pl=1:=by
 rcases h.at_ with h|⟨_,h⟩
 ·exact h
 ·obtain ⟨k,h1,h2⟩:=cop (p:=p0) hb;exact absurd h2 (h k (by omega))
def Plc.next {b p0 pl:Int} {i:Nat} (h:Plc b p0 pl i) (hb:1<=b) (hp:1<=p0) (hg:(1:Int)<(Int.gcd b pl:Nat)):Plc b p0 (pl+1) (i+1):=by
 rcases h.at_ with z|⟨z1,z2⟩
 ·rw [z] at hg;simp at hg
 ·refine ⟨by have:=h.lo;omega,by omega,.inr ⟨by omega,λk hk=>?_⟩⟩;rcases Nat.lt_or_ge k i with q|q
  ·exact z2 k q
  ·have:k=i:=by omega
   subst this;rw [← z1];omega
def Plc.stay {b p0 pl:Int} {i:Nat} (h:Plc b p0 pl i) (hb:1<=b) (hp:1<=p0) (hg:¬ (1:Int)<(Int.gcd b pl:Nat)):Plc b p0 pl (i+1):=by
 have g0:0<Int.gcd b pl:=Int.gcd_pos_of_ne_zero_left _ (by omega);exact ⟨h.lo,by have:=h.hi;omega,.inl (by omega)⟩
def MJ {r c b:Int} (hr:1<=r) (hc:1<=c) (hb:1<=b):1<=-(-r*c/b)/\r*c<=b*-(-r*c/b)/\-(-r*c/b)<=r*c:=by
 have h1:=j8 hr hc;have e:-r*c=-(r*c):=Int.neg_mul ..;rw [e];have h2:=Int.ediv_neg_of_neg_of_pos (a:=-(r*c)) (b:=b) (by omega) (by omega);have h3:=Int.mul_ediv_self_le (x:=-(r*c)) (k:=b) (by omega);have h4:-(r*c)<=-(r*c)/b:=by
  have:=Int.le_ediv_of_mul_le (a:=-(r*c)) (b:=-(r*c)) (c:=b) (by omega) (by
   have:=Int.mul_le_mul_of_nonneg_left hb (show (0:Int)<=r*c by omega);rw [Int.neg_mul];omega)
  exact this
 rw [Int.mul_neg];omega
def UP:∀ ts G q,JC ts G q->ts.length=1/\jG jq qx Z0 (X5 q) (qk ["_law_left_here","_law_rows","_law_columns","_law_banks","_law_places","_law_turn"] ts) G:=by
 rintro ts G q ⟨a,n,rfl,hL,hn,h⟩;refine ⟨rfl,?_⟩;unfold jG;refine jt λnx1 q1=>?_;simp only [qS,cb3,qb,v3,qk,map_cons,List.map_nil,length_cons,length_nil,Nat.zero_add,Nat.reduceAdd,Nat.add_one_sub_one,List.reduceReplicate,cons_append,List.nil_append,Nat.zero_lt_succ,getElem?_pos,getElem_cons_zero,qh,jB,qI,gn3,jA,set_cons_succ,set_cons_zero];refine ⟨a,n,rfl,hL,by omega,λr c G1 r1 r2 c1 c2 L1 E1=>?_⟩;simp only [length_cons,length_nil,Nat.zero_add,Nat.reduceAdd,true_and];rw [q1];clear q1;refine jt λnx2 q2=>?_;simp only [qS,o3,c3,cb3,qb,v3,length_cons,length_nil,Nat.zero_add,Nat.reduceAdd,Nat.zero_lt_succ,getElem?_pos,getElem_cons_zero,ju,qh,sizeLine_eq,Nat.reduceLeDiff,zN,ne_eq,gn3,set_cons_succ,set_cons_zero,true_and];intro p hp;have hpa:=L1.ne hp;refine qH (L1.new hpa) (by decide) (by decide) (by omega) λd G2 d1 d2 L2' E2=>?_;have g2:=E2 p _ hpa qr;obtain ⟨w,hw,w',rfl,w1,w2⟩:=qdO d1 d2 (P:=λt=>∃ w,t=T.int w/\1<=w/\w<=32) ⟨8,rfl,by decide⟩ ⟨17,rfl,by decide⟩ ⟨32,rfl,by decide⟩;simp only [ixR,getL,g2,hw];refine qH L2' w1 (by omega) (by omega) λb G3 b1 b2 L3' E3=>?_;simp [qE,qS,gn3,qX,SL,zV,ZH,qbR,qK,v3,c3,o3,u3,DU,L3.ixT,L3.ixR,zN,iI,iC,iB,z6,jf,qbf,tb3,SS,or3,SV,CY,qa8,X7,if3,ch3,cb3,qb,qh,SW,tyT,W4,zp,ju,qbl,np3,sp3,jB,qI,jA,Q6,XN,YO,qk,bm3,EA,qbi,XQ,SX,SU,qbA,qbB,zA,JT,qcX,qdx,qdu,VV,HT.sIx,getL,in3,UV,eqF,gu,sizeLine_eq,getElem?_cons_zero,getElem?_cons_succ];rw [q2];clear q2;refine jt λnx3 q3=>?_;simp only [qS,o3,u3,v3,length_cons,length_nil,Nat.zero_add,Nat.reduceAdd,Nat.reduceLT,getElem?_pos,getElem_cons_succ,getElem_cons_zero,DU,iC,cb3,qb,Nat.zero_lt_succ,c3,qh,zN,ne_eq,sizeLine_eq,gn3,set_cons_succ,set_cons_zero];refine ⟨cm (by omega) (by omega),⟨by omega,by omega⟩,qH L3' (by omega) (by omega) (by omega) λe G4 e1 e2 L4 E4=>?_⟩;obtain ⟨u1,u2,u3⟩:=MJ r1 c1 (show 1<=1+b by omega);have rc:r*c<=16*16:=Int.mul_le_mul r2 c2 (by omega) (by omega);simp [qE,qS,gn3,qX,SL,zV,ZH,qbR,qK,v3,c3,o3,u3,DU,L3.ixT,L3.ixR,zN,iI,iC,iB,z6,jf,qbf,tb3,SS,or3,SV,CY,qa8,X7,if3,ch3,cb3,qb,qh,SW,tyT,W4,zp,ju,qbl,np3,sp3,jB,qI,jA,Q6,XN,YO,qk,bm3,EA,qbi,XQ,SX,SU,qbA,qbB,zA,JT,qcX,qdx,qdu,VV,HT.sIx,getL,in3,UV,eqF,gu,sizeLine_eq,getElem?_cons_zero,getElem?_cons_succ];rw [q3];clear q3;simp only [qE,U8,zQ,qb,c3,qh,Int.reducePow,Int.reduceNeg,Int.neg_ofNat_le_ofNat,Int.reduceLT,and_self,Int.reduceToNat,true_and];obtain ⟨p0,hp0⟩:∃ p0,p0=-(-r*c/(1+b))+e:=⟨_,rfl⟩
 refine J6 _ (λi τ G'=>G'=G4/\∃ (pl:Int) (x:Option T),τ=[some (.ref a),some (.int r),some (.int c),some (.int (1+b)),some (.int pl),x]/\Plc (1+b) p0 pl i) ⟨rfl,_,none,by rw [← hp0],⟨by omega,by omega,.inr ⟨by omega,by omega⟩⟩⟩ (λ_ _ _ _ _=>True.intro) ?_ ?_
 ·rintro i x τ G' nx hx ⟨rfl,pl,y,rfl,P⟩ hn;simp only [gn3,zV,tb3,o3,cb3,qb,v3,set_cons_succ,set_cons_zero,length_cons,length_nil,Nat.zero_add,Nat.reduceAdd,Nat.reduceLT,getElem?_pos,getElem_cons_succ,getElem_cons_zero,qh,c3,iB,decide_eq_true_eq,qS,zN,qK];refine ⟨1+b,pl,rfl,by omega,by have:=P.lo;omega,?_⟩;simp;split
  ·rename_i hg;exact hn _ _ ⟨rfl,_,_,rfl,P.next (by omega) (by omega) (by omega)⟩
  ·rename_i hg;exact hn _ _ ⟨rfl,_,_,rfl,P.stay (by omega) (by omega) (by omega)⟩
 ·rintro τ G' ⟨rfl,pl,x,rfl,P⟩;simp only [qX,zp,qb,c3,v3,length_cons,length_nil,Nat.zero_add,Nat.reduceAdd,Nat.reduceLT,getElem?_pos,getElem_cons_succ,getElem_cons_zero,qh,sizeLine_eq,Nat.reduceLeDiff,true_and];rw [jw] at P;have lo:=P.lo;have hi:=P.hi;have m1:(1+b)*-(-r*c/(1+b))<=(1+b)*pl:=Int.mul_le_mul_of_nonneg_left (by omega) (by omega);exact h r c (1+b) pl G' ⟨⟨r1,by omega,c1,by omega,by omega,by omega,by omega,by omega,P.done (by omega) (by omega),by omega⟩,r2,c2,by show 1+b<=32;omega⟩ (L4.mono (by omega)) (E1.trans (((zt hp).trans E2).trans (E3.trans E4)))
def KC:∀ {d:Nat},d<=8->L2.atI [T.int 1,.int 2,.int 4,.int 8,.int 16,.int 32,.int 64,.int 128,.int 256] (d:Int)=some (.int (2 ^ d))
 |0,_=>rfl
 |1,_=>rfl
 |2,_=>rfl
 |3,_=>rfl
 |4,_=>rfl
 |5,_=>rfl
 |6,_=>rfl
 |7,_=>rfl
 |8,_=>rfl
 |k+9,h=>absurd h (Nat.not_le.mpr (Nat.lt_of_lt_of_le (Nat.lt_succ_self _) (Nat.le_add_left _ _)))
def KL:∀ {d:Nat},d<=4->L2.atI [T.int 1,.int 2,.int 4,.int 8,.int 16] (d:Int)=some (.int (2 ^ d))
 |0,_=>rfl
 |1,_=>rfl
 |2,_=>rfl
 |3,_=>rfl
 |4,_=>rfl
 |k+5,h=>absurd h (Nat.not_le.mpr (Nat.lt_of_lt_of_le (Nat.lt_succ_self _) (Nat.le_add_left _ _)))
def VX {te:TE3} {q:Q3} {a:Addr} {n many:Int} {QP:St3} {items:List T} {x0:Option T} {G:Gp} (hte:∀ x0 G3 (Q:T->Gp->Prop),qx [.ref a,.int many] G3 Q->te (x0::QP) G3 Q) (hL:Lf G a n) (m1:1<=many) (m2:many<1073741824) (hl:items.length<=1000) (hn:n<1000000000)
  (h:∀ (ds:List Int) G' p,ds.length=items.length->(∀ d∈ds,0<=d/\d<many)->Lf G' a (n+items.length)->Ext a G G'->G' p=none->q (.ref p) (gu G' p (.lst (ds.map T.int)))) :
  YW (λ_=>True) (gn3 0) tt3 te q items [] (x0::QP) G:=by
 refine WB _ (λi ys τ G'=>∃ (ds:List Int) (x0:Option T),τ=x0::QP/\ys=ds.map T.int/\ds.length=i/\(∀ d∈ds,0<=d/\d<many)/\Lf G' a (n+i)/\Ext a G G') ⟨[],x0,rfl,rfl,rfl,by simp,by simpa using hL,Ext.refl⟩ (λ_ _ _ _ _ _=>True.intro) ?_ ?_
 ·rintro i z ys τ G' R hz ⟨ds,x0,rfl,rfl,e,hd,hL',E⟩ hR;have hi:=(List.getElem?_eq_some_iff.mp hz).1;simp only [gn3,tt3,set_cons_zero,if_true];refine hte _ _ _ (qH hL' m1 m2 (by omega) λd G2 d1 d2 L2 E2=>⟨by simp [sizeLine_eq];omega,hR _ _ _ ⟨ds++[d],_,rfl,by simp,by simp [e],λx hx=>?_,L2.mono (by omega),E.trans E2⟩⟩);rcases List.mem_append.mp hx with hx|hx
  ·exact hd x hx
  ·simp at hx;subst hx;exact ⟨d1,d2⟩
 ·rintro ys τ G' ⟨ds,x0,rfl,rfl,e,hd,hL',E⟩ p hp;exact h ds G' p e hd hL' E hp
def J0:Sp3:=λts G q=>∃ a n most,ts=[.ref a,.int most]/\Lf G a n/\n<10000000/\0<=most/\most<=4/\∀ (h l:Nat) (ms:List Int) G',(h:Int)<=most->(l:Int)<=most->(Dl.bits h l ms).Ok->Lf G' a (n+10)->Ext a G G'->q (Dl.bits h l ms).t G'
def DM {wide:Int} {p:Addr} {ds:List Int} {x0:Option T} {G:Gp} {q:Q3} (hw:0<wide) (hl:ds.length<=1000) (hG:getL G p=some (ds.map T.int)) (h:∀ p2,G p2=none->q (.ref p2) (gu G p2 (.lst ((ds.map (·%wide)).map T.int)))) :
  YW (λG=>getL G p=some (ds.map T.int)) (gn3 0) tt3 (o3 (iC (λ_ j=>0<j) (·%·)) (v3 0) (v3 1)) q (ds.map T.int) [] [x0,some (.int wide)] G:=by
 refine WJ (λt=>match t with|.int m=>T.int (m%wide)|t=>t) (λτ=>∃ x0,τ=[x0,some (.int wide)]) hG _ _ _ ⟨_,rfl⟩ ?_ (by simp [sizeLine_eq];omega) λp2 hp2=>?_
 ·rintro z hz τ ⟨x0,rfl⟩ R hR;rw [mem_map] at hz;obtain ⟨m,_,rfl⟩:=hz;simp [gn3,o3,v3,iC];exact ⟨hw,hR _ ⟨_,rfl⟩⟩
 ·have:=h p2 hp2;simpa [map_map,Function.comp_def] using this
def DH:∀ ts G q,J0 ts G q->ts.length=2/\QE qx (X5 q) (qk ["_law_left_here","_law_most","_law_high","_law_low","_law_masks","_law_wide"] ts) G:=by
 rintro ts G q ⟨a,n,most,rfl,hL,hn,m1,m2,h⟩;refine ⟨rfl,?_⟩;simp only [QE,qE,YO,qb,cb3,v3,qk,map_cons,List.map_nil,length_cons,length_nil,Nat.zero_add,Nat.reduceAdd,Nat.reduceSub,List.reduceReplicate,cons_append,List.nil_append,Nat.zero_lt_succ,getElem?_pos,getElem_cons_zero,o3,Nat.reduceLT,getElem_cons_succ,c3,zN,qh,qS,set_cons_succ,set_cons_zero,gn3,ju,sizeLine_eq,Nat.reduceLeDiff,ne_eq,qX,zp,zA,true_and,getL,gu,ixR,↓reduceIte];refine qH hL (by omega) (by omega) (by omega) λhi G1 h1 h2 L1 E1=>?_
 try simp
 refine qH L1 (by omega) (by omega) (by omega) λlo G2 l1 l2 L2' E2=>?_;simp only [lc3,zQ,qb,cb3,v3,length_cons,length_nil,Nat.zero_add,Nat.reduceAdd,Nat.zero_lt_succ,getElem?_pos,getElem_cons_zero,c3,qh,Int.reducePow,Int.reduceNeg,cap,map_cons,Nat.lt_add_one,getElem_cons_succ,Option.join_some,List.map_nil];refine qH L2' (by omega) (by omega) (by omega) λk G3 k1 k2 L3' E3=>?_;refine ⟨⟨by omega,by omega⟩,VX (many:=256) (λx0 G3 Q hq=>by simpa [cb3,qb,v3,c3,qh] using hq) L3' (by omega) (by omega) (by rw [jw];omega) (by omega) λds G4 p e1 e2 L4 E4 hp=>?_⟩;rw [jw] at e1 L4;obtain ⟨H,rfl⟩:=Int.eq_ofNat_of_zero_le h1;obtain ⟨W,rfl⟩:=Int.eq_ofNat_of_zero_le l1;have hpa:=L4.ne hp
 try simp
 intro p2 hp2;have pp:p≠p2:=by rintro rfl;rw [qr] at hp2;cases hp2
 have e3:((H:Int)+(W:Int))=((H+W:Nat):Int):=by omega
 have w1:=UE (H+W);have hG:∀ B,getL (gu (gu G4 p (.lst (ds.map T.int))) p2 B) p=some (ds.map T.int):=λB=>by simp only [getL,zz pp,qr]
 rw [e3,KC (d:=H+W) (by omega)];simp only [QK,v3,getElem?_cons_zero,getElem?_cons_succ,hG];refine DM (by omega) (by omega) (hG _) λp3 hp3=>?_;simp only [qr];refine h H W _ _ (by omega) (by omega) ⟨by omega,by omega,by simp;omega,λm hm=>?_⟩ ((((L4.new hpa).new ((L4.new hpa).ne hp2)).new (((L4.new hpa).new ((L4.new hpa).ne hp2)).ne hp3)).mono (by omega)) (((E1.trans E2).trans (E3.trans E4)).trans (((zt hp).trans (zt hp2)).trans (zt hp3)));rw [mem_map] at hm;obtain ⟨x,_,rfl⟩:=hm;exact ⟨Int.emod_nonneg _ (by omega),Int.emod_lt_of_pos _ (by omega)⟩
structure Cells (cells:List (List Int)) (r c b:Int):Prop where
 r:(cells.length:Int)=r
 c:∀ row∈cells,(row.length:Int)=c/\∀ x∈row,0<=x/\x<b
def WM {q:Q3} {a:Addr} {n r c b:Int} {x0:Option T} {G:Gp} (hL:Lf G a n) (hn:n<100000000) (r1:1<=r) (r2:r<=16) (c1:1<=c) (c2:c<=16) (b1:1<=b) (b2:b<=1000)
  (h:∀ cells G' p,Cells cells r c b->Lf G' a (n+256)->Ext a G G'->G' p=none->q (.ref p) (gu G' p (.lst (cells.map qb7)))) :
  YW (λ_=>True) (gn3 0) tt3 (cb3 zA (qb (lc3 (zQ (qb (v3 3) qh)) (gn3 0) tt3 (cb3 qx (qb (v3 1) (qb (v3 2) qh))) [none,some 1,some 2]) qh)) q (DT 0 r.toNat) [] [x0,some (.ref a),some (.int b),some (.int c)] G:=by
 refine WB _ (λi ys τ G'=>∃ (cells:List (List Int)) (x0:Option T),τ=[x0,some (.ref a),some (.int b),some (.int c)]/\ys=cells.map qb7/\Cells cells i c b/\Lf G' a (n+16*i)/\Ext a G G') ⟨[],x0,rfl,rfl,⟨rfl,by simp⟩,by simpa using hL,Ext.refl⟩ (λ_ _ _ _ _ _=>True.intro) ?_ ?_
 ·rintro i z ys τ G' R hz ⟨cells,x0,rfl,rfl,C,hL',E⟩ hR;obtain ⟨hi,rfl⟩:=SA hz;have hc:=C.r;simp only [gn3,tt3,↓reduceIte,cb3,qb,lc3,zQ,v3,Int.zero_add,set_cons_zero,length_cons,length_nil,Nat.zero_add,Nat.reduceAdd,Nat.lt_add_one,getElem?_pos,getElem_cons_succ,getElem_cons_zero,qh,Int.reducePow,Int.reduceNeg,zA,length_map,sizeLine_eq,getL,cap,map_cons,Nat.reduceLT,Option.join_some,List.map_nil];refine ⟨⟨by omega,by omega⟩,VX (many:=b) (λx0 G3 Q hq=>by simpa [cb3,qb,v3,c3,qh] using hq) hL' (by omega) (by omega) (by rw [jw];omega) (by omega) λds G4 p e1 e2 L4 E4 hp=>?_⟩;rw [jw] at e1 L4;simp only [qr];refine ⟨by omega,hR _ _ _ ⟨cells++[ds],_,rfl,by simp [qb7],⟨by simp;omega,λrow hrow=>?_⟩,((L4.new (L4.ne hp)).mono (by omega)),(E.trans E4).trans (zt hp)⟩⟩;rcases List.mem_append.mp hrow with hr|hr
  ·exact C.c row hr
  ·simp at hr;subst hr;exact ⟨by omega,e2⟩
 ·rintro ys τ G' ⟨cells,x0,rfl,rfl,C,hL',E⟩ p hp;rw [jw] at C hL';exact h cells G' p ⟨by have:=C.r;omega,C.c⟩ (hL'.mono (by omega)) E hp
def Cells.ok {cells:List (List Int)} {r c b:Int} (C:Cells cells r c b) (r1:1<=r) (r2:r<=60) (c1:1<=c) (c2:c<=60) (b1:1<=b) (b2:b<=1000):(Dl.table b cells).Ok/\(Dl.table b cells).R=r/\(Dl.table b cells).C=c:=by
 have hl:=C.r;have ok:(Dl.table b cells).Ok:=⟨b1,b2,by omega,by omega,c.toNat,by omega,by omega,λrow hr=>⟨by have:=(C.c row hr).1;omega,(C.c row hr).2⟩⟩
 have e0:cells[0]?=some cells[0]:=getElem?_eq_getElem (by omega);exact ⟨ok,hl,by simp [Dl.C,e0];exact (C.c cells[0] (List.getElem_mem _)).1⟩
def JE:Sp3:=λts G q=>∃ a n,ts=[.ref a]/\Lf G a n/\n<10000000/\∀ (d:Dl) G',Dr d 4 4 5->d.dep=0->Lf G' a (n+300)->Ext a G G'->q d.t G'
def UK:∀ ts G q,JE ts G q->ts.length=1/\jD qx Z0 (X5 q) (qk ["_law_left_here","_law_rows","_law_columns","_law_banks","_law_way","_law_high","_law_low","_law_masks","_law_wide","_law_places","_law_turn","_law_cells"] ts) G:=by
 rintro ts G q ⟨a,n,rfl,hL,hn,h⟩;refine ⟨rfl,?_⟩;unfold jD;refine jt λnx1 q1=>?_;simp only [qS,zp,qb,o3,c3,cb3,v3,qk,map_cons,List.map_nil,length_cons,length_nil,Nat.zero_add,Nat.reduceAdd,Nat.add_one_sub_one,List.reduceReplicate,cons_append,List.nil_append,Nat.zero_lt_succ,getElem?_pos,getElem_cons_zero,qh,zN,ne_eq,sizeLine_eq,Nat.reduceLeDiff,jB,qI,gn3,jA,set_cons_succ,set_cons_zero,true_and];refine qH hL (by omega) (by omega) (by omega) λr G1 r1 r2 L1 E1=>?_
 try simp
 refine qH L1 (by omega) (by omega) (by omega) λc G2 c1 c2 L2' E2=>?_
 try simp
 refine qH L2' (by omega) (by omega) (by omega) λb G3 b1 b2 L3' E3=>?_
 try simp
 rw [q1];refine jt λnx2 q2=>?_;simp only [qS,cb3,qb,v3,length_cons,length_nil,Nat.zero_add,Nat.reduceAdd,Nat.zero_lt_succ,getElem?_pos,getElem_cons_zero,c3,qh,gn3,set_cons_succ,set_cons_zero];refine qH L3' (by omega) (by omega) (by omega) λway G4 w1 w2 L4 E4=>?_;have EE:=(E1.trans E2).trans (E3.trans E4);rw [q2];refine jt λnx3 q3=>?_;by_cases k0:way=0
 ·subst k0;simp only [zV,tb3,o3,v3,length_cons,length_nil,Nat.zero_add,Nat.reduceAdd,Nat.reduceLT,getElem?_pos,getElem_cons_succ,getElem_cons_zero,c3,z6,jf,decide_true,Bool.false_eq_true,↓reduceIte,qX,zp,qb,cb3,Nat.zero_lt_succ,qh,sizeLine_eq,Nat.reduceLeDiff,true_and];refine qH L4 (by omega) (by omega) (by omega) λx G5 x1 x2 L5 E5=>?_
  try simp
  refine qH L5 (by omega) (by omega) (by omega) λy G6 y1 y2 L6 E6=>?_
  try simp
  exact h (.skew (1+r) (1+c) (1+b) x y) G6 ⟨⟨by omega,by omega,by omega,by omega,by omega,by omega,by omega,by omega,by omega,by omega⟩,by show 1+r<=4;omega,by show 1+c<=4;omega,by show 1+b<=5;omega⟩ rfl (L6.mono (by omega)) (EE.trans (E5.trans E6))
 simp only [zV,tb3,o3,v3,c3,z6,jf,getElem?_cons_zero,getElem?_cons_succ,k0,decide_false,Bool.false_eq_true,if_false,qK];rw [q3];refine jt λnx4 q4=>?_;by_cases k1:way=1
 ·subst k1;simp only [zV,tb3,o3,v3,length_cons,length_nil,Nat.zero_add,Nat.reduceAdd,Nat.reduceLT,getElem?_pos,getElem_cons_succ,getElem_cons_zero,c3,z6,jf,decide_true,Bool.false_eq_true,↓reduceIte,qE,YO,qb,cb3,Nat.zero_lt_succ,qh,qS,set_cons_succ,set_cons_zero,gn3,ju,sizeLine_eq,Nat.reduceLeDiff,zN,ne_eq,qX,zp,zA,true_and,getL,gu,ixR];refine qH L4 (by omega) (by omega) (by omega) λhi G5 h1 h2 L5 E5=>?_
  try simp
  refine qH L5 (by omega) (by omega) (by omega) λlo G6 l1 l2 L6 E6=>?_;simp only [lc3,zQ,qb,cb3,v3,length_cons,length_nil,Nat.zero_add,Nat.reduceAdd,Nat.zero_lt_succ,getElem?_pos,getElem_cons_zero,c3,qh,Int.reducePow,Int.reduceNeg,cap,map_cons,Nat.reduceLT,getElem_cons_succ,Option.join_some,List.map_nil];refine qH L6 (by omega) (by omega) (by omega) λk G7 k1 k2 L7 E7=>?_;refine ⟨⟨by omega,by omega⟩,VX (many:=16) (λx0 G3 Q hq=>by simpa [cb3,qb,v3,c3,qh] using hq) L7 (by omega) (by omega) (by rw [jw];omega) (by omega) λds G8 p e1 e2 L8 E8 hp=>?_⟩;rw [jw] at e1 L8;obtain ⟨H,rfl⟩:=Int.eq_ofNat_of_zero_le h1;obtain ⟨W,rfl⟩:=Int.eq_ofNat_of_zero_le l1;have hpa:=L8.ne hp
  try simp
  intro p2 hp2;have pp:p≠p2:=by rintro rfl;rw [qr] at hp2;cases hp2
  have e3:((H:Int)+(W:Int))=((H+W:Nat):Int):=by omega
  have w1:=UE (H+W);have hG:∀ B,getL (gu (gu G8 p (.lst (ds.map T.int))) p2 B) p=some (ds.map T.int):=λB=>by simp only [getL,zz pp,qr]
  rw [e3,KL (d:=H+W) (by omega)];simp only [QK,v3,getElem?_cons_zero,getElem?_cons_succ,hG];refine DM (by omega) (by omega) (hG _) λp3 hp3=>?_;simp only [qr];have bl:(Dl.bits H W (ds.map (·%2 ^ (H+W)))).Ok:=⟨by omega,by omega,by simp;omega,λm hm=>by
   rw [mem_map] at hm;obtain ⟨x,_,rfl⟩:=hm;exact ⟨Int.emod_nonneg _ (by omega),Int.emod_lt_of_pos _ (by omega)⟩⟩
  have q1:=JL (n:=H) (k:=2) (by omega);have q2:=JL (n:=W) (k:=2) (by omega);have q3:=JL (n:=ds.length) (k:=2) (by omega);exact h (.bits H W _) _ ⟨bl,by show (2:Int) ^ H<=4;omega,by show (2:Int) ^ W<=4;omega,by simp [Dl.B];omega⟩ rfl ((((L8.new hpa).new ((L8.new hpa).ne hp2)).new (((L8.new hpa).new ((L8.new hpa).ne hp2)).ne hp3)).mono (by omega)) (EE.trans (((E5.trans E6).trans (E7.trans E8)).trans (((zt hp).trans (zt hp2)).trans (zt hp3))))
 simp only [zV,tb3,o3,v3,c3,z6,jf,getElem?_cons_zero,getElem?_cons_succ,k1,decide_false,Bool.false_eq_true,if_false,qK];rw [q4];refine jt λnx5 q5=>?_;by_cases k2:way=2
 ·subst k2;simp only [zV,tb3,o3,v3,length_cons,length_nil,Nat.zero_add,Nat.reduceAdd,Nat.reduceLT,getElem?_pos,getElem_cons_succ,getElem_cons_zero,c3,z6,jf,decide_true,Bool.false_eq_true,↓reduceIte,qE,qS,u3,DU,iC,cb3,qb,Nat.zero_lt_succ,qh,zN,ne_eq,sizeLine_eq,gn3,set_cons_succ,set_cons_zero];refine ⟨cm (by omega) (by omega),⟨by omega,by omega⟩,qH L4 (by omega) (by omega) (by omega) λe G5 e1 e2 L5 E5=>?_⟩;obtain ⟨u1,u2,u3⟩:=MJ (show 1<=1+r by omega) (show 1<=1+c by omega) (show 1<=1+b by omega);have rc:(1+r)*(1+c)<=4*4:=Int.mul_le_mul (by omega) (by omega) (by omega) (by omega);simp only [U8,zQ,qb,c3,qh,Int.reducePow,Int.reduceNeg,Int.neg_ofNat_le_ofNat,Int.reduceLT,and_self,Int.reduceToNat,true_and];obtain ⟨p0,hp0⟩:∃ p0,p0=-(-(1+r)*(1+c)/(1+b))+e:=⟨_,rfl⟩
  refine J6 _ (λi τ G'=>G'=G5/\∃ (pl:Int) (x:Option T),τ=[some (.ref a),some (.int (1+r)),some (.int (1+c)),some (.int (1+b)),some (.int 2),none,none,none,none,some (.int pl),x,none]/\Plc (1+b) p0 pl i) ⟨rfl,_,none,by rw [← hp0],⟨by omega,by omega,.inr ⟨by omega,by omega⟩⟩⟩ (λ_ _ _ _ _=>True.intro) ?_ ?_
  ·rintro i x τ G' nx hx ⟨rfl,pl,y,rfl,P⟩ hn;simp only [gn3,zV,tb3,o3,cb3,qb,v3,set_cons_succ,set_cons_zero,length_cons,length_nil,Nat.zero_add,Nat.reduceAdd,Nat.reduceLT,getElem?_pos,getElem_cons_succ,getElem_cons_zero,qh,c3,iB,decide_eq_true_eq,qS,zN,qK];refine ⟨1+b,pl,rfl,by omega,by have:=P.lo;omega,?_⟩;simp;split
   ·exact hn _ _ ⟨rfl,_,_,rfl,P.next (by omega) (by omega) (by omega)⟩
   ·exact hn _ _ ⟨rfl,_,_,rfl,P.stay (by omega) (by omega) (by omega)⟩
  ·rintro τ G' ⟨rfl,pl,x,rfl,P⟩;simp only [qX,zp,qb,c3,v3,length_cons,length_nil,Nat.zero_add,Nat.reduceAdd,Nat.reduceLT,getElem?_pos,getElem_cons_succ,getElem_cons_zero,qh,sizeLine_eq,Nat.reduceLeDiff,true_and];rw [jw] at P;have lo:=P.lo;have hi:=P.hi;have m1:(1+b)*-(-(1+r)*(1+c)/(1+b))<=(1+b)*pl:=Int.mul_le_mul_of_nonneg_left (by omega) (by omega);exact h (.rests (1+r) (1+c) (1+b) pl) G' ⟨⟨by omega,by omega,by omega,by omega,by omega,by omega,by omega,by omega,P.done (by omega) (by omega),by omega⟩,by show 1+r<=4;omega,by show 1+c<=4;omega,by show 1+b<=5;omega⟩ rfl (L5.mono (by omega)) (EE.trans E5)
 ·simp only [zV,tb3,o3,v3,c3,z6,jf,getElem?_cons_zero,getElem?_cons_succ,k2,decide_false,Bool.false_eq_true,if_false,qK];rw [q5];simp only [qE,qS,lc3,zQ,qb,v3,length_cons,length_nil,Nat.zero_add,Nat.reduceAdd,Nat.reduceLT,getElem?_pos,getElem_cons_succ,getElem_cons_zero,qh,Int.reducePow,Int.reduceNeg,gn3,qX,zp,c3,set_cons_succ,set_cons_zero,cb3,Nat.lt_add_one,zA,sizeLine_eq,Nat.reduceLeDiff,true_and,getL,cap,map_cons,Nat.zero_lt_succ,Option.join_some,List.map_nil];refine ⟨⟨by omega,by omega⟩,WM L4 (by omega) (by omega) (by omega) (by omega) (by omega) (by omega) (by omega) λcells G5 p C L5 E5 hp=>?_⟩;obtain ⟨ok,eR,eC⟩:=C.ok (by omega) (by omega) (by omega) (by omega) (by omega) (by omega);simp only [qr];exact h (.table (1+b) cells) _ ⟨ok,by omega,by omega,by show 1+b<=5;omega⟩ rfl ((L5.new (L5.ne hp)).mono (by omega)) (EE.trans (E5.trans (zt hp)))
def Z9:Sp3:=λts G q=>∃ a n,ts=[.ref a]/\Lf G a n/\n<10000000/\∀ (b:Int) cells r c G',Cells cells r c b->Dr (.table b cells) 16 16 32->(Dl.table b cells).R=r->(Dl.table b cells).C=c->Lf G' a (n+300)->Ext a G G'->q (Dl.table b cells).t G'
def U9:∀ ts G q,Z9 ts G q->ts.length=1/\jI jq qx (X5 q) (qk ["_law_left_here","_law_rows","_law_columns","_law_banks","_law_cells"] ts) G:=by
 rintro ts G q ⟨a,n,rfl,hL,hn,h⟩;refine ⟨rfl,?_⟩;simp only [jI,qE,qS,cb3,qb,v3,qk,map_cons,List.map_nil,length_cons,length_nil,Nat.zero_add,Nat.reduceAdd,Nat.add_one_sub_one,List.reduceReplicate,cons_append,List.nil_append,Nat.zero_lt_succ,getElem?_pos,getElem_cons_zero,qh,jB,qI,gn3,jA,o3,c3,set_cons_succ,set_cons_zero,ju,sizeLine_eq,Nat.reduceLeDiff,zN,ne_eq,qX,zp,Nat.reduceLT,getElem_cons_succ,Nat.lt_add_one,zA,true_and,getL];refine ⟨a,n,rfl,hL,by omega,λr c G1 r1 r2 c1 c2 L1 E1=>?_⟩;simp;intro p hp;have hpa:=L1.ne hp;refine qH (L1.new hpa) (by omega) (by omega) (by omega) λd G2 d1 d2 L2' E2=>?_;have g2:=E2 p _ hpa qr;obtain ⟨w,hw,w',rfl,w1,w2⟩:=qdO d1 d2 (P:=λt=>∃ w,t=T.int w/\1<=w/\w<=32) ⟨4,rfl,by omega,by omega⟩ ⟨9,rfl,by omega,by omega⟩ ⟨32,rfl,by omega,by omega⟩;simp only [ixR,getL,g2,hw];refine qH L2' w1 (by omega) (by omega) λb G3 b1 b2 L3' E3=>?_;simp only [lc3,zQ,qb,v3,length_cons,length_nil,Nat.zero_add,Nat.reduceAdd,Nat.reduceLT,getElem?_pos,getElem_cons_succ,getElem_cons_zero,qh,Int.reducePow,Int.reduceNeg,cap,map_cons,Nat.zero_lt_succ,Option.join_some,List.map_nil];refine ⟨⟨by omega,by omega⟩,WM L3' (by omega) (by omega) (by omega) (by omega) (by omega) (by omega) (by omega) λcells G5 p C L5 E5 hp5=>?_⟩;obtain ⟨ok,eR,eC⟩:=C.ok (by omega) (by omega) (by omega) (by omega) (by omega) (by omega);simp only [qr];exact h (1+b) cells r c _ C ⟨ok,by omega,by omega,by show 1+b<=32;omega⟩ eR eC ((L5.new (L5.ne hp5)).mono (by omega)) (E1.trans (((zt hp).trans E2).trans (E3.trans (E5.trans (zt hp5)))))
def YC {a b x y:Int} (h0:1<=a) (h1:a<=x) (h2:1<=b) (h3:b<=y):a*b<=x*y:=Int.mul_le_mul h1 h3 (by omega) (by omega)
def Dr.join {d e:Dl} {r c b r' c' b':Int} (D:Dr d r c b) (E:Dr e r' c' b') (h1:r*r'<=4096) (h2:c*c'<=4096) (h3:b*b'<=4096):Dr (.joined d e) (r*r') (c*c') (b*b'):=by
 have Ld:=Dl.lims D.ok;have Le:=Dl.lims E.ok;have a1:=YC Ld.r1 D.r2 Le.r1 E.r2;have a2:=YC Ld.c1 D.c2 Le.c1 E.c2;have a3:=YC Ld.b1 D.b2 Le.b1 E.b2;exact ⟨⟨D.ok,E.ok,by omega,by omega,by omega⟩,a1,a2,a3⟩
def Dr.mono {d:Dl} {r c b r' c' b':Int} (D:Dr d r c b) (h1:r<=r') (h2:c<=c') (h3:b<=b'):Dr d r' c' b':=⟨D.ok,by have:=D.r2;omega,by have:=D.c2;omega,by have:=D.b2;omega⟩
def zO:Sp3:=λts G q=>∃ a n,ts=[.ref a]/\Lf G a n/\n<1000000/\∀ (d:Dl) G',Dr d 16 16 32->d.dep<=2->Lf G' a (n+1000)->Ext a G G'->q d.t G'
def S9 {x:Int} (h0:0<=x) (h1:x<2):Dr (.joined (.skew (1+x) 1 2 1 1) (.table 2 [[1,0]])) 2 2 4:=by
 have a:Dr (.skew (1+x) 1 2 1 1) 2 1 2:=⟨⟨by omega,by omega,by omega,by omega,by omega,by omega,by omega,by omega,by omega,by omega⟩,by show 1+x<=2;omega,Int.le_refl 1,Int.le_refl 2⟩
 have b:Dr (.table 2 [[1,0]]) 1 2 2:=⟨⟨by decide,by decide,by decide,by decide,2,by decide,by decide,by simp⟩,by decide,by decide,by decide⟩
 exact (a.join b (by decide) (by decide) (by decide)).mono (by decide) (by decide) (by decide)
def qgt:Dr (.joined (.skew 8 1 3 1 1) (.rests 2 16 5 7)) 16 16 15:=by
 have a:Dr (.skew 8 1 3 1 1) 8 1 3:=⟨⟨by decide,by decide,by decide,by decide,by decide,by decide,by decide,by decide,by decide,by decide⟩,by decide,by decide,by decide⟩
 have b:Dr (.rests 2 16 5 7) 2 16 5:=⟨⟨by decide,by decide,by decide,by decide,by decide,by decide,by decide,by decide,by decide,by decide⟩,by decide,by decide,by decide⟩
 exact (a.join b (by decide) (by decide) (by decide)).mono (by decide) (by decide) (by decide)
def qgf:Dr (.joined (.rests 1 8 3 4) (.skew 16 2 5 2 1)) 16 16 15:=by
 have a:Dr (.rests 1 8 3 4) 1 8 3:=⟨⟨by decide,by decide,by decide,by decide,by decide,by decide,by decide,by decide,by decide,by decide⟩,by decide,by decide,by decide⟩
 have b:Dr (.skew 16 2 5 2 1) 16 2 5:=⟨⟨by decide,by decide,by decide,by decide,by decide,by decide,by decide,by decide,by decide,by decide⟩,by decide,by decide,by decide⟩
 exact (a.join b (by decide) (by decide) (by decide)).mono (by decide) (by decide) (by decide)
def YS:∀ ts G q,zO ts G q->ts.length=1/\z5 qx YJ JC J0 Z9 JE (X5 q) (qk ["_law_left_here","_law_way","_law_inner","_law_some"] ts) G:=by
 rintro ts G q ⟨a,n,rfl,hL,hn,h⟩;refine ⟨rfl,?_⟩;unfold z5;refine jt λnx1 q1=>?_;simp only [qS,cb3,qb,v3,qk,map_cons,List.map_nil,length_cons,length_nil,Nat.zero_add,Nat.reduceAdd,Nat.add_one_sub_one,List.reduceReplicate,cons_append,List.nil_append,Nat.zero_lt_succ,getElem?_pos,getElem_cons_zero,c3,qh,gn3,set_cons_succ,set_cons_zero];refine qH hL (by omega) (by omega) (by omega) λw G1 w1 w2 L1 E1=>?_
 try simp
 rw [q1];clear q1;refine jt λnx2 q2=>?_;by_cases k0:w<2
 ·simp only [zV,tb3,o3,v3,length_cons,length_nil,Nat.zero_add,Nat.reduceAdd,Nat.reduceLT,getElem?_pos,getElem_cons_succ,getElem_cons_zero,c3,iB,k0,decide_true,↓reduceIte,qX,cb3,qb,Nat.zero_lt_succ,qh];exact ⟨a,n+1,rfl,L1,by omega,λr c b x y G2 D L2' E2=>h _ G2 D (Nat.zero_le _) (L2'.mono (by omega)) (E1.trans E2)⟩
 simp only [zV,tb3,o3,v3,c3,iB,getElem?_cons_zero,getElem?_cons_succ,k0,decide_false,Bool.false_eq_true,if_false,qK];rw [q2];clear q2;refine jt λnx3 q3=>?_;by_cases k1:w=2
 ·subst k1;simp only [zV,tb3,o3,v3,length_cons,length_nil,Nat.zero_add,Nat.reduceAdd,Nat.reduceLT,getElem?_pos,getElem_cons_succ,getElem_cons_zero,c3,z6,jf,decide_true,Bool.false_eq_true,↓reduceIte,qX,cb3,qb,Nat.zero_lt_succ,qh];exact ⟨a,n+1,rfl,L1,by omega,λr c b p G2 D L2' E2=>h _ G2 D (Nat.zero_le _) (L2'.mono (by omega)) (E1.trans E2)⟩
 simp only [zV,tb3,o3,v3,c3,z6,jf,getElem?_cons_zero,getElem?_cons_succ,k1,decide_false,Bool.false_eq_true,if_false,qK];rw [q3];clear q3;refine jt λnx4 q4=>?_;by_cases k2:w=3
 ·subst k2;simp only [zV,tb3,o3,v3,length_cons,length_nil,Nat.zero_add,Nat.reduceAdd,Nat.reduceLT,getElem?_pos,getElem_cons_succ,getElem_cons_zero,c3,z6,jf,decide_true,Bool.false_eq_true,↓reduceIte,qX,cb3,qb,Nat.zero_lt_succ,qh];refine ⟨a,n+1,4,rfl,L1,by omega,by omega,by omega,λhh l ms G2 h1 h2 ok L2' E2=>h _ G2 ⟨ok,?_,?_,?_⟩ (Nat.zero_le _) (L2'.mono (by omega)) (E1.trans E2)⟩
  ·have:=JL (n:=hh) (k:=4) (by omega);show (2:Int) ^ hh<=16;omega
  ·have:=JL (n:=l) (k:=4) (by omega);show (2:Int) ^ l<=16;omega
  ·have:=JL ok.2.2.1;show (2:Int) ^ ms.length<=32;omega
 simp only [zV,tb3,o3,v3,c3,z6,jf,getElem?_cons_zero,getElem?_cons_succ,k2,decide_false,Bool.false_eq_true,if_false,qK];rw [q4];clear q4;refine jt λnx5 q5=>?_;by_cases k3:w=4
 ·subst k3;simp only [zV,tb3,o3,v3,length_cons,length_nil,Nat.zero_add,Nat.reduceAdd,Nat.reduceLT,getElem?_pos,getElem_cons_succ,getElem_cons_zero,c3,z6,jf,decide_true,Bool.false_eq_true,↓reduceIte,qX,cb3,qb,Nat.zero_lt_succ,qh];exact ⟨a,n+1,rfl,L1,by omega,λb cells r c G2 C D eR eC L2' E2=>h _ G2 D (Nat.zero_le _) (L2'.mono (by omega)) (E1.trans E2)⟩
 simp only [zV,tb3,o3,v3,c3,z6,jf,getElem?_cons_zero,getElem?_cons_succ,k3,decide_false,Bool.false_eq_true,if_false,qK];rw [q5];clear q5;refine jt λnx6 q6=>?_;by_cases k4:w=5
 ·subst k4;simp only [zV,tb3,o3,v3,length_cons,length_nil,Nat.zero_add,Nat.reduceAdd,Nat.reduceLT,getElem?_pos,getElem_cons_succ,getElem_cons_zero,c3,z6,jf,decide_true,Bool.false_eq_true,↓reduceIte,qE,qS,zp,qb,cb3,Nat.zero_lt_succ,qh,zN,ne_eq,sizeLine_eq,Nat.reduceLeDiff,gn3,ju,set_cons_succ,set_cons_zero,ZH,bm3,Nat.lt_add_one,getL,gu,Option.isSome_some,EA,cons_append,List.nil_append,qX,true_and];refine qH L1 (by omega) (by omega) (by omega) λx G2 x1 x2 L2' E2=>?_;have I:=S9 x1 x2
  try simp
  refine ⟨a,n+1+1,rfl,L2',by omega,λd G3 Dd dd L3' E3=>?_⟩
  try simp
  refine ⟨a,n+1+1+300,rfl,L3',by omega,λe G4 De de L4 E4=>?_⟩
  try simp
  intro p hp;have hpa:=L4.ne hp;refine qH (((L4.new hpa).new hpa).new hpa) (by omega) (by omega) (by omega) λk G5 k1 k2 L5 E5=>?_;have g5:=E5 p _ hpa qr;have EE:Ext a G G5:=(E1.trans E2).trans ((E3.trans E4).trans (Ext.trans (λb o hb e=>by
   have hbp:b≠p:=by rintro rfl;rw [hp] at e;cases e
   rw [zz hbp,zz hbp,zz hbp];exact e) E5))
  have P1:∃ d':Dl,(Dl.joined (.joined (.skew (1+x) 1 2 1 1) (.table 2 [[1,0]])) d).t=d'.t/\Dr d' 16 16 32/\d'.dep<=2:=⟨_,rfl,(I.join Dd (by decide) (by decide) (by decide)).mono (by decide) (by decide) (by decide),by simp [Dl.dep,dd]⟩
  have P2:∃ d':Dl,(Dl.joined e (.joined (.skew (1+x) 1 2 1 1) (.table 2 [[1,0]]))).t=d'.t/\Dr d' 16 16 32/\d'.dep<=2:=⟨_,rfl,(De.join I (by decide) (by decide) (by decide)).mono (by decide) (by decide) (by decide),by simp [Dl.dep,de]⟩
  have P3:∃ d':Dl,(Dl.joined (.skew 8 1 3 1 1) (.rests 2 16 5 7)).t=d'.t/\Dr d' 16 16 32/\d'.dep<=2:=⟨_,rfl,qgt.mono (by decide) (by decide) (by decide),by simp [Dl.dep]⟩
  have P4:∃ d':Dl,(Dl.joined (.rests 1 8 3 4) (.skew 16 2 5 2 1)).t=d'.t/\Dr d' 16 16 32/\d'.dep<=2:=⟨_,rfl,qgf.mono (by decide) (by decide) (by decide),by simp [Dl.dep]⟩
  obtain ⟨t,ht,d',rfl,D',dl⟩:=qdy k1 k2 (P:=λt=>∃ d':Dl,t=d'.t/\Dr d' 16 16 32/\d'.dep<=2) P1 P2 P3 P4;have hg:getL G5 p=some [(Dl.joined (.joined (.skew (1+x) 1 2 1 1) (.table 2 [[1,0]])) d).t,(Dl.joined e (.joined (.skew (1+x) 1 2 1 1) (.table 2 [[1,0]]))).t,(Dl.joined (.skew 8 1 3 1 1) (.rests 2 16 5 7)).t,(Dl.joined (.rests 1 8 3 4) (.skew 16 2 5 2 1)).t]:=by
   unfold getL;rw [g5];rfl
  rw [L3.ixR,hg];simp only [ht];exact h d' G5 D' dl (L5.mono (by omega)) EE
 ·simp only [zV,tb3,o3,v3,c3,z6,jf,getElem?_cons_zero,getElem?_cons_succ,k4,decide_false,Bool.false_eq_true,if_false,qK];rw [q6];simp only [qX,zp,qb,c3,cb3,v3,length_cons,length_nil,Nat.zero_add,Nat.reduceAdd,Nat.zero_lt_succ,getElem?_pos,getElem_cons_zero,qh,sizeLine_eq,Nat.reduceLeDiff,true_and];refine ⟨a,n+1,rfl,L1,by omega,λd G3 Dd dd L3' E3=>?_⟩;refine ⟨a,n+1+300,rfl,L3',by omega,λe G4 De de L4 E4=>?_⟩
  try simp
  exact h (.joined d e) G4 ((Dd.join De (by decide) (by decide) (by decide)).mono (by decide) (by decide) (by decide)) (by simp [Dl.dep];omega) (L4.mono (by omega)) (E1.trans (E3.trans E4))
structure SD (k n:Nat) (d:PyData):Prop where
 sh:d.showable=true
 nd:d.hasDict=false
 dp:d.depth<=k
 lv:d.leavesShort 13=true
 bk:d.bulk<=n
def SD.ok {k n:Nat} {d:PyData} (h:SD k n d) (hk:k<=40) (hn:n<=2 ^ 20):ShOk d:=⟨h.sh,h.nd,Nat.le_trans h.dp hk,h.lv,Nat.le_trans h.bk hn⟩
def SD.w {k n:Nat} {d:PyData} (h:SD k n d) (hk:k<=40) (hn:n<=2 ^ 20):ShW d:=(h.ok hk hn).w
def SD.mono {k n k' n':Nat} {d:PyData} (h:SD k n d) (hk:k<=k') (hn:n<=n'):SD k' n' d:=⟨h.sh,h.nd,Nat.le_trans h.dp hk,h.lv,Nat.le_trans h.bk hn⟩
def jr (k n:Nat) {i:Int} (h:-1000000<=i/\i<=1000000):SD k n (.int i):=by
 refine ⟨?_,rfl,Nat.zero_le _,?_,Nat.zero_le _⟩
 ·simp only [PyData.showable];have:i.natAbs<2 ^ 20:=by omega
  have h2:i.natAbs.log2<20\/i.natAbs=0:=by
   rcases Nat.eq_zero_or_pos i.natAbs with z|z
   ·exact .inr z
   ·exact .inl ((Nat.log2_lt (by omega)).mpr this)
  rcases h2 with h2|h2
  ·simp;omega
  ·simp [h2]
 ·have:=PyProof.Rows.intsShortAll_ints2 [i] (by intro n hn;simp at hn;subst hn;omega);simpa [PyData.intsShortAll,PyData.intsShort,PyData.leavesShort] using this
def YV (k n:Nat) {x:Str} (h:x.cps.size<=n) (hc:(x.cps.toList.all λc=>decide (c<16 ^ 8))=true):SD k n (.str x):=⟨rfl,rfl,Nat.zero_le _,hc,h⟩
structure SDs (k n:Nat) (ds:List PyData):Prop where
 sh:PyData.showableAll ds=true
 nd:PyData.hasDictAll ds=false
 dp:PyData.depthAll ds<=k
 lv:PyData.leavesShortAll 13 ds=true
 bk:PyData.bulkAll ds<=n
def QX (k n:Nat):SDs k n []:=⟨rfl,rfl,Nat.zero_le _,rfl,Nat.zero_le _⟩
def qw {k n m s:Nat} {d:PyData} {ds:List PyData} (h:SD k n d) (t:SDs k m ds) (hs:n+1+m<=s):SDs k s (d::ds):=by
 refine ⟨?_,?_,?_,?_,?_⟩
 ·simp [PyData.showableAll,h.sh,t.sh]
 ·simp [PyData.hasDictAll,h.nd,t.nd]
 ·simp only [PyData.depthAll];exact Nat.max_le.mpr ⟨h.dp,t.dp⟩
 ·simp [PyData.leavesShortAll,h.lv,t.lv]
 ·simp only [PyData.bulkAll];have:=h.bk;have:=t.bk;omega
def z8 {k n:Nat} {ds:List PyData} (t:SDs k n ds):SD (k+1) n (.tuple ds):=by
 refine ⟨?_,?_,?_,?_,?_⟩
 ·simpa [PyData.showable] using t.sh
 ·simpa [PyData.hasDict] using t.nd
 ·simp only [PyData.depth];have:=t.dp;omega
 ·simpa [PyData.leavesShort] using t.lv
 ·simp only [PyData.bulk];exact t.bk
def VW {k n:Nat}:∀ {ds:List PyData},(∀ d∈ds,SD k n d)->SDs k (ds.length*(n+1)) ds
 |[],_=>QX _ _
 |d::ds,h=>qw (h d (by simp)) (VW λx hx=>h x (by simp [hx])) (by rw [length_cons,Nat.succ_mul];omega)
def V4 {k:Nat} {ns:List Int} (h:∀ n∈ns,-1000000<=n/\n<=1000000):SDs k ns.length (ns.map PyData.int):=by
 have:=VW (k:=k) (n:=0) (ds:=ns.map PyData.int) (by intro d hd;obtain ⟨i,hi,rfl⟩:=mem_map.mp hd;exact jr _ _ (h i hi));simpa using this
def _root_.L3.Dps.append {G:Gp}:∀ {xs ys:List T} {ds es:List PyData},Dps G xs ds->Dps G ys es->Dps G (xs++ys) (ds++es)
 |_,_,_,_,.nil,b=>b
 |_,_,_,_,.cons a t,b=>.cons a (L3.Dps.append t b)
def _root_.L3.Dps.take {G:Gp}:∀ {xs:List T} {ds:List PyData} (i:Nat),Dps G xs ds->Dps G (xs.take i) (ds.take i)
 |_,_,0,_=>.nil
 |_,_,_+1,.nil=>.nil
 |_,_,i+1,.cons a t=>.cons a (L3.Dps.take i t)
def _root_.L3.Dps.drop {G:Gp}:∀ {xs:List T} {ds:List PyData} (i:Nat),Dps G xs ds->Dps G (xs.drop i) (ds.drop i)
 |_,_,0,h=>h
 |_,_,_+1,.nil=>.nil
 |_,_,i+1,.cons a t=>L3.Dps.drop i t
def dn (cs:List (Int×Int)):List Int:=cs.map (·.1)
end Bk
namespace Pu
open PySem L2 L3
def cif {α:Type} (P:Prop) (a b:α):α:=@ite α P (Classical.propDecidable P) a b
def zr {α:Type} {P:Prop} {a b:α} (h:P):cif P a b=a:=@if_pos P (Classical.propDecidable P) h α a b
def qau {α:Type} {P:Prop} {a b:α} (h:¬ P):cif P a b=b:=@if_neg P (Classical.propDecidable P) h α a b
structure Tru (b:Bool):Prop where
 h:b=true
mutual
inductive Dq (G:Gp):T->PyData->Prop
 |non:Dq G .non .none
 |bl (b:Bool):Dq G (.bl b) (.bool b)
 |int (i:Int):Dq G (.int i) (.int i)
 |str (x:Str):Dq G (.str x) (.str x)
 |tup {xs:List T} {ds:List PyData}:Dqs G xs ds->Dq G (.tup xs) (.tuple ds)
 |lst {p:Addr} {xs:List T} {ds:List PyData}:G p=some (.lst xs)->Dqs G xs ds->Dq G (.ref p) (.list ds)
inductive Dqs (G:Gp):List T->List PyData->Prop
 |nil:Dqs G [] []
 |cons {x:T} {d:PyData} {xs:List T} {ds:List PyData}:Dq G x d->Dqs G xs ds->Dqs G (x::xs) (d::ds)
end
mutual
def Dq.up {G G':Gp} (e:Ex G G'):∀ {x:T} {d:PyData},Dq G x d->Dq G' x d
 |_,_,.non=>.non
 |_,_,.bl b=>.bl b
 |_,_,.int i=>.int i
 |_,_,.str x=>.str x
 |_,_,.tup h=>.tup (Dqs.up e h)
 |_,_,.lst h1 h2=>.lst (e _ _ h1) (Dqs.up e h2)
def Dqs.up {G G':Gp} (e:Ex G G'):∀ {x:List T} {d:List PyData},Dqs G x d->Dqs G' x d
 |_,_,.nil=>.nil
 |_,_,.cons a b=>.cons (Dq.up e a) (Dqs.up e b)
end
def jc {G:Gp} {p:Addr} {xs:List T} (h:G p=some (.lst xs)):getL G p=some xs:=by unfold getL;rw [h]
mutual
def Dq.dp {G:Gp}:∀ {x:T} {d:PyData},Dq G x d->Dp G x d
 |_,_,.non=>.non
 |_,_,.bl b=>.bl b
 |_,_,.int i=>.int i
 |_,_,.str x=>.str x
 |_,_,.tup h=>.tup (Dqs.dp h)
 |_,_,.lst h1 h2=>.lst (jc h1) (Dqs.dp h2)
def Dqs.dp {G:Gp}:∀ {x:List T} {d:List PyData},Dqs G x d->Dps G x d
 |_,_,.nil=>.nil
 |_,_,.cons a b=>.cons (Dq.dp a) (Dqs.dp b)
end
def Dqs.length {G:Gp}:∀ {xs:List T} {ds:List PyData},Dqs G xs ds->xs.length=ds.length
 |_,_,.nil=>rfl
 |_,_,.cons _ b=>by simp [Dqs.length b]
def Dqs.get {G:Gp}:∀ {xs:List T} {ds:List PyData} {i:Nat} {d:PyData},Dqs G xs ds->ds[i]?=some d->∃ x,xs[i]?=some x/\Dq G x d
 |_,_,_,_,.nil,e=>by simp at e
 |_,_,0,_,.cons r _,e=>by simp at e;subst e;exact ⟨_,rfl,r⟩
 |_,_,i+1,d,.cons _ t,e=>by
  obtain ⟨u,h1,h2⟩:=Dqs.get (i:=i) (d:=d) t (by simpa using e);exact ⟨u,by simpa using h1,h2⟩
def Dqs.append {G:Gp}:∀ {xs:List T} {ds:List PyData} {ys:List T} {es:List PyData},Dqs G xs ds->Dqs G ys es->Dqs G (xs++ys) (ds++es)
 |_,_,_,_,.nil,h=>h
 |_,_,_,_,.cons a b,h=>.cons a (Dqs.append b h)
def Dqs.drop {G:Gp}:∀ {xs:List T} {ds:List PyData} (n:Nat),Dqs G xs ds->Dqs G (xs.drop n) (ds.drop n)
 |_,_,0,h=>h
 |_,_,_+1,.nil=>.nil
 |_,_,n+1,.cons _ b=>Dqs.drop n b
def Dqs.take {G:Gp}:∀ {xs:List T} {ds:List PyData} (n:Nat),Dqs G xs ds->Dqs G (xs.take n) (ds.take n)
 |_,_,0,h=>by simp;exact .nil
 |_,_,_+1,.nil=>.nil
 |_,_,n+1,.cons a b=>.cons a (Dqs.take n b)
def Dqs.ints {G:Gp}:∀ {ns:List Int} {xs:List T},Dqs G xs (ns.map PyData.int)->xs=ns.map T.int
 |[],_,.nil=>rfl
 |n::ns,_,.cons a b=>by cases a;rw [Dqs.ints b];rfl
def Dqs.ofInts {G:Gp}:∀ (ns:List Int),Dqs G (ns.map T.int) (ns.map PyData.int)
 |[]=>.nil
 |n::r=>.cons (.int n) (Dqs.ofInts r)
def rs (D:Addr->Prop) (G:Gp):Gp:=λb=>cif (D b) none (G b)
def qP {D:Addr->Prop} {G:Gp} {b:Addr} {o:O} (h:rs D G b=some o):¬ D b/\G b=some o:=by
 unfold rs cif at h;split at h
 ·cases h
 ·rename_i n;exact ⟨n,h⟩
def jj {D:Addr->Prop} {G:Gp} {b:Addr} (n:¬ D b):rs D G b=G b:=by unfold rs;exact qau n
def ZY {D:Addr->Prop} {G:Gp}:Ex (rs D G) G:=λb o h=>(qP h).2
def Q2 {D:Addr->Prop} {G G':Gp} (e:Ex G G'):Ex (rs D G) (rs D G'):=λb o h=>by
 obtain ⟨n,h⟩:=qP h;rw [jj n];exact e _ _ h
def zw {D D':Addr->Prop} {G:Gp} (h:∀ b,D' b->D b):Ex (rs D G) (rs D' G):=λb o e=>by
 obtain ⟨n,e⟩:=qP e;rw [jj λz=>n (h b z)];exact e
def Dom (D:Addr->Prop) (G:Gp):Prop:=∀ b,D b->G b≠none
def Dom.up {D:Addr->Prop} {G G':Gp} (h:Dom D G) (e:Ex G G'):Dom D G':=λb d z=>by
 cases g:G b with
 |none=>exact h b d g
 |some o=>rw [e _ _ g] at z;cases z
def qcE {D:Addr->Prop} {G:Gp} {p:Addr} {o:O} (hd:Dom D G) (hp:G p=none):rs D (gu G p o) p=some o:=by
 rw [jj λz=>hd p z hp,qr]
inductive Sl where
 |un|sh (d:PyData)|ow (ds:List PyData)|dc (kvs:List (Int×PyData))
abbrev Rho:=List Sl
def Sl.d:Sl->Option PyData
 |.un=>none|.sh d=>some d|.ow ds=>some (.list ds)|.dc _=>none
def vw (ρ:Rho) (i:Nat):Option PyData:=(ρ[i]?).bind Sl.d
def YN (fv:List Nat) (D:Addr->Prop) (G:Gp) (τ:St3) (ρ:Rho):Prop:=∀ i∈fv,∀ d,vw ρ i=some d->∃ t,τ[i]?=some (some t)/\Dq (rs D G) t d
def YN.up {fv:List Nat} {D:Addr->Prop} {G G':Gp} {τ:St3} {ρ:Rho} (h:YN fv D G τ ρ) (e:Ex G G'):YN fv D G' τ ρ:=λi hi d hd=>
 let ⟨t,a,b⟩:=h i hi d hd;⟨t,a,b.up (Q2 e)⟩
def YN.l {fv gv:List Nat} {D:Addr->Prop} {G:Gp} {τ:St3} {ρ:Rho} (h:YN (fv++gv) D G τ ρ):YN fv D G τ ρ:=λi hi=>h i (by simp [hi])
def YN.r {fv gv:List Nat} {D:Addr->Prop} {G:Gp} {τ:St3} {ρ:Rho} (h:YN (fv++gv) D G τ ρ):YN gv D G τ ρ:=λi hi=>h i (by simp [hi])
def TL:PyData->Bool
 |.none=>true|.bool _=>true|.int _=>true|.str _=>true|_=>false
def Nw (D:Addr->Prop) (G G':Gp) (x:T) (d:PyData):Prop:=TL d=true\/∃ p xs ds,x=.ref p/\d=.list ds/\G p=none/\G' p=some (.lst xs)/\Dqs (rs (λb=>D b\/b=p) G') xs ds
def Nw.back {D:Addr->Prop} {G0 G G':Gp} {x:T} {d:PyData} (h:Nw D G G' x d) (e:Ex G0 G):Nw D G0 G' x d:=by
 rcases h with h|⟨p,xs,ds,a,b,c,r⟩
 ·exact .inl h
 refine .inr ⟨p,xs,ds,a,b,?_,r⟩;cases z:G0 p with
 |none=>rfl
 |some o=>rw [e _ _ z] at c;cases c
structure PuE (t:TE3) where
 f:Rho->Option PyData
 fv:List Nat
 nw:Bool
 ok:∀ {D τ ρ G} {q:Q3} {d},YN fv D G τ ρ->Dom D G->f ρ=some d->(∀ x G',Ex G G'->Dq (rs D G') x d->(nw=true->Nw D G G' x d)->q x G')->t τ G q
structure PuC (t:TT3) where
 f:Rho->Option Bool
 fv:List Nat
 ok:∀ {D τ ρ G} {q:Bool->Gp->Prop} {k},YN fv D G τ ρ->Dom D G->f ρ=some k->(∀ G',Ex G G'->q k G')->t τ G q
structure PuA (t:TA3) where
 f:Rho->Option (List PyData)
 fv:List Nat
 n:Nat
 ln:∀ {ρ d},f ρ=some d->d.length=n
 ok:∀ {D τ ρ G} {q:List T->Gp->Prop} {d},YN fv D G τ ρ->Dom D G->f ρ=some d->(∀ x G',Ex G G'->Dqs (rs D G') x d->q x G')->t τ G q
structure PuO (t:TO3) where
 f:Rho->Option (Option Int)
 fv:List Nat
 ok:∀ {D τ ρ G} {q:Option Int->Gp->Prop} {k},YN fv D G τ ρ->Dom D G->f ρ=some k->(∀ G',Ex G G'->q k G')->t τ G q
structure PuI (t:TI3) where
 f:Rho->Option (List PyData)
 fv:List Nat
 /-- numbers alone -/
 nm:Bool
 ok:∀ {D τ ρ G} {r:List T->(Gp->Prop)->Gp->Prop} {ds},YN fv D G τ ρ->Dom D G->f ρ=some ds ->
  (∀ items stay G',Ex G G'->Dqs (rs D G') items ds->(∀ G'',(nm=true\/Ex (rs D G') G'')->stay G'')->(nm=true->∃ ns:List Int,ds=ns.map PyData.int)->r items stay G')->t τ G r
structure OpD (r:R3) where
 f:PyData->PyData->Option PyData
 nw:Bool
 ok:∀ {D G x y d e v} {q:Q3},Dq (rs D G) x d->Dq (rs D G) y e->Dom D G->f d e=some v->(∀ z G',Ex G G'->Dq (rs D G') z v->(nw=true->Nw D G G' z v)->q z G')->r x y G q
structure FnD (r:List T->Gp->Q3->Prop) where
 f:List PyData->Option PyData
 nw:Bool
 ok:∀ {D G xs ds v} {q:Q3},Dqs (rs D G) xs ds->Dom D G->f ds=some v->(∀ z G',Ex G G'->Dq (rs D G') z v->(nw=true->Nw D G G' z v)->q z G')->r xs G q
def bV (i:Nat):PuE (v3 i):=⟨λρ=>vw ρ i,[i],false,λhv hd hf k=>by
 obtain ⟨t,e,h⟩:=hv i (by simp) _ hf;unfold v3;rw [e];exact k t _ Ex.refl h (λz=>by cases z)⟩
def zR (i:Int):PuE (c3 (.int i)):=⟨λ_=>some (.int i),[],false,λhv hd hf k=>by cases hf;exact k _ _ Ex.refl (.int i) (λz=>by cases z)⟩
def bBl (i:Bool):PuE (c3 (.bl i)):=⟨λ_=>some (.bool i),[],false,λhv hd hf k=>by cases hf;exact k _ _ Ex.refl (.bl i) (λz=>by cases z)⟩
def QZ (i:Str):PuE (c3 (.str i)):=⟨λ_=>some (.str i),[],false,λhv hd hf k=>by cases hf;exact k _ _ Ex.refl (.str i) (λz=>by cases z)⟩
def bO {r:R3} {ta tb:TE3} (R:OpD r) (a:PuE ta) (b:PuE tb):PuE (o3 r ta tb):=
 ⟨λρ=>(a.f ρ).bind λx=>(b.f ρ).bind λy=>R.f x y,a.fv++b.fv,R.nw,λhv hd hf k=>by
  obtain ⟨x,e1,hf⟩:=obb hf;obtain ⟨y,e2,hf⟩:=obb hf;exact a.ok hv.l hd e1 λx' G1 E1 D1 _=>b.ok (hv.r.up E1) (hd.up E1) e2 λy' G2 E2 D2 _=>R.ok (D1.up (Q2 E2)) D2 ((hd.up E1).up E2) hf λz G3 E3 D3 N3=>k z G3 ((E1.trans E2).trans E3) D3 λh=>(N3 h).back (E1.trans E2)⟩
def zo:PuA qh:=⟨λ_=>some [],[],0,(λh=>by cases h;rfl),λhv hd hf k=>by cases hf;exact k _ _ Ex.refl .nil⟩
def qj {ta:TE3} {tr:TA3} (a:PuE ta) (r:PuA tr):PuA (qb ta tr):=
 ⟨λρ=>(a.f ρ).bind λx=>(r.f ρ).bind λxs=>some (x::xs),a.fv++r.fv,r.n+1,(λhf=>by
  obtain ⟨x,e1,hf⟩:=obb hf;obtain ⟨xs,e2,hf⟩:=obb hf;cases hf;simp [r.ln e2]),λhv hd hf k=>by
  obtain ⟨x,e1,hf⟩:=obb hf;obtain ⟨xs,e2,hf⟩:=obb hf;cases hf;exact a.ok hv.l hd e1 λx' G1 E1 D1 _=>r.ok (hv.r.up E1) (hd.up E1) e2 λy' G2 E2 D2=>k _ G2 (E1.trans E2) (.cons (D1.up (Q2 E2)) D2)⟩
def few {n:Nat} (h:Tru (Nat.ble n 1000)):n<=sizeLine:=Nat.le_trans (Nat.le_of_ble_eq_true h.h) (by rw [sizeLine_eq];omega)
def U2 {t:TA3} (a:PuA t) (hn:Tru (Nat.ble a.n 1000)):PuE (zp t):=⟨λρ=>(a.f ρ).map .tuple,a.fv,false,λhv hd hf k=>by
 obtain ⟨xs,e1,rfl⟩:=Option.map_eq_some_iff.mp hf;exact a.ok hv hd e1 λx G1 E1 D1=>⟨by rw [D1.length,a.ln e1];exact few hn,k _ _ E1 (.tup D1) (λz=>by cases z)⟩⟩
def UF {D:Addr->Prop} {G:Gp} {p:Addr} {xs:List T} {ds:List PyData} (hp:G p=none) (h:Dqs (rs D G) xs ds):Nw D G (gu G p (.lst xs)) (.ref p) (.list ds):=
 .inr ⟨p,xs,ds,rfl,rfl,hp,qr,h.up λb o e=>by
  obtain ⟨n,e⟩:=qP e;have:b≠p:=by rintro rfl;rw [hp] at e;cases e
  rw [jj (by rintro (z|z);exact n z;exact this z),zz this];exact e⟩
def JU {D:Addr->Prop} {G:Gp} {p:Addr} {xs:List T} {ds:List PyData} (hd:Dom D G) (hp:G p=none) (h:Dqs (rs D G) xs ds):Dq (rs D (gu G p (.lst xs))) (.ref p) (.list ds):=
 .lst (qcE hd hp) (h.up (Q2 (ZD hp)))
def SC {t:TA3} (a:PuA t) (hn:Tru (Nat.ble a.n 1000)):PuE (ju t):=⟨λρ=>(a.f ρ).map .list,a.fv,true,λhv hd hf k=>by
 obtain ⟨xs,e1,rfl⟩:=Option.map_eq_some_iff.mp hf;exact a.ok hv hd e1 λx G1 E1 D1=>⟨by rw [D1.length,a.ln e1];exact few hn,λp hp=>k _ _ (E1.trans (ZD hp)) (JU (hd.up E1) hp D1) λ_=>(UF hp D1).back E1⟩⟩
def zy {r:List T->Gp->Q3->Prop} {t:TA3} (R:FnD r) (a:PuA t):PuE (cb3 r t):=
 ⟨λρ=>(a.f ρ).bind R.f,a.fv,R.nw,λhv hd hf k=>by
  obtain ⟨x,e1,hf⟩:=obb hf;exact a.ok hv hd e1 λx' G1 E1 D1=>R.ok D1 (hd.up E1) hf λz G3 E3 D3 N3=>k z G3 (E1.trans E3) D3 λh=>(N3 h).back E1⟩
def asB:PyData->Option Bool
 |.bool b=>some b
 |_=>none
def asI:PyData->Option Int
 |.int b=>some b
 |_=>none
def LX {d:PyData} {b:Bool} (h:asB d=some b):d=.bool b:=by cases d<;>simp [asB] at h;subst h;rfl
def qcc {d:PyData} {b:Int} (h:asI d=some b):d=.int b:=by cases d<;>simp [asI] at h;subst h;rfl
def bTb {t:TE3} (a:PuE t):PuC (tb3 t):=⟨λρ=>(a.f ρ).bind asB,a.fv,λhv hd hf k=>by
 obtain ⟨x,e1,hf⟩:=obb hf;have:=LX hf;subst this;exact a.ok hv hd e1 λx' G1 E1 D1 _=>by cases D1;exact k G1 E1⟩
def qem {t u:TT3} (a:PuC t) (b:PuC u):PuC (SS t u):=⟨λρ=>(a.f ρ).bind λk=>if k then b.f ρ else some false,a.fv++b.fv,λhv hd hf k=>by
 obtain ⟨x,e1,hf⟩:=obb hf;refine a.ok hv.l hd e1 λG1 E1=>?_;cases x with
 |true=>exact b.ok (hv.r.up E1) (hd.up E1) hf λG2 E2=>k G2 (E1.trans E2)
 |false=>cases hf;exact k G1 E1⟩
def bOr {t u:TT3} (a:PuC t) (b:PuC u):PuC (or3 t u):=⟨λρ=>(a.f ρ).bind λk=>if k then some true else b.f ρ,a.fv++b.fv,λhv hd hf k=>by
 obtain ⟨x,e1,hf⟩:=obb hf;refine a.ok hv.l hd e1 λG1 E1=>?_;cases x with
 |false=>exact b.ok (hv.r.up E1) (hd.up E1) hf λG2 E2=>k G2 (E1.trans E2)
 |true=>cases hf;exact k G1 E1⟩
def qfX {t:TT3} (a:PuC t):PuC (SV t):=⟨λρ=>(a.f ρ).map (! ·),a.fv,λhv hd hf k=>by
 obtain ⟨x,e1,hf⟩:=Option.map_eq_some_iff.mp hf;subst hf;exact a.ok hv hd e1 λG1 E1=>k G1 E1⟩
def bTt:PuC tt3:=⟨λ_=>some true,[],λhv hd hf k=>by cases hf;exact k _ Ex.refl⟩
def bIf {t:TT3} {ta tb:TE3} (c:PuC t) (a:PuE ta) (b:PuE tb):PuE (if3 t ta tb):=⟨λρ=>(c.f ρ).bind λk=>if k then a.f ρ else b.f ρ,c.fv++(a.fv++b.fv),false,λhv hd hf k=>by
 obtain ⟨x,e1,hf⟩:=obb hf;refine c.ok hv.l hd e1 λG1 E1=>?_;cases x with
 |true=>exact a.ok (hv.r.l.up E1) (hd.up E1) hf λz G2 E2 D2 _=>k z G2 (E1.trans E2) D2 (λz=>by cases z)
 |false=>exact b.ok (hv.r.r.up E1) (hd.up E1) hf λz G2 E2 D2 _=>k z G2 (E1.trans E2) D2 (λz=>by cases z)⟩
def tyD:PyData->Option String
 |.none=>some "NoneType" |.bool _=>some "bool" |.int _=>some "int" |.str _=>some "str" |.tuple _=>some "tuple" |.list _=>some "list" |.dict _=>none
def qfA {ta:TE3} (g:String->Bool) (a:PuE ta):PuE (SW g ta):=⟨λρ=>(a.f ρ).bind λd=>(tyD d).map λt=>.bool (g t),a.fv,false,λhv hd hf k=>by
 obtain ⟨x,e1,hf⟩:=obb hf;obtain ⟨y,e2,hf⟩:=Option.map_eq_some_iff.mp hf;subst hf;refine a.ok hv hd e1 λx' G1 E1 D1 _=>?_;have:tyT G1 x'=some y:=by
  cases D1 with
  |lst h _=>have g:=jc (qP h).2;simp [tyT,g];simpa [tyD] using e2
  |_=>simpa [tyT,tyD] using e2
 simp only [this];exact k _ G1 E1 (.bl _) (λz=>by cases z)⟩
def bNp:PuO np3:=⟨λ_=>some none,[],λhv hd hf k=>by cases hf;exact k _ Ex.refl⟩
def bSp {t:TE3} (a:PuE t):PuO (sp3 t):=⟨λρ=>((a.f ρ).bind asI).map some,a.fv,λhv hd hf k=>by
 obtain ⟨x,e1,hf⟩:=Option.map_eq_some_iff.mp hf;obtain ⟨y,e1,e2⟩:=obb e1;have:=qcc e2;subst this;subst hf;refine a.ok hv hd e1 λx' G1 E1 D1 _=>?_;cases D1;exact k G1 E1⟩
def Dqs.cut {G:Gp} {xs:List T} {ds:List PyData} (h:Dqs G xs ds) (lo hi:Option Int):Dqs G (VV xs lo hi) (VV ds lo hi):=by
 unfold VV;rw [h.length];exact (h.drop _).take _
def opB (g:Int->Int->Bool):OpD (iB g):=⟨λd e=>match d,e with|.int i,.int j=>some (.bool (g i j))|_,_=>none,false,λ{D G x y d e v q} hx hy hd hf k=>by
 cases hx<;>try (simp at hf;done)
 cases hy<;>try (simp at hf;done)
 cases hf;exact k _ _ Ex.refl (.bl _) (λz=>by cases z)⟩
def NU:PyData->PyData->Option Bool
 |.none,.none=>some true|.none,.int _=>some false|.int _,.none=>some false|.none,.bool _=>some false|.bool _,.none=>some false|.none,.str _=>some false|.str _,.none=>some false
 |.int i,.int j=>some (decide (i=j))|.bool i,.bool j=>some (decide (i=j))|.str i,.str j=>some (decide (i=j))
 |.int _,.str _=>some false|.str _,.int _=>some false|.bool _,.str _=>some false|.str _,.bool _=>some false
 |_,_=>none
def SE {G:Gp} {x y:T} {d e:PyData} (hx:Dq G x d) (hy:Dq G y e):jf x y=NU d e:=by
 cases hx<;>cases hy<;>rfl
def eqD (neg:Bool) (d e:PyData):Option PyData:=match NU d e with
 |some k=>some (.bool (if neg then !k else k))
 |none=>cif (dpt d<=40/\dpt d≠0) ((zE d e).map λb=>.bool (if neg then !b else b)) none
def DJ (neg:Bool):OpD (z6 neg):=⟨eqD neg,false,λ{D G x y d e v q} hx hy hd hf k=>by
 unfold z6;rw [SE hx hy];unfold eqD at hf;cases h:NU d e with
 |some b=>rw [h] at hf;cases hf;exact k _ _ Ex.refl (.bl _) (λz=>by cases z)
 |none=>
  rw [h] at hf;simp only [cif] at hf ⊢;split at hf
  ·rename_i c;obtain ⟨b,e1,rfl⟩:=Option.map_eq_some_iff.mp hf;exact ⟨d,e,b,(hx.up ZY).dp,(hy.up ZY).dp,e1,c.1,c.2,k _ _ Ex.refl (.bl _) (λz=>by cases z)⟩
  ·cases hf⟩
def ixD (d e:PyData):Option PyData:=match d,e with
 |.tuple xs,.int i=>atI xs i
 |.list xs,.int i=>atI xs i
 |_,_=>none
def Dqs.atI {G:Gp} {xs:List T} {ds:List PyData} {i:Int} {d:PyData} (h:Dqs G xs ds) (e:L2.atI ds i=some d):∃ x,L2.atI xs i=some x/\Dq G x d:=by
 unfold L2.atI at e ⊢;rw [h.length];obtain ⟨j,e1,e2⟩:=obb e;obtain ⟨x,hx,r⟩:=h.get e2;exact ⟨x,by rw [e1];exact hx,r⟩
def YB:OpD ix3:=⟨ixD,false,λ{D G x y d e v q} hx hy hd hf k=>by
 unfold ixD at hf;cases hx with
 |tup hs=>
  cases hy<;>try (simp at hf;done)
  obtain ⟨x,e1,r⟩:=hs.atI hf;simp only [ix3,e1];exact k _ _ Ex.refl r (λz=>by cases z)
 |lst g hs=>
  cases hy<;>try (simp at hf;done)
  obtain ⟨x,e1,r⟩:=hs.atI hf;simp only [ix3,jc (qP g).2,e1];exact k _ _ Ex.refl r (λz=>by cases z)
 |_=>simp at hf⟩
def qdF:List PyData->Option PyData
 |[.tuple xs]=>some (.list xs)
 |[.list xs]=>some (.list xs)
 |_=>none
def qaZ:FnD JT:=⟨qdF,true,λ{D G xs ds v q} hx hd hf k=>by
 unfold qdF at hf;split at hf
 ·cases hx with
  |cons a b=>cases b;cases a;rename_i hs;cases hf;exact λp hp=>k _ _ (ZD hp) (JU hd hp hs) λ_=>UF hp hs
 ·cases hx with
  |cons a b=>cases b;cases a;rename_i g hs;cases hf;simp only [JT,jc (qP g).2];exact λp hp=>k _ _ (ZD hp) (JU hd hp hs) λ_=>UF hp hs
 ·cases hf⟩
def PSp (F:List PyData->Option PyData) (fr:Bool):Sp3:=λts G q=>∃ (D:Addr->Prop) (ds:List PyData) (d:PyData),Dqs (rs D G) ts ds/\Dom D G/\F ds=some d/\∀ x G',Ex G G'->Dq (rs D G') x d->(fr=true->Nw D G G' x d)->q x G'
def ZT (F:List PyData->Option PyData) (fr:Bool):FnD (PSp F fr):=⟨F,fr,λ{D G xs ds v q} hx hd hf k=>⟨D,ds,v,hx,hd,hf,k⟩⟩
def SZ:PyData->Option (List PyData)
 |.tuple xs=>some xs
 |.list xs=>some xs
 |_=>none
def EV {t:TE3} (a:PuE t):PuI (QK t):=⟨λρ=>(a.f ρ).bind SZ,a.fv,false,λ{D τ ρ G r ds} hv hd hf k=>by
 obtain ⟨d,e1,hf⟩:=obb hf;refine a.ok hv hd e1 λx G1 E1 D1 _=>?_;unfold SZ at hf;cases D1 with
 |tup hs=>cases hf;exact k _ _ _ E1 hs (λ_ _=>trivial) (λz=>by cases z)
 |lst g hs=>
  cases hf;simp only [jc (qP g).2];refine k _ _ _ E1 hs (λG2 h=>?_) (λz=>by cases z);rcases h with h|h
  ·cases h
  ·exact jc (h _ _ g)
 |_=>simp at hf⟩
def RZ (lo:Int) (n:Nat):List Int:=(List.range n).map λ(i:Nat)=>lo+(i:Int)
def K4 (lo:Int) (n:Nat):DT lo n=(RZ lo n).map T.int:=by simp [DT,RZ,map_map,Function.comp_def]
def qc9:List PyData->Option (List PyData)
 |[.int j]=>cif (-(2 ^ 62)<=j/\j<2 ^ 62) (some ((RZ 0 j.toNat).map PyData.int)) none
 |[.int i,.int j]=>cif (-(2 ^ 62)<=i/\i<2 ^ 62/\-(2 ^ 62)<=j/\j<2 ^ 62) (some ((RZ i (j-i).toNat).map PyData.int)) none
 |_=>none
def qdC {t:TA3} (a:PuA t):PuI (zQ t):=⟨λρ=>(a.f ρ).bind qc9,a.fv,true,λ{D τ ρ G r ds} hv hd hf k=>by
 obtain ⟨d,e1,hf⟩:=obb hf;refine a.ok hv hd e1 λx G1 E1 D1=>?_;unfold qc9 at hf;split at hf
 ·unfold cif at hf;split at hf
  ·rename_i c;cases hf;cases D1 with
   |cons a b=>cases b;cases a;simp only;rw [K4];exact ⟨c,k _ _ _ E1 (Dqs.ofInts _) (λ_ _=>trivial) λ_=>⟨_,rfl⟩⟩
  ·cases hf
 ·unfold cif at hf;split at hf
  ·rename_i c;cases hf;cases D1 with
   |cons a b=>cases b with
    |cons b c'=>cases c';cases a;cases b;simp only;rw [K4];exact ⟨c,k _ _ _ E1 (Dqs.ofInts _) (λ_ _=>trivial) λ_=>⟨_,rfl⟩⟩
  ·cases hf
 ·cases hf⟩
def qdR (us vs:List PyData):List PyData:=(us.zip vs).map λp=>.tuple [p.1,p.2]
def Dqs.zip {G:Gp}:∀ {xs:List T} {ds:List PyData} {ys:List T} {es:List PyData},Dqs G xs ds->Dqs G ys es->Dqs G (qe7 xs ys) (qdR ds es)
 |_,_,_,_,.nil,_=>by simp [qe7,qdR];exact .nil
 |_,_,_,_,.cons _ _,.nil=>by simp [qe7,qdR];exact .nil
 |_,_,_,_,.cons a b,.cons c d=>.cons (.tup (.cons a (.cons c .nil))) (Dqs.zip b d)
def TH {G:Gp} {x:T} {d:PyData} {ds:List PyData} (h:Dq G x d) (e:SZ d=some ds):∃ us,UA G x=some us/\Dqs G us ds:=by
 unfold SZ at e;cases h with
 |tup hs=>cases e;exact ⟨_,rfl,hs⟩
 |lst g hs=>cases e;exact ⟨_,jc g,hs⟩
 |_=>simp at e
def MQ {G G':Gp} {x:T} {us:List T} (e:Ex G G') (h:UA G x=some us):UA G' x=some us:=by
 cases x with
 |tup xs=>exact h
 |ref p=>exact e.getL h
 |_=>cases h
def enD (k:Nat):List PyData->List PyData
 |[]=>[]
 |x::r=>.tuple [.int (k:Int),x]::enD (k+1) r
def Dqs.enum {G:Gp}:∀ {xs:List T} {ds:List PyData} (k:Nat),Dqs G xs ds->Dqs G (z9 k xs) (enD k ds)
 |_,_,_,.nil=>.nil
 |_,_,k,.cons a b=>.cons (.tup (.cons (.int _) (.cons a .nil))) (Dqs.enum (k+1) b)
def N5 {t:TA3} (a:PuA t):PuI (WT t):=⟨λρ=>(a.f ρ).bind λds=>match ds with|[d]=>(SZ d).map λus=>enD 0 us|_=>none,a.fv,false,λ{D τ ρ G r ds} hv hd hf k=>by
 obtain ⟨d,e1,hf⟩:=obb hf;refine a.ok hv hd e1 λx G1 E1 D1=>?_;split at hf
 ·obtain ⟨us,e2,rfl⟩:=Option.map_eq_some_iff.mp hf;cases D1 with
  |cons a b=>
   cases b;obtain ⟨us',h1,h2⟩:=TH a e2;simp only [MQ ZY h1];refine k _ _ _ E1 (h2.enum 0) (λG2 h=>?_) (λz=>by cases z);rcases h with h|h
   ·cases h
   ·exact MQ h h1
 ·cases hf⟩
inductive Bd (H:Gp):List (Nat×T)->List (Nat×PyData)->Prop
 |nil:Bd H [] []
 |cons {i:Nat} {x:T} {d:PyData} {ts:List (Nat×T)} {bs:List (Nat×PyData)}:Dq H x d->Bd H ts bs->Bd H ((i,x)::ts) ((i,d)::bs)
def Bd.append {H:Gp}:∀ {ts:List (Nat×T)} {bs:List (Nat×PyData)} {us:List (Nat×T)} {cs:List (Nat×PyData)},Bd H ts bs->Bd H us cs->Bd H (ts++us) (bs++cs)
 |_,_,_,_,.nil,h=>h
 |_,_,_,_,.cons a b,h=>.cons a (Bd.append b h)
def Bd.up {H H':Gp} (e:Ex H H'):∀ {ts:List (Nat×T)} {bs:List (Nat×PyData)},Bd H ts bs->Bd H' ts bs
 |_,_,.nil=>.nil
 |_,_,.cons a b=>.cons (a.up e) (Bd.up e b)
def sets:St3->List (Nat×T)->St3
 |τ,[]=>τ
 |τ,p::r=>sets (τ.set p.1 (some p.2)) r
def Q0:Rho->List (Nat×PyData)->Rho
 |ρ,[]=>ρ
 |ρ,p::r=>Q0 (ρ.set p.1 (.sh p.2)) r
def DZ:∀ (τ:St3) (a b:List (Nat×T)),sets τ (a++b)=sets (sets τ a) b
 |τ,[],b=>rfl
 |τ,p::a,b=>by simp only [cons_append,sets];exact DZ _ a b
structure PuG (g:TG3) where
 f:PyData->Option (List (Nat×PyData))
 tg:List Nat
 at':∀ {d bs},f d=some bs->∀ p∈bs,p.1∈tg
 ok:∀ {H x d bs},Dq H x d->f d=some bs->∃ ts,Bd H ts bs/\∀ τ G (q:St3->Gp->Prop),q (sets τ ts) G->g x τ G q
structure PuGs (g:VF) where
 f:List PyData->Option (List (Nat×PyData))
 tg:List Nat
 at':∀ {d bs},f d=some bs->∀ p∈bs,p.1∈tg
 ok:∀ {H x d bs},Dqs H x d->f d=some bs->∃ ts,Bd H ts bs/\∀ τ G (q:St3->Gp->Prop),q (sets τ ts) G->g x τ G q
def gN (i:Nat):PuG (gn3 i):=⟨λd=>some [(i,d)],[i],λh p hp=>by cases h;simp at hp;subst hp;simp,λhx h=>by cases h;exact ⟨_,.cons hx .nil,λτ G q hq=>hq⟩⟩
def NL:PuGs jA:=⟨λds=>match ds with|[]=>some []|_=>none,[],(λh p hp=>by split at h;cases h;cases hp;cases h),λhx h=>by
 split at h
 ·cases h;cases hx;exact ⟨[],.nil,λτ G q hq=>hq⟩
 ·cases h⟩
def Z5 {t:TG3} {u:VF} (a:PuG t) (b:PuGs u):PuGs (qI t u):=⟨λds=>match ds with|d::r=>(a.f d).bind λx=>(b.f r).map λy=>x++y|[]=>none,a.tg++b.tg,(λh p hp=>by
 split at h
 ·obtain ⟨x,e1,h⟩:=obb h;obtain ⟨y,e2,rfl⟩:=Option.map_eq_some_iff.mp h;rcases List.mem_append.mp hp with z|z
  ·exact List.mem_append.mpr (.inl (a.at' e1 p z))
  ·exact List.mem_append.mpr (.inr (b.at' e2 p z))
 ·cases h),λhx h=>by
 split at h
 ·obtain ⟨x,e1,h⟩:=obb h;obtain ⟨y,e2,rfl⟩:=Option.map_eq_some_iff.mp h;cases hx with
  |cons hx hr=>
   obtain ⟨ts,b1,k1⟩:=a.ok hx e1;obtain ⟨us,b2,k2⟩:=b.ok hr e2;refine ⟨ts++us,b1.append b2,λτ G q hq=>k1 τ G _ (k2 _ G q ?_)⟩;rw [← DZ];exact hq
 ·cases h⟩
def qaG {u:VF} (n:Nat) (b:PuGs u):PuG (jB n u):=⟨λd=>match d with|.tuple ds=>if ds.length=n then b.f ds else none|_=>none,b.tg,(λh p hp=>by
 split at h
 ·split at h
  ·exact b.at' h p hp
  ·cases h
 ·cases h),λhx h=>by
 split at h
 ·split at h
  ·rename_i c;cases hx with
   |tup hs=>
    obtain ⟨ts,b1,k1⟩:=b.ok hs h;exact ⟨ts,b1,λτ G q hq=>⟨by rw [hs.length];exact c,k1 τ G q hq⟩⟩
  ·cases h
 ·cases h⟩
structure VA (D:Addr->Prop) (G:Gp) (τ:St3) (ρ:Rho):Prop where
 len:ρ.length=τ.length
 vw:∀ i d,vw ρ i=some d->∃ t,τ[i]?=some (some t)/\Dq (rs D G) t d
def VA.view {D:Addr->Prop} {G:Gp} {τ:St3} {ρ:Rho} (h:VA D G τ ρ) (fv:List Nat):YN fv D G τ ρ:=λi _ d e=>h.vw i d e
def VA.upx {D:Addr->Prop} {G G':Gp} {τ:St3} {ρ:Rho} (h:VA D G τ ρ) (e:Ex (rs D G) (rs D G')):VA D G' τ ρ:=⟨h.len,λi d hd=>let ⟨t,a,b⟩:=h.vw i d hd;⟨t,a,b.up e⟩⟩
def VA.up {D:Addr->Prop} {G G':Gp} {τ:St3} {ρ:Rho} (h:VA D G τ ρ) (e:Ex G G'):VA D G' τ ρ:=h.upx (Q2 e)
def MU {ρ:Rho} {i j:Nat} {s:Sl}:vw (ρ.set i s) j=if i=j then (if i<ρ.length then s.d else none) else vw ρ j:=by
 unfold vw;rw [getElem?_set];split
 ·subst j;split
  ·rfl
  ·rfl
 ·rfl
def VA.set {D:Addr->Prop} {G:Gp} {τ:St3} {ρ:Rho} (h:VA D G τ ρ) {i:Nat} {x:T} {d:PyData} (hx:Dq (rs D G) x d):VA D G (τ.set i (some x)) (ρ.set i (.sh d)):=by
 refine ⟨by simp [h.len],λj e he=>?_⟩;rw [MU] at he;split at he
 ·subst j;split at he
  ·rename_i l;cases he;refine ⟨x,?_,hx⟩;rw [getElem?_set,if_pos rfl,if_pos (by rw [← h.len];exact l)]
  ·cases he
 ·rename_i n;obtain ⟨t,a,b⟩:=h.vw j e he;exact ⟨t,by rw [getElem?_set,if_neg n];exact a,b⟩
def VA.sets {D:Addr->Prop} {G:Gp}:∀ {ts:List (Nat×T)} {bs:List (Nat×PyData)} {τ:St3} {ρ:Rho},VA D G τ ρ->Bd (rs D G) ts bs->VA D G (Pu.sets τ ts) (Q0 ρ bs)
 |_,_,_,_,h,.nil=>h
 |_,_,_,_,h,.cons a b=>by unfold Pu.sets Q0;exact VA.sets (h.set a) b
def VA.keep {D:Addr->Prop} {G:Gp} {ρ:Rho}:∀ {ts:List (Nat×T)} {τ:St3},VA D G τ ρ->(∀ p∈ts,Pu.vw ρ p.1=none)->VA D G (Pu.sets τ ts) ρ
 |[],_,h,_=>h
 |p::r,τ,h,hn=>VA.keep (ts:=r) ⟨by rw [List.length_set];exact h.len,λj d hd=>by
   have:p.1≠j:=by rintro rfl;rw [hn p (by simp)] at hd;cases hd
   obtain ⟨t,a,b⟩:=h.vw j d hd;exact ⟨t,by rw [getElem?_set,if_neg this];exact a,b⟩⟩ λq hq=>hn q (by simp [hq])
def UW (m:List (Option Nat)) (ρ:Rho):Rho:=m.map λo=>match o with|some j=>(match vw ρ j with|some d=>.sh d|none=>.un)|none=>.un
def VA.cap {m:List (Option Nat)} {D:Addr->Prop} {G:Gp} {τ:St3} {ρ:Rho} (h:YN (m.filterMap id) D G τ ρ):VA D G (L3.cap m τ) (UW m ρ):=by
 refine ⟨by simp [UW,L3.cap],λi d hd=>?_⟩;unfold Pu.vw UW at hd;rw [getElem?_map] at hd;cases e:m[i]? with
 |none=>rw [e] at hd;cases hd
 |some o=>
  rw [e] at hd;cases o with
  |none=>cases hd
  |some j=>
   simp only [Option.map_some,Option.bind_some] at hd;cases e2:Pu.vw ρ j with
   |none=>rw [e2] at hd;cases hd
   |some d'=>
    rw [e2] at hd;have hd':d'=d:=by simpa [Sl.d] using hd
    subst hd';obtain ⟨t,a,b⟩:=h j (List.mem_filterMap.mpr ⟨some j,mem_of_getElem? e,rfl⟩) d' e2;refine ⟨t,?_,b⟩;unfold L3.cap;rw [getElem?_map,e];simp [a]
def RM {m:List (Option Nat)} {ρ:Rho} {i:Nat} (h:m[i]?=some none):vw (UW m ρ) i=none:=by
 unfold vw UW;rw [getElem?_map,h];rfl
def lcP (h:PyData->Option (Option PyData)):List PyData->Option (List PyData)
 |[]=>some []
 |d::r=>(h d).bind λo=>(lcP h r).bind λys=>some (match o with|some y=>y::ys|none=>ys)
def lcH (gf:PyData->Option (List (Nat×PyData))) (cf:Rho->Option Bool) (ef:Rho->Option PyData) (ρ:Rho) (d:PyData):Option (Option PyData):=
 (gf d).bind λbs=>(cf (Q0 ρ bs)).bind λk=>if k then (ef (Q0 ρ bs)).map some else some none
def CV {h:PyData->Option (Option PyData)} {α:Type} {g:α->PyData} {k:α->PyData} {xs:List α} (hh:∀ a∈xs,h (g a)=some (some (k a))):lcP h (xs.map g)=some (xs.map k):=by
 induction xs with
 |nil=>rfl
 |cons a r ih=>simp only [map_cons,lcP,hh a (by simp),Option.bind_some,ih λb hb=>hh b (by simp [hb])]
def XF {h:PyData->Option (Option PyData)} {α:Type} {g:α->PyData} {k:α->PyData} {c:α->Bool} {xs:List α} (hh:∀ a∈xs,h (g a)=some (if c a then some (k a) else none)):lcP h (xs.map g)=some ((xs.filter c).map k):=by
 induction xs with
 |nil=>rfl
 |cons a r ih=>
  simp only [map_cons,lcP,hh a (by simp),Option.bind_some,ih λb hb=>hh b (by simp [hb])];cases e:c a with
  |true=>simp [e]
  |false=>simp [e]
def NQ {H:Gp}:∀ {ts:List (Nat×T)} {bs:List (Nat×PyData)},Bd H ts bs->∀ p∈ts,∃ q∈bs,q.1=p.1
 |_,_,.nil,p,hp=>by cases hp
 |_,_,.cons a b,p,hp=>by
  rcases mem_cons.mp hp with rfl|hp
  ·exact ⟨_,List.mem_cons_self,rfl⟩
  ·obtain ⟨q,hq,e⟩:=NQ b p hp;exact ⟨q,by simp [hq],e⟩
def N2 {stay:Gp->Prop} {g:TG3} {tif:TT3} {te:TE3} {q:Q3} (pg:PuG g) (pc:PuC tif) (pe:PuE te) {D:Addr->Prop} {ρ0:Rho} {G0:Gp} (hs:∀ G,Ex G0 G->stay G) (hm:∀ i∈pg.tg,vw ρ0 i=none) (fin:List PyData) (hfin:fin.length<=sizeLine)
  (k:∀ G ys,Ex G0 G->Dqs (rs D G) ys fin->∀ p,G p=none->q (.ref p) (gu G p (.lst ys))) :
  ∀ (ds:List PyData) (items ys:List T) (es fs:List PyData) (τ:St3) (G:Gp),Dqs (rs D G0) items ds->VA D G τ ρ0->Ex G0 G->Dom D G->Dqs (rs D G) ys es->lcP (lcH pg.f pc.f pe.f ρ0) ds=some fs->es++fs=fin->YW stay g tif te q items ys τ G
 |_,_,ys,es,fs,τ,G,.nil,va,E,hd,hy,hf,hl=>by
  cases hf;rw [List.append_nil] at hl;subst hl;exact ⟨hs G E,k G ys E hy⟩
 |d::ds,x::items,ys,es,fs,τ,G,.cons hx hr,va,E,hd,hy,hf,hl=>by
  unfold lcP at hf;obtain ⟨o,e1,hf⟩:=obb hf;obtain ⟨QP,e2,hf⟩:=obb hf;unfold lcH at e1;obtain ⟨bs,e3,e1⟩:=obb e1;obtain ⟨c,e4,e1⟩:=obb e1;obtain ⟨ts,bd,kg⟩:=pg.ok (hx.up (Q2 E)) e3;refine ⟨hs G E,kg τ G _ ?_⟩;have va1:=va.sets bd;have va2:=va.keep (ts:=ts) λp hp=>by
   obtain ⟨q,hq,e⟩:=NQ bd p hp;rw [← e];exact hm _ (pg.at' e3 q hq)
  refine pc.ok (va1.view _) hd e4 λG1 E1=>?_;cases c with
  |true=>
   rw [if_pos rfl];rw [if_pos rfl] at e1;obtain ⟨y,e5,rfl⟩:=Option.map_eq_some_iff.mp e1;simp only [Option.some.injEq] at hf;subst hf;refine pe.ok ((va1.up E1).view _) (hd.up E1) e5 λz G2 E2 D2 _=>⟨?_,?_⟩
   ·rw [hy.length];rw [← hl] at hfin;simp at hfin;omega
   ·refine N2 pg pc pe hs hm fin hfin k ds items (ys++[z]) (es++[y]) QP _ G2 hr ((va2.up E1).up E2) (E.trans (E1.trans E2)) ((hd.up E1).up E2) (((hy.up (Q2 E1)).up (Q2 E2)).append (.cons D2 .nil)) e2 ?_;rw [← hl];simp
  |false=>
   rw [if_neg Bool.false_ne_true];simp at e1;subst e1;simp only [Option.some.injEq] at hf;subst hf;exact N2 pg pc pe hs hm fin hfin k ds items ys es QP _ G1 hr (va2.up E1) (E.trans E1) (hd.up E1) (hy.up (Q2 E1)) e2 hl
def lcF (pi:Rho->Option (List PyData)) (h:Rho->PyData->Option (Option PyData)) (m:List (Option Nat)) (ρ:Rho):Option PyData:=
 (pi ρ).bind λds=>(lcP (h (UW m ρ)) ds).bind λfs=>cif (fs.length<=sizeLine) (some (.list fs)) none
def bLc {wi:TI3} {g:TG3} {tif:TT3} {te:TE3} (pi:PuI wi) (pg:PuG g) (pc:PuC tif) (pe:PuE te) (m:List (Option Nat)) (hm:Tru (pg.tg.all λi=>m[i]?==some none)):PuE (lc3 wi g tif te m):=
 ⟨lcF pi.f (lcH pg.f pc.f pe.f) m,pi.fv++m.filterMap id,true,λ{D τ ρ G q d} hv hd hf k=>by
  unfold lcF at hf;obtain ⟨ds,e1,hf⟩:=obb hf;obtain ⟨fs,e2,hf⟩:=obb hf;unfold cif at hf;split at hf
  ·rename_i hl;cases hf;refine pi.ok hv.l hd e1 λitems stay G1 E1 D1 hs _=>?_;have va:=(VA.cap (m:=m) hv.r).up E1;refine N2 pg pc pe (D:=D) (ρ0:=UW m ρ) (G0:=G1) (λG2 E2=>hs G2 (.inr (ZY.trans E2))) (λi hi=>RM ?_) fs hl (λG2 ys E2 D2 p hp=>?_) ds items [] [] fs _ G1 D1 va Ex.refl (hd.up E1) .nil e2 (by simp)
   ·have:=List.all_eq_true.mp hm.h i hi;simpa using this
   ·exact k _ _ ((E1.trans E2).trans (ZD hp)) (JU ((hd.up E1).up E2) hp D2) λ_=>(UF hp D2).back (E1.trans E2)
  ·cases hf⟩
def C2:∀ {bs:List (Nat×PyData)} {ρ:Rho} {i:Nat},(∀ p∈bs,p.1≠i)->vw (Q0 ρ bs) i=vw ρ i
 |[],_,_,_=>rfl
 |p::r,ρ,i,h=>by
  unfold Q0;rw [C2 (λq hq=>h q (by simp [hq])),MU,if_neg (h p (by simp))]
def AD (D:Addr->Prop) (A:Nat->Option Addr) (b:Addr):Prop:=D b\/∃ i,A i=some b
structure RS (D:Addr->Prop) (G0:Gp) (A:Nat->Option Addr) (τ:St3) (ρ:Rho) (G:Gp):Prop where
 ex:Ex G0 G
 dm:Dom D G0
 fr:∀ i p,A i=some p->G0 p=none
 da:∀ i p,A i=some p->G p≠none
 inj:∀ i j p,A i=some p->A j=some p->i=j
 len:ρ.length=τ.length
 sh:∀ (i:Nat) (d:PyData),ρ[i]?=some (Sl.sh d)->∃ t,τ[i]?=some (some t)/\Dq (rs (AD D A) G) t d
 ow:∀ (i:Nat) (ds:List PyData),ρ[i]?=some (Sl.ow ds)->∃ p xs,A i=some p/\τ[i]?=some (some (.ref p))/\G p=some (.lst xs)/\Dqs (rs (AD D A) G) xs ds
 dc:∀ (i:Nat) (kvs:List (Int×PyData)),ρ[i]?=some (Sl.dc kvs)->∃ p ks,A i=some p/\τ[i]?=some (some (.ref p))/\G p=some (.dct ks)/\ks.map (λq=>q.1)=kvs.map (λq=>q.1)/\Dqs (rs (AD D A) G) (ks.map λq=>q.2) (kvs.map λq=>q.2)
section
variable {D:Addr->Prop} {G0 G G':Gp} {A A':Nat->Option Addr} {τ:St3} {ρ:Rho}
def RS.nd (h:RS D G0 A τ ρ G) {i:Nat} {p:Addr} (e:A i=some p):¬ D p:=λz=>h.dm p z (h.fr i p e)
def RS.dom (h:RS D G0 A τ ρ G):Dom (AD D A) G:=λb hb=>by
 rcases hb with hb|⟨i,hi⟩
 ·exact (h.dm.up h.ex) b hb
 ·exact h.da i b hi
def RS.domD (h:RS D G0 A τ ρ G):Dom D G:=h.dm.up h.ex
def RS.up (h:RS D G0 A τ ρ G) (e:Ex G G'):RS D G0 A τ ρ G':=
 ⟨h.ex.trans e,h.dm,h.fr,λi p a z=>(h.da i p a) (by
  cases g:G p with
  |none=>rfl
  |some o=>rw [e _ _ g] at z;cases z),h.inj,h.len,λi d a=>let ⟨t,b,c⟩:=h.sh i d a;⟨t,b,c.up (Q2 e)⟩,λi ds a=>let ⟨p,xs,b,c,d,f⟩:=h.ow i ds a;⟨p,xs,b,c,e _ _ d,f.up (Q2 e)⟩,λi ds a=>let ⟨p,xs,b,c,d,k,f⟩:=h.dc i ds a;⟨p,xs,b,c,e _ _ d,k,f.up (Q2 e)⟩⟩
def RS.viewAll (h:RS D G0 A τ ρ G) (fv:List Nat):YN fv D G τ ρ:=λi _ d hd=>by
 unfold vw at hd;obtain ⟨s,e,hd⟩:=obb hd;have less:Ex (rs (AD D A) G) (rs D G):=zw λb z=>.inl z;cases s with
 |un=>cases hd
 |sh d'=>
  cases hd;obtain ⟨t,b,c⟩:=h.sh i _ e;exact ⟨t,b,c.up less⟩
 |ow ds=>
  cases hd;obtain ⟨p,xs,b,c,g,f⟩:=h.ow i _ e;exact ⟨_,c,.lst (by rw [jj (h.nd b)];exact g) (f.up less)⟩
 |dc kvs=>cases hd
def RS.view (h:RS D G0 A τ ρ G) {fv:List Nat} (hn:∀ i∈fv,A i=none):YN fv (AD D A) G τ ρ:=λi hi d hd=>by
 unfold vw at hd;obtain ⟨s,e,hd⟩:=obb hd;cases s with
 |un=>cases hd
 |sh d'=>
  cases hd;exact h.sh i _ e
 |ow ds=>
  obtain ⟨p,xs,b,_⟩:=h.ow i _ e;rw [hn i hi] at b;cases b
 |dc kvs=>cases hd
def Sl.dem:Sl->Sl
 |.ow ds=>.sh (.list ds)
 |.dc _=>.un
 |s=>s
def dm:List Bool->Rho->Rho
 |b::m,s::r=>(match b with|true=>s.dem|false=>s)::dm m r
 |_,r=>r
def mkb (m:List Bool) (i:Nat):Bool:=(m[i]?).getD false
def WV:∀ (m:List Bool) (ρ:Rho) (i:Nat),(dm m ρ)[i]?=(ρ[i]?).map λs=>if mkb m i=true then s.dem else s
 |[],ρ,i=>by simp [dm,mkb]
 |b::m,[],i=>by simp [dm]
 |b::m,s::r,0=>by cases b<;>simp [dm,mkb]
 |b::m,s::r,i+1=>by
  have:=WV m r i;simp only [dm,getElem?_cons_succ,mkb] at this ⊢;exact this
def qeS (s:Sl):s.dem.d=s.d:=by cases s<;>rfl
def qd2 (m:List Bool) (ρ:Rho) (i:Nat):vw (dm m ρ) i=vw ρ i:=by
 unfold vw;rw [WV];cases ρ[i]? with
 |none=>rfl
 |some s=>
  simp only [Option.map_some,Option.bind_some];split
  ·exact qeS s
  ·rfl
def MM:∀ (m:List Bool) (ρ:Rho),(dm m ρ).length=ρ.length
 |[],ρ=>rfl
 |b::m,[]=>rfl
 |b::m,s::r=>by simp [dm,MM m r]
def Ad (m:List Bool) (A:Nat->Option Addr):Nat->Option Addr:=λi=>if mkb m i=true then none else A i
def J2 {m:List Bool} {i:Nat} {p:Addr} (h:Ad m A i=some p):A i=some p/\mkb m i=false:=by
 unfold Ad at h;split at h
 ·cases h
 ·rename_i n;exact ⟨h,by simpa using n⟩
def RS.dem (h:RS D G0 A τ ρ G) (m:List Bool):RS D G0 (Ad m A) τ (Pu.dm m ρ) G:=by
 have less:Ex (rs (AD D A) G) (rs (AD D (Ad m A)) G):=zw λb z=>by
  rcases z with z|⟨i,z⟩
  ·exact .inl z
  ·exact .inr ⟨i,(J2 z).1⟩
 refine ⟨h.ex,h.dm,λi p e=>h.fr i p (J2 e).1,λi p e=>h.da i p (J2 e).1,λi j p a b=>h.inj i j p (J2 a).1 (J2 b).1,by rw [MM];exact h.len,λi d e=>?_,λi ds e=>?_,λi kvs e=>?_⟩
 ·rw [WV] at e;obtain ⟨s,e1,e2⟩:=Option.map_eq_some_iff.mp e;cases s with
  |un=>split at e2<;>cases e2
  |sh d'=>
   have:d'=d:=by split at e2<;>(cases e2;rfl)
   subst this;obtain ⟨t,b,c⟩:=h.sh i _ e1;exact ⟨t,b,c.up less⟩
  |ow ds=>
   split at e2
   ·rename_i hm;cases e2;obtain ⟨p,xs,b,c,g,f⟩:=h.ow i _ e1;refine ⟨_,c,.lst ?_ (f.up less)⟩;rw [jj]
    ·exact g
    ·rintro (z|⟨j,z⟩)
     ·exact h.nd b z
     ·have:=h.inj i j p b (J2 z).1;subst this;rw [(J2 z).2] at hm;cases hm
   ·cases e2
  |dc kvs=>split at e2<;>cases e2
 ·rw [WV] at e;obtain ⟨s,e1,e2⟩:=Option.map_eq_some_iff.mp e;cases s with
  |un=>split at e2<;>cases e2
  |sh d'=>split at e2<;>cases e2
  |ow ds'=>
   split at e2
   ·cases e2
   ·rename_i hm;cases e2;obtain ⟨p,xs,b,c,g,f⟩:=h.ow i _ e1;exact ⟨p,xs,by unfold Ad;rw [if_neg hm];exact b,c,g,f.up less⟩
  |dc kvs=>split at e2<;>cases e2
 ·rw [WV] at e;obtain ⟨s,e1,e2⟩:=Option.map_eq_some_iff.mp e;cases s with
  |un=>split at e2<;>cases e2
  |sh d'=>split at e2<;>cases e2
  |ow ds'=>split at e2<;>cases e2
  |dc ds'=>
   split at e2
   ·cases e2
   ·rename_i hm;cases e2;obtain ⟨p,xs,b,c,g,k,f⟩:=h.dc i _ e1;exact ⟨p,xs,by unfold Ad;rw [if_neg hm];exact b,c,g,k,f.up less⟩
def RS.viewD (h:RS D G0 A τ ρ G) {m:List Bool} {fv:List Nat} (hm:Tru (fv.all (mkb m))):YN fv (AD D (Ad m A)) G τ ρ:=by
 have:=(h.dem m).view (fv:=fv) λi hi=>by unfold Ad;rw [if_pos (List.all_eq_true.mp hm.h i hi)]
 intro i hi d hd;exact this i hi d (by rw [qd2];exact hd)
def Er (A:Nat->Option Addr) (i:Nat):Nat->Option Addr:=λj=>if j=i then none else A j
def YA {i j:Nat} {p:Addr} (h:Er A i j=some p):A j=some p/\j≠i:=by
 unfold Er at h;split at h
 ·cases h
 ·rename_i n;exact ⟨h,n⟩
def RS.put (h:RS D G0 A τ ρ G) (i:Nat) {x:T} {d:PyData} (hx:Dq (rs (AD D A) G) x d):RS D G0 (Er A i) (τ.set i (some x)) (ρ.set i (.sh d)) G:=by
 have less:Ex (rs (AD D A) G) (rs (AD D (Er A i)) G):=zw λb z=>by
  rcases z with z|⟨j,z⟩
  ·exact .inl z
  ·exact .inr ⟨j,(YA z).1⟩
 refine ⟨h.ex,h.dm,λj p e=>h.fr j p (YA e).1,λj p e=>h.da j p (YA e).1,λj k p a b=>h.inj j k p (YA a).1 (YA b).1,by simp [h.len],λj e he=>?_,λj ds e=>?_,λj ds e=>?_⟩
 ·rw [getElem?_set] at he ⊢;split at he
  ·rename_i hj;rw [if_pos hj];split at he
   ·rename_i hl;cases he;exact ⟨x,by rw [if_pos (by rw [← h.len];exact hl)],hx.up less⟩
   ·cases he
  ·rename_i hj;rw [if_neg hj];obtain ⟨t,b,c⟩:=h.sh j _ he;exact ⟨t,b,c.up less⟩
 ·rw [getElem?_set] at e ⊢;split at e
  ·split at e<;>cases e
  ·rename_i hj;rw [if_neg hj];obtain ⟨p,xs,b,c,g,f⟩:=h.ow j _ e;exact ⟨p,xs,by unfold Er;rw [if_neg (λz=>hj z.symm)];exact b,c,g,f.up less⟩
 ·rw [getElem?_set] at e ⊢;split at e
  ·split at e<;>cases e
  ·rename_i hj;rw [if_neg hj];obtain ⟨p,xs,b,c,g,k,f⟩:=h.dc j _ e;exact ⟨p,xs,by unfold Er;rw [if_neg (λz=>hj z.symm)];exact b,c,g,k,f.up less⟩
def RS.puts:∀ {ts:List (Nat×T)} {bs:List (Nat×PyData)} {A:Nat->Option Addr} {τ:St3} {ρ:Rho},RS D G0 A τ ρ G->Bd (rs (AD D A) G) ts bs->∃ A',RS D G0 A' (sets τ ts) (Q0 ρ bs) G
 |_,_,A,_,_,h,.nil=>⟨A,h⟩
 |_,_,A,_,_,h,.cons (i:=i) a b=>by
  unfold sets Q0;exact RS.puts (h.put i a) (b.up (zw λb z=>by
   rcases z with z|⟨j,z⟩
   ·exact .inl z
   ·exact .inr ⟨j,(YA z).1⟩))
def RS.putN (h:RS D G0 A τ ρ G) (i:Nat) {x:T} {d:PyData} {ds:List PyData} (hd:d=.list ds) (E:Ex G G') (hx:Nw (AD D A) G G' x d):RS D G0 (λj=>if j=i then (match x with|.ref p=>some p|_=>none) else A j) (τ.set i (some x)) (ρ.set i (.ow ds)) G':=by
 rcases hx with hx|⟨p,xs,ds',rfl,e',gp,gp',hs⟩
 ·rw [hd] at hx;cases hx
 rw [hd] at e';cases e';have np:∀ {j q},A j=some q->q≠p:=λe=>by rintro rfl;exact h.da _ _ e gp
 have X1:Ex (rs (AD D A) G) (rs (AD D (λj=>if j=i then some p else A j)) G'):=λb o e=>by
  obtain ⟨n,e⟩:=qP e;rw [jj]
  ·exact E _ _ e
  ·rintro (z|⟨j,z⟩)
   ·exact n (.inl z)
   ·simp only at z;split at z
    ·cases z;rw [gp] at e;cases e
    ·exact n (.inr ⟨j,z⟩)
 refine ⟨h.ex.trans E,h.dm,λj q e=>?_,λj q e=>?_,λj k q a b=>?_,by simp [h.len],λj e he=>?_,λj es e=>?_,λj es e=>?_⟩
 ·simp only at e;split at e
  ·cases e;cases z:G0 p with
   |none=>rfl
   |some o=>rw [h.ex _ _ z] at gp;cases gp
  ·exact h.fr j q e
 ·simp only at e;split at e
  ·cases e;rw [gp'];simp
  ·exact (h.up E).da j q e
 ·simp only at a b;split at a
  ·cases a;split at b
   ·rename_i h1 h2;rw [h1,h2]
   ·exact absurd rfl (np b)
  ·split at b
   ·cases b;exact absurd rfl (np a)
   ·exact h.inj j k q a b
 ·rw [getElem?_set] at he ⊢;split at he
  ·split at he<;>cases he
  ·rename_i hj;rw [if_neg hj];obtain ⟨t,b,c⟩:=h.sh j _ he;exact ⟨t,b,c.up X1⟩
 ·rw [getElem?_set] at e ⊢;split at e
  ·rename_i hj;subst hj;split at e
   ·rename_i hl;cases e;refine ⟨p,xs,by simp,by rw [if_pos rfl,if_pos (by rw [← h.len];exact hl)],gp',hs.up (zw λb z=>?_)⟩;rcases z with z|⟨j,z⟩
    ·exact .inl (.inl z)
    ·simp only at z;split at z
     ·cases z;exact .inr rfl
     ·exact .inl (.inr ⟨j,z⟩)
   ·cases e
  ·rename_i hj;rw [if_neg hj];obtain ⟨q,ys,b,c,g,f⟩:=h.ow j _ e;exact ⟨q,ys,by rw [if_neg (λz=>hj z.symm)];exact b,c,E _ _ g,f.up X1⟩
 ·rw [getElem?_set] at e ⊢;split at e
  ·split at e<;>cases e
  ·rename_i hj;rw [if_neg hj];obtain ⟨q,ys,b,c,g,k,f⟩:=h.dc j _ e;exact ⟨q,ys,by rw [if_neg (λz=>hj z.symm)];exact b,c,E _ _ g,k,f.up X1⟩
def RS.wr (h:RS D G0 A τ ρ G) {i:Nat} {p:Addr} {xs:List T} {ds:List PyData} (hi:A i=some p) (ht:τ[i]?=some (some (.ref p))) (hs:Dqs (rs (AD D A) G) xs ds):RS D G0 A τ (ρ.set i (.ow ds)) (gu G p (.lst xs)):=by
 have X1:Ex (rs (AD D A) G) (rs (AD D A) (gu G p (.lst xs))):=λb o e=>by
  obtain ⟨n,e⟩:=qP e;rw [jj n,zz (by rintro rfl;exact n (.inr ⟨i,hi⟩))];exact e
 refine ⟨λb o e=>?_,h.dm,h.fr,λj q e=>?_,h.inj,by simp [h.len],λj e he=>?_,λj es e=>?_,λj es e=>?_⟩
 ·rw [zz (by rintro rfl;rw [h.fr i _ hi] at e;cases e)];exact h.ex _ _ e
 ·by_cases z:q=p
  ·subst z;rw [qr];simp
  ·rw [zz z];exact h.da j q e
 ·rw [getElem?_set] at he;split at he
  ·split at he<;>cases he
  ·obtain ⟨t,b,c⟩:=h.sh j _ he;exact ⟨t,b,c.up X1⟩
 ·rw [getElem?_set] at e;split at e
  ·rename_i hj;subst hj;split at e
   ·cases e;exact ⟨p,xs,hi,ht,qr,hs.up X1⟩
   ·cases e
  ·rename_i hj;obtain ⟨q,ys,b,c,g,f⟩:=h.ow j _ e;exact ⟨q,ys,b,c,by rw [zz (by rintro rfl;exact hj (h.inj i j _ hi b))];exact g,f.up X1⟩
 ·rw [getElem?_set] at e;split at e
  ·split at e<;>cases e
  ·rename_i hj;obtain ⟨q,ys,b,c,g,k,f⟩:=h.dc j _ e;exact ⟨q,ys,b,c,by rw [zz (by rintro rfl;exact hj (h.inj i j _ hi b))];exact g,k,f.up X1⟩
def RS.base {Gb:Gp} (h:RS D Gb A τ ρ G) (e:Ex G0 Gb) (hd:Dom D G0):RS D G0 A τ ρ G:=
 ⟨e.trans h.ex,hd,(λi p a=>by
  cases z:G0 p with
  |none=>rfl
  |some o=>have:=h.fr i p a;rw [e _ _ z] at this;cases this),h.da,h.inj,h.len,h.sh,h.ow,h.dc⟩
end
inductive Ot where
 |nx (ρ:Rho)|bk (ρ:Rho)|ct (ρ:Rho)|rt (d:PyData) (fr:Bool)
def qc5 (D:Addr->Prop) (G0:Gp) (e:Ends3):Ot->Prop
 |.nx ρ=>∀ A τ G,RS D G0 A τ ρ G->e.nx τ G
 |.bk ρ=>∀ A τ G,RS D G0 A τ ρ G->e.bk τ G
 |.ct ρ=>∀ A τ G,RS D G0 A τ ρ G->e.ct τ G
 |.rt d fr=>∀ x G,Ex G0 G->Dq (rs D G) x d->(fr=true->Nw D G0 G x d)->e.rt x G
def qc5.base {D:Addr->Prop} {G0 Gb:Gp} {e:Ends3} {o:Ot} (h:qc5 D G0 e o) (x:Ex G0 Gb) (hd:Dom D G0):qc5 D Gb e o:=by
 cases o with
 |nx ρ=>exact λA τ G r=>h A τ G (r.base x hd)
 |bk ρ=>exact λA τ G r=>h A τ G (r.base x hd)
 |ct ρ=>exact λA τ G r=>h A τ G (r.base x hd)
 |rt d fr=>exact λy G a b c=>h y G (x.trans a) b λz=>(c z).back x
structure PuS (t:TS3) where
 f:Nat->Rho->Option Ot
 ok:∀ {D G0 A τ ρ G n o} {e:Ends3},RS D G0 A τ ρ G->f n ρ=some o->qc5 D G0 e o->t e τ G
def U3:PuS qK:=⟨λ_ ρ=>some (.nx ρ),λh hf k=>by cases hf;exact k _ _ _ h⟩
def qdK (a b:Nat->Rho->Option Ot) (n:Nat) (ρ:Rho):Option Ot:=(a n ρ).bind λo=>match o with|.nx ρ'=>b n ρ'|o=>some o
def XS {t u:TS3} (a:PuS t) (b:PuS u):PuS (qE t u):=⟨qdK a.f b.f,λ{D G0 A τ ρ G n o e} h hf k=>by
 unfold qdK at hf;obtain ⟨o1,e1,hf⟩:=obb hf;refine a.ok h e1 ?_;cases o1 with
 |nx ρ'=>exact λA' τ' G' h'=>b.ok h' hf k
 |bk ρ'=>cases hf;exact k
 |ct ρ'=>cases hf;exact k
 |rt d fr=>cases hf;exact k⟩
def sIf {c:TT3} {t u:TS3} (pc:PuC c) (a:PuS t) (b:PuS u):PuS (zV c t u):=⟨λn ρ=>(pc.f ρ).bind λk=>if k then a.f n ρ else b.f n ρ,λh hf k=>by
 obtain ⟨o1,e1,hf⟩:=obb hf;refine pc.ok (h.viewAll _) h.domD e1 λG1 E1=>?_;cases o1 with
 |true=>exact a.ok (h.up E1) hf k
 |false=>exact b.ok (h.up E1) hf k⟩
def XR {t:TE3} (a:PuE t):PuS (qX t):=⟨λ_ ρ=>(a.f ρ).map λd=>.rt d a.nw,λh hf k=>by
 obtain ⟨d,e1,rfl⟩:=Option.map_eq_some_iff.mp hf;exact a.ok (h.viewAll _) h.domD e1 λx G1 E1 D1 N1=>k x G1 (h.ex.trans E1) D1 λz=>(N1 z).back h.ex⟩
def qat (ρ:Rho) (i:Nat):Option Ot:=match ρ[i]? with|some (.ow ds)=>some (.rt (.list ds) true)|some (.sh d)=>some (.rt d false)|_=>none
def qdv (i:Nat):PuS (qX (v3 i)):=⟨λ_ ρ=>qat ρ i,λh hf k=>by
 unfold qat at hf;split at hf
 ·rename_i ds e;cases hf;obtain ⟨p,xs,b,c,g,f⟩:=h.ow i _ e;simp only [qX,v3,c];refine k _ _ h.ex (.lst (by rw [jj (h.nd b)];exact g) (f.up (zw λb z=>.inl z))) λ_=>.inr ⟨p,xs,ds,rfl,rfl,h.fr i p b,g,f.up (zw λq z=>?_)⟩;rcases z with z|z
  ·exact .inl z
  ·subst z;exact .inr ⟨i,b⟩
 ·rename_i d e;cases hf;obtain ⟨t,b,c⟩:=h.sh i _ e;simp only [qX,v3,b];exact k _ _ h.ex (c.up (zw λb z=>.inl z)) (λz=>by cases z)
 ·cases hf⟩
def Z8 {H H':Gp} {x:T} {d:PyData} (h:Dq H x d) (s:TL d=true):Dq H' x d:=by
 cases h<;>first|(constructor;done)|(simp [TL] at s;done)
def qf3:PyData->Sl
 |.list ds=>.ow ds
 |d=>.sh d
def XU (m:List Bool) (nw:Bool) (i:Nat) (d:PyData) (ρ:Rho):Rho:=if TL d then ρ.set i (.sh d) else (dm m ρ).set i (if nw then qf3 d else .sh d)
def qdA {t:TE3} (a:PuE t) (i:Nat) (m:List Bool) (hm:Tru (a.fv.all (mkb m))):PuS (qS t (gn3 i)):=⟨λ_ ρ=>(a.f ρ).map λd=>.nx (XU m a.nw i d ρ),λ{D G0 A τ ρ G n o e} h hf k=>by
 obtain ⟨d,e1,rfl⟩:=Option.map_eq_some_iff.mp hf;refine a.ok (h.viewD hm) (h.dem m).dom e1 λx G1 E1 D1 N1=>?_;unfold XU at k;show e.nx (τ.set i (some x)) G1;split at k
 ·rename_i hs;exact k _ _ _ ((h.up E1).put i (Z8 D1 hs))
 ·split at k
  ·rename_i hn;have N:=N1 hn;rcases id N with h2|⟨p,xs,ds,h1,h2,_⟩
   ·exact absurd h2 (by assumption)
   subst h2;exact k _ _ _ ((h.dem m).putN i rfl E1 N)
  ·exact k _ _ _ (((h.dem m).up E1).put i D1)⟩
def qab (i j:Nat) (m:List Bool) (ds:List PyData) (ρ:Rho):Option Ot:=match ds with
 |[d,e]=>if TL d&&TL e then some (.nx ((ρ.set i (.sh d)).set j (.sh e))) else some (.nx (((dm m ρ).set i (.sh d)).set j (.sh e)))
 |_=>none
def NK {D:Addr->Prop} {A:Nat->Option Addr} {G:Gp} {i:Nat}:Ex (rs (AD D A) G) (rs (AD D (Er A i)) G):=zw λb z=>by
 rcases z with z|⟨j,z⟩
 ·exact .inl z
 ·exact .inr ⟨j,(YA z).1⟩
def qfE {t:TA3} (a:PuA t) (i j:Nat) (m:List Bool) (hm:Tru (a.fv.all (mkb m))):PuS (YO i j t):=⟨λ_ ρ=>(a.f ρ).bind λds=>qab i j m ds ρ,λ{D G0 A τ ρ G n o e} h hf k=>by
 obtain ⟨ds,e1,hf⟩:=obb hf;refine a.ok (h.viewD hm) (h.dem m).dom e1 λx G1 E1 D1=>?_;unfold qab at hf;split at hf
 ·cases D1 with
  |cons a b=>cases b with
   |cons b c=>
    cases c;split at hf
    ·rename_i hs;cases hf;rw [Bool.and_eq_true] at hs;exact k _ _ _ (((h.up E1).put i (Z8 a hs.1)).put j (Z8 b hs.2))
    ·cases hf;exact k _ _ _ ((((h.dem m).up E1).put i a).put j (b.up NK))
 ·cases hf⟩
def slot (ρ:Rho) (i:Nat):Option (List PyData):=match ρ[i]? with|some (.ow ds)=>some ds|_=>none
def VR {ρ:Rho} {i:Nat} {ds:List PyData} (h:slot ρ i=some ds):ρ[i]?=some (.ow ds):=by
 unfold slot at h;split at h
 ·rename_i e;cases h;exact e
 ·cases h
def dmS (m:List Bool) (d:PyData) (ρ:Rho):Rho:=if TL d then ρ else dm m ρ
def RS.evalS {D:Addr->Prop} {G0 G:Gp} {A:Nat->Option Addr} {τ:St3} {ρ:Rho} (h:RS D G0 A τ ρ G) {t:TE3} (a:PuE t) (m:List Bool) (hm:Tru (a.fv.all (mkb m))) {d:PyData} (hf:a.f ρ=some d):∃ A1,RS D G0 A1 τ (dmS m d ρ) G/\∀ q:Q3,(∀ x G',Ex G G'->Dq (rs (AD D A1) G') x d->q x G')->t τ G q:=by
 unfold dmS;by_cases hs:TL d=true
 ·rw [if_pos hs];exact ⟨A,h,λq k=>a.ok (h.viewAll _) h.domD hf λx G1 E1 D1 _=>k x G1 E1 (Z8 D1 hs)⟩
 ·rw [if_neg hs];exact ⟨Ad m A,h.dem m,λq k=>a.ok (h.viewD hm) (h.dem m).dom hf λx G1 E1 D1 _=>k x G1 E1 D1⟩
def CJ (gf:PyData->Option (List (Nat×PyData))) (bf:Rho->Option Ot):List PyData->Rho->Option Ot
 |[],ρ=>some (.nx ρ)
 |d::r,ρ=>(gf d).bind λbs=>(bf (Q0 ρ bs)).bind λo=>match o with
  |.nx ρ'=>CJ gf bf r ρ'
  |.ct ρ'=>CJ gf bf r ρ'
  |.bk ρ'=>some (.nx ρ')
  |.rt d b=>some (.rt d b)
def WP {stay:Gp->Prop} {g:TG3} {tb:TS3} {e:Ends3} (pg:PuG g) (pb:PuS tb) {D:Addr->Prop} {G0:Gp} {n:Nat} {o:Ot} {items0:List T} (hs:∀ A τ ρ G,RS D G0 A τ ρ G->stay G) (k:qc5 D G0 e o) :
  ∀ (ds:List PyData) (items:List T),(∀ A τ ρ G,RS D G0 A τ ρ G->Dqs (rs (AD D A) G) items ds)->∀ A τ ρ G,RS D G0 A τ ρ G->CJ pg.f (pb.f n) ds ρ=some o->VZ stay g tb e items τ G
 |[],items,hi,A,τ,ρ,G,h,hf=>by
  cases hf;have:=hi _ _ _ _ h;cases this;exact ⟨hs _ _ _ _ h,k _ _ _ h⟩
 |d::ds,items,hi,A,τ,ρ,G,h,hf=>by
  have hh:=hi _ _ _ _ h;cases hh with
  |cons hx hr=>
   rename_i x items;unfold CJ at hf;obtain ⟨bs,e1,hf⟩:=obb hf;obtain ⟨o1,e2,hf⟩:=obb hf;obtain ⟨ts,bd,kg⟩:=pg.ok hx e1;refine ⟨hs _ _ _ _ h,kg _ _ _ ?_⟩;obtain ⟨A',h'⟩:=h.puts bd;refine pb.ok h' e2 ?_;have hi':∀ A τ ρ G,RS D G0 A τ ρ G->Dqs (rs (AD D A) G) items ds:=λA τ ρ G h=>by
    have:=hi _ _ _ _ h;cases this with
    |cons a b=>exact b
   cases o1 with
   |nx ρ'=>exact λA2 τ2 G2 h2=>WP (items0:=items0) pg pb hs k ds items hi' _ _ _ _ h2 hf
   |ct ρ'=>exact λA2 τ2 G2 h2=>WP (items0:=items0) pg pb hs k ds items hi' _ _ _ _ h2 hf
   |bk ρ'=>cases hf;exact k
   |rt d fr=>cases hf;exact k
def qdI (pi:Rho->Option (List PyData)) (nm:Bool) (m:List Bool) (gf:PyData->Option (List (Nat×PyData))) (bf:Nat->Rho->Option Ot) (n:Nat) (ρ:Rho):Option Ot:=(pi ρ).bind λds=>CJ gf (bf n) ds (if nm then ρ else dm m ρ)
def qed {wi:TI3} {g:TG3} {tb:TS3} (pi:PuI wi) (pg:PuG g) (pb:PuS tb) (m:List Bool) (hm:Tru (pi.fv.all (mkb m))):PuS (U8 wi g tb):=⟨qdI pi.f pi.nm m pg.f pb.f,λ{D G0 A τ ρ G n o e} h hf k=>by
 unfold qdI at hf;obtain ⟨ds,e1,hf⟩:=obb hf;refine pi.ok (h.viewD hm) (h.dem m).dom e1 λitems stay G1 E1 D1 hs hnm=>?_;cases hb:pi.nm with
 |true=>
  rw [hb,if_pos rfl] at hf;obtain ⟨ns,rfl⟩:=hnm hb;have:=D1.ints;subst this;exact WP (items0:=[]) pg pb (λ_ _ _ _ _=>hs _ (.inl hb)) k _ _ (λA τ ρ G _=>Dqs.ofInts _) _ _ _ _ (h.up E1) hf
 |false=>
  rw [hb,if_neg Bool.false_ne_true] at hf;have h1:=(h.dem m).up E1;have b1:Ex G0 (rs (λb=>∃ i,Ad m A i=some b) G1):=λb o e=>by
   rw [jj]
   ·exact h1.ex _ _ e
   ·rintro ⟨i,z⟩;rw [h1.fr i _ z] at e;cases e
  have h2:RS D (rs (λb=>∃ i,Ad m A i=some b) G1) (Ad m A) τ (dm m ρ) G1:=⟨ZY,h.dm.up b1,λi p z=>by unfold rs;exact zr ⟨i,z⟩,h1.da,h1.inj,h1.len,h1.sh,h1.ow,h1.dc⟩
  have X:∀ A2 τ2 ρ2 G2,RS D (rs (λb=>∃ i,Ad m A i=some b) G1) A2 τ2 ρ2 G2->Ex (rs (AD D (Ad m A)) G1) (rs (AD D A2) G2):=λA2 τ2 ρ2 G2 r b o e=>by
   obtain ⟨n1,e⟩:=qP e;have eb:rs (λb=>∃ i,Ad m A i=some b) G1 b=some o:=by rw [jj (λz=>n1 (.inr z))];exact e
   rw [jj]
   ·exact r.ex _ _ eb
   ·rintro (z|⟨i,z⟩)
    ·exact n1 (.inl z)
    ·rw [r.fr i _ z] at eb;cases eb
  exact WP (items0:=[]) pg pb (λA2 τ2 ρ2 G2 r=>hs _ (.inr ((X _ _ _ _ r).trans ZY))) (k.base b1 h.dm) _ _ (λA2 τ2 ρ2 G2 r=>D1.up (X _ _ _ _ r)) _ _ _ _ h2 hf⟩
def KF (fr:Bool):Option Ot->Option PyData
 |some (.rt d b)=>if fr=true/\b=false then (match d with|.none=>some .none|_=>none) else some d
 |some (.nx _)=>if fr then none else some .none
 |_=>none
def st (ds:List PyData) (N:Nat):Rho:=ds.map Sl.sh++List.replicate (N-ds.length) .un
def run (f:Nat->Rho->Option Ot) (k N n:Nat) (fr:Bool) (ds:List PyData):Option PyData:=if ds.length=k then KF fr (f n (st ds N)) else none
def V8 {t:TS3} (b:PuS t) (N:List Str) (k n:Nat) (fr:Bool):∀ ts G q,PSp (run b.f k N.length n fr) fr ts G q->ts.length=k/\t { nx:=λ_ G'=>q .non G',rt:=q } (qk N ts) G:=by
 rintro ts G q ⟨D,ds,d,hs,hd,hf,h⟩;unfold run at hf;split at hf
 ·rename_i hk;refine ⟨by rw [hs.length];exact hk,?_⟩;have r:RS D G (λ_=>none) (qk N ts) (st ds N.length) G:=by
   refine ⟨Ex.refl,hd,(λi p e=>by cases e),(λi p e=>by cases e),(λi j p e=>by cases e),(by simp [st,qk,hs.length]),λi d' e=>?_,λi es e=>?_,λi es e=>?_⟩
   ·unfold st at e;unfold qk;by_cases hi:i<ds.length
    ·rw [List.getElem?_append_left (by simpa using hi),getElem?_map] at e;obtain ⟨d2,e3,e4⟩:=Option.map_eq_some_iff.mp e;cases e4;obtain ⟨x,e5,hx⟩:=hs.get e3;refine ⟨x,?_,hx.up (zw λb z=>?_)⟩
     ·rw [List.getElem?_append_left (by simp [hs.length];exact hi),getElem?_map,e5];rfl
     ·rcases z with z|⟨i,z⟩
      ·exact z
      ·cases z
    ·rw [List.getElem?_append_right (by simpa using hi),List.getElem?_replicate] at e;split at e<;>cases e
   ·unfold st at e;by_cases hi:i<ds.length
    ·rw [List.getElem?_append_left (by simpa using hi),getElem?_map] at e;obtain ⟨d2,e3,e4⟩:=Option.map_eq_some_iff.mp e;cases e4
    ·rw [List.getElem?_append_right (by simpa using hi),List.getElem?_replicate] at e;split at e<;>cases e
   ·unfold st at e;by_cases hi:i<ds.length
    ·rw [List.getElem?_append_left (by simpa using hi),getElem?_map] at e;obtain ⟨d2,e3,e4⟩:=Option.map_eq_some_iff.mp e;cases e4
    ·rw [List.getElem?_append_right (by simpa using hi),List.getElem?_replicate] at e;split at e<;>cases e
  unfold KF at hf;split at hf
  ·rename_i d' b' e;split at hf
   ·split at hf
    ·cases hf;exact b.ok r e λx G' a c z=>h x G' a c λ_=>.inl rfl
    ·cases hf
   ·rename_i hb;cases hf;exact b.ok r e λx G' a c z=>h x G' a c λw=>z (by
     cases b' with
     |true=>rfl
     |false=>exact absurd ⟨w,rfl⟩ hb)
  ·rename_i ρ' e;split at hf
   ·cases hf
   ·rename_i hb;cases hf;exact b.ok r e λA τ G' r'=>h .non G' r'.ex .non λw=>absurd w hb
  ·cases hf
 ·cases hf
def S5 {fr:Bool}:∀ ts G q,PSp (λ_=>none) fr ts G q->False:=λts G q ⟨_,_,_,_,_,h,_⟩=>by cases h
def Fn3.pz {P:Program} {w:World} {K:Frg} {mg:Str->Option Value} {base:Heap} {k:Nat} {x:Str} {sp:Sp3} (F:Fn3 P w K mg base k x sp) (fr:Bool):Fn3 P w K mg base k x (PSp (λ_=>none) fr):=F.imp λts G q h=>(S5 ts G q h).elim
def qfV {i:Nat}:(bV i).f=λρ=>vw ρ i:=id rfl
def KW {i:Int}:(zR i).f=λ_=>some (.int i):=id rfl
def qbd {i:Bool}:(bBl i).f=λ_=>some (.bool i):=id rfl
def LL {i:Str}:(QZ i).f=λ_=>some (.str i):=id rfl
def qfh {r:R3} {ta tb:TE3} {R:OpD r} {a:PuE ta} {b:PuE tb}:(bO R a b).f=λρ=>(a.f ρ).bind λx=>(b.f ρ).bind λy=>R.f x y:=id rfl
def K7:zo.f=λ_=>some []:=id rfl
def CC {ta:TE3} {tr:TA3} {a:PuE ta} {r:PuA tr}:(qj a r).f=λρ=>(a.f ρ).bind λx=>(r.f ρ).bind λxs=>some (x::xs):=id rfl
def L9 {t:TA3} {a:PuA t} {hn:Tru (Nat.ble a.n 1000)}:(U2 a hn).f=λρ=>(a.f ρ).map .tuple:=id rfl
def LK {t:TA3} {a:PuA t} {hn:Tru (Nat.ble a.n 1000)}:(SC a hn).f=λρ=>(a.f ρ).map .list:=id rfl
def CQ {r:List T->Gp->Q3->Prop} {t:TA3} {R:FnD r} {a:PuA t}:(zy R a).f=λρ=>(a.f ρ).bind R.f:=id rfl
def qbm {t:TE3} {a:PuE t}:(bTb a).f=λρ=>(a.f ρ).bind asB:=id rfl
def MH {t u:TT3} {a:PuC t} {b:PuC u}:(qem a b).f=λρ=>(a.f ρ).bind λk=>if k then b.f ρ else some false:=id rfl
def qda {t u:TT3} {a:PuC t} {b:PuC u}:(bOr a b).f=λρ=>(a.f ρ).bind λk=>if k then some true else b.f ρ:=id rfl
def MB {t:TT3} {a:PuC t}:(qfX a).f=λρ=>(a.f ρ).map (! ·):=id rfl
def qdb:bTt.f=λ_=>some true:=id rfl
def qcA {t:TT3} {ta tb:TE3} {c:PuC t} {a:PuE ta} {b:PuE tb}:(bIf c a b).f=λρ=>(c.f ρ).bind λk=>if k then a.f ρ else b.f ρ:=id rfl
def ML {ta:TE3} {g:String->Bool} {a:PuE ta}:(qfA g a).f=λρ=>(a.f ρ).bind λd=>(tyD d).map λt=>.bool (g t):=id rfl
def qcW:bNp.f=λ_=>some none:=id rfl
def qdj {t:TE3} {a:PuE t}:(bSp a).f=λρ=>((a.f ρ).bind asI).map some:=id rfl
def qbK {wi:TI3} {g:TG3} {tif:TT3} {te:TE3} {pi:PuI wi} {pg:PuG g} {pc:PuC tif} {pe:PuE te} {m:List (Option Nat)} {hm:Tru (pg.tg.all λi=>m[i]?==some none)}:(bLc pi pg pc pe m hm).f=lcF pi.f (lcH pg.f pc.f pe.f) m:=id rfl
def MS:qaZ.f=qdF:=id rfl
def RA {F:List PyData->Option PyData} {fr:Bool}:(ZT F fr).f=F:=id rfl
def qbc {g:Int->Int->Bool} {i j:Int}:(opB g).f (.int i) (.int j)=some (.bool (g i j)):=id rfl
def LS {n:Bool}:(DJ n).f=eqD n:=id rfl
def MD:YB.f=ixD:=id rfl
def KT {t:TE3} {a:PuE t}:(EV a).f=λρ=>(a.f ρ).bind SZ:=id rfl
def KY {t:TA3} {a:PuA t}:(qdC a).f=λρ=>(a.f ρ).bind qc9:=id rfl
def RF {t:TA3} {a:PuA t}:(N5 a).f=λρ=>(a.f ρ).bind λds=>match ds with|[d]=>(SZ d).map λus=>enD 0 us|_=>none:=id rfl
def SH {t:TE3} {a:PuE t}:(EV a).nm=false:=id rfl
def WA {t:TA3} {a:PuA t}:(N5 a).nm=false:=id rfl
def CF {t:TA3} {a:PuA t}:(qdC a).nm=true:=id rfl
def qfC {i:Nat}:(gN i).f=λd=>some [(i,d)]:=id rfl
def LV:NL.f []=some []:=id rfl
def CN {t:TG3} {u:VF} {a:PuG t} {b:PuGs u} {d:PyData} {r:List PyData}:(Z5 a b).f (d::r)=(a.f d).bind λx=>(b.f r).map λy=>x++y:=id rfl
def K0 {u:VF} {n:Nat} {b:PuGs u} {ds:List PyData}:(qaG n b).f (.tuple ds)=if ds.length=n then b.f ds else none:=id rfl
def RV:U3.f=λ_ ρ=>some (.nx ρ):=id rfl
def MT {t u:TS3} {a:PuS t} {b:PuS u}:(XS a b).f=qdK a.f b.f:=id rfl
def qba {c:TT3} {t u:TS3} {pc:PuC c} {a:PuS t} {b:PuS u}:(sIf pc a b).f=λn ρ=>(pc.f ρ).bind λk=>if k then a.f n ρ else b.f n ρ:=id rfl
def MA {t:TE3} {a:PuE t}:(XR a).f=λ_ ρ=>(a.f ρ).map λd=>.rt d a.nw:=id rfl
def RX {i:Nat}:(qdv i).f=λ_ ρ=>qat ρ i:=id rfl
def LY {t:TE3} {a:PuE t} {i:Nat} {m:List Bool} {hm:Tru (a.fv.all (mkb m))}:(qdA a i m hm).f=λ_ ρ=>(a.f ρ).map λd=>.nx (XU m a.nw i d ρ):=id rfl
def LO {t:TA3} {a:PuA t} {i j:Nat} {m:List Bool} {hm:Tru (a.fv.all (mkb m))}:(qfE a i j m hm).f=λ_ ρ=>(a.f ρ).bind λds=>qab i j m ds ρ:=id rfl
def K1 {wi:TI3} {g:TG3} {tb:TS3} {pi:PuI wi} {pg:PuG g} {pb:PuS tb} {m:List Bool} {hm:Tru (pi.fv.all (mkb m))}:(qed pi pg pb m hm).f=qdI pi.f pi.nm m pg.f pb.f:=id rfl
def MK {i:Bool}:(bBl i).nw=false:=id rfl
def qaV {r:R3} {ta tb:TE3} {R:OpD r} {a:PuE ta} {b:PuE tb}:(bO R a b).nw=R.nw:=id rfl
def SM {t:TA3} {a:PuA t} {hn:Tru (Nat.ble a.n 1000)}:(U2 a hn).nw=false:=id rfl
def R4 {t:TA3} {a:PuA t} {hn:Tru (Nat.ble a.n 1000)}:(SC a hn).nw=true:=id rfl
def DO {r:List T->Gp->Q3->Prop} {t:TA3} {R:FnD r} {a:PuA t}:(zy R a).nw=R.nw:=id rfl
def WO {F:List PyData->Option PyData} {fr:Bool}:(ZT F fr).nw=fr:=id rfl
def R6:YB.nw=false:=id rfl
def qfr {s:Sl} {r:Rho}:vw (s::r) 0=s.d:=id rfl
def qfQ {s:Sl} {r:Rho} {i:Nat}:vw (s::r) (i+1)=vw r i:=id rfl
def qdm {d:PyData}:(Sl.sh d).d=some d:=id rfl
def qaI {ds:List PyData}:(Sl.ow ds).d=some (.list ds):=id rfl
def qds:Sl.un.d=none:=id rfl
def CH {r:Rho} {ds:List PyData}:slot (.ow ds::r) 0=some ds:=id rfl
def K6 {s:Sl} {r:Rho} {i:Nat}:slot (s::r) (i+1)=slot r i:=id rfl
def XW {r:Rho} {ds:List PyData}:qat (.ow ds::r) 0=some (.rt (.list ds) true):=id rfl
def X0 {r:Rho} {d:PyData}:qat (.sh d::r) 0=some (.rt d false):=id rfl
def K5 {s:Sl} {r:Rho} {i:Nat}:qat (s::r) (i+1)=qat r i:=id rfl
def qc2 {xs:List PyData} {i:Int}:ixD (.tuple xs) (.int i)=L2.atI xs i:=id rfl
def qb9 {xs:List PyData} {i:Int}:ixD (.list xs) (.int i)=L2.atI xs i:=id rfl
def at0 {α:Type} {a:α} {r:List α}:L2.atI (a::r) 0=some a:=by simp [L2.atI,ixN]
def at1 {α:Type} {a b:α} {r:List α}:L2.atI (a::b::r) 1=some b:=by
 have h:ixN (a::b::r).length 1=some 1:=by unfold ixN;rw [if_pos (by omega),if_pos (by simp;omega)];rfl
 unfold L2.atI;rw [h];rfl
def at2 {α:Type} {a b c:α} {r:List α}:L2.atI (a::b::c::r) 2=some c:=by
 have h:ixN (a::b::c::r).length 2=some 2:=by unfold ixN;rw [if_pos (by omega),if_pos (by simp;omega)];rfl
 unfold L2.atI;rw [h];rfl
def at3 {α:Type} {a b c d:α} {r:List α}:L2.atI (a::b::c::d::r) 3=some d:=by
 have h:ixN (a::b::c::d::r).length 3=some 3:=by unfold ixN;rw [if_pos (by omega),if_pos (by simp;omega)];rfl
 unfold L2.atI;rw [h];rfl
def atN {α:Type} {xs:List α} {k:Nat} (h:k<xs.length):L2.atI xs (k:Int)=xs[k]?:=by
 have e:ixN xs.length (k:Int)=some k:=by unfold ixN;rw [if_pos (by omega),if_pos (by omega)];rfl
 unfold L2.atI;rw [e];rfl
def eqS {n:Bool} {a b:Str}:eqD n (.str a) (.str b)=some (.bool (if n then !decide (a=b) else decide (a=b))):=id rfl
def eqI {n:Bool} {a b:Int}:eqD n (.int a) (.int b)=some (.bool (if n then !decide (a=b) else decide (a=b))):=id rfl
def qfS {j:Int} (h:-1000000000<=j/\j<1000000000):qc9 [.int j]=some ((RZ 0 j.toNat).map PyData.int):=by simp only [qc9];exact zr ⟨by omega,by omega⟩
def J3 {pi:Rho->Option (List PyData)} {h:Rho->PyData->Option (Option PyData)} {m:List (Option Nat)} {ρ:Rho} {ds fs:List PyData} (h1:pi ρ=some ds) (h2:lcP (h (UW m ρ)) ds=some fs) (h3:fs.length<=16777216):lcF pi h m ρ=some (.list fs):=by unfold lcF;rw [h1];simp only [Option.bind_some,h2];exact zr h3
def TZ {gf:PyData->Option (List (Nat×PyData))} {bf:Rho->Option Ot} {α:Type} {g:α->PyData} (xs:List α) (I:Nat->Rho->Prop) {ρ:Rho} (h0:I 0 ρ)
  (hs:∀ i x ρ,xs[i]?=some x->I i ρ->∃ bs ρ',gf (g x)=some bs/\(bf (Q0 ρ bs)=some (.nx ρ')\/bf (Q0 ρ bs)=some (.ct ρ'))/\I (i+1) ρ'):∃ ρ',CJ gf bf (xs.map g) ρ=some (.nx ρ')/\I xs.length ρ':=by
 have key:∀ (r:List α) (i:Nat) (ρ:Rho),xs.drop i=r->i<=xs.length->I i ρ->∃ ρ',CJ gf bf (r.map g) ρ=some (.nx ρ')/\I xs.length ρ':=by
  intro r;induction r with
  |nil=>
   intro i ρ e hi h;have:i=xs.length:=by
    have:=congrArg List.length e;simp at this;omega
   subst this;exact ⟨ρ,rfl,h⟩
  |cons x r ih=>
   intro i ρ e hi h;have hl:i<xs.length:=by
    have:=congrArg List.length e;simp at this;omega
   have e':=List.drop_eq_getElem_cons hl;rw [e] at e';injection e' with e1 e2;obtain ⟨bs,ρ',h1,h2,h3⟩:=hs i x ρ (by rw [getElem?_eq_getElem hl,e1]) h;obtain ⟨ρ2,h4,h5⟩:=ih (i+1) ρ' e2.symm hl h3;refine ⟨ρ2,?_,h5⟩;simp only [map_cons,CJ,h1,Option.bind_some];rcases h2 with h2|h2<;>(rw [h2];exact h4)
 exact key xs 0 ρ (by simp) (Nat.zero_le _) h0
def sqk (b:Nat->Rho->Option Ot) (n:Nat) (o:Ot):Option Ot:=match o with|.nx ρ'=>b n ρ'|o=>some o
def MG {a b:Nat->Rho->Option Ot} {n:Nat} {ρ:Rho}:qdK a b n ρ=(a n ρ).bind (sqk b n):=id rfl
def KU {b:Nat->Rho->Option Ot} {n:Nat} {ρ:Rho}:sqk b n (.nx ρ)=b n ρ:=id rfl
def LP {b:Nat->Rho->Option Ot} {n:Nat} {d:PyData} {f:Bool}:sqk b n (.rt d f)=some (.rt d f):=id rfl
def KP {d:PyData} {b:Bool}:KF false (some (.rt d b))=some d:=by simp [KF]
def qa1 {b:Bool}:asB (.bool b)=some b:=id rfl
def qa5 {b:Int}:asI (.int b)=some b:=id rfl
def ME {xs:List PyData}:qdF [.tuple xs]=some (.list xs):=id rfl
def MF {xs:List PyData}:SZ (.tuple xs)=some xs:=id rfl
def LA {xs:List PyData}:SZ (.list xs)=some xs:=id rfl
def qb3 {i:Str}:tyD (.str i)=some "str" := id rfl
def qbJ {m:List Bool} {nw:Bool} {i:Nat} {v:Int} {ρ:Rho}:XU m nw i (.int v) ρ=ρ.set i (.sh (.int v)):=id rfl
def qaJ {m:List Bool} {nw:Bool} {i:Nat} {v:Str} {ρ:Rho}:XU m nw i (.str v) ρ=ρ.set i (.sh (.str v)):=id rfl
def NN {m:List Bool} {nw:Bool} {i:Nat} {v:List PyData} {ρ:Rho}:XU m nw i (.tuple v) ρ=(dm m ρ).set i (.sh (.tuple v)):=by cases nw<;>rfl
def LR {m:List Bool} {i:Nat} {v:List PyData} {ρ:Rho}:XU m true i (.list v) ρ=(dm m ρ).set i (.ow v):=id rfl
def K2 {m:List Bool} {i:Nat} {v:List PyData} {ρ:Rho}:XU m false i (.list v) ρ=(dm m ρ).set i (.sh (.list v)):=id rfl
def qcJ {m:List Bool} {v:List PyData} {ρ:Rho}:dmS m (.tuple v) ρ=dm m ρ:=id rfl
def qfy {ρ:Rho}:dm [] ρ=ρ:=id rfl
def qfO {m:List Bool} {s:Sl} {ρ:Rho}:dm (true::m) (s::ρ)=s.dem::dm m ρ:=id rfl
def qfx {m:List Bool} {s:Sl} {ρ:Rho}:dm (false::m) (s::ρ)=s::dm m ρ:=id rfl
def qbw {ds:List PyData}:(Sl.ow ds).dem=.sh (.list ds):=id rfl
def qcN {d:PyData}:(Sl.sh d).dem=.sh d:=id rfl
def qc7 {ρ:Rho}:UW [] ρ=[]:=id rfl
def qbx {m:List (Option Nat)} {ρ:Rho}:UW (none::m) ρ=.un::UW m ρ:=id rfl
def cp (o:Option PyData):Sl:=match o with|some d=>.sh d|none=>.un
def qaR {m:List (Option Nat)} {j:Nat} {ρ:Rho}:UW (some j::m) ρ=cp (vw ρ j)::UW m ρ:=id rfl
def qft {d:PyData}:cp (some d)=.sh d:=id rfl
def LJ {pi:Rho->Option (List PyData)} {m:List Bool} {gf:PyData->Option (List (Nat×PyData))} {bf:Nat->Rho->Option Ot} {n:Nat} {ρ:Rho}:qdI pi false m gf bf n ρ=(pi ρ).bind λds=>CJ gf (bf n) ds (dm m ρ):=id rfl
def KQ {ρ:Rho}:Q0 ρ []=ρ:=id rfl
def KO {ρ:Rho} {i:Nat} {d:PyData} {r:List (Nat×PyData)}:Q0 ρ ((i,d)::r)=Q0 (ρ.set i (.sh d)) r:=id rfl
def X6 {gf:PyData->Option (List (Nat×PyData))} {cf:Rho->Option Bool} {ef:Rho->Option PyData} {ρ:Rho} {d:PyData}:lcH gf cf ef ρ d=(gf d).bind λbs=>(cf (Q0 ρ bs)).bind λk=>if k then (ef (Q0 ρ bs)).map some else some none:=id rfl
def Nx (o:Option Ot) (P:Rho->Prop):Prop:=match o with|some (.nx ρ)=>P ρ|some (.ct ρ)=>P ρ|_=>False
def qa3 {ρ:Rho} {P:Rho->Prop}:Nx (some (.nx ρ)) P=P ρ:=id rfl
def qdP {o:Option Ot} {P:Rho->Prop} (h:Nx o P):∃ ρ,(o=some (.nx ρ)\/o=some (.ct ρ))/\P ρ:=by
 unfold Nx at h;split at h
 ·exact ⟨_,.inl rfl,h⟩
 ·exact ⟨_,.inr rfl,h⟩
 ·exact h.elim
section
variable {gf:PyData->Option (List (Nat×PyData))} {bf:Rho->Option Ot} {α:Type} {g:α->PyData} {ρ:Rho} {Q:Option Ot->Prop} {F:Ot->Option Ot}
def TM (xs:List α) (I:Nat->Rho->Prop) (h0:I 0 ρ) (hs:∀ i x ρ,xs[i]?=some x->I i ρ->Nx ((gf (g x)).bind λbs=>bf (Q0 ρ bs)) (I (i+1))) (k:∀ ρ',I xs.length ρ'->Q (some (.nx ρ'))):Q (CJ gf bf (xs.map g) ρ):=by
 obtain ⟨ρ',e,h⟩:=TZ (gf:=gf) (bf:=bf) (g:=g) xs I h0 λi x ρ hx hi=>by
  obtain ⟨ρ2,e,h⟩:=qdP (hs i x ρ hx hi);cases e1:gf (g x) with
  |none=>rw [e1] at e;rcases e with e|e<;>cases e
  |some bs=>rw [e1] at e;exact ⟨bs,ρ2,rfl,e,h⟩
 rw [e];exact k ρ' h
def RE (xs:List α) (I:Nat->Rho->Prop) (h0:I 0 ρ) (hs:∀ i x ρ,xs[i]?=some x->I i ρ->Nx ((gf (g x)).bind λbs=>bf (Q0 ρ bs)) (I (i+1))) (k:∀ ρ',I xs.length ρ'->Q (F (.nx ρ'))):Q ((CJ gf bf (xs.map g) ρ).bind F):=
 TM (Q:=λo=>Q (o.bind F)) xs I h0 hs k
end
def XT {α:Type} {us:List α} (h:us.length=1):∃ a0,us=[a0]:=List.length_eq_one_iff.mp h
def qdq {α:Type} {us:List α} (h:us.length=2):∃ a0 a1,us=[a0,a1]:=by
 obtain ⟨a0,r,rfl⟩:=List.exists_cons_of_length_pos (show 0<us.length by omega);obtain ⟨a1,rfl⟩:=XT (show r.length=1 by simpa using h);exact ⟨a0,a1,rfl⟩
def W5 (d e:PyData):Option PyData:=match d,e with
 |.tuple xs,.tuple ys=>cif (xs.length+ys.length<=sizeLine) (some (.tuple (xs++ys))) none
 |.list xs,.list ys=>cif (xs.length+ys.length<=sizeLine) (some (.list (xs++ys))) none
 |.int i,.int j=>some (.int (i+j))
 |_,_=>none
def jz:OpD ZC:=⟨W5,false,λ{D G x y d e v q} hx hy hd hf k=>by
  unfold W5 at hf;cases hx with
  | int i => cases hy <;> try (simp at hf;done)
             cases hf;exact k _ _ Ex.refl (.int _) (λz=>by cases z)
  |tup hs=>
    cases hy<;>try (simp at hf;done)
    rename_i hs2;simp only [cif] at hf;split at hf
    · rename_i c;cases hf;exact ⟨by rw [hs.length,hs2.length];exact c,k _ _ Ex.refl (.tup (hs.append hs2)) (λz=>by cases z)⟩
    · cases hf
  |lst g hs=>
    cases hy<;>try (simp at hf;done)
    rename_i g2 hs2;simp only [cif] at hf;split at hf
    · rename_i c;cases hf;simp only [ZC,(qP g).2,(qP g2).2];exact ⟨by rw [hs.length,hs2.length];exact c,λp hp=>k _ _ (ZD hp) (JU hd hp (hs.append hs2)) (λz=>by cases z)⟩
    · cases hf
  |_=>simp at hf⟩
def slA (d:PyData) (lo hi:Option Int):Option PyData:=match d with
 |.tuple xs=>some (.tuple (VV xs lo hi))
 |.list xs=>some (.list (VV xs lo hi))
 |_=>none
def M2 {te:TE3} {tl th:TO3} (a:PuE te) (l:PuO tl) (h:PuO th):PuE (C9 te tl th):=⟨λρ=>(a.f ρ).bind λd=>(l.f ρ).bind λlo=>(h.f ρ).bind λhi=>slA d lo hi,a.fv++(l.fv++h.fv),false,λhv hd hf k=>by
 obtain ⟨d,e1,hf⟩:=obb hf;obtain ⟨lo,e2,hf⟩:=obb hf;obtain ⟨hi,e3,hf⟩:=obb hf;refine a.ok hv.l hd e1 λx' G1 E1 D1 _=>l.ok (hv.r.l.up E1) (hd.up E1) e2 λG2 E2=>h.ok (hv.r.r.up (E1.trans E2)) (hd.up (E1.trans E2)) e3 λG3 E3=>?_;have E:=(E1.trans E2).trans E3;have D3:=(D1.up (Q2 E2)).up (Q2 E3);unfold slA at hf;cases D3 with
 |tup hs=>
  simp only at hf;cases hf;exact k _ _ E (.tup (hs.cut _ _)) (λz=>by cases z)
 |lst g hs=>
  simp only at hf;cases hf;simp only [qeG,jc (qP g).2];intro p hp;exact k _ _ (E.trans (ZD hp)) (JU (hd.up E) hp (hs.cut _ _)) (λz=>by cases z)
 |_=>simp at hf⟩
def zD:jz.f=W5:=id rfl
def ZI:jz.nw=false:=id rfl
def QR {te:TE3} {tl th:TO3} {a:PuE te} {l:PuO tl} {h:PuO th}:(M2 a l h).f=λρ=>(a.f ρ).bind λd=>(l.f ρ).bind λlo=>(h.f ρ).bind λhi=>slA d lo hi:=id rfl
def qbr {xs ys:List PyData} (h:xs.length+ys.length<=16777216):W5 (.tuple xs) (.tuple ys)=some (.tuple (xs++ys)):=zr h
end Pu
namespace Pv
open PySem L2 L3 Pu
open Bk (Dl)
def J9 (r:List Int):PyData:=.tuple (r.map PyData.int)
def dlD:Dl->PyData
 |.skew r c b x y=>.tuple [.str "skew",.int r,.int c,.int b,.int x,.int y]
 |.rests r c b p=>.tuple [.str "rests",.int r,.int c,.int b,.int p]
 |.bits h l ms=>.tuple [.str "bits",.int h,.int l,.tuple (ms.map PyData.int)]
 |.table b cells=>.tuple [.str "table",.int b,.tuple (cells.map J9)]
 |.joined d e=>.tuple [.str "joined",dlD d,dlD e]
def CW (G:Gp):∀ (cs:List (List Int)),Dqs G (cs.map Bk.qb7) (cs.map J9)
 |[]=>.nil
 |r::cs=>.cons (.tup (Dqs.ofInts r)) (CW G cs)
def MX (G:Gp):∀ (d:Dl),Dq G d.t (dlD d)
 |.skew r c b x y=>.tup (.cons (.str _) (.cons (.int _) (.cons (.int _) (.cons (.int _) (.cons (.int _) (.cons (.int _) .nil))))))
 |.rests r c b p=>.tup (.cons (.str _) (.cons (.int _) (.cons (.int _) (.cons (.int _) (.cons (.int _) .nil)))))
 |.bits h l ms=>.tup (.cons (.str _) (.cons (.int _) (.cons (.int _) (.cons (.tup (Dqs.ofInts ms)) .nil))))
 |.table b cells=>.tup (.cons (.str _) (.cons (.int _) (.cons (.tup (CW G cells)) .nil)))
 |.joined d e=>.tup (.cons (.str _) (.cons (MX G d) (.cons (MX G e) .nil)))
end Pv
namespace Pu
open PySem L2 L3
open Bk (Lf Ext)
section
variable {D:Addr->Prop} {a:Addr} {G G' G0:Gp} {n n':Nat} {fv gv:List Nat} {l:Nat} {τ:St3} {ρ:Rho}
def Q5 (e:Ext a G G') (h:D a):Ex (rs D G) (rs D G'):=λb o x=>by
 obtain ⟨n,x⟩:=qP x;rw [jj n];exact e b o (by rintro rfl;exact n h) x
def YI {k:Int} (h:Lf G a k):G a≠none:=by
 obtain ⟨o,c,m,e,_⟩:=h;rw [e];simp
def je {k:Int} (hd:Dom D G) (e:Ext a G G') (lf:Lf G' a k):Dom D G':=λb hb z=>by
 by_cases h:b=a
 ·subst h;exact YI lf z
 ·cases g:G b with
  |none=>exact hd b hb g
  |some o=>rw [e b o h g] at z;cases z
def Nw.backx {x:T} {d:PyData} {k:Int} (h:Nw D G G' x d) (e:Ext a G0 G) (lf:Lf G a k):Nw D G0 G' x d:=by
 rcases h with h|⟨p,xs,ds,h1,h2,c,r⟩
 ·exact .inl h
 refine .inr ⟨p,xs,ds,h1,h2,?_,r⟩;cases z:G0 p with
 |none=>rfl
 |some o=>
  by_cases hp:p=a
  ·subst hp;exact absurd c (YI lf)
  ·rw [e p o hp z] at c;cases c
structure Ln (fv:List Nat) (l:Nat) (D:Addr->Prop) (G:Gp) (τ:St3) (ρ:Rho) (a:Addr) (n:Nat):Prop where
 v:YN fv D G τ ρ
 d:Dom D G
 da:D a
 tl:τ[l]?=some (some (.ref a))
 ul:vw ρ l=none
 lf:Lf G a n
def Ln.up (h:Ln fv l D G τ ρ a n) (e:Ext a G G') (lf:Lf G' a n'):Ln fv l D G' τ ρ a n':=
 ⟨λi hi d hd=>let ⟨t,x,y⟩:=h.v i hi d hd;⟨t,x,y.up (Q5 e h.da)⟩,je h.d e lf,h.da,h.tl,h.ul,lf⟩
def Ln.fst (h:Ln (fv++gv) l D G τ ρ a n):Ln fv l D G τ ρ a n:=⟨h.v.l,h.d,h.da,h.tl,h.ul,h.lf⟩
def Ln.snd (h:Ln (fv++gv) l D G τ ρ a n):Ln gv l D G τ ρ a n:=⟨h.v.r,h.d,h.da,h.tl,h.ul,h.lf⟩
end
abbrev QD:=PyData->Nat->Prop
structure PwE (l:Nat) (t:TE3) where
 w:Rho->Nat->QD->Prop
 fv:List Nat
 nw:Bool
 mono:∀ {ρ n} {Q Q':QD},w ρ n Q->(∀ d m,Q d m->Q' d m)->w ρ n Q'
 ok:∀ {D τ ρ G a n} {q:Q3} {Q:QD},Ln fv l D G τ ρ a n->w ρ n Q->(∀ x d G' n',Q d n'->Ext a G G'->Lf G' a n'->Dq (rs D G') x d->(nw=true->Nw D G G' x d)->q x G')->t τ G q
structure PwC (l:Nat) (t:TT3) where
 w:Rho->Nat->(Bool->Nat->Prop)->Prop
 fv:List Nat
 mono:∀ {ρ n} {Q Q':Bool->Nat->Prop},w ρ n Q->(∀ d m,Q d m->Q' d m)->w ρ n Q'
 ok:∀ {D τ ρ G a n} {q:Bool->Gp->Prop} {Q:Bool->Nat->Prop},Ln fv l D G τ ρ a n->w ρ n Q->(∀ k G' n',Q k n'->Ext a G G'->Lf G' a n'->q k G')->t τ G q
structure PwA (l:Nat) (t:TA3) where
 w:Rho->Nat->(List PyData->Nat->Prop)->Prop
 fv:List Nat
 k:Nat
 mono:∀ {ρ n} {Q Q':List PyData->Nat->Prop},w ρ n Q->(∀ d m,Q d m->Q' d m)->w ρ n Q'
 ok:∀ {D τ ρ G a n} {q:List T->Gp->Prop} {Q:List PyData->Nat->Prop},Ln fv l D G τ ρ a n->w ρ n Q->(∀ x d G' n',Q d n'->d.length=k->Ext a G G'->Lf G' a n'->Dqs (rs D G') x d->q x G')->t τ G q
structure PwI (l:Nat) (t:TI3) where
 w:Rho->Nat->(List PyData->Nat->Prop)->Prop
 fv:List Nat
 nm:Bool
 mono:∀ {ρ n} {Q Q':List PyData->Nat->Prop},w ρ n Q->(∀ d m,Q d m->Q' d m)->w ρ n Q'
 ok:∀ {D τ ρ G a n} {r:List T->(Gp->Prop)->Gp->Prop} {Q:List PyData->Nat->Prop},Ln fv l D G τ ρ a n->w ρ n Q ->
  (∀ items stay ds G' n',Q ds n'->Ext a G G'->Lf G' a n'->Dqs (rs D G') items ds->(∀ G'',(nm=true\/Ex (rs D G') G'')->stay G'')->(nm=true->∃ ns:List Int,ds=ns.map PyData.int)->r items stay G')->t τ G r
structure DrD (r:List T->Gp->Q3->Prop) where
 W:List PyData->Nat->QD->Prop
 nw:Bool
 mono:∀ {ds n} {Q Q':QD},W ds n Q->(∀ d m,Q d m->Q' d m)->W ds n Q'
 ok:∀ {D:Addr->Prop} {G:Gp} {a:Addr} {n:Nat} {ts:List T} {ds:List PyData} {q:Q3} {Q:QD},Lf G a n->D a->Dom D G->Dqs (rs D G) ts ds->W ds n Q->(∀ x d G' n',Q d n'->Ext a G G'->Lf G' a n'->Dq (rs D G') x d->(nw=true->Nw D G G' x d)->q x G')->r (.ref a::ts) G q
section
variable {l:Nat}
def eOf {t:TE3} (b:PuE t):PwE l t:=⟨λρ n Q=>∃ d,b.f ρ=some d/\Q d n,b.fv,b.nw,λ⟨d,h1,h2⟩ h=>⟨d,h1,h _ _ h2⟩,λh ⟨d,h1,h2⟩ k=>
 b.ok h.v h.d h1 λx G1 E1 D1 N1=>k x d G1 _ h2 (Bk.VL E1) (h.lf.ex E1) D1 N1⟩
def cOf {t:TT3} (b:PuC t):PwC l t:=⟨λρ n Q=>∃ d,b.f ρ=some d/\Q d n,b.fv,λ⟨d,h1,h2⟩ h=>⟨d,h1,h _ _ h2⟩,λh ⟨d,h1,h2⟩ k=>
 b.ok h.v h.d h1 λG1 E1=>k d G1 _ h2 (Bk.VL E1) (h.lf.ex E1)⟩
def aOf {t:TA3} (b:PuA t):PwA l t:=⟨λρ n Q=>∃ d,b.f ρ=some d/\Q d n,b.fv,b.n,λ⟨d,h1,h2⟩ h=>⟨d,h1,h _ _ h2⟩,λh ⟨d,h1,h2⟩ k=>
 b.ok h.v h.d h1 λx G1 E1 D1=>k x d G1 _ h2 (b.ln h1) (Bk.VL E1) (h.lf.ex E1) D1⟩
def iOf {t:TI3} (b:PuI t):PwI l t:=⟨λρ n Q=>∃ d,b.f ρ=some d/\Q d n,b.fv,b.nm,λ⟨d,h1,h2⟩ h=>⟨d,h1,h _ _ h2⟩,λh ⟨d,h1,h2⟩ k=>
 b.ok h.v h.d h1 λitems stay G1 E1 D1 s nm=>k items stay d G1 _ h2 (Bk.VL E1) (h.lf.ex E1) D1 s nm⟩
def eO {r:R3} {ta tb:TE3} (R:OpD r) (a:PwE l ta) (b:PwE l tb):PwE l (o3 r ta tb):=
 ⟨λρ n Q=>a.w ρ n λx n1=>b.w ρ n1 λy n2=>∃ v,R.f x y=some v/\Q v n2,a.fv++b.fv,R.nw,λh k=>a.mono h λx n1 h=>b.mono h λy n2 ⟨v,h1,h2⟩=>⟨v,h1,k _ _ h2⟩,λh hw k=>
  a.ok h.fst hw λx dx G1 n1 h1 E1 L1 D1 _=>b.ok (h.snd.up E1 L1) h1 λy dy G2 n2 ⟨v,e,hq⟩ E2 L2 D2 _=>R.ok (D1.up (Q5 E2 h.da)) D2 (je (je h.d E1 L1) E2 L2) e λz G3 E3 D3 N3=>k z v G3 n2 hq ((E1.trans E2).trans (Bk.VL E3)) (L2.ex E3) D3 λz=>(N3 z).backx (E1.trans E2) L2⟩
def eDr {r:List T->Gp->Q3->Prop} {t:TA3} (R:DrD r) (b:PwA l t):PwE l (cb3 r (qb (v3 l) t)):=⟨λρ n Q=>b.w ρ n λxs n1=>R.W xs n1 Q,b.fv,R.nw,λh k=>b.mono h λxs n1 h=>R.mono h k,λ{D τ ρ G a n q Q} h hw k=>by
 simp only [cb3,qb,v3,h.tl];exact b.ok h hw λx dx G1 n1 hW hl E1 L1 D1=>R.ok L1 h.da (je h.d E1 L1) D1 hW λz d G3 n3 hq E3 L3 D3 N3=>k z d G3 n3 hq (E1.trans E3) L3 D3 λz=>(N3 z).backx E1 L1⟩
def cTb {t:TE3} (b:PwE l t):PwC l (tb3 t):=⟨λρ n Q=>b.w ρ n λd n1=>∃ k,asB d=some k/\Q k n1,b.fv,λh k=>b.mono h λd m ⟨v,h1,h2⟩=>⟨v,h1,k _ _ h2⟩,λh hw k=>b.ok h hw λx d G1 n1 ⟨v,e,hq⟩ E1 L1 D1 _=>by
 have:=LX e;subst this;cases D1;exact k _ _ _ hq E1 L1⟩
end
def lcW (gf:PyData->Option (List (Nat×PyData))) (cw:Rho->Nat->(Bool->Nat->Prop)->Prop) (ew:Rho->Nat->QD->Prop) (ρ:Rho):List PyData->Nat->(List PyData->Nat->Prop)->Prop
 |[],n,Q=>Q [] n
 |d::r,n,Q=>∃ bs,gf d=some bs/\cw (Q0 ρ bs) n λk n1=>if k then ew (Q0 ρ bs) n1 λy n2=>lcW gf cw ew ρ r n2 λys n3=>Q (y::ys) n3 else lcW gf cw ew ρ r n1 Q
def ZO {l:Nat} {g:TG3} {tif:TT3} {te:TE3} (pg:PuG g) (pc:PwC l tif) (pe:PwE l te) {ρ:Rho}:∀ {ds:List PyData} {n:Nat} {Q Q':List PyData->Nat->Prop},lcW pg.f pc.w pe.w ρ ds n Q->(∀ d m,Q d m->Q' d m)->lcW pg.f pc.w pe.w ρ ds n Q'
 |[],n,Q,Q',h,k=>k _ _ h
 |d::r,n,Q,Q',⟨bs,e,h⟩,k=>⟨bs,e,pc.mono h λj m h=>by
   cases j with
   |true=>rw [if_pos rfl] at h ⊢;exact pe.mono h λy m2 h=>ZO pg pc pe h λys m3 h=>k _ _ h
   |false=>exact ZO pg pc pe h k⟩
def VA.ext {D:Addr->Prop} {a:Addr} {G G':Gp} {τ:St3} {ρ:Rho} (h:VA D G τ ρ) (e:Ext a G G') (da:D a):VA D G' τ ρ:=h.upx (Q5 e da)
def RR:∀ {ts:List (Nat×T)} {τ:St3} {i:Nat},(∀ p∈ts,p.1≠i)->(sets τ ts)[i]?=τ[i]?
 |[],_,_,_=>rfl
 |p::r,τ,i,h=>by
  unfold sets;rw [RR λq hq=>h q (by simp [hq]),getElem?_set,if_neg (h p (by simp))]
def R9 {l:Nat} {stay:Gp->Prop} {g:TG3} {tif:TT3} {te:TE3} {q:Q3} (pg:PuG g) (pc:PwC l tif) (pe:PwE l te) {D:Addr->Prop} {a:Addr} {ρ0:Rho} {G0:Gp} (da:D a) (hs:∀ G,Ext a G0 G->stay G) (hm:∀ i∈pg.tg,vw ρ0 i=none) (hl:∀ i∈pg.tg,i≠l) {Q:List PyData->Nat->Prop}
  (k:∀ G ys fs n,Q fs n->fs.length<=sizeLine->Ext a G0 G->Lf G a n->Dqs (rs D G) ys fs->∀ p,G p=none->q (.ref p) (gu G p (.lst ys))) :
  vw ρ0 l=none->∀ (ds:List PyData) (items ys:List T) (es:List PyData) (τ:St3) (G:Gp) (n:Nat),Dqs (rs D G0) items ds->VA D G τ ρ0->τ[l]?=some (some (.ref a))->Ext a G0 G->Dom D G->Lf G a n->Dqs (rs D G) ys es->lcW pg.f pc.w pe.w ρ0 ds n (λfs n=>(es++fs).length<=sizeLine/\Q (es++fs) n)->ds.length+es.length<=sizeLine->YW stay g tif te q items ys τ G
 |_,_,_,ys,es,τ,G,n,.nil,va,tl,E,hd,lf,hy,hw,_=>by
  obtain ⟨h1,h2⟩:=hw;rw [List.append_nil] at h1 h2;exact ⟨hs G E,k G ys es n h2 h1 E lf hy⟩
 |ul,d::ds,x::items,ys,es,τ,G,n,.cons hx hr,va,tl,E,hd,lf,hy,⟨bs,e3,hw⟩,hz=>by
  obtain ⟨ts,bd,kg⟩:=pg.ok (hx.up (Q5 E da)) e3;refine ⟨hs G E,kg τ G _ ?_⟩;have va1:=va.sets bd;have at1:∀ p∈ts,p.1∈pg.tg:=λp hp=>by
   obtain ⟨q,hq,e⟩:=NQ bd p hp;rw [← e];exact pg.at' e3 q hq
  have va2:=va.keep (ts:=ts) λp hp=>hm _ (at1 p hp);have tl1:(sets τ ts)[l]?=some (some (.ref a)):=by rw [RR λp hp=>hl _ (at1 p hp)];exact tl
  have ul1:vw (Q0 ρ0 bs) l=none:=by rw [C2 λp hp=>hl _ (pg.at' e3 p hp)];exact ul
  refine pc.ok ⟨va1.view _,hd,da,tl1,ul1,lf⟩ hw λc G1 n1 hc E1 L1=>?_;cases c with
  |true=>
   rw [if_pos rfl] at hc ⊢;refine pe.ok ⟨(va1.ext E1 da).view _,je hd E1 L1,da,tl1,ul1,L1⟩ hc λz y G2 n2 hq E2 L2 D2 _=>⟨?_,?_⟩
   ·rw [hy.length];simp at hz;omega
   ·refine R9 pg pc pe da hs hm hl k ul ds items (ys++[z]) (es++[y]) _ G2 n2 hr ((va2.ext E1 da).ext E2 da) tl1 ((E.trans E1).trans E2) (je (je hd E1 L1) E2 L2) L2 (((hy.up (Q5 E1 da)).up (Q5 E2 da)).append (.cons D2 .nil)) ?_ (by simp at hz ⊢;omega);refine ZO pg pc pe hq λfs m h=>?_;rw [List.append_assoc];exact h
  |false=>
   rw [if_neg Bool.false_ne_true] at hc ⊢;exact R9 pg pc pe da hs hm hl k ul ds items ys es _ G1 n1 hr (va2.ext E1 da) tl1 (E.trans E1) (je hd E1 L1) L1 (hy.up (Q5 E1 da)) hc (by simp at hz;omega)
def qgv {l:Nat} (it:Rho->Nat->(List PyData->Nat->Prop)->Prop) (h:Rho->List PyData->Nat->(List PyData->Nat->Prop)->Prop) (m:List (Option Nat)) (ρ:Rho) (n:Nat) (Q:QD):Prop:=
 it ρ n λds n1=>ds.length<=16777216/\h (UW m ρ) ds n1 λfs n2=>fs.length<=16777216/\Q (.list fs) n2
def eLc {l:Nat} {wi:TI3} {g:TG3} {tif:TT3} {te:TE3} (l2:Nat) (pi:PwI l wi) (pg:PuG g) (pc:PwC l2 tif) (pe:PwE l2 te) (m:List (Option Nat)) (hm:Tru (pg.tg.all λi=>m[i]?==some none)) (hl:Tru (m[l2]?==some (some l))):PwE l (lc3 wi g tif te m):=
 ⟨qgv (l:=l) pi.w (lcW pg.f pc.w pe.w) m,pi.fv++(m.filterMap id).filter (· != l),true,λh k=>pi.mono h λds n1 ⟨h1,h⟩=>⟨h1,ZO pg pc pe h λfs n2 ⟨h2,h⟩=>⟨h2,k _ _ h⟩⟩,λ{D τ ρ G a n q Q} h hw k=>by
  have hl':m[l2]?=some (some l):=by simpa using hl.h
  refine pi.ok h.fst hw λitems stay ds G1 n1 ⟨h1,hw1⟩ E1 L1 D1 hs _=>?_;have hv:YN (m.filterMap id) D G τ ρ:=λi hi d hd=>by
   by_cases e:i=l
   ·subst e;rw [h.ul] at hd;cases hd
   ·exact h.snd.v i (List.mem_filter.mpr ⟨hi,by simpa using e⟩) d hd
  have va:=(VA.cap (m:=m) hv).ext E1 h.da;refine R9 pg pc pe (D:=D) (a:=a) (ρ0:=UW m ρ) (G0:=G1) h.da (λG2 E2=>hs G2 (.inr ((Q5 E2 h.da).trans ZY))) (λi hi=>RM ?_) (λi hi e=>?_) (Q:=λfs n=>Q (.list fs) n) (λG2 ys fs n2 hq hlen E2 L2 D2 p hp=>?_) ?_ ds items [] [] _ G1 n1 D1 va ?_ Bk.Ext.refl (je h.d E1 L1) L1 .nil ?_ ?_
  ·simpa using List.all_eq_true.mp hm.h i hi
  ·subst e;have:=List.all_eq_true.mp hm.h i hi;rw [hl'] at this;simp at this
  ·exact k _ _ _ _ hq ((E1.trans E2).trans (Bk.VL (ZD hp))) (L2.ex (ZD hp)) (JU (je (je h.d E1 L1) E2 L2) hp D2) λ_=>(UF hp D2).backx (E1.trans E2) L2
  ·unfold vw UW;rw [getElem?_map,hl'];simp only [Option.map_some,Option.bind_some,h.ul];rfl
  ·unfold L3.cap;rw [getElem?_map,hl'];simp [h.tl]
  ·refine ZO pg pc pe hw1 λfs m ⟨h2,h3⟩=>⟨?_,by simpa using h3⟩
   rw [sizeLine_eq];simpa using h2
  ·rw [sizeLine_eq];simpa using h1⟩
structure RL (l:Nat) (a:Addr) (z0:Option (Option T)×Nat) (D:Addr->Prop) (G0:Gp) (A:Nat->Option Addr) (τ:St3) (ρ:Rho) (G:Gp) (n:Nat):Prop where
 r:RS D G0 A τ ρ G
 al:A l=some a
 tl:τ[l]?=some (some (.ref a))
 ul:ρ[l]?=some Sl.un
 lf:Lf G a n
 tz:τ[0]?=z0.1/\τ.length=z0.2
section
variable {l:Nat} {a:Addr} {z0:Option (Option T)×Nat} {D:Addr->Prop} {G0 G G':Gp} {A:Nat->Option Addr} {τ:St3} {ρ:Rho} {n n':Nat}
def RL.vl (h:RL l a z0 D G0 A τ ρ G n):vw ρ l=none:=by unfold vw;rw [h.ul];rfl
def RL.up (h:RL l a z0 D G0 A τ ρ G n) (e:Ext a G G') (lf:Lf G' a n'):RL l a z0 D G0 A τ ρ G' n':=by
 have X:Ex (rs (AD D A) G) (rs (AD D A) G'):=Q5 e (.inr ⟨l,h.al⟩);refine ⟨⟨λb o x=>e b o (by rintro rfl;rw [h.r.fr l _ h.al] at x;cases x) (h.r.ex b o x),h.r.dm,h.r.fr,λi p hp z=>?_,h.r.inj,h.r.len,λi d x=>let ⟨t,y,z⟩:=h.r.sh i d x;⟨t,y,z.up X⟩,λi ds x=>?_,λi ds x=>?_⟩,h.al,h.tl,h.ul,lf,h.tz⟩
 ·by_cases c:p=a
  ·subst c;exact YI lf z
  ·cases g:G p with
   |none=>exact h.r.da i p hp g
   |some o=>rw [e p o c g] at z;cases z
 ·obtain ⟨p,xs,y1,y2,y3,y4⟩:=h.r.ow i ds x;refine ⟨p,xs,y1,y2,e p _ ?_ y3,y4.up X⟩;rintro rfl;have:=h.r.inj i l _ y1 h.al;subst this;rw [h.ul] at x;cases x
 ·obtain ⟨p,xs,y1,y2,y3,yk,y4⟩:=h.r.dc i ds x;refine ⟨p,xs,y1,y2,e p _ ?_ y3,yk,y4.up X⟩;rintro rfl;have:=h.r.inj i l _ y1 h.al;subst this;rw [h.ul] at x;cases x
def RL.all (h:RL l a z0 D G0 A τ ρ G n) (fv:List Nat):Ln fv l (λb=>D b\/b=a) G τ ρ a n:=by
 refine ⟨λi _ d hd=>?_,λb hb=>?_,.inr rfl,h.tl,h.vl,h.lf⟩
 ·unfold vw at hd;obtain ⟨s,e,hd⟩:=obb hd;have less:Ex (rs (AD D A) G) (rs (λb=>D b\/b=a) G):=zw λb z=>by
   rcases z with z|z
   ·exact .inl z
   ·subst z;exact .inr ⟨l,h.al⟩
  cases s with
  |un=>cases hd
  |sh d'=>
   cases hd;obtain ⟨t,b,c⟩:=h.r.sh i _ e;exact ⟨t,b,c.up less⟩
  |ow ds=>
   cases hd;obtain ⟨p,xs,b,c,g,f⟩:=h.r.ow i _ e;refine ⟨_,c,.lst ?_ (f.up less)⟩;rw [jj]
   ·exact g
   ·rintro (z|z)
    ·exact h.r.nd b z
    ·subst z;have:=h.r.inj i l _ b h.al;subst this;rw [h.ul] at e;cases e
  |dc kvs=>cases hd
 ·rcases hb with hb|hb
  ·exact h.r.domD b hb
  ·subst hb;exact YI h.lf
def qfg {m:List Bool} (hm:mkb m l=false) (al:A l=some a):Ad m A l=some a:=by unfold Ad;rw [if_neg (by rw [hm];simp)];exact al
def RL.dem (h:RL l a z0 D G0 A τ ρ G n) {m:List Bool} (hm:mkb m l=false):RL l a z0 D G0 (Ad m A) τ (Pu.dm m ρ) G n:=
 ⟨h.r.dem m,qfg hm h.al,h.tl,by rw [WV,h.ul];simp [hm],h.lf,h.tz⟩
def RL.ln (h:RL l a z0 D G0 A τ ρ G n) {m:List Bool} {fv:List Nat} (hm:mkb m l=false) (hf:Tru (fv.all (mkb m))):Ln fv l (AD D (Ad m A)) G τ ρ a n:=
 ⟨h.r.viewD hf,(h.r.dem m).dom,.inr ⟨l,qfg hm h.al⟩,h.tl,h.vl,h.lf⟩
def RL.put (h:RL l a z0 D G0 A τ ρ G n) {i:Nat} (hi:i≠l) (h0:i≠0) {x:T} {d:PyData} (hx:Dq (rs (AD D A) G) x d):RL l a z0 D G0 (Er A i) (τ.set i (some x)) (ρ.set i (.sh d)) G n:=
 ⟨h.r.put i hx,by unfold Er;rw [if_neg (λz=>hi z.symm)];exact h.al,by rw [getElem?_set,if_neg hi];exact h.tl,by rw [getElem?_set,if_neg hi];exact h.ul,h.lf,⟨by rw [getElem?_set,if_neg h0];exact h.tz.1,by rw [List.length_set];exact h.tz.2⟩⟩
def RL.puts:∀ {ts:List (Nat×T)} {bs:List (Nat×PyData)} {A:Nat->Option Addr} {τ:St3} {ρ:Rho},RL l a z0 D G0 A τ ρ G n->Bd (rs (AD D A) G) ts bs->(∀ p∈bs,p.1≠l/\p.1≠0)->∃ A',RL l a z0 D G0 A' (sets τ ts) (Q0 ρ bs) G n
 |_,_,A,_,_,h,.nil,_=>⟨A,h⟩
 |_,_,A,_,_,h,.cons x b,hn=>by
  unfold sets Q0;exact RL.puts (h.put (hn _ List.mem_cons_self).1 (hn _ List.mem_cons_self).2 x) (b.up NK) (λp hp=>hn p (List.mem_cons_of_mem _ hp))
def RL.putN (h:RL l a z0 D G0 A τ ρ G n) {i:Nat} (hi:i≠l) (h0:i≠0) {x:T} {d:PyData} {ds:List PyData} (hd:d=.list ds) (E:Ext a G G') (lf:Lf G' a n') (hx:Nw (AD D A) G G' x d):∃ A',RL l a z0 D G0 A' (τ.set i (some x)) (ρ.set i (.ow ds)) G' n':=by
 have h1:=h.up E lf;rcases hx with hx|⟨p,xs,ds',rfl,e',gp,gp',hs⟩
 ·rw [hd] at hx;cases hx
 rw [hd] at e';cases e';have np:∀ {j q},A j=some q->q≠p:=λe=>by rintro rfl;exact h.r.da _ _ e gp
 have X1:Ex (rs (AD D A) G) (rs (AD D (λj=>if j=i then some p else A j)) G'):=λb o e=>by
  obtain ⟨n,e⟩:=qP e;rw [jj]
  ·exact E b o (by rintro rfl;exact n (.inr ⟨l,h.al⟩)) e
  ·rintro (z|⟨j,z⟩)
   ·exact n (.inl z)
   ·simp only at z;split at z
    ·cases z;rw [gp] at e;cases e
    ·exact n (.inr ⟨j,z⟩)
 refine ⟨λj=>if j=i then some p else A j,⟨h1.r.ex,h.r.dm,λj q e=>?_,λj q e=>?_,λj k q x y=>?_,by simp [h.r.len],λj e he=>?_,λj es e=>?_,λj es e=>?_⟩,by rw [if_neg (λz=>hi z.symm)];exact h.al,by rw [getElem?_set,if_neg hi];exact h.tl,by rw [getElem?_set,if_neg hi];exact h.ul,lf,⟨by rw [getElem?_set,if_neg h0];exact h.tz.1,by rw [List.length_set];exact h.tz.2⟩⟩
 ·split at e
  ·cases e;cases z:G0 p with
   |none=>rfl
   |some o=>rw [h.r.ex _ _ z] at gp;cases gp
  ·exact h.r.fr j q e
 ·split at e
  ·cases e;rw [gp'];simp
  ·exact h1.r.da j q e
 ·split at x
  ·cases x;split at y
   ·rename_i h1 h2;rw [h1,h2]
   ·exact absurd rfl (np y)
  ·split at y
   ·cases y;exact absurd rfl (np x)
   ·exact h.r.inj j k q x y
 ·rw [getElem?_set] at he ⊢;split at he
  ·split at he<;>cases he
  ·rename_i hj;rw [if_neg hj];obtain ⟨t,b,c⟩:=h.r.sh j _ he;exact ⟨t,b,c.up X1⟩
 ·rw [getElem?_set] at e ⊢;split at e
  ·rename_i hj;subst hj;split at e
   ·rename_i hl;cases e;refine ⟨p,xs,by simp,by rw [if_pos rfl,if_pos (by rw [← h.r.len];exact hl)],gp',hs.up (zw λb z=>?_)⟩;rcases z with z|⟨j,z⟩
    ·exact .inl (.inl z)
    ·simp only at z;split at z
     ·cases z;exact .inr rfl
     ·exact .inl (.inr ⟨j,z⟩)
   ·cases e
  ·rename_i hj;rw [if_neg hj];obtain ⟨q,ys,b,c,g,f⟩:=h1.r.ow j _ e;obtain ⟨q',ys',b',c',g',f'⟩:=h.r.ow j _ e;rw [b] at b';cases b';have:G' q=some (.lst ys'):=E q _ (by rintro rfl;have:=h.r.inj j l _ b h.al;subst this;rw [h.ul] at e;cases e) g';exact ⟨q,ys',by rw [if_neg (λz=>hj z.symm)];exact b,c,this,f'.up X1⟩
 ·rw [getElem?_set] at e ⊢;split at e
  ·split at e<;>cases e
  ·rename_i hj;rw [if_neg hj];obtain ⟨q,ys,b,c,g,k,f⟩:=h.r.dc j _ e;have:G' q=some (.dct ys):=E q _ (by rintro rfl;have:=h.r.inj j l _ b h.al;subst this;rw [h.ul] at e;cases e) g;exact ⟨q,ys,by rw [if_neg (λz=>hj z.symm)];exact b,c,this,k,f.up X1⟩
def RL.wr (h:RL l a z0 D G0 A τ ρ G n) {i:Nat} {p:Addr} {xs:List T} {ds ds0:List PyData} (ho:ρ[i]?=some (Sl.ow ds0)) (hi:A i=some p) (ht:τ[i]?=some (some (.ref p))) (hs:Dqs (rs (AD D A) G) xs ds):RL l a z0 D G0 A τ (ρ.set i (.ow ds)) (gu G p (.lst xs)) n:=by
 have il:i≠l:=by rintro rfl;rw [h.ul] at ho;cases ho
 have pa:p≠a:=by rintro rfl;exact il (h.r.inj i l _ hi h.al)
 exact ⟨h.r.wr hi ht hs,h.al,h.tl,by rw [getElem?_set,if_neg il];exact h.ul,h.lf.new pa,h.tz⟩
end
abbrev QO:=Ot->Nat->Prop
def SN (l:Nat) (a:Addr) (z0:Option (Option T)×Nat) (D:Addr->Prop) (G0:Gp) (e:Ends3):Ot->Nat->Prop
 |.nx ρ,n=>∀ A τ G,RL l a z0 D G0 A τ ρ G n->e.nx τ G
 |.bk ρ,n=>∀ A τ G,RL l a z0 D G0 A τ ρ G n->e.bk τ G
 |.ct ρ,n=>∀ A τ G,RL l a z0 D G0 A τ ρ G n->e.ct τ G
 |.rt d fr,n=>∀ x G,Ex G0 G->Lf G a n->Dq (rs (λb=>D b\/b=a) G) x d->(fr=true->Nw (λb=>D b\/b=a) G0 G x d)->e.rt x G
structure PwS (l:Nat) (t:TS3) where
 w:Rho->Nat->QO->Prop
 mono:∀ {ρ n} {Q Q':QO},w ρ n Q->(∀ o m,Q o m->Q' o m)->w ρ n Q'
 ok:∀ {a z0 D G0 A τ ρ G n} {e:Ends3} {Q:QO},RL l a z0 D G0 A τ ρ G n->w ρ n Q->(∀ o m,Q o m->SN l a z0 D G0 e o m)->t e τ G
section
variable {l:Nat}
def RG:PwS l qK:=⟨λρ n Q=>Q (.nx ρ) n,λh k=>k _ _ h,λh hw k=>k _ _ hw _ _ _ h⟩
def sqw (b:Rho->Nat->QO->Prop) (Q:QO):QO:=λo n=>match o with|.nx ρ'=>b ρ' n Q|o=>Q o n
def XV {t u:TS3} (x:PwS l t) (y:PwS l u):PwS l (qE t u):=⟨λρ n Q=>x.w ρ n (sqw y.w Q),λh k=>x.mono h λo m h=>by
  cases o with
  |nx ρ=>exact y.mono h k
  |bk ρ=>exact k _ _ h
  |ct ρ=>exact k _ _ h
  |rt d f=>exact k _ _ h,λh hw k=>x.ok h hw λo m h=>by
  cases o with
  |nx ρ=>exact λA τ G r=>y.ok r h k
  |bk ρ=>exact k _ _ h
  |ct ρ=>exact k _ _ h
  |rt d f=>exact k _ _ h⟩
def wIf {c:TT3} {t u:TS3} (pc:PwC l c) (x:PwS l t) (y:PwS l u):PwS l (zV c t u):=⟨λρ n Q=>pc.w ρ n λk n1=>if k then x.w ρ n1 Q else y.w ρ n1 Q,λh k=>pc.mono h λj m h=>by
  cases j with
  |true=>rw [if_pos rfl] at h ⊢;exact x.mono h k
  |false=>exact y.mono h k,λh hw k=>pc.ok (h.all _) hw λj G1 n1 hj E1 L1=>by
  cases j with
  |true=>rw [if_pos rfl] at hj ⊢;exact x.ok (h.up E1 L1) hj k
  |false=>exact y.ok (h.up E1 L1) hj k⟩
def qaz {a:Addr} {z0:Option (Option T)×Nat} {D:Addr->Prop} {G0 G G':Gp} {A:Nat->Option Addr} {τ:St3} {ρ:Rho} {n:Nat} (h:RL l a z0 D G0 A τ ρ G n) (e:Ext a G G'):Ex G0 G':=λb o x=>e b o (by rintro rfl;rw [h.r.fr l _ h.al] at x;cases x) (h.r.ex b o x)
def qaF {t:TE3} (x:PwE l t):PwS l (qX t):=⟨λρ n Q=>x.w ρ n λd n1=>Q (.rt d x.nw) n1,λh k=>x.mono h λd m h=>k _ _ h,λh hw k=>x.ok (h.all _) hw λy d G1 n1 hq E1 L1 D1 N1=>k _ _ hq y G1 (qaz h E1) L1 D1 λz=>(N1 z).back h.r.ex⟩
def qb6 {t:TE3} (x:PwE l t) (i:Nat) (m:List Bool) (hm:Tru (x.fv.all (mkb m))) (hl:Tru (!mkb m l&&(i != l&&i != 0))):PwS l (qS t (gn3 i)):=⟨λρ n Q=>x.w ρ n λd n1=>Q (.nx (XU m x.nw i d ρ)) n1,λh k=>x.mono h λd m h=>k _ _ h,λ{a z0 D G0 A τ ρ G n e Q} h hw k=>by
 have hl':mkb m l=false/\i≠l/\i≠0:=by simpa using hl.h
 refine x.ok (h.ln hl'.1 hm) hw λy d G1 n1 hq E1 L1 D1 N1=>?_;have k:=k _ _ hq;unfold XU at k;show e.nx (τ.set i (some y)) G1;split at k
 ·rename_i hs;exact k _ _ _ ((h.up E1 L1).put hl'.2.1 hl'.2.2 (Z8 D1 hs))
 ·split at k
  ·rename_i hn;have N:=N1 hn;rcases id N with h2|⟨p,xs,ds,h1,h2,_⟩
   ·exact absurd h2 (by assumption)
   subst h2;obtain ⟨A',r⟩:=(h.dem hl'.1).putN hl'.2.1 hl'.2.2 rfl E1 L1 N;exact k _ _ _ r
  ·exact k _ _ _ (((h.dem hl'.1).up E1 L1).put hl'.2.1 hl'.2.2 D1)⟩
def qfF {t:TA3} (x:PwA l t) (i j:Nat) (m:List Bool) (hm:Tru (x.fv.all (mkb m))) (hl:Tru (!mkb m l&&((i != l&&i != 0)&&(j != l&&j != 0)))):PwS l (YO i j t):=⟨λρ n Q=>x.w ρ n λds n1=>∃ o,qab i j m ds ρ=some o/\Q o n1,λh k=>x.mono h λd m ⟨bs,h1,h2⟩=>⟨bs,h1,k _ _ h2⟩,λ{a z0 D G0 A τ ρ G n e Q} h hw k=>by
 have hl':mkb m l=false/\(i≠l/\i≠0)/\j≠l/\j≠0:=by simpa using hl.h
 refine x.ok (h.ln hl'.1 hm) hw λy d G1 n1 ⟨o,e2,hq⟩ hlen E1 L1 D1=>?_;unfold qab at e2;split at e2
 ·cases D1 with
  |cons x1 b=>cases b with
   |cons x2 c=>
    cases c;split at e2
    ·rename_i hs;cases e2;rw [Bool.and_eq_true] at hs;exact k _ _ hq _ _ _ (((h.up E1 L1).put hl'.2.1.1 hl'.2.1.2 (Z8 x1 hs.1)).put hl'.2.2.1 hl'.2.2.2 (Z8 x2 hs.2))
    ·cases e2;exact k _ _ hq _ _ _ ((((h.dem hl'.1).up E1 L1).put hl'.2.1.1 hl'.2.1.2 x1).put hl'.2.2.1 hl'.2.2.2 (x2.up NK))
 ·cases e2⟩
def RL.evalS {a:Addr} {z0:Option (Option T)×Nat} {D:Addr->Prop} {G0 G:Gp} {A:Nat->Option Addr} {τ:St3} {ρ:Rho} {n:Nat} (h:RL l a z0 D G0 A τ ρ G n) {t:TE3} (x:PwE l t) (m:List Bool) (hm:Tru (x.fv.all (mkb m))) (hl:mkb m l=false) {Q:QD} (hw:x.w ρ n Q) (q:Q3) (k:∀ y d G' n' A1,Q d n'->RL l a z0 D G0 A1 τ (dmS m d ρ) G' n'->Ext a G G'->Dq (rs (AD D A1) G') y d->q y G'):t τ G q:=by
 refine x.ok (h.ln hl hm) hw λy d G1 n1 hq E1 L1 D1 _=>?_;by_cases hs:TL d=true
 ·exact k y d G1 n1 A hq (by unfold dmS;rw [if_pos hs];exact h.up E1 L1) E1 (Z8 D1 hs)
 ·exact k y d G1 n1 _ hq (by unfold dmS;rw [if_neg hs];exact (h.dem hl).up E1 L1) E1 D1
def qfn {t:TE3} (x:PwE l t) (i:Nat) (m:List Bool) (hm:Tru (x.fv.all (mkb m))) (hl:Tru (!mkb m l)):PwS l (ZH (bm3 EA (v3 i) (qb t qh))):=⟨λρ n Q=>∃ ds,slot ρ i=some ds/\x.w ρ n λd n1=>slot (dmS m d ρ) i=some ds/\ds.length<16777216/\Q (.nx ((dmS m d ρ).set i (.ow (ds++[d])))) n1,λ⟨v,h0,h⟩ k=>⟨v,h0,x.mono h λd m ⟨y,h1,h2⟩=>⟨y,h1,k _ _ h2⟩⟩,λ{a z0 D G0 A τ ρ G n e Q} h ⟨ds,h0,hw⟩ k=>by
 have hl':mkb m l=false:=by simpa using hl.h
 obtain ⟨p,xs,b,c,g,f⟩:=h.r.ow i _ (VR h0);simp only [ZH,bm3,v3,c,jc g];refine ⟨rfl,h.evalS x m hm hl' hw _ λy d G1 n1 A1 ⟨h1,h2,hq⟩ r E1 D1=>?_⟩;obtain ⟨p',xs',b',c',g',f'⟩:=r.r.ow i _ (VR h1);rw [c] at c';cases c';simp only [qh,EA,g'];exact ⟨by rw [f'.length,sizeLine_eq];exact h2,k _ _ hq _ _ _ (r.wr (VR h1) b' c (f'.append (.cons D1 .nil)))⟩⟩
def KD (gf:PyData->Option (List (Nat×PyData))) (bw:Rho->Nat->QO->Prop):List PyData->Rho->Nat->QO->Prop
 |[],ρ,n,Q=>Q (.nx ρ) n
 |d::r,ρ,n,Q=>∃ bs,gf d=some bs/\bw (Q0 ρ bs) n λo n1=>match o with
  |.nx ρ'=>KD gf bw r ρ' n1 Q
  |.ct ρ'=>KD gf bw r ρ' n1 Q
  |.bk ρ'=>Q (.nx ρ') n1
  |.rt d b=>Q (.rt d b) n1
def YH {g:TG3} {tb:TS3} (pg:PuG g) (pb:PwS l tb):∀ {ds:List PyData} {ρ:Rho} {n:Nat} {Q Q':QO},KD pg.f pb.w ds ρ n Q->(∀ o m,Q o m->Q' o m)->KD pg.f pb.w ds ρ n Q'
 |[],_,_,_,_,h,k=>k _ _ h
 |d::r,_,_,_,_,⟨bs,e,h⟩,k=>⟨bs,e,pb.mono h λo m h=>by
   cases o with
   |nx ρ=>exact YH pg pb h k
   |ct ρ=>exact YH pg pb h k
   |bk ρ=>exact k _ _ h
   |rt d b=>exact k _ _ h⟩
def VU {stay:Gp->Prop} {g:TG3} {tb:TS3} {e:Ends3} (pg:PuG g) (pb:PwS l tb) {a:Addr} {z0:Option (Option T)×Nat} {D:Addr->Prop} {G0:Gp} {Q:QO} (hl:∀ i∈pg.tg,i≠l/\i≠0) (hs:∀ A τ ρ G n,RL l a z0 D G0 A τ ρ G n->stay G) (k:∀ o m,Q o m->SN l a z0 D G0 e o m) :
  ∀ (ds:List PyData) (items:List T),(∀ A τ ρ G n,RL l a z0 D G0 A τ ρ G n->Dqs (rs (AD D A) G) items ds)->∀ A τ ρ G n,RL l a z0 D G0 A τ ρ G n->KD pg.f pb.w ds ρ n Q->VZ stay g tb e items τ G
 |[],items,hi,A,τ,ρ,G,n,h,hw=>by
  have:=hi _ _ _ _ _ h;cases this;exact ⟨hs _ _ _ _ _ h,k _ _ hw _ _ _ h⟩
 |d::ds,items,hi,A,τ,ρ,G,n,h,⟨bs,e1,hw⟩=>by
  have hh:=hi _ _ _ _ _ h;cases hh with
  |cons hx hr=>
   rename_i x items;obtain ⟨ts,bd,kg⟩:=pg.ok hx e1;refine ⟨hs _ _ _ _ _ h,kg _ _ _ ?_⟩;obtain ⟨A',h'⟩:=h.puts bd λp hp=>hl _ (pg.at' e1 p hp);have hi':∀ A τ ρ G n,RL l a z0 D G0 A τ ρ G n->Dqs (rs (AD D A) G) items ds:=λA τ ρ G n h=>by
    have:=hi _ _ _ _ _ h;cases this with
    |cons a b=>exact b
   refine pb.ok h' hw λo m hq=>?_;cases o with
   |nx ρ'=>exact λA2 τ2 G2 h2=>VU pg pb hl hs k ds items hi' _ _ _ _ _ h2 hq
   |ct ρ'=>exact λA2 τ2 G2 h2=>VU pg pb hl hs k ds items hi' _ _ _ _ _ h2 hq
   |bk ρ'=>exact k _ _ hq
   |rt d fr=>exact k _ _ hq
def RL.base {a:Addr} {z0:Option (Option T)×Nat} {D:Addr->Prop} {G0 Gb G:Gp} {A:Nat->Option Addr} {τ:St3} {ρ:Rho} {n:Nat} (h:RL l a z0 D Gb A τ ρ G n) (e:Ex G0 Gb) (hd:Dom D G0):RL l a z0 D G0 A τ ρ G n:=⟨h.r.base e hd,h.al,h.tl,h.ul,h.lf,h.tz⟩
def SN.base {a:Addr} {z0:Option (Option T)×Nat} {D:Addr->Prop} {G0 Gb:Gp} {e:Ends3} {o:Ot} {n:Nat} (h:SN l a z0 D G0 e o n) (x:Ex G0 Gb) (hd:Dom D G0):SN l a z0 D Gb e o n:=by
 cases o with
 |nx ρ=>exact λA τ G r=>h A τ G (r.base x hd)
 |bk ρ=>exact λA τ G r=>h A τ G (r.base x hd)
 |ct ρ=>exact λA τ G r=>h A τ G (r.base x hd)
 |rt d fr=>exact λy G p q r z=>h y G (x.trans p) q r λw=>(z w).back x
def qfM {wi:TI3} {g:TG3} {tb:TS3} (pi:PwI l wi) (pg:PuG g) (pb:PwS l tb) (m:List Bool) (hm:Tru (pi.fv.all (mkb m))) (hl:Tru (!mkb m l&&pg.tg.all (λi=>i != l&&i != 0))):PwS l (U8 wi g tb):=⟨λρ n Q=>pi.w ρ n λds n1=>KD pg.f pb.w ds (if pi.nm then ρ else dm m ρ) n1 Q,λh k=>pi.mono h λd m h=>YH pg pb h k,λ{a z0 D G0 A τ ρ G n e Q} h hw k=>by
 have hl':mkb m l=false/\∀ i∈pg.tg,i≠l/\i≠0:=by simpa using hl.h
 refine pi.ok (h.ln hl'.1 hm) hw λitems stay ds G1 n1 hq E1 L1 D1 hs hnm=>?_;cases hb:pi.nm with
 |true=>
  rw [hb,if_pos rfl] at hq;obtain ⟨ns,rfl⟩:=hnm hb;have:=D1.ints;subst this;exact VU pg pb hl'.2 (λ_ _ _ _ _ _=>hs _ (.inl hb)) k _ _ (λA τ ρ G _ _=>Dqs.ofInts _) _ _ _ _ _ (h.up E1 L1) hq
 |false=>
  rw [hb,if_neg Bool.false_ne_true] at hq;have h1:=(h.dem hl'.1).up E1 L1;have b1:Ex G0 (rs (λb=>∃ i,Ad m A i=some b) G1):=λb o e=>by
   rw [jj]
   ·exact h1.r.ex _ _ e
   ·rintro ⟨i,z⟩;rw [h1.r.fr i _ z] at e;cases e
  have h2:RL l a z0 D (rs (λb=>∃ i,Ad m A i=some b) G1) (Ad m A) τ (dm m ρ) G1 n1:=⟨⟨ZY,h.r.dm.up b1,λi p z=>by unfold rs;exact zr ⟨i,z⟩,h1.r.da,h1.r.inj,h1.r.len,h1.r.sh,h1.r.ow,h1.r.dc⟩,h1.al,h1.tl,h1.ul,h1.lf,h1.tz⟩
  have X:∀ A2 τ2 ρ2 G2,RS D (rs (λb=>∃ i,Ad m A i=some b) G1) A2 τ2 ρ2 G2->Ex (rs (AD D (Ad m A)) G1) (rs (AD D A2) G2):=λA2 τ2 ρ2 G2 r b o e=>by
   obtain ⟨n1,e⟩:=qP e;have eb:rs (λb=>∃ i,Ad m A i=some b) G1 b=some o:=by rw [jj (λz=>n1 (.inr z))];exact e
   rw [jj]
   ·exact r.ex _ _ eb
   ·rintro (z|⟨i,z⟩)
    ·exact n1 (.inl z)
    ·rw [r.fr i _ z] at eb;cases eb
  exact VU pg pb hl'.2 (λA2 τ2 ρ2 G2 n2 r=>hs _ (.inr ((X _ _ _ _ r.r).trans ZY))) (λo m hq=>(k o m hq).base b1 h.r.dm) _ _ (λA2 τ2 ρ2 G2 n2 r=>D1.up (X _ _ _ _ r.r)) _ _ _ _ _ h2 hq⟩
end
def DSp (W:List PyData->Nat->QD->Prop) (fr:Bool):Sp3:=λts G q=>∃ (D:Addr->Prop) (a:Addr) (n:Nat) (ts':List T) (ds:List PyData) (Q:QD),ts=.ref a::ts'/\Lf G a n/\D a/\Dom D G/\Dqs (rs D G) ts' ds/\W ds n Q/\∀ x d G' n',Q d n'->Ext a G G'->Lf G' a n'->Dq (rs D G') x d->(fr=true->Nw D G G' x d)->q x G'
structure Wm where
 W:List PyData->Nat->QD->Prop
 mono:∀ {ds n} {Q Q':QD},W ds n Q->(∀ d m,Q d m->Q' d m)->W ds n Q'
def dSp (w:Wm) (fr:Bool):DrD (DSp w.W fr):=⟨w.W,fr,w.mono,λ{D G a n ts ds q Q} lf da hd hs hw k=>⟨D,a,n,ts,ds,Q,rfl,lf,da,hd,hs,hw,k⟩⟩
def qe5 (fr:Bool) (Q:QD):QO:=λo n=>match o with
 |.rt d b=>(fr=true->b=true)/\∃ m,n<=m/\Q d m
 |.nx _=>fr=false/\∃ m,n<=m/\Q .none m
 |_=>False
def qfk {t:TS3} (b:PwS 0 t) (k N:Nat) (fr:Bool):Wm:=⟨λds n Q=>ds.length+1=k/\b.w (.un::(ds.map Sl.sh++List.replicate (N-(ds.length+1)) .un)) n (qe5 fr Q),λ⟨h1,h2⟩ k=>⟨h1,b.mono h2 λo m h=>by
 cases o with
 |rt d f=>obtain ⟨h1,m,h2,h3⟩:=h;exact ⟨h1,m,h2,k _ _ h3⟩
 |nx ρ=>obtain ⟨h1,m,h2,h3⟩:=h;exact ⟨h1,m,h2,k _ _ h3⟩
 |bk ρ=>exact h
 |ct ρ=>exact h⟩⟩
def qar {t:TS3} (b:PwS 0 t) (N:List Str) (k:Nat) (fr:Bool):∀ ts G q,DSp (qfk b k N.length fr).W fr ts G q->ts.length=k/\t { nx:=λ_ G'=>q .non G',rt:=q } (qk N ts) G:=by
 rintro ts G q ⟨D,a,n,ts',ds,Q,rfl,lf,da,hd,hs,⟨hk,hw⟩,h⟩;refine ⟨by simp [hs.length];omega,?_⟩;have DD:∀ b,(D b/\b≠a)\/b=a↔D b:=λb=>by
  by_cases e:b=a
  ·subst e;simp [da]
  ·simp [e]
 have rr:∀ H,rs (λb=>(D b/\b≠a)\/b=a) H=rs D H:=λH=>by
  have:(λb=>(D b/\b≠a)\/b=a)=D:=funext λb=>propext (DD b);rw [this]
 have ad:AD (λb=>D b/\b≠a) (λi=>if i=0 then some a else none)=D:=funext λb=>propext ⟨(λz=>by
   rcases z with z|⟨i,z⟩
   ·exact z.1
   ·simp only at z;split at z
    ·cases z;exact da
    ·cases z),(λz=>by
   by_cases e:b=a
   ·subst e;exact .inr ⟨0,rfl⟩
   ·exact .inl ⟨z,e⟩)⟩
 have ga:G a≠none:=YI lf;have r:RL 0 a (some (some (.ref a)),(qk N (.ref a::ts')).length) (λb=>D b/\b≠a) (rs (λb=>b=a) G) (λi=>if i=0 then some a else none) (qk N (.ref a::ts')) (.un::(ds.map Sl.sh++List.replicate (N.length-(ds.length+1)) .un)) G n:=by
  refine ⟨⟨ZY,λb hb=>by rw [jj (D:=λb=>b=a) hb.2];exact hd b hb.1,λi p e=>?_,λi p e=>?_,λi j p e e'=>?_,by simp [qk,hs.length],λi d' e=>?_,λi es e=>?_,λi es e=>?_⟩,rfl,by simp [qk],rfl,lf,⟨by simp [qk],rfl⟩⟩
  ·split at e
   ·cases e;unfold rs;exact zr rfl
   ·cases e
  ·split at e
   ·cases e;exact ga
   ·cases e
  ·split at e
   ·split at e'
    ·rename_i h1 h2;rw [h1,h2]
    ·cases e'
   ·cases e
  ·rw [ad];cases i with
   |zero=>cases e
   |succ i=>
    rw [getElem?_cons_succ] at e;by_cases hi:i<ds.length
    ·rw [List.getElem?_append_left (by simpa using hi),getElem?_map] at e;obtain ⟨d2,e3,e4⟩:=Option.map_eq_some_iff.mp e;cases e4;obtain ⟨x,e5,hx⟩:=hs.get e3;refine ⟨x,?_,hx⟩;unfold qk;rw [List.getElem?_append_left (by simp [hs.length];exact hi),getElem?_map,getElem?_cons_succ,e5];rfl
    ·rw [List.getElem?_append_right (by simpa using hi),List.getElem?_replicate] at e;split at e<;>cases e
  ·cases i with
   |zero=>cases e
   |succ i=>
    rw [getElem?_cons_succ] at e;by_cases hi:i<ds.length
    ·rw [List.getElem?_append_left (by simpa using hi),getElem?_map] at e;obtain ⟨d2,e3,e4⟩:=Option.map_eq_some_iff.mp e;cases e4
    ·rw [List.getElem?_append_right (by simpa using hi),List.getElem?_replicate] at e;split at e<;>cases e
  ·cases i with
   |zero=>cases e
   |succ i=>
    rw [getElem?_cons_succ] at e;by_cases hi:i<ds.length
    ·rw [List.getElem?_append_left (by simpa using hi),getElem?_map] at e;obtain ⟨d2,e3,e4⟩:=Option.map_eq_some_iff.mp e;cases e4
    ·rw [List.getElem?_append_right (by simpa using hi),List.getElem?_replicate] at e;split at e<;>cases e
 have xe:∀ {G'},Ex (rs (λb=>b=a) G) G'->Ext a G G':=λe b o n x=>e b o (by rw [jj (D:=λb=>b=a) n];exact x);refine b.ok r hw λo m hq=>?_;cases o with
 |rt d f=>
  intro x G' E L Dx0 N;have Dx:=Dx0;rw [rr] at Dx;obtain ⟨hq1,m2,hm,hq2⟩:=hq;refine h x d G' m2 hq2 (xe E) (L.mono (by omega)) Dx λz=>?_;rcases N (hq1 z) with h2|⟨p,xs,ds',h1,h2,c,g,f'⟩
  ·exact .inl h2
  have np:p≠a:=by
   rintro rfl;rw [h1] at Dx0;cases Dx0 with
   |lst g0 _=>exact (qP g0).1 (.inr rfl)
  refine .inr ⟨p,xs,ds',h1,h2,by rw [jj (D:=λb=>b=a) np] at c;exact c,g,f'.up (zw λb z=>?_)⟩;rcases z with z|z
  ·exact .inl ((DD b).mpr z)
  ·exact .inr z
 |nx ρ=>
  obtain ⟨hq1,m2,hm,hq2⟩:=hq;exact λA τ G' r'=>h .non .none G' m2 hq2 (xe r'.r.ex) (r'.lf.mono (by omega)) .non λz=>by rw [hq1] at z;cases z
 |bk ρ=>exact hq.elim
 |ct ρ=>exact hq.elim
end Pu
namespace Pu
open PySem L2 L3
open Bk (Lf Ext Dl Dr)
def qea (K:Int):TE3:=o3 zN (c3 (.int 1)) (cb3 SU (qb (c3 (.int K)) (qb (cb3 XQ (qb (v3 0) qh)) qh)))
def qaX {i:Nat} {τ:St3} {t:T} {G:Gp} {q:Q3} (h:τ[i]?=some (some t)):v3 i τ G q=q t G:=by unfold v3;rw [h]
def MZ {G:Gp} {ts:List T} (h:Dqs G ts []):ts=[]:=by cases h;rfl
def qe4 {G:Gp} {ts:List T} {i:Int} (h:Dqs G ts [.int i]):ts=[.int i]:=by
 cases h with
 |cons a b=>cases b;cases a;rfl
def lfc {G:Gp} {a:Addr} {n c:Nat} (h:Lf G a ((n:Int)+(c:Int))):Lf G a ((n+c:Nat):Int):=by rw [Int.natCast_add];exact h
def SQ:DrD Bk.qx:=⟨λds n Q=>∃ m:Int,ds=[.int m]/\(1<=m/\m<1073741824)/\n<1000000000/\∀ d:Int,0<=d->d<m->Q (.int d) (n+1),false,
 λ⟨m,h1,h2,h3,h4⟩ k=>⟨m,h1,h2,h3,λd x y=>k _ _ (h4 d x y)⟩,λ{D G a n ts ds q Q} lf da hd hs ⟨m,h1,h2,h3,h4⟩ k=>by
 subst h1;have:=qe4 hs;subst this;exact ⟨a,n,m,rfl,h2.1,h2.2,lf,by omega,λd G' x y L E=>k _ _ G' (n+1) (h4 d x y) E (lfc (c:=1) L) (.int d) (λz=>by cases z)⟩⟩
def V1:DrD Bk.zO:=⟨λds n Q=>ds=[]/\n<100000/\∀ d:Dl,Dr d 16 16 32->d.dep<=2->Q (Pv.dlD d) (n+1000),false,
 λ⟨h1,h3,h4⟩ k=>⟨h1,h3,λd x y=>k _ _ (h4 d x y)⟩,λ{D G a n ts ds q Q} lf da hd hs ⟨h1,h3,h4⟩ k=>by
 subst h1;have:=MZ hs;subst this;exact ⟨a,n,rfl,lf,by omega,λd G' a1 a2 L E=>k _ _ G' (n+1000) (h4 d a1 a2) E (lfc (c:=1000) L) (Pv.MX _ _) (λz=>by cases z)⟩⟩
def qa2 {l:Nat} {t:TE3} {b:PuE t}:(eOf (l:=l) b).w=λρ n Q=>∃ d,b.f ρ=some d/\Q d n:=id rfl
def qcx {l:Nat} {t:TT3} {b:PuC t}:(cOf (l:=l) b).w=λρ n Q=>∃ d,b.f ρ=some d/\Q d n:=id rfl
def qbo {l:Nat} {t:TA3} {b:PuA t}:(aOf (l:=l) b).w=λρ n Q=>∃ d,b.f ρ=some d/\Q d n:=id rfl
def qcO {l:Nat} {t:TI3} {b:PuI t}:(iOf (l:=l) b).w=λρ n Q=>∃ d,b.f ρ=some d/\Q d n:=id rfl
def qfs {l:Nat} {r:R3} {ta tb:TE3} {R:OpD r} {a:PwE l ta} {b:PwE l tb}:(eO R a b).w=λρ n Q=>a.w ρ n λx n1=>b.w ρ n1 λy n2=>∃ v,R.f x y=some v/\Q v n2:=id rfl
def qb5 {l:Nat} {r:List T->Gp->Q3->Prop} {t:TA3} {R:DrD r} {b:PwA l t}:(eDr R b).w=λρ n Q=>b.w ρ n λxs n1=>R.W xs n1 Q:=id rfl
def qdh {l:Nat} {t:TE3} {b:PwE l t}:(cTb b).w=λρ n Q=>b.w ρ n λd n1=>∃ k,asB d=some k/\Q k n1:=id rfl
def LH {l:Nat} {t:TI3} {b:PuI t}:(iOf (l:=l) b).nm=b.nm:=id rfl
def MW {l:Nat} {t:TE3} {b:PuE t}:(eOf (l:=l) b).nw=b.nw:=id rfl
def LM {l:Nat} {r:List T->Gp->Q3->Prop} {t:TA3} {R:DrD r} {b:PwA l t}:(eDr R b).nw=R.nw:=id rfl
def qbW {l:Nat} {wi:TI3} {g:TG3} {tif:TT3} {te:TE3} {l2:Nat} {pi:PwI l wi} {pg:PuG g} {pc:PwC l2 tif} {pe:PwE l2 te} {m:List (Option Nat)} {hm:Tru (pg.tg.all λi=>m[i]?==some none)} {hl:Tru (m[l2]?==some (some l))}:(eLc l2 pi pg pc pe m hm hl).w=λρ n Q=>pi.w ρ n λds n1=>ds.length<=16777216/\lcW pg.f pc.w pe.w (UW m ρ) ds n1 λfs n2=>fs.length<=16777216/\Q (.list fs) n2:=id rfl
def SO {l:Nat}:(RG (l:=l)).w=λρ n Q=>Q (.nx ρ) n:=id rfl
def K9 {l:Nat} {t u:TS3} {x:PwS l t} {y:PwS l u}:(XV x y).w=λρ n Q=>x.w ρ n (sqw y.w Q):=id rfl
def WH {b:Rho->Nat->QO->Prop} {Q:QO} {ρ:Rho} {n:Nat}:sqw b Q (.nx ρ) n=b ρ n Q:=id rfl
def LW {b:Rho->Nat->QO->Prop} {Q:QO} {d:PyData} {f:Bool} {n:Nat}:sqw b Q (.rt d f) n=Q (.rt d f) n:=id rfl
def qbs {l:Nat} {c:TT3} {t u:TS3} {pc:PwC l c} {x:PwS l t} {y:PwS l u}:(wIf pc x y).w=λρ n Q=>pc.w ρ n λk n1=>if k then x.w ρ n1 Q else y.w ρ n1 Q:=id rfl
def MV {l:Nat} {t:TE3} {x:PwE l t}:(qaF x).w=λρ n Q=>x.w ρ n λd n1=>Q (.rt d x.nw) n1:=id rfl
def L0 {l:Nat} {t:TE3} {x:PwE l t} {i:Nat} {m:List Bool} {hm:Tru (x.fv.all (mkb m))} {hl:Tru (!mkb m l&&(i != l&&i != 0))}:(qb6 x i m hm hl).w=λρ n Q=>x.w ρ n λd n1=>Q (.nx (XU m x.nw i d ρ)) n1:=id rfl
def LQ {l:Nat} {t:TA3} {x:PwA l t} {i j:Nat} {m:List Bool} {hm:Tru (x.fv.all (mkb m))} {hl:Tru (!mkb m l&&((i != l&&i != 0)&&(j != l&&j != 0)))}:(qfF x i j m hm hl).w=λρ n Q=>x.w ρ n λds n1=>∃ o,qab i j m ds ρ=some o/\Q o n1:=id rfl
def KZ {l:Nat} {t:TE3} {x:PwE l t} {i:Nat} {m:List Bool} {hm:Tru (x.fv.all (mkb m))} {hl:Tru (!mkb m l)}:(qfn x i m hm hl).w=λρ n Q=>∃ ds,slot ρ i=some ds/\x.w ρ n λd n1=>slot (dmS m d ρ) i=some ds/\ds.length<16777216/\Q (.nx ((dmS m d ρ).set i (.ow (ds++[d])))) n1:=id rfl
def MC {l:Nat} {wi:TI3} {g:TG3} {tb:TS3} {pi:PwI l wi} {pg:PuG g} {pb:PwS l tb} {m:List Bool} {hm:Tru (pi.fv.all (mkb m))} {hl:Tru (!mkb m l&&pg.tg.all (λi=>i != l&&i != 0))}:(qfM pi pg pb m hm hl).w=λρ n Q=>pi.w ρ n λds n1=>KD pg.f pb.w ds (if pi.nm then ρ else dm m ρ) n1 Q:=id rfl
def CP {ds:List PyData} {n:Nat} {Q:QD}:SQ.W ds n Q=(∃ m:Int,ds=[.int m]/\(1<=m/\m<1073741824)/\n<1000000000/\∀ d:Int,0<=d->d<m->Q (.int d) (n+1)):=id rfl
def VM {ds:List PyData} {n:Nat} {Q:QD}:V1.W ds n Q=(ds=[]/\n<100000/\∀ d:Dl,Dr d 16 16 32->d.dep<=2->Q (Pv.dlD d) (n+1000)):=id rfl
def WI:SQ.nw=false:=id rfl
def JZ:V1.nw=false:=id rfl
def qcQ {w:Wm} {fr:Bool}:(dSp w fr).W=w.W:=id rfl
def MP {w:Wm} {fr:Bool}:(dSp w fr).nw=fr:=id rfl
def CB {Q:QD} {d:PyData} {b:Bool} {n:Nat}:qe5 false Q (.rt d b) n=∃ m,n<=m/\Q d m:=propext ⟨λh=>h.2,λh=>⟨λz=>(Bool.false_ne_true z).elim,h⟩⟩
def qcG {α:Type} {v:α} {P:α->Prop}:(∃ d,some v=some d/\P d)=P v:=propext ⟨λ⟨d,h1,h2⟩=>by cases h1;exact h2,λh=>⟨v,rfl,h⟩⟩
def LC {v:Int} {P:Int->Prop}:(∃ m:Int,[PyData.int v]=[.int m]/\P m)=P v:=propext ⟨λ⟨d,h1,h2⟩=>by cases h1;exact h2,λh=>⟨v,rfl,h⟩⟩
def LU {m:List Bool} {nw:Bool} {i:Nat} {d:Dl} {ρ:Rho}:XU m nw i (Pv.dlD d) ρ=(dm m ρ).set i (.sh (Pv.dlD d)):=by cases d<;>exact NN
def VS {l:Nat} {t u:TS3} {x:PwS l t} {y:PwS l u} {ρ:Rho} {n:Nat} {Q:QO} (h:∀ Y:Rho->Nat->QO->Prop,Y=y.w->x.w ρ n (sqw Y Q)):(XV x y).w ρ n Q:=h _ rfl
structure Mn (bw:Rho->Nat->QO->Prop):Prop where
 h:∀ ρ n (Q Q':QO),bw ρ n Q->(∀ o m,Q o m->Q' o m)->bw ρ n Q'
def PwS.mn {l:Nat} {t:TS3} (b:PwS l t):Mn b.w:=⟨λ_ _ _ _ h k=>b.mono h k⟩
structure MnE (bw:Rho->Nat->QD->Prop):Prop where
 h:∀ ρ n (Q Q':QD),bw ρ n Q->(∀ o m,Q o m->Q' o m)->bw ρ n Q'
def PwE.mn {l:Nat} {t:TE3} (b:PwE l t):MnE b.w:=⟨λ_ _ _ _ h k=>b.mono h k⟩
structure MnC (bw:Rho->Nat->(Bool->Nat->Prop)->Prop):Prop where
 h:∀ ρ n (Q Q':Bool->Nat->Prop),bw ρ n Q->(∀ o m,Q o m->Q' o m)->bw ρ n Q'
def mnT:MnC (λρ n Q=>Q true n):=⟨λ_ _ _ _ h k=>k _ _ h⟩
section
variable {l:Nat} {g:TG3} {tb:TS3}
def KJ {gf:PyData->Option (List (Nat×PyData))} {bw:Rho->Nat->QO->Prop} {α:Type} {f:α->PyData} (xs:List α) (mono:Mn bw) (I:Nat->Rho->Nat->Prop) {ρ:Rho} {n:Nat} {Q:QO} (h0:I 0 ρ n)
  (hs:∀ i x ρ n,xs[i]?=some x->I i ρ n->∃ bs,gf (f x)=some bs/\bw (Q0 ρ bs) n λo m=>match o with|.nx ρ'=>I (i+1) ρ' m|.ct ρ'=>I (i+1) ρ' m|.bk ρ'=>Q (.nx ρ') m|.rt d b=>Q (.rt d b) m)
  (k:∀ ρ n,I xs.length ρ n->Q (.nx ρ) n):KD gf bw (xs.map f) ρ n Q:=by
 have key:∀ (r:List α) (i:Nat) (ρ:Rho) (n:Nat),xs.drop i=r->i<=xs.length->I i ρ n->KD gf bw (r.map f) ρ n Q:=by
  intro r;induction r with
  |nil=>
   intro i ρ n e hi h;have:i=xs.length:=by
    have:=congrArg List.length e;simp at this;omega
   subst this;exact k ρ n h
  |cons x r ih=>
   intro i ρ n e hi h;have hl:i<xs.length:=by
    have:=congrArg List.length e;simp at this;omega
   have e':=List.drop_eq_getElem_cons hl;rw [e] at e';injection e' with e1 e2;obtain ⟨bs,h1,h2⟩:=hs i x ρ n (by rw [getElem?_eq_getElem hl,e1]) h;refine ⟨bs,h1,mono.h _ _ _ _ h2 λo m h=>?_⟩;cases o with
   |nx ρ'=>exact ih (i+1) ρ' m e2.symm hl h
   |ct ρ'=>exact ih (i+1) ρ' m e2.symm hl h
   |bk ρ'=>exact h
   |rt d b=>exact h
 exact key xs 0 ρ n (by simp) (Nat.zero_le _) h0
def XY {gf:PyData->Option (List (Nat×PyData))} {cw:Rho->Nat->(Bool->Nat->Prop)->Prop} {ew:Rho->Nat->QD->Prop} {α β:Type} {f:α->PyData} {gd:β->PyData} {ρ:Rho} (R:β->Prop) (c:Nat) (N:Nat):∀ (xs:List α) (n:Nat) (Q:List PyData->Nat->Prop),
  (∀ x∈xs,∀ n Q,n+c<=N->(∀ b,R b->Q (gd b) (n+c))->∃ bs,gf (f x)=some bs/\cw (Q0 ρ bs) n λk n1=>if k then ew (Q0 ρ bs) n1 Q else False) ->
  MnE ew->MnC cw->n+c*xs.length<=N->(∀ bs:List β,bs.length=xs.length->(∀ b∈bs,R b)->Q (bs.map gd) (n+c*xs.length))->lcW gf cw ew ρ (xs.map f) n Q
 |[],n,Q,_,_,_,_,h=>h [] rfl (by simp)
 |x::xs,n,Q,hx,me,mc,hn,h=>by
  have hc:c*(xs.length+1)=c*xs.length+c:=by rw [Nat.mul_succ]
  simp only [length_cons] at hn h;obtain ⟨bs,h1,h2⟩:=hx x (by simp) n (λy n2=>lcW gf cw ew ρ (xs.map f) n2 λys n3=>Q (y::ys) n3) (by omega) λb hb=>by
   refine XY R c N xs (n+c) _ (λz hz=>hx z (by simp [hz])) me mc (by omega) λcs hl hr=>?_;have:=h (b::cs) (by simp [hl]) (by intro z hz;rcases mem_cons.mp hz with rfl|hz;exact hb;exact hr z hz);rw [show n+c*(xs.length+1)=n+c+c*xs.length by omega] at this;exact this
  refine ⟨bs,h1,mc.h _ _ _ _ h2 λk m hk=>?_⟩;cases k with
  |true=>exact hk
  |false=>exact hk.elim
end
def RQ {α β:Type} {x:α} {f:α->Option β}:(some x).bind f=f x:=id rfl
def MO {α β:Type} {x:α} {f:α->β}:(some x).map f=some (f x):=id rfl
def qbC {α:Type} {x:α} {r:List α}:(x::r).length=r.length+1:=id rfl
def qcU {α:Type}:([]:List α).length=0:=id rfl
def qc8 {α:Type} {x y:α} {r:List α}:(x::r).set 0 y=y::r:=id rfl
def qbI {α:Type} {x y:α} {r:List α} {i:Nat}:(x::r).set (i+1) y=x::r.set i y:=id rfl
def qcV {α:Type} {r:List α}:r++[]=r:=List.append_nil r
def qdi {α:Type} {x:α} {r s:List α}:(x::r)++s=x::(r++s):=id rfl
def qdd {α:Type} {s:List α}:[]++s=s:=id rfl
def qde {n:Nat}:0+n=n:=Nat.zero_add n
def qbk {p:Prop}:(True/\p)=p:=true_and p
def qc4 {α:Type} {a b:α} {i:Decidable True}:@ite α True i a b=a:=if_pos trivial
def qbV {α:Type} {a b:α} {i:Decidable False}:@ite α False i a b=b:=if_neg not_false
def qc6:(false=true)=False:=Bool.false_eq_true
def qcP:(!true)=false:=id rfl
def qcl:(!false)=true:=id rfl
def qcv {i:Decidable True}:@decide True i=true:=decide_true i
def qcd {i:Decidable False}:@decide False i=false:=decide_false i
def ai{a b:Prop}(x:a)(y:b):a/\b:=⟨x,y⟩
def pwA:=(ai (ai (ai (ai (ai (ai (ai @Pu.qa2 @Pu.qcx) (ai @Pu.qbo @Pu.qcO)) (ai (ai @Pu.qfs @Pu.qb5) (ai @Pu.qdh (ai @Pu.LH @Pu.MW)))) (ai (ai (ai @Pu.LM @Pu.qbW) (ai @Pu.SO @Pu.K9)) (ai (ai @Pu.WH @Pu.LW) (ai @Pu.qbs (ai @Pu.MV @Pu.L0))))) (ai (ai (ai (ai @Pu.LQ @Pu.KZ) (ai @Pu.MC @Pu.CP)) (ai (ai @Pu.VM @Pu.WI) (ai @Pu.JZ (ai @Pu.qcQ @Pu.MP)))) (ai (ai (ai @Pu.CB @Pu.LC) (ai @Pu.LU @Pu.qa3)) (ai (ai @Pu.qfV @Pu.KW) (ai @Pu.qbd (ai @Pu.LL @Pu.qfh)))))) (ai (ai (ai (ai (ai @Pu.K7 @Pu.CC) (ai @Pu.L9 @Pu.LK)) (ai (ai @Pu.CQ @Pu.qbm) (ai @Pu.MH (ai @Pu.qda @Pu.MB)))) (ai (ai (ai @Pu.qdb @Pu.qcA) (ai @Pu.ML @Pu.qcW)) (ai (ai @Pu.qdj @Pu.qbK) (ai @Pu.MS (ai @Pu.RA @Pu.qbc))))) (ai (ai (ai (ai @Pu.LS @Pu.MD) (ai @Pu.KT @Pu.KY)) (ai (ai @Pu.RF @Pu.SH) (ai @Pu.WA (ai @Pu.CF @Pu.qfC)))) (ai (ai (ai @Pu.LV @Pu.CN) (ai @Pu.K0 (ai @Pu.RV @Pu.MT))) (ai (ai @Pu.qba @Pu.MA) (ai @Pu.RX (ai @Pu.LY @Pu.LO))))))) (ai (ai (ai (ai (ai (ai @Pu.K1 @Pu.MK) (ai @Pu.qaV @Pu.SM)) (ai (ai @Pu.R4 @Pu.DO) (ai @Pu.WO (ai @Pu.R6 @Pu.qfr)))) (ai (ai (ai @Pu.qfQ @Pu.qdm) (ai @Pu.qaI @Pu.qds)) (ai (ai @Pu.CH @Pu.K6) (ai @Pu.XW (ai @Pu.X0 @Pu.K5))))) (ai (ai (ai (ai @Pu.qc2 @Pu.qb9) (ai @Pu.at0 @Pu.at1)) (ai (ai @Pu.at2 @Pu.at3) (ai @Pu.eqS (ai @Pu.eqI @Pu.MG)))) (ai (ai (ai @Pu.KU @Pu.LP) (ai @Pu.KP @Pu.qa1)) (ai (ai @Pu.qa5 @Pu.ME) (ai @Pu.MF (ai @Pu.LA @Pu.qb3)))))) (ai (ai (ai (ai (ai @Pu.qbJ @Pu.qaJ) (ai @Pu.NN @Pu.LR)) (ai (ai @Pu.K2 @Pu.qcJ) (ai @Pu.qfy (ai @Pu.qfO @Pu.qfx)))) (ai (ai (ai @Pu.qbw @Pu.qcN) (ai @Pu.qc7 @Pu.qbx)) (ai (ai @Pu.qaR @Pu.qft) (ai @Pu.LJ (ai @Pu.KQ @Pu.KO))))) (ai (ai (ai (ai @Pu.qcG @Pu.RQ) (ai @Pu.MO @Pu.qbC)) (ai (ai @Pu.qcU @Pu.qc8) (ai @Pu.qbI (ai @Pu.qcV @Pu.qdi)))) (ai (ai (ai @Pu.qdd @Pu.qde) (ai @Pu.qbk (ai @Pu.qc4 @Pu.qbV))) (ai (ai @Pu.qc6 @Pu.qcP) (ai @Pu.qcl (ai @Pu.qcv @Pu.qcd))))))))
end Pu
namespace Bk
open PySem L2 L3
end Bk
namespace Pu
open PySem L2 L3
open Bk (Lf Ext Dl Dr)
def the (S:PyData->Prop):Option PyData:=@dite _ (∃ v,S v) (Classical.propDecidable _) (λh=>some (Classical.choose h)) λ_=>none
end Pu
namespace Pu
open PySem L2 L3
open Bk (Lf Ext Dl Dr SD SDs z8 qw QX jr YV V4 VW)
def N6:∀ d:Dl,d.Ok->SD (d.dep+4) (8000*4 ^ d.dep) (Pv.dlD d)
 |.skew r c b x y,ok=>by
  simp only [Dl.Ok] at ok;refine (z8 (k:=2) (n:=20) ?_).mono (by simp [Dl.dep]) (by simp [Dl.dep]);refine qw (YV (n:=4) 2 (by decide) (by decide)) (m:=15) (qw (n:=0) (m:=12) (jr _ _ (by omega)) (qw (n:=0) (m:=9) (jr _ _ (by omega)) (qw (n:=0) (m:=6) (jr _ _ (by omega)) (qw (n:=0) (m:=3) (jr _ _ (by omega)) (qw (n:=0) (m:=0) (jr _ _ (by omega)) (QX _ _) (by omega)) (by omega)) (by omega)) (by omega)) (by omega)) (by omega)
 |.rests r c b p,ok=>by
  simp only [Dl.Ok] at ok;refine (z8 (k:=2) (n:=20) ?_).mono (by simp [Dl.dep]) (by simp [Dl.dep]);refine qw (YV (n:=5) 2 (by decide) (by decide)) (m:=12) (qw (n:=0) (m:=9) (jr _ _ (by omega)) (qw (n:=0) (m:=6) (jr _ _ (by omega)) (qw (n:=0) (m:=3) (jr _ _ (by omega)) (qw (n:=0) (m:=0) (jr _ _ (by omega)) (QX _ _) (by omega)) (by omega)) (by omega)) (by omega)) (by omega)
 |.bits h l ms,ok=>by
  simp only [Dl.Ok] at ok;have p8:(2:Int) ^ (h+l)<=2 ^ 8:=by
   have:=Nat.pow_le_pow_right (n:=2) (by omega) (show h+l<=8 by omega);have e1:((2 ^ (h+l):Nat):Int)=2 ^ (h+l):=by simp
   have e2:((2 ^ 8:Nat):Int)=2 ^ 8:=by simp
   omega
  have e:(2:Int) ^ 8=256:=by decide
  refine (z8 (k:=2) (n:=30) ?_).mono (by simp [Dl.dep]) (by simp [Dl.dep]);refine qw (YV (n:=4) 2 (by decide) (by decide)) (m:=16) (qw (n:=0) (m:=12) (jr _ _ (by omega)) (qw (n:=0) (m:=8) (jr _ _ (by omega)) (qw (n:=ms.length) (m:=0) (z8 (k:=1) (V4 λm hm=>by have:=ok.2.2.2 m hm;omega)) (QX _ _) (by omega)) (by omega)) (by omega)) (by omega)
 |.table b cells,ok=>by
  obtain ⟨b1,b2,l1,l2,c,c1,c2,hc⟩:=ok;have rows:SDs 2 (cells.length*(60+1)) (cells.map Pv.J9):=by
   have:=VW (k:=2) (n:=60) (ds:=cells.map Pv.J9) (λd hd=>by
    obtain ⟨r,hr,rfl⟩:=mem_map.mp hd;have h:=hc r hr;exact (z8 (k:=1) (V4 λm hm=>by have:=h.2 m hm;omega)).mono (by omega) (by rw [h.1];exact c2))
   rwa [length_map] at this
  refine (z8 (k:=3) (n:=4000) ?_).mono (by simp [Dl.dep]) (by simp [Dl.dep]);refine qw (YV (n:=5) 3 (by decide) (by decide)) (m:=3900) (qw (n:=0) (m:=3800) (jr _ _ (by omega)) (qw (n:=cells.length*(60+1)) (m:=0) (z8 (k:=2) rows) (QX _ _) (by omega)) (by omega)) (by omega)
 |.joined d e,ok=>by
  simp only [Dl.Ok] at ok;have a:=N6 d ok.1;have b:=N6 e ok.2.1;have m1:4 ^ d.dep<=4 ^ max d.dep e.dep:=Nat.pow_le_pow_right (by omega) (Nat.le_max_left ..);have m2:4 ^ e.dep<=4 ^ max d.dep e.dep:=Nat.pow_le_pow_right (by omega) (Nat.le_max_right ..);have p0:1<=4 ^ max d.dep e.dep:=Nat.pow_pos (by omega);show SD (max d.dep e.dep+1+4) (8000*4 ^ (max d.dep e.dep+1)) (.tuple [.str "joined",Pv.dlD d,Pv.dlD e]);rw [Nat.pow_succ];generalize 4 ^ max d.dep e.dep=P at m1 m2 p0;generalize hM:max d.dep e.dep=M;have d1:d.dep<=M:=by rw [← hM];exact Nat.le_max_left ..
  have d2:e.dep<=M:=by rw [← hM];exact Nat.le_max_right ..
  refine z8 (k:=M+4) ?_;exact qw (n:=6) (m:=16000*P+10) (YV _ _ (by decide) (by decide)) (qw (n:=8000*P) (m:=8000*P+5) (a.mono (by omega) (by omega)) (qw (n:=8000*P) (m:=0) (b.mono (by omega) (by omega)) (QX _ _) (by omega)) (by omega)) (by omega)
end Pu
namespace Pu
open PySem L2 L3
def ET (st:Bool):List PyData->Option PyData
 |[.none]=>some (.str "None")
 |[.bool b]=>some (.str (if b=true then Str.ofString "True" else Str.ofString "False"))
 |[.int i]=>cif (i.natAbs.log2<1920) (some (.str (Str.ofString (toString i)))) none
 |[.str x]=>match st with
  |true=>some (.str x)
  |false=>cif ((reprText x).length<=sizeLine) (some (.str (reprText x))) none
 |[.list ds]=>cif (ShW (.list ds)) (some (.str (PyData.list ds).shown)) none
 |[.tuple ds]=>cif (ShW (.tuple ds)) (some (.str (PyData.tuple ds).shown)) none
 |_=>none
def jU {α:Type} {c:Prop} {x:α} {d:α} (h:cif c (some x) none=some d):c/\x=d:=by
 unfold cif at h;split at h
 ·rename_i z;exact ⟨z,Option.some.inj h⟩
 ·cases h
def ZM (st:Bool):FnD (JI st):=⟨ET st,false,λ{D G xs ds v q} hx hd hf k=>by
 cases hx with
 |nil=>cases hf
 |cons a b=>
  cases b with
  |cons b1 b2=>cases a<;>cases hf
  |nil=>
   have dp:=(a.up ZY).dp;have fin:∀ (x:Str) {w:PyData},w=v->w=.str x->q (.str x) G:=λx w e1 e2=>k _ _ Ex.refl (by rw [← e1,e2];exact .str _) (λz=>by cases z);cases a with
   |non=>exact fin _ (Option.some.inj hf) rfl
   |bl b=>exact fin _ (Option.some.inj hf) rfl
   |int i=>exact ⟨(jU hf).1,fin _ (jU hf).2 rfl⟩
   |str x=>
    cases st with
    |true=>exact fin _ (Option.some.inj hf) rfl
    |false=>exact ⟨(jU hf).1,fin _ (jU hf).2 rfl⟩
   |tup hs=>exact ⟨_,dp,(jU hf).1,fin _ (jU hf).2 rfl⟩
   |lst g hs=>exact ⟨_,dp,(jU hf).1,fin _ (jU hf).2 rfl⟩⟩
def ZU {st:Bool}:(ZM st).f=ET st:=id rfl
def qcq {st:Bool} {ds:List PyData} (h:ShW (.tuple ds)):ET st [.tuple ds]=some (.str (PyData.tuple ds).shown):=zr h
def log2_lt {n k:Nat} (h:n<2 ^ k) (hk:0<k):n.log2<k:=by
 rcases Nat.eq_zero_or_pos n with z|z
 ·subst z;simpa using hk
 ·exact (Nat.log2_lt (by omega)).mpr h
def KS {st:Bool} {i:Int} (h:-1000000000<=i/\i<=1000000000):ET st [.int i]=some (.str (Str.ofString (toString i))):=zr (Nat.lt_of_lt_of_le (log2_lt (k:=30) (by omega) (by decide)) (by decide))
def qcn {x:Str}:ET true [.str x]=some (.str x):=id rfl
def M4 {α:Type} (g:α->PyData) (xs:List α):∀ k,enD k (xs.map g)=(xs.zipIdx k).map λp=>PyData.tuple [.int (p.2:Int),g p.1]:=by
 induction xs with
 |nil=>intro k;rfl
 |cons x xs ih=>intro k;simp only [map_cons,enD,List.zipIdx_cons,ih (k+1)]
def W7 {α:Type} {xs:List α} {i n:Nat} {x:α} (h:(xs.zipIdx 0)[i]?=some (x,n)):xs[i]?=some x/\n=i/\i<xs.length:=by
 rw [List.getElem?_zipIdx] at h;obtain ⟨c,hc,e⟩:=Option.map_eq_some_iff.mp h;simp only [Nat.zero_add,Prod.mk.injEq] at e;obtain ⟨rfl,rfl⟩:=e;exact ⟨hc,rfl,(List.getElem?_eq_some_iff.mp hc).1⟩
def qcz {ds:List PyData} {r:Int} (h0:0<=r) (h1:r<(ds.length:Int)):∃ v∈ds,L2.atI ds r=some v:=by
 obtain ⟨j,rfl⟩:=Int.eq_ofNat_of_zero_le h0;have hj:j<ds.length:=by omega
 exact ⟨ds[j],List.getElem_mem hj,by rw [atN hj,getElem?_eq_getElem hj]⟩
open Bk (Lf Ext)
end Pu
namespace Pu
open PySem L2 L3
section
variable {D:Addr->Prop} {G0 G G':Gp} {A A':Nat->Option Addr} {τ:St3} {ρ:Rho}
end
def EI:List PyData->Option (List Str)
 |[]=>some []
 |.str i::r=>(EI r).map (i::·)
 |_=>none
def RU (ns:List Str):EI (ns.map PyData.str)=some ns:=by
 induction ns with
 |nil=>rfl
 |cons n r ih=>simp [EI,ih]
def D9:∀ {xs:List PyData} {ns:List Str},EI xs=some ns->xs=ns.map PyData.str
 |[],_,h=>by simp [EI] at h;subst h;rfl
 |x::r,ns,h=>by
  unfold EI at h;split at h
  ·cases h;assumption
  ·rename_i a b c;obtain ⟨ms,e,rfl⟩:=Option.map_eq_some_iff.mp h;cases c;rw [map_cons,← D9 e]
  ·cases h
def D5 {G:Gp}:∀ {ys:List Str} {xs:List T},Dqs G xs (ys.map PyData.str)->xs=ys.map T.str
 |[],_,h=>by cases h;rfl
 |y::ys,_,h=>by
  cases h with
  |cons a b=>cases a;rw [D5 b];rfl
def W1 (d:PyData) (es:List PyData):Option PyData:=match d,es with
 |.str sep,[.list ds]=>(EI ds).bind λys=>cif (EO sep ys) (some (.str (Txt.join sep ys))) none
 |_,_=>none
def C6 {te:TE3} {t:TA3} (b:PuE te) (a:PuA t):PuE (M8 V5 te t):=⟨λρ=>(b.f ρ).bind λd=>(a.f ρ).bind λes=>W1 d es,b.fv++a.fv,false,λhv hd hf k=>by
 obtain ⟨d,e1,hf⟩:=obb hf;obtain ⟨es,e2,hf⟩:=obb hf;unfold W1 at hf;split at hf
 ·obtain ⟨ys,e3,hf⟩:=obb hf;unfold cif at hf;split at hf
  ·rename_i hk;cases hf;have:=D9 e3;subst this;refine b.ok hv.l hd e1 λx G1 E1 D1 _=>?_;cases D1;refine ⟨trivial,a.ok (hv.r.up E1) (hd.up E1) e2 λzs G2 E2 D2=>?_⟩;cases D2 with
   |cons y1 y2=>
    cases y2;cases y1 with
    |lst g hs=>
     have:=D5 hs;subst this;simp only [V5,jc (qP g).2,RB];exact ⟨hk,k _ _ (E1.trans E2) (.str _) (λz=>by cases z)⟩
  ·cases hf
 ·cases hf⟩
def DE {te:TE3} {t:TA3} {b:PuE te} {a:PuA t}:(C6 b a).f=λρ=>(b.f ρ).bind λd=>(a.f ρ).bind λes=>W1 d es:=id rfl
def S6 {te:TE3} {t:TA3} {b:PuE te} {a:PuA t}:(C6 b a).nw=false:=id rfl
def EG {sep:Str} {ys:List Str} (h:EO sep ys):W1 (.str sep) [.list (ys.map PyData.str)]=some (.str (Txt.join sep ys)):=by
 simp only [W1,RU,Option.bind_some];exact zr h
def JG:List Str->Str
 |[]=>Str.empty
 |x::r=>x++JG r
structure PuF (ps:List (Str ⊕ TE3)) where
 f:Rho->Option (List Str)
 fv:List Nat
 ok:∀ {D τ ρ G} {q:Q3} {xs:List Str} (acc:Str),YN fv D G τ ρ->Dom D G->f ρ=some xs->(acc++JG xs).length<=sizeLine->(∀ G',Ex G G'->q (.str (acc++JG xs)) G')->fs3 ps acc τ G q
def NZ:PuF []:=⟨λ_=>some [],[],λacc _ _ hf hl k=>by
 cases hf;unfold JG at hl k;rw [Str.append_empty] at hl k;exact ⟨hl,k _ Ex.refl⟩⟩
def XM {ps:List (Str ⊕ TE3)} (x:Str) (r:PuF ps):PuF (.inl x::ps):=⟨λρ=>(r.f ρ).map (x::·),r.fv,λacc hv hd hf hl k=>by
 obtain ⟨xs,e,rfl⟩:=Option.map_eq_some_iff.mp hf;unfold JG at hl k;rw [← Str.append_assoc] at hl k;refine ⟨by rw [Str.length_append] at hl;omega,r.ok (acc++x) hv hd e hl k⟩⟩
def qcm:PyData->Option Str
 |.str y=>some y
 |.int i=>cif (i.natAbs.log2<1920) (some (Str.ofString (toString i))) none
 |_=>none
def RJ {te:TE3} {ps:List (Str ⊕ TE3)} (a:PuE te) (r:PuF ps):PuF (.inr te::ps):=⟨λρ=>(a.f ρ).bind λd=>(qcm d).bind λy=>(r.f ρ).map (y::·),a.fv++r.fv,λ{D τ ρ G q xs} acc hv hd hf hl k=>by
 obtain ⟨d,e1,hf⟩:=obb hf;obtain ⟨y,e2,hf⟩:=obb hf;obtain ⟨xs,e3,rfl⟩:=Option.map_eq_some_iff.mp hf;unfold JG at hl k;rw [← Str.append_assoc] at hl k;have hl2:(acc++y).length<=sizeLine:=by rw [Str.length_append] at hl;omega
 refine a.ok hv.l hd e1 λx G1 E1 D1 _=>?_;unfold qcm at e2;split at e2
 ·cases e2;cases D1;exact ⟨by rw [Str.length_append] at hl2;omega,hl2,r.ok _ (hv.r.up E1) (hd.up E1) e3 hl λG' E=>k G' (E1.trans E)⟩
 ·unfold cif at e2;split at e2
  ·rename_i c;cases e2;cases D1;exact ⟨c,hl2,r.ok _ (hv.r.up E1) (hd.up E1) e3 hl λG' E=>k G' (E1.trans E)⟩
  ·cases e2
 ·cases e2⟩
def bFs {ps:List (Str ⊕ TE3)} (p:PuF ps):PuE (fs3 ps Str.empty):=⟨λρ=>(p.f ρ).bind λxs=>cif ((JG xs).length<=sizeLine) (some (.str (JG xs))) none,p.fv,false,λhv hd hf k=>by
 obtain ⟨xs,e,hf⟩:=obb hf;unfold cif at hf;split at hf
 ·rename_i c;cases hf;exact p.ok Str.empty hv hd e (by rw [Str.empty_append];exact c) λG' E=>by rw [Str.empty_append];exact k _ _ E (.str _) (λz=>by cases z)
 ·cases hf⟩
def qck {ps:List (Str ⊕ TE3)} {p:PuF ps}:(bFs p).f=λρ=>(p.f ρ).bind λxs=>cif ((JG xs).length<=sizeLine) (some (.str (JG xs))) none:=id rfl
def CI {ρ:Rho}:NZ.f ρ=some []:=id rfl
def RY {ps:List (Str ⊕ TE3)} {x:Str} {r:PuF ps} {ρ:Rho}:(XM x r).f ρ=(r.f ρ).map (x::·):=id rfl
def RO {te:TE3} {ps:List (Str ⊕ TE3)} {a:PuE te} {r:PuF ps} {ρ:Rho}:(RJ a r).f ρ=(a.f ρ).bind λd=>(qcm d).bind λy=>(r.f ρ).map (y::·):=id rfl
def qcT {y:Str}:qcm (.str y)=some y:=id rfl
def qdZ {i:Int} (h:-1000000000<=i/\i<=1000000000):qcm (.int i)=some (Str.ofString (toString i)):=zr (Nat.lt_of_lt_of_le (log2_lt (k:=30) (by omega) (by omega)) (by omega))
def qdG (d e:PyData):Option PyData:=match d,e with
 |.tuple ds,.tuple es=>cif (Pls ds/\Pls es/\VQ ds<=30) (some (.bool (!deq ds es))) none
 |_,_=>none
def qam:OpD qdB:=⟨qdG,false,λ{D G x y d e v q} hx hy hd hf k=>by
 unfold qdG at hf;split at hf
 ·unfold cif at hf;split at hf
  ·rename_i c;cases hf;exact ⟨_,_,(hx.up ZY).dp,(hy.up ZY).dp,c.1,c.2.1,c.2.2,k _ _ Ex.refl (.bl _) (λz=>by cases z)⟩
  ·cases hf
 ·cases hf⟩
def SI:qam.f=qdG:=id rfl
def qbb {ds es:List PyData} (h1:Pls ds) (h2:Pls es) (h3:VQ ds<=30):qdG (.tuple ds) (.tuple es)=some (.bool (!deq ds es)):=zr ⟨h1,h2,h3⟩
open Bk (Lf Ext)
def qbO (K:Int) (R T2:TS3):TS3:=qE (qS (ju qh) (gn3 1)) (qE (U8 (zQ (qb (qea K) qh)) (gn3 2) (qE (qS (cb3 Bk.jK (qb (v3 0) (qb (v3 2) qh))) (gn3 3)) R)) T2)
def qeR (P:List PyData->Prop):QO:=λo _=>match o with|.nx ρ=>∃ ds,slot ρ 1=some ds/\P ds|.ct ρ=>∃ ds,slot ρ 1=some ds/\P ds|_=>False
def CU {R T2:TS3} (b:PwS 3 R) (c:PuS T2) (N:List Str) (K:Int) (M n2:Nat) (P:Nat->List PyData->Prop) (hK:0<=K/\K<=60) (hN:N.length=M+4) (h0:P 0 [])
  (h:∀ (k:Nat) (ds:List PyData),k<=60->P k ds->b.w ([.un,.ow ds,.sh (.int k),.un]++List.replicate M .un) 0 (qeR (P (k+1))))
  (h2:∀ (k:Nat) (ds:List PyData) (s2 s3:Sl) (r:List Sl),k<=61->P k ds->r.length=M->∃ fr,c.f n2 ([.un,.ow ds,.un,.un]++List.replicate M .un)=some (.rt (.bool true) fr)) :
  ∀ ts G q,VB ts G q->ts.length=1/\qbO K R T2 { nx:=λ_ G'=>q .non G',rt:=q } (qk N ts) G:=by
 rintro ts G q ⟨a,ns,rfl,hG,hl,hq⟩;refine ⟨rfl,?_⟩;have s0:(qk N [T.ref a])[0]?=some (some (.ref a)):=by simp [qk]
 have sl:(qk N [T.ref a]).length=M+4:=by simp [qk,hN]
 unfold qbO qE;show ju qh _ G _;refine ⟨by decide,λp1 hp1=>?_⟩;have pa1:a≠p1:=by rintro rfl;rw [hG] at hp1;cases hp1
 have hG1:gu G p1 (.lst []) a=some (.frz (ns.map T.int)):=by rw [zz pa1];exact hG
 have gl:getL (gu G p1 (.lst [])) a=some (ns.map T.int):=by unfold getL;rw [hG1]
 have s1:((qk N [T.ref a]).set 1 (some (.ref p1)))[0]?=some (some (.ref a)):=by rw [getElem?_set,if_neg (by omega)];exact s0
 have s2:((qk N [T.ref a]).set 1 (some (.ref p1)))[1]?=some (some (.ref p1)):=by rw [getElem?_set,if_pos rfl,if_pos (by omega)]
 have sl1:((qk N [T.ref a]).set 1 (some (.ref p1))).length=M+4:=by rw [List.length_set];exact sl
 show U8 (zQ (qb (qea K) qh)) (gn3 2) _ _ ((qk N [T.ref a]).set 1 (some (.ref p1))) (gu G p1 (.lst []));generalize (qk N [T.ref a]).set 1 (some (.ref p1))=τ0 at s1 s2 sl1 ⊢;have hgp:gu G p1 (.lst []) p1=some (.lst []):=qr;generalize gu G p1 (.lst [])=G1 at hG1 gl hgp ⊢;simp only [U8,zQ,qea,qb,qh,o3,c3,cb3,v3,s1,XQ,gl,SU,zN,length_map];have cnt:((1+(if ((ns.length:Nat):Int)<K then ((ns.length:Nat):Int) else K)).toNat)<=61:=by split<;>omega
 refine ⟨⟨by split<;>omega,by split<;>omega⟩,?_⟩;refine J6 _ (λi τ G'=>G' a=some (.frz (ns.map T.int))/\τ[0]?=some (some (.ref a))/\τ.length=M+4/\∃ p xs ds,τ[1]?=some (some (.ref p))/\G' p=some (.lst xs)/\Dqs (rs (λb=>b=p) G') xs ds/\P i ds) ⟨hG1,s1,sl1,p1,[],[],s2,hgp,.nil,h0⟩ (λ_ _ _ _ _=>True.intro) ?_ ?_
 ·rintro i z τ G' nx hz ⟨gA,t0,tl,p,xs,ds,tp,gp,hds,hP⟩ hn;obtain ⟨hi,rfl⟩:=SA hz;have hi2:i<=60:=by omega
  have ap:a≠p:=by rintro rfl;rw [gA] at gp;cases gp
  have t1:(τ.set 2 (some (T.int (0+(i:Int)))))[0]?=some (some (.ref a)):=by rw [getElem?_set,if_neg (by omega)];exact t0
  have t1':(τ.set 2 (some (T.int (0+(i:Int)))))[1]?=some (some (.ref p)):=by rw [getElem?_set,if_neg (by omega)];exact tp
  have t2:(τ.set 2 (some (T.int (0+(i:Int)))))[2]?=some (some (T.int (0+(i:Int)))):=by rw [getElem?_set,if_pos rfl,if_pos (by omega)]
  have tl':(τ.set 2 (some (T.int (0+(i:Int))))).length=M+4:=by rw [List.length_set];exact tl
  show v3 0 (τ.set 2 (some (T.int (0+(i:Int))))) G' (λx G1=>v3 2 (τ.set 2 (some (T.int (0+(i:Int))))) G1 λy G2=>Bk.jK [x,y] G2 λz G3=>R _ ((τ.set 2 (some (T.int (0+(i:Int))))).set 3 (some z)) G3);rw [qaX t1,qaX t2];generalize τ.set 2 (some (T.int (0+(i:Int))))=τ1 at t1 t1' t2 tl' ⊢;refine ⟨a,_,ns,rfl,gA,hl,by omega,by omega,λpl o c' hp ho=>?_⟩;have pa:a≠pl:=by rintro rfl;rw [gA] at hp;cases hp
  have pp:p≠pl:=by rintro rfl;rw [gp] at hp;cases hp
  have A1:∀ j q,(if j=1 then some p else if j=3 then some pl else none:Option Addr)=some q->(j=1/\q=p)\/(j=3/\q=pl):=λj q e=>by
   split at e
   ·rename_i c;cases e;exact .inl ⟨c,rfl⟩
   ·split at e
    ·rename_i c;cases e;exact .inr ⟨c,rfl⟩
    ·cases e
  have dup:Dqs (rs (AD (λ_=>False) λj=>if j=1 then some p else if j=3 then some pl else none) (gu G' pl (.lst [.int o,.int c',.int 0]))) xs ds:=hds.up λb ob e=>by
   obtain ⟨n1,n2⟩:=qP e;have bl:b≠pl:=by rintro rfl;rw [n2] at hp;cases hp
   rw [jj (λz=>?_),zz bl]
   ·exact n2
   ·rcases z with z|⟨j,z⟩
    ·exact z
    ·rcases A1 j b z with ⟨_,rfl⟩|⟨_,rfl⟩
     ·exact n1 rfl
     ·exact bl rfl
  have r:RL 3 pl (some (some (.ref a)),M+4) (λ_=>False) (λb=>if b=p then none else G' b) (λj=>if j=1 then some p else if j=3 then some pl else none) (τ1.set 3 (some (.ref pl))) ([.un,.ow ds,.sh (.int i),.un]++List.replicate M .un) (gu G' pl (.lst [.int o,.int c',.int 0])) 0:=by
   refine ⟨⟨λb ob e=>?_,λb z=>z.elim,λj q e=>?_,λj q e=>?_,λj k q e e'=>?_,by simp [tl'],λj d e=>?_,λj es e=>?_,λj es e=>?_⟩,rfl,by rw [getElem?_set,if_pos rfl,if_pos (by omega)],rfl,⟨o,c',0,qr,ho,by omega,by omega⟩,⟨by rw [getElem?_set,if_neg (by omega)];exact t1,by simp [tl']⟩⟩
   ·split at e
    ·cases e
    ·have bl:b≠pl:=by rintro rfl;rw [hp] at e;cases e
     rw [zz bl];exact e
   ·rcases A1 j q e with ⟨_,rfl⟩|⟨_,rfl⟩
    ·simp
    ·simp [hp]
   ·rcases A1 j q e with ⟨_,rfl⟩|⟨_,rfl⟩
    ·rw [zz pp,gp];simp
    ·rw [qr];simp
   ·rcases A1 j q e with ⟨h1,rfl⟩|⟨h1,rfl⟩
    ·rcases A1 k q e' with ⟨h3,_⟩|⟨h3,h4⟩
     ·omega
     ·exact absurd h4 pp
    ·rcases A1 k q e' with ⟨h3,h4⟩|⟨h3,h4⟩
     ·exact absurd h4.symm pp
     ·omega
   ·match j,e with
    |0,e=>cases e
    |1,e=>cases e
    |2,e=>
     cases e;refine ⟨.int (0+(i:Int)),by rw [getElem?_set,if_neg (by omega)];exact t2,?_⟩;rw [Int.zero_add];exact .int _
    |3,e=>cases e
    |j+4,e=>
     simp only [cons_append,List.nil_append,getElem?_cons_succ,List.getElem?_replicate] at e;split at e<;>cases e
   ·match j,e with
    |0,e=>cases e
    |1,e=>
     cases e;exact ⟨p,xs,rfl,by rw [getElem?_set,if_neg (by omega)];exact t1',by rw [zz pp];exact gp,dup⟩
    |2,e=>cases e
    |3,e=>cases e
    |j+4,e=>
     simp only [cons_append,List.nil_append,getElem?_cons_succ,List.getElem?_replicate] at e;split at e<;>cases e
   ·match j,e with
    |0,e=>cases e
    |1,e=>cases e
    |2,e=>cases e
    |3,e=>cases e
    |j+4,e=>
     simp only [cons_append,List.nil_append,getElem?_cons_succ,List.getElem?_replicate] at e;split at e<;>cases e
  have ga0:(λb=>if b=p then none else G' b) a=some (.frz (ns.map T.int)):=by dsimp only;rw [if_neg ap];exact gA
  have back:∀ ρ' A τ' G2 m,RL 3 pl (some (some (.ref a)),M+4) (λ_=>False) (λb=>if b=p then none else G' b) A τ' ρ' G2 m->(∃ ds,slot ρ' 1=some ds/\P (i+1) ds)->nx τ' G2:=by
   rintro ρ' A τ' G2 m r2 ⟨ds',e1,hP'⟩;obtain ⟨p',xs',a1,a2,a3,a4⟩:=r2.r.ow 1 ds' (VR e1);exact hn _ _ ⟨r2.r.ex _ _ ga0,r2.tz.1,r2.tz.2,p',xs',ds',a2,a3,a4.up (zw λb hb=>.inr ⟨1,by rw [hb];exact a1⟩),hP'⟩
  refine b.ok r (h i ds hi2 hP) λo' m ho'=>?_;cases o' with
  |nx ρ'=>exact λA τ' G2 r2=>back _ _ _ _ _ r2 ho'
  |ct ρ'=>exact λA τ' G2 r2=>back _ _ _ _ _ r2 ho'
  |bk ρ'=>exact ho'.elim
  |rt d f=>exact ho'.elim
 ·rintro τ G' ⟨gA,t0,tl,p,xs,ds,tp,gp,hds,hP⟩;rw [jw] at hP;obtain ⟨fr,hc⟩:=h2 _ ds .un .un (List.replicate M .un) cnt hP (by simp);have A1:∀ j q,(if j=1 then some p else none:Option Addr)=some q->j=1/\q=p:=λj q e=>by
   split at e
   ·rename_i c;cases e;exact ⟨c,rfl⟩
   ·cases e
  have r:RS (λ_=>False) (λb=>if b=p then none else G' b) (λj=>if j=1 then some p else none) τ ([.un,.ow ds,.un,.un]++List.replicate M .un) G':=by
   refine ⟨λb ob e=>?_,λb z=>z.elim,λj q e=>?_,λj q e=>?_,λj k q e e'=>?_,by simp [tl],λj d e=>?_,λj es e=>?_,λj es e=>?_⟩
   ·split at e
    ·cases e
    ·exact e
   ·obtain ⟨_,rfl⟩:=A1 j q e;simp
   ·obtain ⟨_,rfl⟩:=A1 j q e;rw [gp];simp
   ·obtain ⟨h3,_⟩:=A1 j q e;obtain ⟨h4,_⟩:=A1 k q e';omega
   ·match j,e with
    |0,e=>cases e
    |1,e=>cases e
    |2,e=>cases e
    |3,e=>cases e
    |j+4,e=>
     simp only [cons_append,List.nil_append,getElem?_cons_succ,List.getElem?_replicate] at e;split at e<;>cases e
   ·match j,e with
    |0,e=>cases e
    |1,e=>
     cases e;refine ⟨p,xs,rfl,tp,gp,hds.up (zw λb hb=>?_)⟩;rcases hb with hb|⟨j,hb⟩
     ·exact hb.elim
     ·exact (A1 j b hb).2
    |2,e=>cases e
    |3,e=>cases e
    |j+4,e=>
     simp only [cons_append,List.nil_append,getElem?_cons_succ,List.getElem?_replicate] at e;split at e<;>cases e
   ·match j,e with
    |0,e=>cases e
    |1,e=>cases e
    |2,e=>cases e
    |3,e=>cases e
    |j+4,e=>
     simp only [cons_append,List.nil_append,getElem?_cons_succ,List.getElem?_replicate] at e;split at e<;>cases e
  refine c.ok r hc λx G2 _ dx _=>?_;cases dx;exact hq G2
def qaN {l:Nat} {t:TE3} {u:VF} (x:PwE l t) (k:Nat) (b:PuGs u) (m:List Bool) (hm:Tru (x.fv.all (mkb m))) (hl:Tru (!mkb m l&&b.tg.all (λi=>i != l&&i != 0))):PwS l (qS t (DN k u)):=⟨λρ n Q=>x.w ρ n λd n1=>∃ ds bs,d=.list ds/\ds.length=k/\b.f ds=some bs/\Q (.nx (Q0 (dm m ρ) bs)) n1,λh k=>x.mono h λd m ⟨ds,bs,h0,h1,h2,h3⟩=>⟨ds,bs,h0,h1,h2,k _ _ h3⟩,λ{a z0 D G0 A τ ρ G n e Q} h hw k=>by
 have hl':mkb m l=false/\∀ i∈b.tg,i≠l/\i≠0:=by simpa using hl.h
 refine x.ok (h.ln hl'.1 hm) hw λy d G1 n1 ⟨ds,bs,e0,e1,e2,hq⟩ E1 L1 D1 N1=>?_;subst e0;cases D1 with
 |lst g hs=>
  obtain ⟨ts,bd,kg⟩:=b.ok hs e2;simp only [DN,jc (qP g).2];refine ⟨by rw [hs.length];exact e1,kg _ _ _ ?_⟩;obtain ⟨A',h'⟩:=((h.dem hl'.1).up E1 L1).puts bd (λp hp=>hl'.2 _ (b.at' e2 p hp));exact k _ _ hq _ _ _ h'⟩
def NC {l:Nat} {t:TE3} {u:VF} {x:PwE l t} {k:Nat} {b:PuGs u} {m:List Bool} {hm:Tru (x.fv.all (mkb m))} {hl:Tru (!mkb m l&&b.tg.all (λi=>i != l&&i != 0))} {ρ:Rho} {n:Nat} {Q:QO}:(qaN x k b m hm hl).w ρ n Q=x.w ρ n λd n1=>∃ ds bs,d=.list ds/\ds.length=k/\b.f ds=some bs/\Q (.nx (Q0 (dm m ρ) bs)) n1:=id rfl
end Pu
namespace Pu
open PySem L2 L3
open Bk (Dl)
end Pu
namespace Pv
open PySem L2 L3 Pu
open Bk (Dl)
end Pv
namespace Pv
open PySem L2 L3 Pu
open Bk (Dl)
end Pv
namespace Hd
open PySem L2 L3 PySem.W
def oF (x:Str) (st:Stmt) (pm cd:Value):Obj:=⟨.type "function",none,.func (PySem.W.fnOf x x (jW st) (zF st) (qi st) .none .none .none pm none cd .none),#[]⟩
def oC (vs:List Value):Obj:=⟨.type "code",none,.fields vs.toArray,#[]⟩
def eD (P:Params):Value×Value->DictEntry
 | (.str x t,v)=>⟨PyData.keyHash P x,.str x t,v⟩
 | (u,v)=>⟨0,u,v⟩
def oD (P:Params) (n:Nat) (es:List (Value×Value)):Obj:=⟨.type "dict",none,.dict (es.map (eD P)).toArray n,#[]⟩
abbrev nd (o:Obj) (l r:PySem.W.BT):PySem.W.BT:=.node o l r
abbrev lf (o:Obj):PySem.W.BT:=.node o .nil .nil
def jX {K:Frg} (x:Str) (st:Stmt) (f:Addr) (pm cd:Value) (l:K.lookup f=some (oF x st pm cd)) (c:PySem.W.codeIn K cd x=true) (k:PySem.W.keepIn K (.ref f)=true) :
  Fun K x x st f (PySem.W.fnOf x x (jW st) (zF st) (qi st) .none .none .none pm none cd .none):=qcs l c k
def j6 {K:Frg} {h:Heap} {mg:Str->Option Value} (X:K.In h) (G:h.Ns mainGlobals mg) (n:Str) (v:Value) (e:PySem.W.nsIn K mainGlobals n=some (some v)):mg n=some v:=PySem.W.mg_of X G e
def V7 {K:Frg} {h:Heap} {mg:Str->Option Value} (X:K.In h) (G:h.Ns mainGlobals mg) (n:Str) (e:PySem.W.nsIn K mainGlobals n=some none):mg n=none:=PySem.W.mg_none_of X G e
def head {l:OpenLaw} {q:Program} {loose:List Str} {K:Params->Frag} {as:List Addr} {d:DefRec} {N:Nat} {k:Nat} {x:Str} (ha:∀ P,as=(K P).map (·.1))
  (ok:l.wellSaid=true)
  (left:LeftO l.prog q loose (λs=>xlAt q [] s&&recOk [] s) (λs=>as.map s.heap.get?) (λw=>(K w.params).map λp=>some p.2) N)
  (hdef:defOf q l.name=some (d,[])) (hp:l.prog.theDef l.name=some (d.params,d.body,d.scope)) (hk:kwWritten? d.params.kwonlyargs d.params.kw_defaults=some [])
  (hwr:(!l.row.writes||l.row.records.isEmpty)=true) (ok2:(chainsOk q&&opensWell l.prog&&(frees l.row.toRowW&&l.row.within.isEmpty))=true) (hb:l.prog.bare) (hw:l.row.toRowW.promised)
  (hn:l.most=some 63) (hdf:d.params.defaults=[]) (hr:Room k callerA) (hK:∀ w:World,Z4 (K w.params)=true)
  (F:∀ (w:World) (mg:Str->Option Value) (fa:Addr) (h:Heap),(K w.params).In h->h.Ns mainGlobals mg->mg d.name=some (.ref fa) ->
   ∃ fd:FuncData,(∀ (s:Shared) (u:Value),BindsTo s fd ⟨[u],[]⟩ [(x,u)])/\∀ base:Heap,(K w.params).In base->base.Ns mainGlobals mg->FnOk l.prog w (K w.params) mg base CX0 k fa fd [x] (lSp (K w.params) VB)):l.Holds:=by
 refine holds_law ok λsaid=>?_;exact holds_open (q:=q) (loose:=loose) (Xt:=λs=>xlAt q [] s&&recOk [] s) (XP:=XL q []) (Yf:=Hook.obs (kHook K as ha)) (Ya:=Hook.val (kHook K as ha)) (YP:=Hook.says (kHook K as ha)) (N:=N) left
  (Hook.of (kHook K as ha)) (Hook.keeps (kHook K as ha)) (λs e=>xl_of s (Bool.and_eq_true_iff.mp e).1) XL.keeps hdef hp hk (λs e=>recFacts_of (Bool.and_eq_true_iff.mp e).2) hwr said ok2 hb hw
  (L3.qd7 (l:=l) (k:=k) (x:=x) hn hdf hr (λw h Y=>kIn_of Y) hK F)
end Hd
namespace L3
open PySem PySem.Spec PyProof.Rows L2
end L3
namespace Hd
open PySem PySem.Spec PyProof.Rows L2 L3 PySem.W
end Hd
namespace Pu
open PySem L2 L3
end Pu
namespace Ben
structure Inv2 (N:Nat) (a:Nat->Nat):Prop where
 lt:∀ {x},x<N->a x<N
 two:∀ {x},x<N->a (a x)=x
 ne:∀ {x},x<N->a x≠x
section
variable {N:Nat} {a b:Nat->Nat} (ha:Inv2 N a) (hb:Inv2 N b)
def ks (a b:Nat->Nat) (k:Nat):Nat->Nat
 |0=>k
 |i+1=>b (a (ks a b k i))
def up (c:Nat->Option Nat) (x v:Nat):Nat->Option Nat:=λy=>if y=x then some v else c y
def cs (a b:Nat->Nat) (c0:Nat->Option Nat) (k:Nat):Nat->Nat->Option Nat
 |0=>c0
 |i+1=>up (up (cs a b c0 k i) (ks a b k i) 0) (a (ks a b k i)) 1
include ha hb in
end
def x1 (k:Nat):Nat:=k ^^^ 1
structure Pm (N:Nat) (o v:Nat->Nat):Prop where
 lt:∀ {x},x<N->o x<N
 ilt:∀ {y},y<N->v y<N
 vo:∀ {x},x<N->v (o x)=x
 ov:∀ {y},y<N->o (v y)=y
def bb (o v:Nat->Nat) (x:Nat):Nat:=v (x1 (o x))
structure Pt (h:Nat) (o v c:Nat->Nat):Prop where
 two:∀ {x},x<2*h->c x<2
 a:∀ {x},x<2*h->c (x1 x)=1-c x
 b:∀ {x},x<2*h->c (bb o v x)=1-c x
section
variable {h:Nat} {o v c:Nat->Nat} (p:Pm (2*h) o v) (q:Pt h o v c)
end
end Ben
namespace K76
open PySem L2 L3 Bk
def top (i : Nat) : Stmt := PySem.Challenge.pw_bankwalk_k76_dealings_written.main.body.getD i (.Pass ⟨0,0,0,0⟩)
variable {P:Program} {w:World} {K:Frg} {mg:Str->Option Value} {base:Heap} {f:Addr} {fd:FuncData} {k:Nat} {sp:Sp3}
abbrev jC:Stmt:=top 1
abbrev QB:List Str:=["things"]
abbrev ZW:List Str:=["things"]
def EQ:FnScope QB ZW (qi jC):=⟨rfl,rfl,rfl,by decide +kernel,rfl,by decide +kernel,by decide +kernel⟩
def QA:TS3:=(qX (M8 V5 (c3 (.str " ")) (qb (lc3 (QK (v3 0)) (gn3 0) tt3 (cb3 (JI true) (qb (v3 0) qh)) [none]) qh)))
def EH (F:Fun K "in_words" "in_words" jC f fd) (bd:zY K fd ZW []) (hm:mg "in_words" = some (.ref f))   (m_str:mg "str" = none)
  (read:Rd sp 1 (QA) QB):Fn3 P w K mg base (k+1) "in_words" sp:=
 zl (t3:=(QA)) F EQ bd hm (λcdv A outer s H E hr=>(qq (qC (DK qm (qa (YG ["thing"] [none] rfl (ZK (qc 0)) (λ_ _ _=>(jgn 0)) (λ_ _ _=>jp) (λ_ _ _=>(qL (zv hr.gd hr.units) jN rfl m_str PyProof.Rows.boot_str (qa (qc 0) qe))) (by kernel_rfl) (by kernel_rfl)) qe))))) read
abbrev j9:Stmt:=top 2
abbrev ZE:List Str:=["rows"]
abbrev JY:List Str:=["rows"]
def W2:FnScope ZE JY (qi j9):=⟨rfl,rfl,rfl,by decide +kernel,rfl,by decide +kernel,by decide +kernel⟩
def ZN (S_in_words:Sp3):TS3:=(qX (M8 V5 (c3 (.str " / ")) (qb (lc3 (QK (v3 0)) (gn3 0) tt3 (cb3 S_in_words (qb (v3 0) qh)) [none]) qh)))
def XD {S_in_words:Sp3} (F:Fun K "in_rows" "in_rows" j9 f fd) (bd:zY K fd JY []) (hm:mg "in_rows" = some (.ref f)) (qz:Fn3 P w K mg base k "in_words" S_in_words)  
  (read:Rd sp 1 (ZN S_in_words) ZE):Fn3 P w K mg base (k+1) "in_rows" sp:=
 zl (t3:=(ZN S_in_words)) F W2 bd hm (λcdv A outer s H E hr=>(qq (qC (DK qm (qa (YG ["row"] [none] rfl (ZK (qc 0)) (λ_ _ _=>(jgn 0)) (λ_ _ _=>jp) (λ_ _ _=>(qg qz hr rfl (qa (qc 0) qe))) (by kernel_rfl) (by kernel_rfl)) qe))))) read
abbrev zC:Stmt:=top 3
abbrev zL:List Str:=["dealing","kind"]
abbrev jx:List Str:=["dealing"]
def jY:FnScope zL jx (qi zC):=⟨rfl,rfl,rfl,by decide +kernel,rfl,by decide +kernel,by decide +kernel⟩
def zM (S_in_words:Sp3) (S_in_rows:Sp3) (S_dealing_text:Sp3):TS3:=(qE (qS (o3 ix3 (v3 0) (c3 (.int 0))) (gn3 1)) (qE (zV (tb3 (o3 (z6 false) (v3 1) (c3 (.str "bits")))) (qX (cb3 S_in_words (qb (o3 ZC (C9 (v3 0) np3 (sp3 (c3 (.int 3)))) (o3 ix3 (v3 0) (c3 (.int 3)))) qh))) qK) (qE (zV (tb3 (o3 (z6 false) (v3 1) (c3 (.str "table")))) (qX (fs3 [.inl "table ",.inr (o3 ix3 (v3 0) (c3 (.int 1))),.inl " : ",.inr (cb3 S_in_rows (qb (o3 ix3 (v3 0) (c3 (.int 2))) qh))] Str.empty)) qK) (qE (zV (tb3 (o3 (z6 false) (v3 1) (c3 (.str "joined")))) (qX (fs3 [.inl "joined ( ",.inr (cb3 S_dealing_text (qb (o3 ix3 (v3 0) (c3 (.int 1))) qh)),.inl " ) ( ",.inr (cb3 S_dealing_text (qb (o3 ix3 (v3 0) (c3 (.int 2))) qh)),.inl " )"] Str.empty)) qK) (qX (cb3 S_in_words (qb (v3 0) qh)))))))
def jg {S_in_words:Sp3} {S_in_rows:Sp3} {S_dealing_text:Sp3} (F:Fun K "dealing_text" "dealing_text" zC f fd) (bd:zY K fd jx []) (hm:mg "dealing_text" = some (.ref f)) (qz:Fn3 P w K mg base k "in_words" S_in_words) (zS:Fn3 P w K mg base k "in_rows" S_in_rows) (F_dealing_text:Fn3 P w K mg base k "dealing_text" S_dealing_text)  
  (read:Rd sp 1 (zM S_in_words S_in_rows S_dealing_text) zL):Fn3 P w K mg base (k+1) "dealing_text" sp:=
 zl (t3:=(zM S_in_words S_in_rows S_dealing_text)) F jY bd hm (λcdv A outer s H E hr=>(qf (qR 1 jY.nd (zd (qc 0) qd)) (qf (ji (qN (zZ hr.units) zn (qc 1) qm (qO _)) (qq (qC (qg qz hr rfl (qa (zK (YM (qc 0) RP (V0 qd)) (zd (qc 0) qd)) qe)))) zi) (qf (ji (qN (zZ hr.units) zn (qc 1) qm (qO _)) (qq (qC (qbz (.lit (.val (zd (qc 0) qd) (.lit (.val (qg zS hr rfl (qa (zd (qc 0) qd) qe)) .nil))))))) zi) (qf (ji (qN (zZ hr.units) zn (qc 1) qm (qO _)) (qq (qC (qbz (.lit (.val (qg F_dealing_text hr rfl (qa (zd (qc 0) qd) qe)) (.lit (.val (qg F_dealing_text hr rfl (qa (zd (qc 0) qd) qe)) (.lit .nil)))))))) zi) (qq (qC (qg qz hr rfl (qa (qc 0) qe))))))))) read
abbrev QF:Stmt:=top 5
abbrev UU:List Str:=["_law_cell","_law_k","_law_m"]
abbrev J1:List Str:=["_law_cell","_law_k"]
def VI:FnScope UU J1 (qi QF):=⟨rfl,rfl,rfl,by decide +kernel,rfl,by decide +kernel,by decide +kernel⟩
def XI (F:Fun K "_law_mix" "_law_mix" QF f fd) (bd:zY K fd J1 []) (hm:mg "_law_mix" = some (.ref f))   
  (read:Rd sp 2 (Bk.ZJ) UU):Fn3 P w K mg base (k+1) "_law_mix" sp:=
 zl (t3:=(Bk.ZJ)) F VI bd hm (λcdv A outer s H E hr=>(qf (qR 2 VI.nd (Z7 (JX (qJ (qJ (Z7 (qc 0) qd) (JX (JX (qc 1) (qc 1)) qd)) qd) qd) qd)) (qq (qC (Z7 (JX (qc 2) (qc 2)) qd))))) read
abbrev jH:Stmt:=top 6
abbrev VC:List Str:=["_law_script","_law_k","_law_cell","_law_own"]
abbrev Z1:List Str:=["_law_script","_law_k"]
def QS:FnScope VC Z1 (qi jH):=⟨rfl,rfl,rfl,by decide +kernel,rfl,by decide +kernel,by decide +kernel⟩
def EW (F:Fun K "_law_left" "_law_left" jH f fd) (bd:zY K fd Z1 []) (hm:mg "_law_left" = some (.ref f))   (m_len:mg "len" = none) (m_abs:mg "abs" = none)
  (read:Rd sp 2 (Bk.QH) VC):Fn3 P w K mg base (k+1) "_law_left" sp:=
 zl (t3:=(Bk.QH)) F QS bd hm (λcdv A outer s H E hr=>(qf (qR 2 QS.nd (NJ (qN qcr JD (qc 1) (ZA D7 R1 rfl m_len PySem.boot_len (qa (qc 0) qe)) (qO _)) (zd (qc 0) (qc 1)) qd)) (qf (qR 3 QS.nd (NJ (qN qd1 JD (ZA DQ R5 rfl m_abs PyProof.Rows.boot_abs (qa (qc 2) qe)) (qbv qd qd) (qO _)) (ZA DQ R5 rfl m_abs PyProof.Rows.boot_abs (qa (qc 2) qe)) qd)) (qq (qC (zx (qa (qc 3) (qa (qJ (qc 2) (JX qd (qc 1))) (qa qd qe))))))))) read
abbrev jQ:Stmt:=top 7
abbrev VN:List Str:=["_law_left_here","_law_many","_law_digit"]
abbrev ZV:List Str:=["_law_left_here","_law_many"]
def J8:FnScope VN ZV (qi jQ):=⟨rfl,rfl,rfl,by decide +kernel,rfl,by decide +kernel,by decide +kernel⟩
def EZ {S_law_mix:Sp3} (F:Fun K "_law_pick" "_law_pick" jQ f fd) (bd:zY K fd ZV []) (hm:mg "_law_pick" = some (.ref f)) (F_law_mix:Fn3 P w K mg base k "_law_mix" S_law_mix)  
  (read:Rd sp 2 (Bk.QG S_law_mix) VN):Fn3 P w K mg base (k+1) "_law_pick" sp:=
 zl (t3:=(Bk.QG S_law_mix)) F J8 bd hm (λcdv A outer s H E hr=>(qf (YD (qJ (zd (qc 0) qd) qd) (K8 (qc 0) qd)) (qf (ji (qN R8 JD (zd (qc 0) qd) qd (qO _)) (qf (qR 2 J8.nd (Z7 (zd (qc 0) qd) (qc 1))) (qf (YD (WN (zd (qc 0) qd) (qc 1)) (K8 (qc 0) qd)) (qq (qC (qc 2))))) zi) (qq (qC (Z7 (WN (qg F_law_mix hr rfl (qa (qg F_law_mix hr rfl (qa (zd (qc 0) qd) (qa (zd (qc 0) qd) qe))) (qa (qJ (zd (qc 0) qd) qd) qe))) qd) (qc 1))))))) read
abbrev jl:Stmt:=top 8
abbrev JV:List Str:=["_law_left_here","_law_wide","_law_rows","_law_columns"]
abbrev QU:List Str:=["_law_left_here"]
def j7:FnScope JV QU (qi jl):=⟨rfl,rfl,rfl,by decide +kernel,rfl,by decide +kernel,by decide +kernel⟩
def U7 {S_law_pick:Sp3} (F:Fun K "_law_sides" "_law_sides" jl f fd) (bd:zY K fd QU []) (hm:mg "_law_sides" = some (.ref f)) (F_law_pick:Fn3 P w K mg base k "_law_pick" S_law_pick)  
  (read:Rd sp 1 (Bk.jR S_law_pick) JV):Fn3 P w K mg base (k+1) "_law_sides" sp:=
 zl (t3:=(Bk.jR S_law_pick)) F j7 bd hm (λcdv A outer s H E hr=>(qf (qR 1 j7.nd (zd (zx (qa qd (qa qd (qa qd (qa qd qe))))) (qg F_law_pick hr rfl (qa (qc 0) (qa qd qe))))) (qf (Y8 (i:=2) (j:=3) rfl j7.nd rfl rfl (by decide) rfl rfl (qa (qJ qd (qg F_law_pick hr rfl (qa (qc 0) (qa (qc 1) qe)))) (qa (qJ qd (qg F_law_pick hr rfl (qa (qc 0) (qa (qc 1) qe)))) qe))) (qq (qC (zd (zx (qa (qs (qa (qc 2) (qa (qc 3) qe))) (qa (qs (qa (qc 2) (qa (qc 3) qe))) (qa (qs (qa (qc 2) (qa (qc 3) qe))) (qa (qs (qa (qc 2) (qa (qc 2) qe))) qe))))) (qg F_law_pick hr rfl (qa (qc 0) (qa qd qe))))))))) read
abbrev QI:Stmt:=top 9
abbrev UH:List Str:=["_law_one","_law_other"]
abbrev J4:List Str:=["_law_one","_law_other"]
def VJ:FnScope UH J4 (qi QI):=⟨rfl,rfl,rfl,by decide +kernel,rfl,by decide +kernel,by decide +kernel⟩
def WX (F:Fun K "_law_gcd" "_law_gcd" QI f fd) (bd:zY K fd J4 []) (hm:mg "_law_gcd" = some (.ref f))   
  (read:Rd sp 2 (Bk.ZF) UH):Fn3 P w K mg base (k+1) "_law_gcd" sp:=
 zl (t3:=(Bk.ZF)) F VJ bd hm (λcdv A outer s H E hr=>(qf (S4 PassesOwn.never (qN R8 JD (qc 1) qd (qO _)) (qq (Y8 (i:=0) (j:=1) rfl VJ.nd rfl rfl (by decide) rfl rfl (qa (qc 1) (qa (Z7 (qc 0) (qc 1)) qe))))) (qq (qC (qc 0))))) read
abbrev jE:Stmt:=top 10
abbrev VO:List Str:=["_law_left_here","_law_rows","_law_columns","_law_banks","_law_wide"]
abbrev ZZ:List Str:=["_law_left_here"]
def jh:FnScope VO ZZ (qi jE):=⟨rfl,rfl,rfl,by decide +kernel,rfl,by decide +kernel,by decide +kernel⟩
def EF {S_law_sides:Sp3} {S_law_pick:Sp3} (F:Fun K "_law_skew" "_law_skew" jE f fd) (bd:zY K fd ZZ []) (hm:mg "_law_skew" = some (.ref f)) (F_law_sides:Fn3 P w K mg base k "_law_sides" S_law_sides) (F_law_pick:Fn3 P w K mg base k "_law_pick" S_law_pick)  
  (read:Rd sp 1 (Bk.QC S_law_sides S_law_pick) VO):Fn3 P w K mg base (k+1) "_law_skew" sp:=
 zl (t3:=(Bk.QC S_law_sides S_law_pick)) F jh bd hm (λcdv A outer s H E hr=>(qf (YD (qg F_law_sides hr rfl (qa (qc 0) qe)) (YZ rfl (zc (qQ (i:=1) (jh.nd)) (zc (qQ (i:=2) (jh.nd)) YL)))) (qf (qR 3 jh.nd (qJ qd (qg F_law_pick hr rfl (qa (qc 0) (qa (zd (zx (qa qd (qa qd (qa qd (qa qd qe))))) (qg F_law_pick hr rfl (qa (qc 0) (qa qd qe)))) qe))))) (qf (qR 4 jh.nd (zd (zx (qa (qc 3) (qa qd (qa qd qe)))) (qg F_law_pick hr rfl (qa (qc 0) (qa qd qe))))) (qq (qC (qs (qa qm (qa (qc 1) (qa (qc 2) (qa (qc 3) (qa (qg F_law_pick hr rfl (qa (qc 0) (qa (qc 4) qe))) (qa (qg F_law_pick hr rfl (qa (qc 0) (qa (qc 4) qe))) qe))))))))))))) read
abbrev jo:Stmt:=top 11
abbrev JQ:List Str:=["_law_left_here","_law_rows","_law_columns","_law_banks","_law_places","_law_turn"]
abbrev QW:List Str:=["_law_left_here"]
def za:FnScope JQ QW (qi jo):=⟨rfl,rfl,rfl,by decide +kernel,rfl,by decide +kernel,by decide +kernel⟩
def U6 {S_law_sides:Sp3} {S_law_pick:Sp3} {S_law_gcd:Sp3} (F:Fun K "_law_rests" "_law_rests" jo f fd) (bd:zY K fd QW []) (hm:mg "_law_rests" = some (.ref f)) (F_law_sides:Fn3 P w K mg base k "_law_sides" S_law_sides) (F_law_pick:Fn3 P w K mg base k "_law_pick" S_law_pick) (F_law_gcd:Fn3 P w K mg base k "_law_gcd" S_law_gcd)  (m_range:mg "range" = none)
  (read:Rd sp 1 (Bk.jG S_law_sides S_law_pick S_law_gcd) JQ):Fn3 P w K mg base (k+1) "_law_rests" sp:=
 zl (t3:=(Bk.jG S_law_sides S_law_pick S_law_gcd)) F za bd hm (λcdv A outer s H E hr=>(qf (YD (qg F_law_sides hr rfl (qa (qc 0) qe)) (YZ rfl (zc (qQ (i:=1) (za.nd)) (zc (qQ (i:=2) (za.nd)) YL)))) (qf (qR 3 za.nd (qJ qd (qg F_law_pick hr rfl (qa (qc 0) (qa (zd (zx (qa qd (qa qd (qa qd qe)))) (qg F_law_pick hr rfl (qa (qc 0) (qa qd qe)))) qe))))) (qf (qR 4 za.nd (qJ (DP (WN (JX (DP (qc 1)) (qc 2)) (qc 3))) (qg F_law_pick hr rfl (qa (qc 0) (qa qd qe))))) (qf (Y7 PassesOwn.never rfl (zb rfl m_range (qa qd qe) (h1:=by intro _ _ _ h;simpa [qb,qh] using h)) (qQ (i:=5) (za.nd)) (qq (ji (qN R8 JD (qg F_law_gcd hr rfl (qa (qc 3) (qa (qc 4) qe))) qd (qO _)) (qq (qR 4 za.nd (qJ (qc 4) qd))) zi))) (qq (qC (qs (qa qm (qa (qc 1) (qa (qc 2) (qa (qc 3) (qa (qc 4) qe))))))))))))) read
abbrev jO:Stmt:=top 12
abbrev VD:List Str:=["_law_left_here","_law_most","_law_high","_law_low","_law_masks","_law_wide"]
abbrev Z2:List Str:=["_law_left_here","_law_most"]
def jF:FnScope VD Z2 (qi jO):=⟨rfl,rfl,rfl,by decide +kernel,rfl,by decide +kernel,by decide +kernel⟩
def DC {S_law_pick:Sp3} (F:Fun K "_law_bits" "_law_bits" jO f fd) (bd:zY K fd Z2 []) (hm:mg "_law_bits" = some (.ref f)) (F_law_pick:Fn3 P w K mg base k "_law_pick" S_law_pick)  (m_range:mg "range" = none) (m_tuple:mg "tuple" = none)
  (read:Rd sp 2 (Bk.QE S_law_pick) VD):Fn3 P w K mg base (k+1) "_law_bits" sp:=
 zl (t3:=(Bk.QE S_law_pick)) F jF bd hm (λcdv A outer s H E hr=>(qf (Y8 (i:=2) (j:=3) rfl jF.nd rfl rfl (by decide) rfl rfl (qa (qg F_law_pick hr rfl (qa (qc 0) (qa (qJ (qc 1) qd) qe))) (qa (qg F_law_pick hr rfl (qa (qc 0) (qa (qJ (qc 1) qd) qe))) qe))) (qf (JN 4 ["_law_t","_law_left_here"] [none,some 0] rfl jF.nd (zb rfl m_range (qa (qg F_law_pick hr rfl (qa (qc 0) (qa qd qe))) qe) (h1:=by intro _ _ _ h;simpa [qb,qh] using h)) (λ_ _ _=>(jgn 0)) (λ_ _ _=>jp) (λ_ _ _=>(qg F_law_pick hr rfl (qa (qc 1) (qa qd qe)))) (by kernel_rfl) (by kernel_rfl) rfl rfl) (qf (qR 5 jF.nd (zd (zx (qa qd (qa qd (qa qd (qa qd (qa qd (qa qd (qa qd (qa qd (qa qd qe)))))))))) (qJ (qc 2) (qc 3)))) (qq (qC (qs (qa qm (qa (qc 2) (qa (qc 3) (qa (qL ze jy rfl m_tuple PyProof.Rows.boot_tuple (qa (YG ["_law_mask","_law_wide"] [none,some 5] rfl (ZK (qc 4)) (λ_ _ _=>(jgn 0)) (λ_ _ _=>jp) (λ_ _ _=>(Z7 (qc 0) (qc 1))) (by kernel_rfl) (by kernel_rfl)) qe)) qe))))))))))) read
abbrev jm:Stmt:=top 13
abbrev YE:List Str:=["_law_left_here","_law_rows","_law_columns","_law_banks","_law_cells"]
abbrev QV:List Str:=["_law_left_here"]
def zU:FnScope YE QV (qi jm):=⟨rfl,rfl,rfl,by decide +kernel,rfl,by decide +kernel,by decide +kernel⟩
def UX {S_law_sides:Sp3} {S_law_pick:Sp3} (F:Fun K "_law_table" "_law_table" jm f fd) (bd:zY K fd QV []) (hm:mg "_law_table" = some (.ref f)) (F_law_sides:Fn3 P w K mg base k "_law_sides" S_law_sides) (F_law_pick:Fn3 P w K mg base k "_law_pick" S_law_pick)  (m_range:mg "range" = none) (m_tuple:mg "tuple" = none)
  (read:Rd sp 1 (Bk.jI S_law_sides S_law_pick) YE):Fn3 P w K mg base (k+1) "_law_table" sp:=
 zl (t3:=(Bk.jI S_law_sides S_law_pick)) F zU bd hm (λcdv A outer s H E hr=>(qf (YD (qg F_law_sides hr rfl (qa (qc 0) qe)) (YZ rfl (zc (qQ (i:=1) (zU.nd)) (zc (qQ (i:=2) (zU.nd)) YL)))) (qf (qR 3 zU.nd (qJ qd (qg F_law_pick hr rfl (qa (qc 0) (qa (zd (zx (qa qd (qa qd (qa qd qe)))) (qg F_law_pick hr rfl (qa (qc 0) (qa qd qe)))) qe))))) (qf (JN 4 ["_law_i","_law_left_here","_law_banks","_law_columns"] [none,some 0,some 3,some 2] rfl zU.nd (zb rfl m_range (qa (qc 1) qe) (h1:=by intro _ _ _ h;simpa [qb,qh] using h)) (λ_ _ _=>(jgn 0)) (λ_ _ _=>jp) (λ_ _ _=>(qL ze jy rfl m_tuple PyProof.Rows.boot_tuple (qa (YG ["_law_j","_law_left_here","_law_banks"] [none,some 1,some 2] rfl (zb rfl m_range (qa (qc 3) qe) (h1:=by intro _ _ _ h;simpa [qb,qh] using h)) (λ_ _ _=>(jgn 0)) (λ_ _ _=>jp) (λ_ _ _=>(qg F_law_pick hr rfl (qa (qc 1) (qa (qc 2) qe)))) (by kernel_rfl) (by kernel_rfl)) qe))) (by kernel_rfl) (by kernel_rfl) rfl rfl) (qq (qC (qs (qa qm (qa (qc 3) (qa (qL ze jy rfl m_tuple PyProof.Rows.boot_tuple (qa (qc 4) qe)) qe)))))))))) read
abbrev jk:Stmt:=top 14
abbrev YF:List Str:=["_law_left_here","_law_rows","_law_columns","_law_banks","_law_way","_law_high","_law_low","_law_masks","_law_wide","_law_places","_law_turn","_law_cells"]
abbrev QT:List Str:=["_law_left_here"]
def qA:FnScope YF QT (qi jk):=⟨rfl,rfl,rfl,by decide +kernel,rfl,by decide +kernel,by decide +kernel⟩
def UN {S_law_pick:Sp3} {S_law_gcd:Sp3} (F:Fun K "_law_small" "_law_small" jk f fd) (bd:zY K fd QT []) (hm:mg "_law_small" = some (.ref f)) (F_law_pick:Fn3 P w K mg base k "_law_pick" S_law_pick) (F_law_gcd:Fn3 P w K mg base k "_law_gcd" S_law_gcd)  (m_range:mg "range" = none) (m_tuple:mg "tuple" = none)
  (read:Rd sp 1 (Bk.jD S_law_pick S_law_gcd) YF):Fn3 P w K mg base (k+1) "_law_small" sp:=
 zl (t3:=(Bk.jD S_law_pick S_law_gcd)) F qA bd hm (λcdv A outer s H E hr=>(qf (YD (qs (qa (qJ qd (qg F_law_pick hr rfl (qa (qc 0) (qa qd qe)))) (qa (qJ qd (qg F_law_pick hr rfl (qa (qc 0) (qa qd qe)))) (qa (qJ qd (qg F_law_pick hr rfl (qa (qc 0) (qa qd qe)))) qe)))) (YZ rfl (zc (qQ (i:=1) (qA.nd)) (zc (qQ (i:=2) (qA.nd)) (zc (qQ (i:=3) (qA.nd)) YL))))) (qf (qR 4 qA.nd (qg F_law_pick hr rfl (qa (qc 0) (qa qd qe)))) (qf (ji (qN (zZ hr.units) zn (qc 4) qd (qO _)) (qq (qC (qs (qa qm (qa (qc 1) (qa (qc 2) (qa (qc 3) (qa (qg F_law_pick hr rfl (qa (qc 0) (qa (qc 3) qe))) (qa (qg F_law_pick hr rfl (qa (qc 0) (qa qd qe))) qe))))))))) zi) (qf (ji (qN (zZ hr.units) zn (qc 4) qd (qO _)) (qf (Y8 (i:=5) (j:=6) rfl qA.nd rfl rfl (by decide) rfl rfl (qa (qg F_law_pick hr rfl (qa (qc 0) (qa qd qe))) (qa (qg F_law_pick hr rfl (qa (qc 0) (qa qd qe))) qe))) (qf (JN 7 ["_law_t","_law_left_here"] [none,some 0] rfl qA.nd (zb rfl m_range (qa (qg F_law_pick hr rfl (qa (qc 0) (qa qd qe))) qe) (h1:=by intro _ _ _ h;simpa [qb,qh] using h)) (λ_ _ _=>(jgn 0)) (λ_ _ _=>jp) (λ_ _ _=>(qg F_law_pick hr rfl (qa (qc 1) (qa qd qe)))) (by kernel_rfl) (by kernel_rfl) rfl rfl) (qf (qR 8 qA.nd (zd (zx (qa qd (qa qd (qa qd (qa qd (qa qd qe)))))) (qJ (qc 5) (qc 6)))) (qq (qC (qs (qa qm (qa (qc 5) (qa (qc 6) (qa (qL ze jy rfl m_tuple PyProof.Rows.boot_tuple (qa (YG ["_law_mask","_law_wide"] [none,some 8] rfl (ZK (qc 7)) (λ_ _ _=>(jgn 0)) (λ_ _ _=>jp) (λ_ _ _=>(Z7 (qc 0) (qc 1))) (by kernel_rfl) (by kernel_rfl)) qe)) qe)))))))))) zi) (qf (ji (qN (zZ hr.units) zn (qc 4) qd (qO _)) (qf (qR 9 qA.nd (qJ (DP (WN (JX (DP (qc 1)) (qc 2)) (qc 3))) (qg F_law_pick hr rfl (qa (qc 0) (qa qd qe))))) (qf (Y7 PassesOwn.never rfl (zb rfl m_range (qa qd qe) (h1:=by intro _ _ _ h;simpa [qb,qh] using h)) (qQ (i:=10) (qA.nd)) (qq (ji (qN R8 JD (qg F_law_gcd hr rfl (qa (qc 3) (qa (qc 9) qe))) qd (qO _)) (qq (qR 9 qA.nd (qJ (qc 9) qd))) zi))) (qq (qC (qs (qa qm (qa (qc 1) (qa (qc 2) (qa (qc 3) (qa (qc 9) qe)))))))))) zi) (qf (JN 11 ["_law_i","_law_left_here","_law_banks","_law_columns"] [none,some 0,some 3,some 2] rfl qA.nd (zb rfl m_range (qa (qc 1) qe) (h1:=by intro _ _ _ h;simpa [qb,qh] using h)) (λ_ _ _=>(jgn 0)) (λ_ _ _=>jp) (λ_ _ _=>(qL ze jy rfl m_tuple PyProof.Rows.boot_tuple (qa (YG ["_law_j","_law_left_here","_law_banks"] [none,some 1,some 2] rfl (zb rfl m_range (qa (qc 3) qe) (h1:=by intro _ _ _ h;simpa [qb,qh] using h)) (λ_ _ _=>(jgn 0)) (λ_ _ _=>jp) (λ_ _ _=>(qg F_law_pick hr rfl (qa (qc 1) (qa (qc 2) qe)))) (by kernel_rfl) (by kernel_rfl)) qe))) (by kernel_rfl) (by kernel_rfl) rfl rfl) (qq (qC (qs (qa qm (qa (qc 3) (qa (qL ze jy rfl m_tuple PyProof.Rows.boot_tuple (qa (qc 11) qe)) qe))))))))))))) read
abbrev zP:Stmt:=top 15
abbrev Q9:List Str:=["_law_left_here","_law_way","_law_inner","_law_some"]
abbrev jJ:List Str:=["_law_left_here"]
def zJ:FnScope Q9 jJ (qi zP):=⟨rfl,rfl,rfl,by decide +kernel,rfl,by decide +kernel,by decide +kernel⟩
def YT {S_law_pick:Sp3} {S_law_skew:Sp3} {S_law_rests:Sp3} {S_law_bits:Sp3} {S_law_table:Sp3} {S_law_small:Sp3} (F:Fun K "_law_dealing" "_law_dealing" zP f fd) (bd:zY K fd jJ []) (hm:mg "_law_dealing" = some (.ref f)) (F_law_pick:Fn3 P w K mg base k "_law_pick" S_law_pick) (F_law_skew:Fn3 P w K mg base k "_law_skew" S_law_skew) (F_law_rests:Fn3 P w K mg base k "_law_rests" S_law_rests) (F_law_bits:Fn3 P w K mg base k "_law_bits" S_law_bits) (F_law_table:Fn3 P w K mg base k "_law_table" S_law_table) (F_law_small:Fn3 P w K mg base k "_law_small" S_law_small)  
  (read:Rd sp 1 (Bk.z5 S_law_pick S_law_skew S_law_rests S_law_bits S_law_table S_law_small) Q9):Fn3 P w K mg base (k+1) "_law_dealing" sp:=
 zl (t3:=(Bk.z5 S_law_pick S_law_skew S_law_rests S_law_bits S_law_table S_law_small)) F zJ bd hm (λcdv A outer s H E hr=>(qf (qR 1 zJ.nd (qg F_law_pick hr rfl (qa (qc 0) (qa qd qe)))) (qf (ji (qN qcr JD (qc 1) qd (qO _)) (qq (qC (qg F_law_skew hr rfl (qa (qc 0) qe)))) zi) (qf (ji (qN (zZ hr.units) zn (qc 1) qd (qO _)) (qq (qC (qg F_law_rests hr rfl (qa (qc 0) qe)))) zi) (qf (ji (qN (zZ hr.units) zn (qc 1) qd (qO _)) (qq (qC (qg F_law_bits hr rfl (qa (qc 0) (qa qd qe))))) zi) (qf (ji (qN (zZ hr.units) zn (qc 1) qd (qO _)) (qq (qC (qg F_law_table hr rfl (qa (qc 0) qe)))) zi) (qf (ji (qN (zZ hr.units) zn (qc 1) qd (qO _)) (qf (qR 2 zJ.nd (qs (qa qm (qa (qs (qa qm (qa (qJ qd (qg F_law_pick hr rfl (qa (qc 0) (qa qd qe)))) (qa qd (qa qd (qa qd (qa qd qe))))))) (qa (qs (qa qm (qa qd (qa (qs (qa (qs (qa qd (qa qd qe))) qe)) qe)))) qe))))) (qf (qR 3 zJ.nd (zx (qa (qs (qa qm (qa (qc 2) (qa (qg F_law_small hr rfl (qa (qc 0) qe)) qe)))) (qa (qs (qa qm (qa (qg F_law_small hr rfl (qa (qc 0) qe)) (qa (qc 2) qe)))) qe)))) (qf (DF (JW (qc 3) (qa (qs (qa qm (qa (qs (qa qm (qa qd (qa qd (qa qd (qa qd (qa qd qe))))))) (qa (qs (qa qm (qa qd (qa qd (qa qd (qa qd qe)))))) qe)))) qe))) (qf (DF (JW (qc 3) (qa (qs (qa qm (qa (qs (qa qm (qa qd (qa qd (qa qd (qa qd qe)))))) (qa (qs (qa qm (qa qd (qa qd (qa qd (qa qd (qa qd qe))))))) qe)))) qe))) (qq (qC (zd (qc 3) (qg F_law_pick hr rfl (qa (qc 0) (qa qd qe)))))))))) zi) (qq (qC (qs (qa qm (qa (qg F_law_small hr rfl (qa (qc 0) qe)) (qa (qg F_law_small hr rfl (qa (qc 0) qe)) qe))))))))))))) read
abbrev qT:Stmt:=top 16
abbrev qV:List Str:=["_law_dealing_here","_law_one","_law_other","_law_found","_law_i","_law_row"]
abbrev zu:List Str:=["_law_dealing_here"]
def qy:FnScope qV zu (qi qT):=⟨rfl,rfl,rfl,by decide +kernel,rfl,by decide +kernel,by decide +kernel⟩
def qU (S_law_dealing_words:Sp3):TS3:=(qE (zV (tb3 (o3 (z6 false) (o3 ix3 (v3 0) (c3 (.int 0))) (c3 (.str "joined")))) (qE (YO 1 2 (qb (cb3 S_law_dealing_words (qb (o3 ix3 (v3 0) (c3 (.int 1))) qh)) (qb (cb3 S_law_dealing_words (qb (o3 ix3 (v3 0) (c3 (.int 2))) qh)) qh))) (qX (o3 ZC (o3 ZC (o3 ZC (o3 ZC (ju (qb (c3 (.str "joined")) (qb (c3 (.str "(")) qh))) (v3 1)) (ju (qb (c3 (.str ")")) (qb (c3 (.str "(")) qh)))) (v3 2)) (ju (qb (c3 (.str ")")) qh))))) qK) (qE (zV (tb3 (o3 (z6 false) (o3 ix3 (v3 0) (c3 (.int 0))) (c3 (.str "bits")))) (qX (o3 ZC (ju (qb (c3 (.str "bits")) qh)) (lc3 (QK (o3 ZC (cb3 JT (qb (C9 (v3 0) (sp3 (c3 (.int 1))) (sp3 (c3 (.int 3)))) qh)) (cb3 JT (qb (o3 ix3 (v3 0) (c3 (.int 3))) qh)))) (gn3 0) tt3 (cb3 (JI true) (qb (v3 0) qh)) [none]))) qK) (qE (zV (tb3 (o3 (z6 true) (o3 ix3 (v3 0) (c3 (.int 0))) (c3 (.str "table")))) (qX (o3 ZC (ju (qb (o3 ix3 (v3 0) (c3 (.int 0))) qh)) (lc3 (QK (C9 (v3 0) (sp3 (c3 (.int 1))) np3)) (gn3 0) tt3 (cb3 (JI true) (qb (v3 0) qh)) [none]))) qK) (qE (qS (ju (qb (c3 (.str "table")) (qb (cb3 (JI true) (qb (o3 ix3 (v3 0) (c3 (.int 1))) qh)) qh))) (gn3 3)) (qE (U8 (WT (qb (o3 ix3 (v3 0) (c3 (.int 2))) qh)) (jB 2 (qI (gn3 4) (qI (gn3 5) jA))) (qS (o3 ZC (o3 ZC (v3 3) (ju (qb (if3 (tb3 (o3 (z6 false) (v3 4) (c3 (.int 0)))) (c3 (.str ":")) (c3 (.str "/"))) qh))) (lc3 (QK (v3 5)) (gn3 0) tt3 (cb3 (JI true) (qb (v3 0) qh)) [none])) (gn3 3))) (qX (v3 3)))))))
def zj {S_law_dealing_words:Sp3} (F:Fun K "_law_dealing_words" "_law_dealing_words" qT f fd) (bd:zY K fd zu []) (hm:mg "_law_dealing_words" = some (.ref f)) (F_law_dealing_words:Fn3 P w K mg base k "_law_dealing_words" S_law_dealing_words)  (m_list:mg "list" = none) (m_str:mg "str" = none) (m_enumerate:mg "enumerate" = none)
  (read:Rd sp 1 (qU S_law_dealing_words) qV):Fn3 P w K mg base (k+1) "_law_dealing_words" sp:=
 zl (t3:=(qU S_law_dealing_words)) F qy bd hm (λcdv A outer s H E hr=>(qf (ji (qN (zZ hr.units) zn (zd (qc 0) qd) qm (qO _)) (qf (Y8 (i:=1) (j:=2) rfl qy.nd rfl rfl (by decide) rfl rfl (qa (qg F_law_dealing_words hr rfl (qa (zd (qc 0) qd) qe)) (qa (qg F_law_dealing_words hr rfl (qa (zd (qc 0) qd) qe)) qe))) (qq (qC (zK (zK (zK (zK (zx (qa qm (qa qm qe))) (qc 1)) (zx (qa qm (qa qm qe)))) (qc 2)) (zx (qa qm qe)))))) zi) (qf (ji (qN (zZ hr.units) zn (zd (qc 0) qd) qm (qO _)) (qq (qC (zK (zx (qa qm qe)) (YG ["_law_number"] [none] rfl (ZK (zK (qL JA WF rfl m_list PyProof.Rows.boot_list (qa (YM (qc 0) (V0 qd) (V0 qd)) qe)) (qL JA WF rfl m_list PyProof.Rows.boot_list (qa (zd (qc 0) qd) qe)))) (λ_ _ _=>(jgn 0)) (λ_ _ _=>jp) (λ_ _ _=>(qL (zv hr.gd hr.units) jN rfl m_str PyProof.Rows.boot_str (qa (qc 0) qe))) (by kernel_rfl) (by kernel_rfl))))) zi) (qf (ji (qN (D4 hr.units) V2 (zd (qc 0) qd) qm (qO _)) (qq (qC (zK (zx (qa (zd (qc 0) qd) qe)) (YG ["_law_number"] [none] rfl (ZK (YM (qc 0) (V0 qd) RP)) (λ_ _ _=>(jgn 0)) (λ_ _ _=>jp) (λ_ _ _=>(qL (zv hr.gd hr.units) jN rfl m_str PyProof.Rows.boot_str (qa (qc 0) qe))) (by kernel_rfl) (by kernel_rfl))))) zi) (qf (qR 3 qy.nd (zx (qa qm (qa (qL (zv hr.gd hr.units) jN rfl m_str PyProof.Rows.boot_str (qa (zd (qc 0) qd) qe)) qe)))) (qf (Y7 PassesOwn.never rfl (qan rfl m_enumerate (qa (zd (qc 0) qd) qe)) (YZ rfl (zc (qQ (i:=4) (qy.nd)) (zc (qQ (i:=5) (qy.nd)) YL))) (qq (qR 3 qy.nd (zK (zK (qc 3) (zx (qa (NJ (qN (zZ hr.units) zn (qc 4) qd (qO _)) qm qm) qe))) (YG ["_law_bank"] [none] rfl (ZK (qc 5)) (λ_ _ _=>(jgn 0)) (λ_ _ _=>jp) (λ_ _ _=>(qL (zv hr.gd hr.units) jN rfl m_str PyProof.Rows.boot_str (qa (qc 0) qe))) (by kernel_rfl) (by kernel_rfl)))))) (qq (qC (qc 3))))))))) read
abbrev qZ:Stmt:=top 17
abbrev zf:List Str:=["_law_left_here","_law_small_here","_law_one","_law_other","_law_third","_law_last","_law_way"]
abbrev zI:List Str:=["_law_left_here"]
def qv:FnScope zf zI (qi qZ):=⟨rfl,rfl,rfl,by decide +kernel,rfl,by decide +kernel,by decide +kernel⟩
def zg (S_law_pick:Sp3) (S_law_dealing:Sp3):TS3:=(qE (zV (tb3 (o3 (iB λi j=>decide (j<i)) (cb3 S_law_pick (qb (v3 0) (qb (c3 (.int 8)) qh))) (c3 (.int 0)))) (qX (cb3 S_law_dealing (qb (v3 0) qh))) qK) (qE (qS (ju (qb (zp (qb (c3 (.str "skew")) (qb (c3 (.int 2)) (qb (c3 (.int 2)) (qb (c3 (.int 2)) (qb (c3 (.int 1)) (qb (c3 (.int 1)) qh))))))) (qb (zp (qb (c3 (.str "bits")) (qb (c3 (.int 1)) (qb (c3 (.int 0)) (qb (zp (qb (c3 (.int 1)) qh)) qh))))) (qb (zp (qb (c3 (.str "rests")) (qb (c3 (.int 1)) (qb (c3 (.int 2)) (qb (c3 (.int 2)) (qb (c3 (.int 1)) qh)))))) (qb (zp (qb (c3 (.str "table")) (qb (c3 (.int 2)) (qb (zp (qb (zp (qb (c3 (.int 1)) (qb (c3 (.int 0)) qh))) qh)) qh)))) qh))))) (gn3 1)) (qE (qS (lc3 (zQ (qb (c3 (.int 4)) qh)) (gn3 0) tt3 (o3 ix3 (v3 1) (cb3 S_law_pick (qb (v3 2) (qb (c3 (.int 4)) qh)))) [none,some 1,some 0]) (DN 4 (qI (gn3 2) (qI (gn3 3) (qI (gn3 4) (qI (gn3 5) jA)))))) (qE (qS (cb3 S_law_pick (qb (v3 0) (qb (c3 (.int 4)) qh))) (gn3 6)) (qE (zV (tb3 (o3 (z6 false) (v3 6) (c3 (.int 0)))) (qX (zp (qb (c3 (.str "joined")) (qb (zp (qb (c3 (.str "joined")) (qb (v3 2) (qb (v3 3) qh)))) (qb (v3 4) qh))))) qK) (qE (zV (tb3 (o3 (z6 false) (v3 6) (c3 (.int 1)))) (qX (zp (qb (c3 (.str "joined")) (qb (v3 2) (qb (zp (qb (c3 (.str "joined")) (qb (v3 3) (qb (v3 4) qh)))) qh))))) qK) (qX (zp (qb (c3 (.str "joined")) (qb (zp (qb (c3 (.str "joined")) (qb (v3 2) (qb (v3 3) qh)))) (qb (zp (qb (c3 (.str "joined")) (qb (v3 4) (qb (v3 5) qh)))) qh)))))))))))
def ZG {S_law_pick:Sp3} {S_law_dealing:Sp3} (F:Fun K "_law_any_dealing" "_law_any_dealing" qZ f fd) (bd:zY K fd zI []) (hm:mg "_law_any_dealing" = some (.ref f)) (F_law_pick:Fn3 P w K mg base k "_law_pick" S_law_pick) (F_law_dealing:Fn3 P w K mg base k "_law_dealing" S_law_dealing)  (m_range:mg "range" = none)
  (read:Rd sp 1 (zg S_law_pick S_law_dealing) zf):Fn3 P w K mg base (k+1) "_law_any_dealing" sp:=
 zl (t3:=(zg S_law_pick S_law_dealing)) F qv bd hm (λcdv A outer s H E hr=>(qf (ji (qN R8 JD (qg F_law_pick hr rfl (qa (qc 0) (qa qd qe))) qd (qO _)) (qq (qC (qg F_law_dealing hr rfl (qa (qc 0) qe)))) zi) (qf (qR 1 qv.nd (zx (qa (qs (qa qm (qa qd (qa qd (qa qd (qa qd (qa qd qe))))))) (qa (qs (qa qm (qa qd (qa qd (qa (qs (qa qd qe)) qe))))) (qa (qs (qa qm (qa qd (qa qd (qa qd (qa qd qe)))))) (qa (qs (qa qm (qa qd (qa (qs (qa (qs (qa qd (qa qd qe))) qe)) qe)))) qe)))))) (qf (YD (YG ["_law_turn","_law_small_here","_law_left_here"] [none,some 1,some 0] rfl (zb rfl m_range (qa qd qe) (h1:=by intro _ _ _ h;simpa [qb,qh] using h)) (λ_ _ _=>(jgn 0)) (λ_ _ _=>jp) (λ_ _ _=>(zd (qc 1) (qg F_law_pick hr rfl (qa (qc 2) (qa qd qe))))) (by kernel_rfl) (by kernel_rfl)) (M0 rfl (zc (qQ (i:=2) (qv.nd)) (zc (qQ (i:=3) (qv.nd)) (zc (qQ (i:=4) (qv.nd)) (zc (qQ (i:=5) (qv.nd)) YL)))))) (qf (qR 6 qv.nd (qg F_law_pick hr rfl (qa (qc 0) (qa qd qe)))) (qf (ji (qN (zZ hr.units) zn (qc 6) qd (qO _)) (qq (qC (qs (qa qm (qa (qs (qa qm (qa (qc 2) (qa (qc 3) qe)))) (qa (qc 4) qe)))))) zi) (qf (ji (qN (zZ hr.units) zn (qc 6) qd (qO _)) (qq (qC (qs (qa qm (qa (qc 2) (qa (qs (qa qm (qa (qc 3) (qa (qc 4) qe)))) qe)))))) zi) (qq (qC (qs (qa qm (qa (qs (qa qm (qa (qc 2) (qa (qc 3) qe)))) (qa (qs (qa qm (qa (qc 4) (qa (qc 5) qe)))) qe))))))))))))) read
abbrev QQ:Stmt:=top 18
abbrev TQ:List Str:=["_law_script","_law_texts","_law_k","_law_left_here","_law_dealing_here","_law_due","_law_kept","_law_turn","_law_found","_law_one"]
abbrev qbh:List Str:=["_law_script"]
def Q1:FnScope TQ qbh (qi QQ):=⟨rfl,rfl,rfl,by decide +kernel,rfl,by decide +kernel,by decide +kernel⟩
def qah (S_law_left:Sp3) (S_law_any_dealing:Sp3) (S_law_dealing_words:Sp3) (S_dealing_text:Sp3):TS3:=(qE (qS (ju qh) (gn3 1)) (qE (U8 (zQ (qb (o3 zN (c3 (.int 1)) (cb3 SU (qb (c3 (.int 10)) (qb (cb3 XQ (qb (v3 0) qh)) qh)))) qh)) (gn3 2) (qE (qS (cb3 S_law_left (qb (v3 0) (qb (v3 2) qh))) (gn3 3)) (qE (qS (cb3 S_law_any_dealing (qb (v3 3) qh)) (gn3 4)) (qE (YO 5 6 (qb (M8 V5 (c3 (.str " ")) (qb (cb3 S_law_dealing_words (qb (v3 4) qh)) qh)) (qb (cb3 (JI true) (qb (v3 4) qh)) qh))) (qE (U8 (zQ (qb (c3 (.int 2)) qh)) (gn3 7) (qE (qS (cb3 S_dealing_text (qb (v3 4) qh)) (gn3 8)) (zV (or3 (SV (tb3 (SW (λt=>W4 t "str") (v3 8)))) (or3 (tb3 (o3 (z6 true) (v3 8) (v3 5))) (tb3 (o3 (z6 true) (cb3 (JI true) (qb (v3 4) qh)) (v3 6))))) (qX (c3 (.bl false))) qK))) (ZH (bm3 EA (v3 1) (qb (zp (qb (v3 4) (qb (v3 5) qh))) qh)))))))) (qE (U8 (QK (v3 1)) (gn3 9) (zV (tb3 (o3 (z6 true) (lc3 (QK (v3 1)) (jB 2 (qI (gn3 0) (qI (gn3 1) jA))) (SS (tb3 (o3 qdB (v3 0) (o3 ix3 (v3 2) (c3 (.int 0))))) (tb3 (o3 (z6 false) (v3 1) (o3 ix3 (v3 2) (c3 (.int 1)))))) (v3 1) [none,none,some 9]) (ju qh))) (qX (c3 (.bl false))) qK)) (qX (c3 (.bl true))))))
def qa9 {S_law_left:Sp3} {S_law_any_dealing:Sp3} {S_law_dealing_words:Sp3} {S_dealing_text:Sp3} (F:Fun K "law" "law" QQ f fd) (F_law_left:Fn3 P w K mg base k "_law_left" S_law_left) (F_law_any_dealing:Fn3 P w K mg base k "_law_any_dealing" S_law_any_dealing) (F_law_dealing_words:Fn3 P w K mg base k "_law_dealing_words" S_law_dealing_words) (F_dealing_text:Fn3 P w K mg base k "dealing_text" S_dealing_text)  (m_len:mg "len" = none) (m_min:mg "min" = none) (m_range:mg "range" = none) (m_str:mg "str" = none) (m_isinstance:mg "isinstance" = none)
  (read:Rd sp 1 (qah S_law_left S_law_any_dealing S_law_dealing_words S_dealing_text) TQ):FnOk P w K mg base CX0 (k+1) f fd qbh (lSp K sp):=
 S8 (t3:=(qah S_law_left S_law_any_dealing S_law_dealing_words S_dealing_text)) F Q1 (λcdv A outer s H E hr=>(qf (qR 1 Q1.nd (zx qe)) (qf (Y7 PassesOwn.never rfl (zb rfl m_range (qa (qJ qd (ZA (CA rfl) NM rfl m_min PyProof.Rows.boot_min (qa qd (qa (ZA D7 R1 rfl m_len PySem.boot_len (qa (qc 0) qe)) qe)))) qe) (h1:=by intro _ _ _ h;simpa [qb,qh] using h)) (qQ (i:=2) (Q1.nd)) (qf (qR 3 Q1.nd (qg F_law_left hr rfl (qa (qc 0) (qa (qc 2) qe)))) (qf (qR 4 Q1.nd (qg F_law_any_dealing hr rfl (qa (qc 3) qe))) (qf (Y8 (i:=5) (j:=6) rfl Q1.nd rfl rfl (by decide) rfl rfl (qa (DK qm (qa (qg F_law_dealing_words hr rfl (qa (qc 4) qe)) qe)) (qa (qL (zv hr.gd hr.units) jN rfl m_str PyProof.Rows.boot_str (qa (qc 4) qe)) qe))) (qf (Y7 PassesOwn.never rfl (zb rfl m_range (qa qd qe) (h1:=by intro _ _ _ h;simpa [qb,qh] using h)) (qQ (i:=7) (Q1.nd)) (qf (qR 8 Q1.nd (qg F_dealing_text hr rfl (qa (qc 4) qe))) (qq (ji (jpt (qbH (qa4 (qc1 (qdl (qc 8) rfl m_isinstance rfl m_str PyProof.Rows.boot_str))) (qbH (qN (D4 hr.units) V2 (qc 8) (qc 5) (qO _)) (qbN (qN (D4 hr.units) V2 (qL (zv hr.gd hr.units) jN rfl m_str PyProof.Rows.boot_str (qa (qc 4) qe)) (qc 6) (qO _)))))) (qq (qC NY)) zi)))) (qq (DF (JW (qc 1) (qa (qs (qa (qc 4) (qa (qc 5) qe))) qe))))))))) (qf (Y7 PassesOwn.never rfl (ZK (qc 1)) (qQ (i:=9) (Q1.nd)) (qq (ji (qN (D4 hr.units) V2 (YG ["_law_dealing_here","_law_text","_law_one"] [none,none,some 9] rfl (ZK (qc 1)) (λ_ _ _=>(YZ rfl (zc (jgn 0) (zc (jgn 1) YL)))) (λ_ _ _=>qb2 (jpt (qch (qN (qdn hr.units) NH (qc 0) (zd (qc 2) qd) (qO _)) (qav (qN (zZ hr.units) zn (qc 1) (zd (qc 2) qd) (qO _)))))) (λ_ _ _=>(qc 1)) (by kernel_rfl) (by kernel_rfl)) (zx qe) (qO _)) (qq (qC NY)) zi))) (qq (qC NY)))))) read
end K76
namespace K76
open PySem L2 L3 Pu
def QJ:PuS (K76.QA):=(XR (C6 (QZ " ") (qj (bLc (EV (bV 0)) (gN 0) bTt (zy (ZM true) (qj (bV 0) zo)) [none] ⟨rfl⟩) zo)))
def qz:List PyData->Option PyData:=Pu.run QJ.f 1 1 1000000000 false
def DB:Rd (PSp qz false) 1 (K76.QA) QB:=V8 QJ QB 1 1000000000 false
def DI {x0:PyData}:qz [x0]=KF false (QJ.f 1000000000 [.sh x0]):=id rfl
def Q8:PuS (K76.ZN (PSp qz false)):=(XR (C6 (QZ " / ") (qj (bLc (EV (bV 0)) (gN 0) bTt (zy (ZT qz false) (qj (bV 0) zo)) [none] ⟨rfl⟩) zo)))
def zS:List PyData->Option PyData:=Pu.run Q8.f 1 1 1000000000 false
def WZ:Rd (PSp zS false) 1 (K76.ZN (PSp qz false)) ZE:=V8 Q8 ZE 1 1000000000 false
def W8 {x0:PyData}:zS [x0]=KF false (Q8.f 1000000000 [.sh x0]):=id rfl
def qF (Ff:List PyData->Option PyData):PuS (K76.zM (PSp qz false) (PSp zS false) (PSp Ff false)):=(XS (qdA (bO YB (bV 0) (zR 0)) 1 [true] ⟨rfl⟩) (XS (sIf (bTb (bO (DJ false) (bV 1) (QZ "bits"))) (XR (zy (ZT qz false) (qj (bO jz (M2 (bV 0) bNp (bSp (zR 3))) (bO YB (bV 0) (zR 3))) zo))) U3) (XS (sIf (bTb (bO (DJ false) (bV 1) (QZ "table"))) (XR (bFs (XM "table " (RJ (bO YB (bV 0) (zR 1)) (XM " : " (RJ (zy (ZT zS false) (qj (bO YB (bV 0) (zR 2)) zo)) NZ)))))) U3) (XS (sIf (bTb (bO (DJ false) (bV 1) (QZ "joined"))) (XR (bFs (XM "joined ( " (RJ (zy (ZT Ff false) (qj (bO YB (bV 0) (zR 1)) zo)) (XM " ) ( " (RJ (zy (ZT Ff false) (qj (bO YB (bV 0) (zR 2)) zo)) (XM " )" NZ))))))) U3) (XR (zy (ZT qz false) (qj (bV 0) zo)))))))
def qu:Nat->List PyData->Option PyData
 |0=>λ_=>none
 |j+1=>Pu.run (qF (qu j)).f 1 2 1000000000 false
def jd (j:Nat):Rd (PSp (qu (j+1)) false) 1 (K76.zM (PSp qz false) (PSp zS false) (PSp (qu j) false)) zL:=V8 (qF (qu j)) zL 1 1000000000 false
def q0 {j:Nat} {x0:PyData}:qu (j+1) [x0]=KF false ((qF (qu j)).f 1000000000 [.sh x0,.un]):=id rfl
def qp (Ff:List PyData->Option PyData):PuS (K76.qU (PSp Ff false)):=(XS (sIf (bTb (bO (DJ false) (bO YB (bV 0) (zR 0)) (QZ "joined"))) (XS (qfE (qj (zy (ZT Ff false) (qj (bO YB (bV 0) (zR 1)) zo)) (qj (zy (ZT Ff false) (qj (bO YB (bV 0) (zR 2)) zo)) zo)) 1 2 [true] ⟨rfl⟩) (XR (bO jz (bO jz (bO jz (bO jz (SC (qj (QZ "joined") (qj (QZ "(") zo)) ⟨rfl⟩) (bV 1)) (SC (qj (QZ ")") (qj (QZ "(") zo)) ⟨rfl⟩)) (bV 2)) (SC (qj (QZ ")") zo) ⟨rfl⟩)))) U3) (XS (sIf (bTb (bO (DJ false) (bO YB (bV 0) (zR 0)) (QZ "bits"))) (XR (bO jz (SC (qj (QZ "bits") zo) ⟨rfl⟩) (bLc (EV (bO jz (zy qaZ (qj (M2 (bV 0) (bSp (zR 1)) (bSp (zR 3))) zo)) (zy qaZ (qj (bO YB (bV 0) (zR 3)) zo)))) (gN 0) bTt (zy (ZM true) (qj (bV 0) zo)) [none] ⟨rfl⟩))) U3) (XS (sIf (bTb (bO (DJ true) (bO YB (bV 0) (zR 0)) (QZ "table"))) (XR (bO jz (SC (qj (bO YB (bV 0) (zR 0)) zo) ⟨rfl⟩) (bLc (EV (M2 (bV 0) (bSp (zR 1)) bNp)) (gN 0) bTt (zy (ZM true) (qj (bV 0) zo)) [none] ⟨rfl⟩))) U3) (XS (qdA (SC (qj (QZ "table") (qj (zy (ZM true) (qj (bO YB (bV 0) (zR 1)) zo)) zo)) ⟨rfl⟩) 3 [true] ⟨rfl⟩) (XS (qed (N5 (qj (bO YB (bV 0) (zR 2)) zo)) (qaG 2 (Z5 (gN 4) (Z5 (gN 5) NL))) (qdA (bO jz (bO jz (bV 3) (SC (qj (bIf (bTb (bO (DJ false) (bV 4) (zR 0))) (QZ ":") (QZ "/")) zo) ⟨rfl⟩)) (bLc (EV (bV 5)) (gN 0) bTt (zy (ZM true) (qj (bV 0) zo)) [none] ⟨rfl⟩)) 3 [false,false,false,true,true,true] ⟨rfl⟩) [true] ⟨rfl⟩) (qdv 3))))))
def ql:Nat->List PyData->Option PyData
 |0=>λ_=>none
 |j+1=>Pu.run (qp (ql j)).f 1 6 1000000000 false
def zm (j:Nat):Rd (PSp (ql (j+1)) false) 1 (K76.qU (PSp (ql j) false)) qV:=V8 (qp (ql j)) qV 1 1000000000 false
def qD {j:Nat} {x0:PyData}:ql (j+1) [x0]=KF false ((qp (ql j)).f 1000000000 [.sh x0,.un,.un,.un,.un,.un]):=id rfl
def zk:=((eO YB (eOf (bV 1)) (eDr SQ (aOf (qj (zR 4) zo)))):PwE 2 _)
def zh:PwS 0 (K76.zg Bk.qx Bk.zO):=(XV (wIf (cTb (eO (opB λi j=>decide (j<i)) (eDr SQ (aOf (qj (zR 8) zo))) (eOf (zR 0)))) (qaF (eDr V1 (aOf zo))) RG) (XV (qb6 (eOf (SC (qj (U2 (qj (QZ "skew") (qj (zR 2) (qj (zR 2) (qj (zR 2) (qj (zR 1) (qj (zR 1) zo)))))) ⟨rfl⟩) (qj (U2 (qj (QZ "bits") (qj (zR 1) (qj (zR 0) (qj (U2 (qj (zR 1) zo) ⟨rfl⟩) zo)))) ⟨rfl⟩) (qj (U2 (qj (QZ "rests") (qj (zR 1) (qj (zR 2) (qj (zR 2) (qj (zR 1) zo))))) ⟨rfl⟩) (qj (U2 (qj (QZ "table") (qj (zR 2) (qj (U2 (qj (U2 (qj (zR 1) (qj (zR 0) zo)) ⟨rfl⟩) zo) ⟨rfl⟩) zo))) ⟨rfl⟩) zo)))) ⟨rfl⟩)) 1 [] ⟨rfl⟩ ⟨rfl⟩) (XV (qaN (eLc 2 (iOf (qdC (qj (zR 4) zo))) (gN 0) (cOf bTt) zk [none,some 1,some 0] ⟨rfl⟩ ⟨rfl⟩) 4 (Z5 (gN 2) (Z5 (gN 3) (Z5 (gN 4) (Z5 (gN 5) NL)))) [false,true] ⟨rfl⟩ ⟨rfl⟩) (XV (qb6 (eDr SQ (aOf (qj (zR 4) zo))) 6 [] ⟨rfl⟩ ⟨rfl⟩) (XV (wIf (cOf (bTb (bO (DJ false) (bV 6) (zR 0)))) (qaF (eOf (U2 (qj (QZ "joined") (qj (U2 (qj (QZ "joined") (qj (bV 2) (qj (bV 3) zo))) ⟨rfl⟩) (qj (bV 4) zo))) ⟨rfl⟩))) RG) (XV (wIf (cOf (bTb (bO (DJ false) (bV 6) (zR 1)))) (qaF (eOf (U2 (qj (QZ "joined") (qj (bV 2) (qj (U2 (qj (QZ "joined") (qj (bV 3) (qj (bV 4) zo))) ⟨rfl⟩) zo))) ⟨rfl⟩))) RG) (qaF (eOf (U2 (qj (QZ "joined") (qj (U2 (qj (QZ "joined") (qj (bV 2) (qj (bV 3) zo))) ⟨rfl⟩) (qj (U2 (qj (QZ "joined") (qj (bV 4) (qj (bV 5) zo))) ⟨rfl⟩) zo))) ⟨rfl⟩)))))))))
def qG:Wm:=qfk zh 1 7 false
def ZB:Rd (DSp qG.W false) 1 (K76.zg Bk.qx Bk.zO) zf:=qar zh zf 1 false
def ZL {n:Nat} {Q:QD}:qG.W [] n Q=(0+1=1/\zh.w [.un,.un,.un,.un,.un,.un,.un] n (qe5 false Q)):=id rfl
def qdW (S_law_any_dealing:Sp3) (S_law_dealing_words:Sp3) (S_dealing_text:Sp3):TS3:=(qE (qS (cb3 S_law_any_dealing (qb (v3 3) qh)) (gn3 4)) (qE (YO 5 6 (qb (M8 V5 (c3 (.str " ")) (qb (cb3 S_law_dealing_words (qb (v3 4) qh)) qh)) (qb (cb3 (JI true) (qb (v3 4) qh)) qh))) (qE (U8 (zQ (qb (c3 (.int 2)) qh)) (gn3 7) (qE (qS (cb3 S_dealing_text (qb (v3 4) qh)) (gn3 8)) (zV (or3 (SV (tb3 (SW (λt=>W4 t "str") (v3 8)))) (or3 (tb3 (o3 (z6 true) (v3 8) (v3 5))) (tb3 (o3 (z6 true) (cb3 (JI true) (qb (v3 4) qh)) (v3 6))))) (qX (c3 (.bl false))) qK))) (ZH (bm3 EA (v3 1) (qb (zp (qb (v3 4) (qb (v3 5) qh))) qh))))))
def qcY:TS3:=(qE (U8 (QK (v3 1)) (gn3 9) (zV (tb3 (o3 (z6 true) (lc3 (QK (v3 1)) (jB 2 (qI (gn3 0) (qI (gn3 1) jA))) (SS (tb3 (o3 qdB (v3 0) (o3 ix3 (v3 2) (c3 (.int 0))))) (tb3 (o3 (z6 false) (v3 1) (o3 ix3 (v3 2) (c3 (.int 1)))))) (v3 1) [none,none,some 9]) (ju qh))) (qX (c3 (.bl false))) qK)) (qX (c3 (.bl true))))
def UC:=((XV (qb6 (eOf (zy (ZT (qu 3) false) (qj (bV 4) zo))) 8 [false,false,false,false,true] ⟨rfl⟩ ⟨rfl⟩) (wIf (cOf (bOr (qfX (bTb (qfA (λt=>W4 t "str") (bV 8)))) (bOr (bTb (bO (DJ true) (bV 8) (bV 5))) (bTb (bO (DJ true) (zy (ZM true) (qj (bV 4) zo)) (bV 6)))))) (qaF (eOf (bBl false))) RG)):PwS 3 _)
def T4:PwS 3 (qdW (DSp qG.W false) (PSp (ql 3) false) (PSp (qu 3) false)):=(XV (qb6 (eDr (dSp qG false) (aOf zo)) 4 [] ⟨rfl⟩ ⟨rfl⟩) (XV (qfF (aOf (qj (C6 (QZ " ") (qj (zy (ZT (ql 3) false) (qj (bV 4) zo)) zo)) (qj (zy (ZM true) (qj (bV 4) zo)) zo))) 5 6 [false,false,false,false,true] ⟨rfl⟩ ⟨rfl⟩) (XV (qfM (iOf (qdC (qj (zR 2) zo))) (gN 7) UC [] ⟨rfl⟩ ⟨rfl⟩) (qfn (eOf (U2 (qj (bV 4) (qj (bV 5) zo)) ⟨rfl⟩)) 1 [false,false,false,false,true,true] ⟨rfl⟩ ⟨rfl⟩))))
def WC:PuS (qcY):=(XS (qed (EV (bV 1)) (gN 9) (sIf (bTb (bO (DJ true) (bLc (EV (bV 1)) (qaG 2 (Z5 (gN 0) (Z5 (gN 1) NL))) (qem (bTb (bO qam (bV 0) (bO YB (bV 2) (zR 0)))) (bTb (bO (DJ false) (bV 1) (bO YB (bV 2) (zR 1))))) (bV 1) [none,none,some 9] ⟨rfl⟩) (SC zo ⟨rfl⟩))) (XR (bBl false)) U3) [false,true] ⟨rfl⟩) (XR (bBl true)))
def qcH (P:Nat->List PyData->Prop) (h0:P 0 []) (h:∀ (k:Nat) (ds:List PyData),k<=60->P k ds->T4.w ([.un,.ow ds,.sh (.int k),.un]++List.replicate 6 .un) 0 (qeR (P (k+1)))) (h2:∀ (k:Nat) (ds:List PyData),k<=61->P k ds->∃ fr,WC.f 1000000000 ([.un,.ow ds,.un,.un]++List.replicate 6 .un)=some (.rt (.bool true) fr)):Rd VB 1 (K76.qah Bk.jK (DSp qG.W false) (PSp (ql 3) false) (PSp (qu 3) false)) TQ:=CU T4 WC TQ 10 6 1000000000 P ⟨by decide,by decide⟩ rfl h0 h (λk ds _ _ _ a b _=>h2 k ds a b)
open Bk (Dl)
def ls (x:Str):List Nat:=x.cps.toList
def CO {a b:Str} (h:ls a=ls b):a=b:=Str.ext' (Array.toList_inj.mp h)
def SK (a b:Str):ls (a++b)=ls a++ls b:=by unfold ls;rw [Str.cps_append,Array.toList_append]
def jn:List (List Nat)->List Nat
 |[]=>[]
 |[x]=>x
 |x::y::r=>x++32::jn (y::r)
def jL:∀ ys:List Str,ls (Txt.join " " ys)=jn (ys.map ls)
 |[]=>rfl
 |[x]=>by
  show ls (Builtin.Str.glued " " [x])=_;rw [StrLaws.glued_eq_join];rfl
 |x::y::r=>by
  have ih:=jL (y::r);show ls (Builtin.Str.glued " " (x::y::r))=_;rw [StrLaws.glued_eq_join];have e:Str.join " " (x::y::r)=x++" " ++ Str.join " " (y::r):=rfl;rw [e,SK,SK,← StrLaws.glued_eq_join];show ls x++[32]++ls (Txt.join " " (y::r))=_;rw [ih];simp [jn]
def NF {x y t u:List Nat} (hx:32∉x) (hy:32∉y) (ht:t=[]\/∃ t',t=32::t') (hu:u=[]\/∃ u',u=32::u') (h:x++t=y++u):x=y/\t=u:=by
 induction x generalizing y with
 |nil=>
  cases y with
  |nil=>exact ⟨rfl,h⟩
  |cons b y=>
   rcases ht with rfl|⟨t',rfl⟩
   ·cases h
   ·simp only [List.nil_append,cons_append,List.cons.injEq] at h;exact absurd (h.1▸List.mem_cons_self) hy
 |cons a x ih=>
  cases y with
  |nil=>
   rcases hu with rfl|⟨u',rfl⟩
   ·cases h
   ·simp only [List.nil_append,cons_append,List.cons.injEq] at h;exact absurd (h.1▸List.mem_cons_self) hx
  |cons b y=>
   simp only [cons_append,List.cons.injEq] at h;obtain ⟨e1,e2⟩:=ih (λz=>hx (List.mem_cons_of_mem _ z)) (λz=>hy (List.mem_cons_of_mem _ z)) h.2;exact ⟨by rw [h.1,e1],e2⟩
def SB (x:List Nat) (r:List (List Nat)):jn (x::r)=x++(match r with|[]=>[]|y::s=>32::jn (y::s)):=by
 cases r with
 |nil=>simp [jn]
 |cons y s=>rfl
def MR:∀ {xs ys:List (List Nat)},xs≠[]->ys≠[]->(∀ x∈xs,32∉x)->(∀ y∈ys,32∉y)->jn xs=jn ys->xs=ys
 |[],_,h,_,_,_,_=>absurd rfl h
 |_::_,[],_,h,_,_,_=>absurd rfl h
 |x::r,y::s,_,_,hx,hy,h=>by
  rw [SB,SB] at h;obtain ⟨e1,e2⟩:=NF (hx x (by simp)) (hy y (by simp)) (by cases r<;>simp) (by cases s<;>simp) h;subst e1;cases r with
  |nil=>
   cases s with
   |nil=>rfl
   |cons b s=>cases e2
  |cons a r=>
   cases s with
   |nil=>cases e2
   |cons b s=>
    simp only [List.cons.injEq,true_and] at e2;rw [MR (by simp) (by simp) (λz hz=>hx z (by simp only [mem_cons] at hz ⊢;exact .inr hz)) (λz hz=>hy z (by simp only [mem_cons] at hz ⊢;exact .inr hz)) e2]
def num (i:Int):Str:=Str.ofString (toString i)
def qag {a b:String} (h:Str.ofString a=Str.ofString b):a=b:=by
 rw [Str.ofString_eq_toList,Str.ofString_eq_toList] at h;have e2:=congrArg (λx:Str=>x.cps.toList) h;simp only at e2;have:a.toList=b.toList:=(List.map_inj_right (λx y hxy=>Char.ext (UInt32.toNat_inj.mp hxy))).mp e2;exact String.ext this
def zG {i j:Int} (h:num i=num j):i=j:=Int.repr_inj.mp (qag h)
def WR {i:Int} {k:Nat} (hk:k≠45/\(k<48\/57<k)):k∉ls (num i):=PyProof.Rows.int_text_free' k hk i
def rws:Bool->List (List Int)->List Str
 |_,[]=>[]
 |b,r::t=>(if b then (":" : Str) else ("/" : Str))::(r.map num++rws false t)
def wds:Dl->List Str
 |.skew r c b x y=>["skew",num r,num c,num b,num x,num y]
 |.rests r c b p=>["rests",num r,num c,num b,num p]
 |.bits h l ms=>"bits" :: num h::num l::ms.map num
 |.table b cells=>"table" :: num b::rws true cells
 |.joined d e=>("joined" : Str)::("(" : Str)::(wds d++(")" : Str)::("(" : Str)::(wds e++[(")" : Str)]))
def txt (d:Dl):Str:=Txt.join " " (wds d)
def LZ {i:Int} {x:Str} {k:Nat} (hk:k≠45/\(k<48\/57<k)) (hx:k∈ls x):num i≠x:=λe=>WR (i:=i) hk (e▸hx)
def qf7 {i:Int}:num i≠")" := LZ (k:=41) (by decide) (by decide)
def qgm {i:Int}:num i≠"/" := LZ (k:=47) (by decide) (by decide)
def En (r:List Str):Prop:=r=[]\/∃ r',r=(")" : Str)::r'
def Sp (r:List Str):Prop:=r=[]\/∃ x r',r=x::r'/\∀ i,num i≠x
def En.sp {r:List Str} (h:En r):Sp r:=by
 rcases h with h|⟨r',h⟩
 ·exact .inl h
 ·exact .inr ⟨_,r',h,λi=>qf7⟩
def ES:∀ {ms ns:List Int} {r s:List Str},Sp r->Sp s->ms.map num++r=ns.map num++s->ms=ns/\r=s
 |[],[],_,_,_,_,h=>⟨rfl,h⟩
 |[],n::ns,r,s,hr,_,h=>by
  rcases hr with rfl|⟨x,r',rfl,hx⟩
  ·cases h
  ·simp only [List.map_nil,List.nil_append,map_cons,cons_append,List.cons.injEq] at h;exact absurd h.1.symm (hx n)
 |m::ms,[],r,s,_,hs,h=>by
  rcases hs with rfl|⟨x,r',rfl,hx⟩
  ·cases h
  ·simp only [List.map_nil,List.nil_append,map_cons,cons_append,List.cons.injEq] at h;exact absurd h.1 (hx m)
 |m::ms,n::ns,r,s,hr,hs,h=>by
  simp only [map_cons,cons_append,List.cons.injEq] at h;obtain ⟨e1,e2⟩:=ES hr hs h.2;exact ⟨by rw [zG h.1,e1],e2⟩
def LF {t:List (List Int)} {r:List Str} (h:En r):Sp (rws false t++r):=by
 cases t with
 |nil=>exact h.sp
 |cons a t=>exact .inr ⟨_,_,rfl,λi=>qgm⟩
def X9:∀ {b:Bool} {t u:List (List Int)} {r s:List Str},En r->En s->rws b t++r=rws b u++s->t=u/\r=s
 |_,[],[],_,_,_,_,h=>⟨rfl,h⟩
 |b,[],a::u,r,s,hr,_,h=>by
  rcases hr with rfl|⟨r',rfl⟩
  ·cases h
  ·simp only [rws,List.nil_append,cons_append,List.cons.injEq] at h;have:=h.1;cases b<;>exact absurd this (by decide)
 |b,a::t,[],r,s,_,hs,h=>by
  rcases hs with rfl|⟨r',rfl⟩
  ·cases h
  ·simp only [rws,List.nil_append,cons_append,List.cons.injEq] at h;have:=h.1;cases b<;>exact absurd this (by decide)
 |b,a::t,c::u,r,s,hr,hs,h=>by
  simp only [rws,cons_append,List.append_assoc,List.cons.injEq,true_and] at h;obtain ⟨e1,e2⟩:=ES (LF hr) (LF hs) h;obtain ⟨e3,e4⟩:=X9 hr hs e2;exact ⟨by rw [e1,e3],e4⟩
def EX:∀ {d e:Dl} {r s:List Str},En r->En s->wds d++r=wds e++s->d=e/\r=s
 |.skew ..,.skew ..,_,_,_,_,h=>by
  simp only [wds,cons_append,List.nil_append,List.cons.injEq,true_and] at h;obtain ⟨h1,h2,h3,h4,h5,h6⟩:=h;exact ⟨by rw [zG h1,zG h2,zG h3,zG h4,zG h5],h6⟩
 |.rests ..,.rests ..,_,_,_,_,h=>by
  simp only [wds,cons_append,List.nil_append,List.cons.injEq,true_and] at h;obtain ⟨h1,h2,h3,h4,h6⟩:=h;exact ⟨by rw [zG h1,zG h2,zG h3,zG h4],h6⟩
 |.bits ..,.bits ..,_,_,hr,hs,h=>by
  simp only [wds,cons_append,List.cons.injEq,true_and] at h;obtain ⟨h1,h2,h3⟩:=h;obtain ⟨e1,e2⟩:=ES hr.sp hs.sp h3;exact ⟨by rw [Int.ofNat_inj.mp (zG h1),Int.ofNat_inj.mp (zG h2),e1],e2⟩
 |.table ..,.table ..,_,_,hr,hs,h=>by
  simp only [wds,cons_append,List.cons.injEq,true_and] at h;obtain ⟨h1,h3⟩:=h;obtain ⟨e1,e2⟩:=X9 hr hs h3;exact ⟨by rw [zG h1,e1],e2⟩
 |.joined d e,.joined d' e',r,s,hr,hs,h=>by
  simp only [wds,cons_append,List.append_assoc,List.nil_append,List.cons.injEq,true_and] at h;obtain ⟨e1,e2⟩:=EX (d:=d) (e:=d') (.inr ⟨_,rfl⟩) (.inr ⟨_,rfl⟩) h;simp only [List.cons.injEq,true_and] at e2;obtain ⟨e3,e4⟩:=EX (d:=e) (e:=e') (.inr ⟨_,rfl⟩) (.inr ⟨_,rfl⟩) e2;simp only [List.cons.injEq,true_and] at e4;exact ⟨by rw [e1,e3],e4⟩
 |.skew ..,.rests ..,_,_,_,_,h=>absurd (List.cons.inj h).1 (by decide)
 |.skew ..,.bits ..,_,_,_,_,h=>absurd (List.cons.inj h).1 (by decide)
 |.skew ..,.table ..,_,_,_,_,h=>absurd (List.cons.inj h).1 (by decide)
 |.skew ..,.joined ..,_,_,_,_,h=>absurd (List.cons.inj h).1 (by decide)
 |.rests ..,.skew ..,_,_,_,_,h=>absurd (List.cons.inj h).1 (by decide)
 |.rests ..,.bits ..,_,_,_,_,h=>absurd (List.cons.inj h).1 (by decide)
 |.rests ..,.table ..,_,_,_,_,h=>absurd (List.cons.inj h).1 (by decide)
 |.rests ..,.joined ..,_,_,_,_,h=>absurd (List.cons.inj h).1 (by decide)
 |.bits ..,.skew ..,_,_,_,_,h=>absurd (List.cons.inj h).1 (by decide)
 |.bits ..,.rests ..,_,_,_,_,h=>absurd (List.cons.inj h).1 (by decide)
 |.bits ..,.table ..,_,_,_,_,h=>absurd (List.cons.inj h).1 (by decide)
 |.bits ..,.joined ..,_,_,_,_,h=>absurd (List.cons.inj h).1 (by decide)
 |.table ..,.skew ..,_,_,_,_,h=>absurd (List.cons.inj h).1 (by decide)
 |.table ..,.rests ..,_,_,_,_,h=>absurd (List.cons.inj h).1 (by decide)
 |.table ..,.bits ..,_,_,_,_,h=>absurd (List.cons.inj h).1 (by decide)
 |.table ..,.joined ..,_,_,_,_,h=>absurd (List.cons.inj h).1 (by decide)
 |.joined ..,.skew ..,_,_,_,_,h=>absurd (List.cons.inj h).1 (by decide)
 |.joined ..,.rests ..,_,_,_,_,h=>absurd (List.cons.inj h).1 (by decide)
 |.joined ..,.bits ..,_,_,_,_,h=>absurd (List.cons.inj h).1 (by decide)
 |.joined ..,.table ..,_,_,_,_,h=>absurd (List.cons.inj h).1 (by decide)
def X8 {i:Int}:32∉ls (num i):=WR (by decide)
def qaP:∀ {b:Bool} {t:List (List Int)},∀ x∈rws b t,32∉ls x
 |_,[],x,h=>by cases h
 |b,r::t,x,h=>by
  simp only [rws,cons_append,mem_cons,List.mem_append,mem_map] at h;rcases h with rfl|⟨i,_,rfl⟩|h
  ·cases b<;>decide
  ·exact X8
  ·exact qaP x h
def S0:∀ {d:Dl},∀ x∈wds d,32∉ls x
 |.skew ..,x,h=>by
  simp only [wds,mem_cons,not_mem_nil,or_false] at h;rcases h with rfl|rfl|rfl|rfl|rfl|rfl
  ·decide
  all_goals exact X8
 |.rests ..,x,h=>by
  simp only [wds,mem_cons,not_mem_nil,or_false] at h;rcases h with rfl|rfl|rfl|rfl|rfl
  ·decide
  all_goals exact X8
 |.bits ..,x,h=>by
  simp only [wds,mem_cons,mem_map] at h;rcases h with rfl|rfl|rfl|⟨i,_,rfl⟩
  ·decide
  all_goals exact X8
 |.table ..,x,h=>by
  simp only [wds,mem_cons] at h;rcases h with rfl|rfl|h
  ·decide
  ·exact X8
  ·exact qaP x h
 |.joined d e,x,h=>by
  simp only [wds,mem_cons,List.mem_append,not_mem_nil,or_false] at h;rcases h with rfl|rfl|h|rfl|rfl|h|rfl
  ·decide
  ·decide
  ·exact S0 x h
  ·decide
  ·decide
  ·exact S0 x h
  ·decide
def WD {d:Dl}:wds d≠[]:=by cases d<;>simp [wds]
def NS {d e:Dl} (h:txt d=txt e):d=e:=by
 have h2:=congrArg ls h;unfold txt at h2;rw [jL,jL] at h2;have h3:=MR (by simp [WD]) (by simp [WD]) (λx hx=>by obtain ⟨y,hy,rfl⟩:=mem_map.mp hx;exact S0 y hy) (λx hx=>by obtain ⟨y,hy,rfl⟩:=mem_map.mp hx;exact S0 y hy) h2;have h4:wds d=wds e:=(List.map_inj_right (λa b z=>CO z)).mp h3;exact (EX (r:=[]) (s:=[]) (.inl rfl) (.inl rfl) (by rw [h4])).1
open Pv (dlD J9)
def lsA (a b:Str):ls (a++b)=ls a++ls b:=SK a b
def U4:∀ {xs ys:List (List Nat)},xs≠[]->ys≠[]->jn (xs++ys)=jn xs++32::jn ys
 |[],_,h,_=>absurd rfl h
 |[x],y::ys,_,_=>rfl
 |[x],[],_,h=>absurd rfl h
 |x::z::r,ys,_,hy=>by
  have ih:=U4 (xs:=z::r) (by simp) hy;show x++32::jn (z::(r++ys))=_;rw [show z::(r++ys)=(z::r)++ys from rfl,ih];simp [jn]
def LI {x:List Nat} {ys:List (List Nat)} (hy:ys≠[]):jn (x::ys)=x++32::jn ys:=U4 (xs:=[x]) (by simp) hy
def K3 {n:Nat}:∀ {ys:List Str},(∀ y∈ys,y.length<=n)->(ys.map (·.length)).sum<=n*ys.length
 |[],_=>by simp
 |y::r,h=>by
  have:=K3 (ys:=r) λz hz=>h z (by simp [hz]);have:=h y (by simp);simp only [map_cons,List.sum_cons,length_cons,Nat.mul_succ];omega
def WL (sep:Str):∀ ys:List Str,(Str.join sep ys).length<=(ys.map (·.length)).sum+ys.length*sep.length
 |[]=>by show Str.empty.length<=_;simp [Str.empty,Str.length]
 |[x]=>by show x.length<=_;simp
 |x::y::r=>by
  have ih:=WL sep (y::r);show (x++sep++Str.join sep (y::r)).length<=_;rw [Str.length_append,Str.length_append];simp only [map_cons,List.sum_cons,length_cons,Nat.add_mul,Nat.one_mul] at ih ⊢;omega
def qbe (sep:Str) (ys:List Str):(Txt.join sep ys).length<=(ys.map (·.length)).sum+ys.length*sep.length:=by
 show (Builtin.Str.glued sep ys).length<=_;rw [StrLaws.glued_eq_join];exact WL sep ys
def jv {i:Int} (h:-1000000000<=i/\i<=1000000000):(num i).length<=12:=by
 have:=int_text_length_le10 (a:=i) (k:=10) (by decide) (by omega);unfold num;rw [ofString_length];omega
def tkD:PyData->Str
 |.str s=>s
 |.int i=>num i
 |_=>Str.empty
def O1:PyData->Prop
 |.str s=>s.length<=12
 |.int i=>-1000000000<=i/\i<=1000000000
 |_=>False
def qcS {x:PyData} (h:O1 x):(tkD x).length<=12:=by
 cases x with
 |str s=>exact h
 |int i=>exact jv h
 |_=>exact h.elim
def C8 {x:PyData} (h:O1 x):ET true [x]=some (.str (tkD x)):=by
 cases x with
 |str s=>exact qcn
 |int i=>exact KS h
 |_=>exact h.elim
def qb8 {ds:List PyData} {H:PyData->Option (Option PyData)} (hh:∀ d∈ds,H d=some (some (.str (tkD d)))):lcP H ds=some ((ds.map tkD).map PyData.str):=by
 have:=CV (g:=id) (xs:=ds) (k:=λd=>PyData.str (tkD d)) hh;rw [List.map_id] at this;rw [this,map_map];rfl
def jb {n m:Nat} {sep:Str} {ys:List Str} (h:∀ y∈ys,y.length<=n) (hl:ys.length<=m) (hs:sep.length<=3) (hb:(n+3)*m<=16777216):EO sep ys/\(Txt.join sep ys).length<=(n+3)*m:=by
 have a:=K3 h;have b:=qbe sep ys;have c:n*ys.length<=n*m:=Nat.mul_le_mul_left _ hl;have d:ys.length*sep.length<=m*3:=Nat.mul_le_mul hl hs;rw [Nat.add_mul] at hb ⊢;unfold EO;omega
def qdE {ds:List PyData} (h:∀ x∈ds,O1 x) (hl:ds.length<=100000):qz [.tuple ds]=some (.str (Txt.join " " (ds.map tkD))):=by
 rw [DI];unfold QJ;have lc:=J3 (pi:=(EV (bV 0)).f) (h:=lcH (gN 0).f bTt.f (zy (ZM true) (qj (bV 0) zo)).f) (m:=[none]) (ρ:=[.sh (.tuple ds)]) (ds:=ds) (fs:=(ds.map tkD).map PyData.str) (by try simp only [Pu.pwA]) (qb8 λd hd=>by try simp only [Pu.pwA,X6,ZU,C8 (h d hd)]) (by simp;omega);simp only [Pu.pwA] at lc;have j:=(jb (n:=12) (m:=100000) (sep:=" ") (ys:=ds.map tkD) (λy hy=>by obtain ⟨x,hx,rfl⟩:=mem_map.mp hy;exact qcS (h x hx)) (by simpa using hl) (by decide) (by decide)).1
 try simp only [Pu.pwA,DE,lc,EG j]
def WU {r:List Int}:(r.map PyData.int).map tkD=r.map num:=by rw [map_map];rfl
def rt (r:List Int):Str:=Txt.join " " (r.map num)
def NB (r:List Int):Prop:=∀ i∈r,-1000000000<=i/\i<=1000000000
def qfp {r:List Int} (h:NB r):∀ x∈r.map PyData.int,O1 x:=λx hx=>by
 obtain ⟨i,hi,rfl⟩:=mem_map.mp hx;exact h i hi
def qgs {cells:List (List Int)} (h:∀ r∈cells,NB r/\r.length<=100) (hl:cells.length<=100):zS [.tuple (cells.map J9)]=some (.str (Txt.join " / " (cells.map rt)))/\(Txt.join " / " (cells.map rt)).length<=200000:=by
 have rl:∀ r∈cells,(rt r).length<=1500:=λr hr=>(jb (n:=12) (m:=100) (sep:=" ") (ys:=r.map num) (λy hy=>by obtain ⟨x,hx,rfl⟩:=mem_map.mp hy;exact jv ((h r hr).1 x hx)) (by simpa using (h r hr).2) (by decide) (by decide)).2;have j:=jb (n:=1500) (m:=100) (sep:=" / ") (ys:=cells.map rt) (λy hy=>by obtain ⟨x,hx,rfl⟩:=mem_map.mp hy;exact rl x hx) (by simpa using hl) (by decide) (by decide);refine ⟨?_,by have:=j.2;omega⟩;rw [W8];unfold Q8;have lc:=J3 (pi:=(EV (bV 0)).f) (h:=lcH (gN 0).f bTt.f (zy (ZT qz false) (qj (bV 0) zo)).f) (m:=[none]) (ρ:=[.sh (.tuple (cells.map J9))]) (ds:=cells.map J9) (fs:=(cells.map rt).map PyData.str) (by try simp only [Pu.pwA]) (by
  rw [map_map];refine CV λr hr=>?_;have:=qdE (qfp (h r hr).1) (by have:=(h r hr).2;simp;omega);rw [WU] at this
  try simp only [Pu.pwA,X6,J9,this]
  rfl) (by simp;omega)
 simp only [Pu.pwA] at lc
 try simp only [Pu.pwA,DE,lc,EG j.1]
def rw2:List (List Int)->List Str
 |[]=>[]
 |r::t=>r.map num++rws false t
def qgr (sep:Str) (x y:Str) (r:List Str):ls (Txt.join sep (x::y::r))=ls x++ls sep++ls (Txt.join sep (y::r)):=by
 show ls (Builtin.Str.glued sep (x::y::r))=_++ls (Builtin.Str.glued sep (y::r));rw [StrLaws.glued_eq_join,StrLaws.glued_eq_join];show ls (x++sep++Str.join sep (y::r))=_;rw [lsA,lsA]
def qeE (sep x:Str):Txt.join sep [x]=x:=by
 show Builtin.Str.glued sep [x]=_;rw [StrLaws.glued_eq_join];rfl
def C5:∀ {cells:List (List Int)},cells≠[]->(∀ r∈cells,r≠[])->ls (Txt.join " / " (cells.map rt))=jn ((rw2 cells).map ls)
 |[],h,_=>absurd rfl h
 |[r],_,hr=>by
  rw [map_cons,List.map_nil,qeE,rt,jL];simp [rw2,rws]
 |r::s::t,_,hr=>by
  have ih:=C5 (cells:=s::t) (by simp) λx hx=>hr x (by simp only [mem_cons] at hx ⊢;exact .inr hx);have hne:r≠[]:=hr r (by simp);have hs:s≠[]:=hr s (by simp);rw [map_cons,map_cons,qgr,← map_cons,ih,rt,jL];have e:(rw2 (r::s::t)).map ls=(r.map num).map ls++(ls ("/" : Str)::(rw2 (s::t)).map ls):=by
   simp [rw2,rws]
  rw [e,U4 (by simpa using hne) (by simp),LI (by simp [rw2,hs])];show _++[32,47,32]++_=_++32::([47]++32::_);simp
def qfq:decide (Str.ofString "skew" = Str.ofString "bits")=false:=by decide
def qfT:decide (Str.ofString "skew" = Str.ofString "table")=false:=by decide
def qfv:decide (Str.ofString "skew" = Str.ofString "joined")=false:=by decide
def qfW:decide (Str.ofString "rests" = Str.ofString "bits")=false:=by decide
def qfu:decide (Str.ofString "rests" = Str.ofString "table")=false:=by decide
def qfG:decide (Str.ofString "rests" = Str.ofString "joined")=false:=by decide
def qfR:decide (Str.ofString "bits" = Str.ofString "bits")=true:=by decide
def qgh:decide (Str.ofString "bits" = Str.ofString "joined")=false:=by decide
def qfd:decide (Str.ofString "table" = Str.ofString "bits")=false:=by decide
def qff:decide (Str.ofString "table" = Str.ofString "table")=true:=by decide
def qgq:decide (Str.ofString "table" = Str.ofString "joined")=false:=by decide
def qf2:decide (Str.ofString "joined" = Str.ofString "bits")=false:=by decide
def qgl:decide (Str.ofString "joined" = Str.ofString "table")=false:=by decide
def qfL:decide (Str.ofString "joined" = Str.ofString "joined")=true:=by decide
def qaK {d:Dl} {m:Nat} (hl:(wds d).length<=m) (h:∀ y∈wds d,y.length<=12) (hm:m<=1000000):(txt d).length<=15*m:=(jb (n:=12) (m:=m) (sep:=" ") h hl (by decide) (by omega)).2
def EJ:∀ {b:Bool} {t:List (List Int)} {n:Nat},(∀ r∈t,r.length<=n)->(rws b t).length<=t.length*(n+1)
 |_,[],_,_=>by simp [rws]
 |b,r::t,n,h=>by
  have:=EJ (b:=false) (t:=t) λx hx=>h x (by simp [hx]);have:=h r (by simp);simp only [rws,length_cons,length_append,length_map,Nat.add_mul,Nat.one_mul];omega
def qaL:∀ {b:Bool} {t:List (List Int)},(∀ r∈t,NB r)->∀ y∈rws b t,y.length<=12
 |_,[],_,y,hy=>by cases hy
 |b,r::t,h,y,hy=>by
  simp only [rws,mem_cons,List.mem_append,mem_map] at hy;rcases hy with rfl|⟨i,hi,rfl⟩|hy
  ·cases b<;>decide
  ·exact jv (h r (by simp) i hi)
  ·exact qaL (λx hx=>h x (by simp [hx])) y hy
def WW:∀ (d:Dl),d.Ok->(wds d).length<=5000*3 ^ d.dep/\∀ y∈wds d,y.length<=12
 |.skew r c b x y,ok=>by
  obtain ⟨a1,a2,a3,a4,a5,a6,a7,a8,a9,a0⟩:=ok;refine ⟨by simp [wds,Dl.dep],λz hz=>?_⟩;simp only [wds,mem_cons,not_mem_nil,or_false] at hz;rcases hz with rfl|rfl|rfl|rfl|rfl|rfl
  ·decide
  all_goals exact jv (by omega)
 |.rests r c b p,ok=>by
  obtain ⟨a1,a2,a3,a4,a5,a6,a7,a8,a9,a0⟩:=ok;refine ⟨by simp [wds,Dl.dep],λz hz=>?_⟩;simp only [wds,mem_cons,not_mem_nil,or_false] at hz;rcases hz with rfl|rfl|rfl|rfl|rfl
  ·decide
  all_goals exact jv (by omega)
 |.bits h l ms,ok=>by
  obtain ⟨a1,a2,a3,a4⟩:=ok;have q:(2:Int) ^ (h+l)<=2 ^ 8:=Bk.JL (by omega);refine ⟨by simp [wds,Dl.dep];omega,λz hz=>?_⟩;simp only [wds,mem_cons,mem_map] at hz;rcases hz with rfl|rfl|rfl|⟨i,hi,rfl⟩
  ·decide
  ·exact jv (by omega)
  ·exact jv (by omega)
  ·have:=a4 i hi;exact jv (by omega)
 |.table b cells,ok=>by
  obtain ⟨a1,a2,a3,a4,c,a5,a6,a7⟩:=ok;have rl:=EJ (b:=true) (t:=cells) (n:=60) λr hr=>by have:=(a7 r hr).1;omega
  have:cells.length*(60+1)<=60*61:=Nat.mul_le_mul a4 (by omega);refine ⟨by simp [wds,Dl.dep];omega,λz hz=>?_⟩;simp only [wds,mem_cons] at hz;rcases hz with rfl|rfl|hz
  ·decide
  ·exact jv (by omega)
  ·exact qaL (λr hr i hi=>by have:=(a7 r hr).2 i hi;omega) z hz
 |.joined d e,ok=>by
  obtain ⟨d1,d2⟩:=WW d ok.1;obtain ⟨e1,e2⟩:=WW e ok.2.1;have p1:3 ^ d.dep<=3 ^ (max d.dep e.dep):=Nat.pow_le_pow_right (by decide) (Nat.le_max_left ..);have p2:3 ^ e.dep<=3 ^ (max d.dep e.dep):=Nat.pow_le_pow_right (by decide) (Nat.le_max_right ..);have p3:1<=3 ^ (max d.dep e.dep):=Nat.one_le_pow _ _ (by decide);refine ⟨?_,λz hz=>?_⟩
  ·simp only [wds,Dl.dep,length_cons,length_append,length_nil,Nat.pow_succ];omega
  ·simp only [wds,mem_cons,List.mem_append,not_mem_nil,or_false] at hz;rcases hz with rfl|rfl|hz|rfl|rfl|hz|rfl
   ·decide
   ·decide
   ·exact d2 z hz
   ·decide
   ·decide
   ·exact e2 z hz
   ·decide
def qfz {d:Dl} (ok:d.Ok) (hd:d.dep<=2):(txt d).length<=700000:=by
 obtain ⟨a,b⟩:=WW d ok;have:3 ^ d.dep<=3 ^ 2:=Nat.pow_le_pow_right (by decide) hd;have:=qaK (m:=45000) (d:=d) (by omega) b (by decide);omega
def WK {xs ys:List PyData} (h:xs.length+ys.length<=16777216):W5 (.list xs) (.list ys)=some (.list (xs++ys)):=zr h
def qeB:∀ (d:Dl) (j:Nat),d.Ok->d.dep<j->d.dep<=2->qu j [dlD d]=some (.str (txt d))
 |d,0,_,h,_=>by omega
 |.skew r c b x y,j+1,ok,_,_=>by
  obtain ⟨a1,a2,a3,a4,a5,a6,a7,a8,a9,a0⟩:=ok;have iw:=qdE (ds:=[.str "skew",.int r,.int c,.int b,.int x,.int y]) (λz hz=>by
   simp only [mem_cons,not_mem_nil,or_false] at hz;rcases hz with rfl|rfl|rfl|rfl|rfl|rfl
   ·show (("skew" : Str).length)<=12;decide
   all_goals exact ⟨by omega,by omega⟩) (by simp)
  rw [q0]
  try simp only [Pu.pwA,dlD,qF,qfq,qfT,qfv,iw]
  rfl
 |.rests r c b p,j+1,ok,_,_=>by
  obtain ⟨a1,a2,a3,a4,a5,a6,a7,a8,a9,a0⟩:=ok;have iw:=qdE (ds:=[.str "rests",.int r,.int c,.int b,.int p]) (λz hz=>by
   simp only [mem_cons,not_mem_nil,or_false] at hz;rcases hz with rfl|rfl|rfl|rfl|rfl
   ·show (("rests" : Str).length)<=12;decide
   all_goals exact ⟨by omega,by omega⟩) (by simp)
  rw [q0]
  try simp only [Pu.pwA,dlD,qF,qfW,qfu,qfG,iw]
  rfl
 |.bits h l ms,j+1,ok,_,_=>by
  obtain ⟨a1,a2,a3,a4⟩:=ok;have q:(2:Int) ^ (h+l)<=2 ^ 8:=Bk.JL (by omega);have iw:=qdE (ds:=.str "bits" :: .int (h:Int)::.int (l:Int)::ms.map PyData.int) (λz hz=>by
   simp only [mem_cons,mem_map] at hz;rcases hz with rfl|rfl|rfl|⟨i,hi,rfl⟩
   ·show (("bits" : Str).length)<=12;decide
   ·exact ⟨by omega,by omega⟩
   ·exact ⟨by omega,by omega⟩
   ·have:=a4 i hi;exact ⟨by omega,by omega⟩) (by simp;omega)
  have s1:slA (.tuple [.str "bits",.int (h:Int),.int (l:Int),.tuple (ms.map PyData.int)]) none (some 3)=some (.tuple [.str "bits",.int (h:Int),.int (l:Int)]):=rfl;have ca:W5 (.tuple [.str "bits",.int (h:Int),.int (l:Int)]) (.tuple (ms.map PyData.int))=some (.tuple (.str "bits" :: .int (h:Int)::.int (l:Int)::ms.map PyData.int)):=qbr (by simp;omega);rw [q0]
  try simp only [Pu.pwA,dlD,qF,qfR,QR,zD,s1,ca,iw]
  rw [map_cons,map_cons,map_cons,WU];rfl
 |.table b cells,j+1,ok,_,_=>by
  have ok':=ok;obtain ⟨a1,a2,a3,a4,c,a5,a6,a7⟩:=ok;obtain ⟨ir,il⟩:=qgs (cells:=cells) (λr hr=>⟨λi hi=>by have:=(a7 r hr).2 i hi;omega,by have:=(a7 r hr).1;omega⟩) (by omega);have bl:=jv (i:=b) (by omega);have gl:JG ["table ",num b," : ",Txt.join " / " (cells.map rt)]=txt (.table b cells):=by
   refine CO ?_;have hne:cells≠[]:=by rintro rfl;simp at a3
   have hr:∀ r∈cells,r≠[]:=λr hr=>by rintro rfl;have:=(a7 _ hr).1;simp at this;omega
   unfold txt JG JG JG JG JG;rw [lsA,lsA,lsA,lsA,C5 hne hr,jL];cases cells with
   |nil=>exact absurd rfl hne
   |cons r t=>
    have e:(wds (.table b (r::t))).map ls=ls ("table" : Str)::ls (num b)::ls (":" : Str)::(rw2 (r::t)).map ls:=by simp [wds,rws,rw2]
    have n2:(rw2 (r::t)).map ls≠[]:=by simp [rw2,hr r (by simp)]
    rw [e,LI (by simp),LI (by simp),LI n2];show ls ("table " : Str)++(ls (num b)++(ls (" : " : Str)++(_++ls Str.empty)))=_;have l1:ls ("table " : Str)=ls ("table" : Str)++[32]:=by decide
    have l2:ls (" : " : Str)=32::(ls (":" : Str)++[32]):=by decide
    have l3:ls Str.empty=[]:=by decide
    rw [l1,l2,l3];simp
  have gb:(JG ["table ",num b," : ",Txt.join " / " (cells.map rt)]).length<=sizeLine:=by
   rw [gl];have:=qfz ok' (show (Dl.table b cells).dep<=2 from Nat.zero_le _);rw [sizeLine_eq];omega
  rw [q0]
  try simp only [Pu.pwA,dlD,qF,qfd,qff,qck,RY,RO,CI,ir,qcT,qdZ (show -1000000000<=b/\b<=1000000000 by omega),Option.bind_some,Option.map_some]
  rw [show Str.ofString (toString b)=num b from rfl,zr gb,gl];rfl
 |.joined d e,j+1,ok,hj,h2=>by
  simp only [Dl.dep] at hj h2;have m1:=Nat.le_max_left d.dep e.dep;have m2:=Nat.le_max_right d.dep e.dep;have i1:=qeB d j ok.1 (by omega) (by omega);have i2:=qeB e j ok.2.1 (by omega) (by omega);have gl:JG ["joined ( ",txt d," ) ( ",txt e," )"]=txt (.joined d e):=by
   refine CO ?_;have dn:(wds d).map ls≠[]:=by simp [WD]
   have en:(wds e).map ls≠[]:=by simp [WD]
   unfold JG JG JG JG JG JG;rw [lsA,lsA,lsA,lsA,lsA];show _++(ls (Txt.join " " (wds d))++(_++(ls (Txt.join " " (wds e))++_)))=ls (Txt.join " " (wds (.joined d e)));rw [jL,jL,jL];have ee:(wds (.joined d e)).map ls=ls ("joined" : Str)::ls ("(" : Str)::((wds d).map ls++ls (")" : Str)::ls ("(" : Str)::((wds e).map ls++[ls (")" : Str)])):=by simp [wds]
   rw [ee,LI (by simp),LI (by simp),U4 dn (by simp),LI (by simp),LI (by simp),U4 en (by simp)];have l1:ls ("joined ( " : Str)=ls ("joined" : Str)++32::(ls ("(" : Str)++[32]):=by decide
   have l2:ls (" ) ( " : Str)=32::(ls (")" : Str)++32::(ls ("(" : Str)++[32])):=by decide
   have l3:ls (" )" : Str)=32::jn [ls (")" : Str)]:=by decide
   have l4:ls Str.empty=[]:=by decide
   rw [l1,l2,l3,l4];simp
  have gb:(JG ["joined ( ",txt d," ) ( ",txt e," )"]).length<=sizeLine:=by
   rw [gl];have:=qfz ok (show (Dl.joined d e).dep<=2 by simp only [Dl.dep];omega);rw [sizeLine_eq];omega
  rw [q0]
  try simp only [Pu.pwA,dlD,qF,qf2,qgl,qfL,qck,RY,RO,CI,i1,i2,qcT,Option.bind_some,Option.map_some]
  rw [zr gb,gl];rfl
def qdt {i j:Nat} {m:List Bool} {x y:List PyData} {ρ:Rho}:qab i j m [.list x,.list y] ρ=some (.nx (((dm m ρ).set i (.sh (.list x))).set j (.sh (.list y)))):=id rfl
abbrev sD (ys:List Str):PyData:=.list (ys.map PyData.str)
def ER {xs ys:List Str} (h:xs.length+ys.length<=16777216):W5 (.list (xs.map PyData.str)) (.list (ys.map PyData.str))=some (.list ((xs++ys).map PyData.str)):=by
 rw [List.map_append];exact WK (by simpa using h)
def VT {ds:List PyData} {ρ:Rho} {s:Sl} (h:∀ x∈ds,O1 x):lcP (lcH (gN 0).f bTt.f (zy (ZM true) (qj (bV 0) zo)).f [s]) ds=some ((ds.map tkD).map PyData.str):=qb8 λd hd=>by try simp only [Pu.pwA,X6,ZU,C8 (h d hd)]
def qfb:∀ (d:Dl) (j:Nat),d.Ok->d.dep<j->d.dep<=2->ql j [dlD d]=some (sD (wds d))
 |d,0,_,h,_=>by omega
 |.skew r c b x y,j+1,ok,_,_=>by
  obtain ⟨a1,a2,a3,a4,a5,a6,a7,a8,a9,a0⟩:=ok;have s1:slA (.tuple [.str "skew",.int r,.int c,.int b,.int x,.int y]) (some 1) none=some (.tuple [.int r,.int c,.int b,.int x,.int y]):=rfl;have lc:=λρ h1=>J3 (pi:=(EV (M2 (bV 0) (bSp (zR 1)) bNp)).f) (h:=lcH (gN 0).f bTt.f (zy (ZM true) (qj (bV 0) zo)).f) (m:=[none]) (ρ:=ρ) (ds:=[.int r,.int c,.int b,.int x,.int y]) (fs:=[num r,num c,num b,num x,num y].map PyData.str) h1 (VT (ρ:=ρ) λz hz=>by
   simp only [mem_cons,not_mem_nil,or_false] at hz;rcases hz with rfl|rfl|rfl|rfl|rfl<;>exact ⟨by omega,by omega⟩) (by simp)
  have l1:=lc [.sh (.tuple [.str "skew",.int r,.int c,.int b,.int x,.int y]),.un,.un,.un,.un,.un] (by try simp only [Pu.pwA,QR,s1]);simp only [QR,Pu.pwA] at l1;have ca:W5 (.list [.str "skew"]) (.list ([num r,num c,num b,num x,num y].map PyData.str))=some (sD (wds (.skew r c b x y))):=ER (xs:=["skew"]) (by simp);rw [qD]
  try simp only [Pu.pwA,dlD,qp,qfq,qfT,qfv,QR,zD,l1,ca,Bool.not_false]
 |.rests r c b p,j+1,ok,_,_=>by
  obtain ⟨a1,a2,a3,a4,a5,a6,a7,a8,a9,a0⟩:=ok;have s1:slA (.tuple [.str "rests",.int r,.int c,.int b,.int p]) (some 1) none=some (.tuple [.int r,.int c,.int b,.int p]):=rfl;have l1:=J3 (pi:=(EV (M2 (bV 0) (bSp (zR 1)) bNp)).f) (h:=lcH (gN 0).f bTt.f (zy (ZM true) (qj (bV 0) zo)).f) (m:=[none]) (ρ:=[.sh (.tuple [.str "rests",.int r,.int c,.int b,.int p]),.un,.un,.un,.un,.un]) (ds:=[.int r,.int c,.int b,.int p]) (fs:=[num r,num c,num b,num p].map PyData.str) (by try simp only [Pu.pwA,QR,s1]) (VT (ρ:=[]) λz hz=>by
   simp only [mem_cons,not_mem_nil,or_false] at hz;rcases hz with rfl|rfl|rfl|rfl<;>exact ⟨by omega,by omega⟩) (by simp)
  simp only [QR,Pu.pwA] at l1;have ca:W5 (.list [.str "rests"]) (.list ([num r,num c,num b,num p].map PyData.str))=some (sD (wds (.rests r c b p))):=ER (xs:=["rests"]) (by simp);rw [qD]
  try simp only [Pu.pwA,dlD,qp,qfW,qfu,qfG,QR,zD,l1,ca,Bool.not_false]
 |.bits h l ms,j+1,ok,_,_=>by
  obtain ⟨a1,a2,a3,a4⟩:=ok;have q:(2:Int) ^ (h+l)<=2 ^ 8:=Bk.JL (by omega);have s1:slA (.tuple [.str "bits",.int (h:Int),.int (l:Int),.tuple (ms.map PyData.int)]) (some 1) (some 3)=some (.tuple [.int (h:Int),.int (l:Int)]):=rfl;have c0:W5 (.list [.int (h:Int),.int (l:Int)]) (.list (ms.map PyData.int))=some (.list (.int (h:Int)::.int (l:Int)::ms.map PyData.int)):=WK (by simp;omega);have l1:=J3 (pi:=(EV (bO jz (zy qaZ (qj (M2 (bV 0) (bSp (zR 1)) (bSp (zR 3))) zo)) (zy qaZ (qj (bO YB (bV 0) (zR 3)) zo)))).f) (h:=lcH (gN 0).f bTt.f (zy (ZM true) (qj (bV 0) zo)).f) (m:=[none]) (ρ:=[.sh (.tuple [.str "bits",.int (h:Int),.int (l:Int),.tuple (ms.map PyData.int)]),.un,.un,.un,.un,.un]) (ds:=.int (h:Int)::.int (l:Int)::ms.map PyData.int) (fs:=(num h::num l::ms.map num).map PyData.str) (by try simp only [Pu.pwA,QR,zD,s1,c0]) (by
   have:=VT (ρ:=[]) (s:=.un) (ds:=.int (h:Int)::.int (l:Int)::ms.map PyData.int) λz hz=>by
    simp only [mem_cons,mem_map] at hz;rcases hz with rfl|rfl|⟨i,hi,rfl⟩
    ·exact ⟨by omega,by omega⟩
    ·exact ⟨by omega,by omega⟩
    ·have:=a4 i hi;exact ⟨by omega,by omega⟩
   have e:(PyData.int (h:Int)::.int (l:Int)::ms.map PyData.int).map tkD=num h::num l::ms.map num:=by simp only [map_cons,WU];rfl
   rw [e] at this;exact this) (by simp;omega)
  simp only [QR,zD,Pu.pwA] at l1;have ca:W5 (.list [.str "bits"]) (.list ((num h::num l::ms.map num).map PyData.str))=some (sD (wds (.bits h l ms))):=ER (xs:=["bits"]) (by simp;omega);rw [qD]
  try simp only [Pu.pwA,dlD,qp,qfR,qgh,QR,zD,l1,ca]
 |.table b cells,j+1,ok,_,_=>by
  have ok':=ok;obtain ⟨a1,a2,a3,a4,c,a5,a6,a7⟩:=ok;have hcl:∀ k,(rws true (cells.take k)).length<=60*61:=λk=>by
   have:=EJ (b:=true) (t:=cells.take k) (n:=60) λr hr=>by have:=(a7 r (List.mem_of_mem_take hr)).1;omega
   have h3:(cells.take k).length*(60+1)<=60*61:=Nat.mul_le_mul (by rw [List.length_take];omega) (by omega);omega
  rw [qD]
  try simp only [Pu.pwA,dlD,qp,qfd,qff,qgq,Bool.not_true,ZU,KS (st:=true) (i:=b) (by omega)]
  rw [M4 J9 cells 0];refine RE (Q:=λo=>KF false o=_) (cells.zipIdx 0) (λi ρ=>∃ s4 s5:Sl,∃ f:List PyData,(ρ=[.sh (.tuple [.str "table",.int b,.tuple (cells.map J9)]),.un,.un,.ow f,s4,s5]\/ρ=[.sh (.tuple [.str "table",.int b,.tuple (cells.map J9)]),.un,.un,.sh (.list f),s4,s5])/\f=(("table" : Str)::num b::rws true (cells.take i)).map PyData.str) ⟨_,_,_,.inl rfl,by simp [rws,num]⟩ ?_ ?_
  ·rintro i ⟨r,n⟩ ρ hx ⟨s4,s5,f,hρ,hf⟩;obtain ⟨hr,rfl,hi⟩:=W7 hx;have hrm:=mem_of_getElem? hr;have rl:=(a7 r hrm).1;have tl:=hcl n;have tk:cells.take (n+1)=cells.take n++[r]:=by rw [List.take_add_one,hr];rfl
   have fl:f.length<=60*61+2:=by rw [hf];simp;omega
   have lcr:∀ s3:Sl,lcF (EV (bV 5)).f (lcH (gN 0).f bTt.f (zy (ZM true) (qj (bV 0) zo)).f) [none] [.sh (.tuple [.str "table",.int b,.tuple (cells.map J9)]),.un,.un,s3,.sh (.int (n:Int)),.sh (J9 r)]=some (.list ((r.map num).map PyData.str)):=λs3=>J3 (ds:=r.map PyData.int) (by try simp only [Pu.pwA,J9]) (by
    have:=VT (ρ:=[]) (s:=.un) (ds:=r.map PyData.int) (qfp λi hi=>by have:=(a7 r hrm).2 i hi;omega);rw [WU] at this;exact this) (by simp;omega)
   simp only [ZU,Pu.pwA] at lcr;have c1:∀ sep:Str,W5 (.list f) (.list [.str sep])=some (.list (f++[.str sep])):=λsep=>WK (by simp;omega);have c2:∀ sep:Str,W5 (.list (f++[.str sep])) (.list ((r.map num).map PyData.str))=some (.list (f++[.str sep]++(r.map num).map PyData.str)):=λsep=>WK (by simp;omega);have rw1:∀ (b:Bool) (t:List (List Int)),rws b (t++[r])=rws b t++(if b&&t.isEmpty then (":" : Str) else "/")::r.map num:=by
    intro b t;induction t generalizing b with
    |nil=>cases b<;>simp [rws]
    |cons a t ih=>simp [rws,ih]
   have te:(cells.take n).isEmpty=decide (n=0):=by
    cases n with
    |zero=>simp
    |succ m=>
     have:cells.take (m+1)≠[]:=by
      intro z;have:=congrArg List.length z;rw [List.length_take,length_nil] at this;omega
     simp [List.isEmpty_eq_false_iff.mpr this]
   have fin:∀ sep:Str,sep=(if decide (n=0)=true then (":" : Str) else "/")->f++[.str sep]++(r.map num).map PyData.str=(("table" : Str)::num b::rws true (cells.take (n+1))).map PyData.str:=by
    intro sep hs;rw [tk,rw1,te,hf,hs];simp
   by_cases h0:n=0
   ·have fz:=fin ":" (by simp [h0]);have hz:decide ((n:Int)=0)=true:=by simp [h0]
    rcases hρ with rfl|rfl
    ·try simp only [Pu.pwA,hz,zD,ZI,lcr,c1,c2]
     exact ⟨_,_,_,.inr rfl,fz⟩
    ·try simp only [Pu.pwA,hz,zD,ZI,lcr,c1,c2]
     exact ⟨_,_,_,.inr rfl,fz⟩
   ·have fz:=fin "/" (by simp [h0]);have hz:decide ((n:Int)=0)=false:=by simp [h0]
    rcases hρ with rfl|rfl
    ·try simp only [Pu.pwA,hz,zD,ZI,lcr,c1,c2]
     exact ⟨_,_,_,.inr rfl,fz⟩
    ·try simp only [Pu.pwA,hz,zD,ZI,lcr,c1,c2]
     exact ⟨_,_,_,.inr rfl,fz⟩
  ·rintro ρ ⟨s4,s5,f,hρ,hf⟩;rw [List.length_zipIdx,List.take_length] at hf;rcases hρ with rfl|rfl
   ·try simp only [Pu.pwA,hf,wds]
   ·try simp only [Pu.pwA,hf,wds]
 |.joined d e,j+1,ok,hj,h2=>by
  simp only [Dl.dep] at hj h2;have m1:=Nat.le_max_left d.dep e.dep;have m2:=Nat.le_max_right d.dep e.dep;have i1:=qfb d j ok.1 (by omega) (by omega);have i2:=qfb e j ok.2.1 (by omega) (by omega);obtain ⟨w1,_⟩:=WW d ok.1;obtain ⟨w2,_⟩:=WW e ok.2.1;have p1:3 ^ d.dep<=3 ^ 2:=Nat.pow_le_pow_right (by decide) (by omega);have p2:3 ^ e.dep<=3 ^ 2:=Nat.pow_le_pow_right (by decide) (by omega);have c1:=ER (xs:=[("joined" : Str),"("]) (ys:=wds d) (by simp;omega);have c2:=ER (xs:=[("joined" : Str),"("]++wds d) (ys:=[(")" : Str),"("]) (by simp;omega);have c3:=ER (xs:=[("joined" : Str),"("]++wds d++[(")" : Str),"("]) (ys:=wds e) (by simp;omega);have c4:=ER (xs:=[("joined" : Str),"("]++wds d++[(")" : Str),"("]++wds e) (ys:=[(")" : Str)]) (by simp;omega);have ee:[("joined" : Str),"("]++wds d++[(")" : Str),"("]++wds e++[(")" : Str)]=wds (.joined d e):=by simp [wds]
  rw [ee] at c4;generalize [("joined" : Str),"("]++wds d++[(")" : Str),"("]++wds e=X3 at c3 c4;generalize [("joined" : Str),"("]++wds d++[(")" : Str),"("]=X2 at c2 c3;generalize [("joined" : Str),"("]++wds d=X1 at c1 c2;simp only [map_cons,List.map_nil] at c1 c2 c4;rw [qD]
  try simp only [Pu.pwA,dlD,qp,qfL,i1,i2,qdt,zD,c1,c2,c3,c4]
end K76
namespace K76
open PySem L2 L3 Pu
open Bk (Dl Dr)
open Pv (dlD J9)
def s4:List Dl:=[.skew 2 2 2 1 1,.bits 1 0 [1],.rests 1 2 2 1,.table 2 [[1,0]]]
def CZ {d:Dl} (h:d∈s4):d.Ok/\d.dep=0/\(1<=d.R/\d.R<=4)/\(1<=d.C/\d.C<=4)/\(1<=d.B/\d.B<=4):=by
 simp only [s4,mem_cons,not_mem_nil,or_false] at h;rcases h with rfl|rfl|rfl|rfl
 ·exact ⟨by simp [Dl.Ok],rfl,by decide,by decide,by decide⟩
 ·exact ⟨by simp [Dl.Ok],rfl,by decide,by decide,by decide⟩
 ·exact ⟨by simp [Dl.Ok],rfl,by decide,by decide,by decide⟩
 ·exact ⟨⟨by decide,by decide,by decide,by decide,2,by decide,by decide,by simp⟩,rfl,by decide,by decide,by decide⟩
def m44 {a b:Int} (h:1<=a/\a<=4) (k:1<=b/\b<=4):1<=a*b/\a*b<=16:=by
 have h1:=Bk.YC h.1 h.2 k.1 k.2;have h2:1*1<=a*b:=Int.mul_le_mul h.1 k.1 (by omega) (by omega);omega
def m16 {a b:Int} (h:1<=a/\a<=16) (k:1<=b/\b<=16):a*b<=4096:=by
 have h1:=Bk.YC h.1 h.2 k.1 k.2;omega
def NA {d e:Dl} (hd:d∈s4) (he:e∈s4):(Dl.joined d e).Ok/\(Dl.joined d e).dep=1/\(1<=(Dl.joined d e).R/\(Dl.joined d e).R<=16)/\(1<=(Dl.joined d e).C/\(Dl.joined d e).C<=16)/\(1<=(Dl.joined d e).B/\(Dl.joined d e).B<=16):=by
 obtain ⟨a1,a2,a3,a4,a5⟩:=CZ hd;obtain ⟨b1,b2,b3,b4,b5⟩:=CZ he;have r:=m44 a3 b3;have c:=m44 a4 b4;have b:=m44 a5 b5;exact ⟨⟨a1,b1,by omega,by omega,by omega⟩,by simp [Dl.dep,a2,b2],r,c,b⟩
def qeD {n:Nat} {Q:QD} (hn:n<90000) (h:∀ (d:Dl) (m:Nat),d.Ok->d.dep<=2->m<=n+1010->Q (dlD d) m):qG.W [] n Q:=by
 rw [ZL];refine ⟨rfl,?_⟩;unfold zh;have fin:∀ (d:Dl) (m:Nat),d.Ok->d.dep<=2->m<=n+1010->∃ m',m<=m'/\Q (dlD d) m':=λd m a b c=>⟨m,Nat.le_refl _,h d m a b c⟩
 refine VS λY1 h1=>?_
 try simp only [Pu.pwA]
 refine ⟨by omega,by omega,λw w0 w1=>?_⟩;by_cases k0:0<w
 ·try simp only [Pu.pwA,k0,decide_true]
  exact ⟨by omega,λd D dp=>fin d _ D.ok dp (by omega)⟩
 try simp only [Pu.pwA,k0,decide_false]
 rw [h1];refine VS λY2 h2=>?_
 try simp only [Pu.pwA]
 rw [h2];refine VS λY3 h3=>?_;rw [NC]
 try simp (disch:=omega) only [Pu.pwA,qfS]
 refine ⟨by simp [RZ],?_⟩;refine XY (R:=λd:Dl=>d∈s4) (gd:=dlD) (c:=1) (N:=n+10) (RZ 0 (4:Int).toNat) _ _ (λx _ n' Q' hn' h'=>?_) zk.mn mnT (by simp [RZ]) λds ld hd=>?_
 ·unfold zk
  try simp only [Pu.pwA]
  refine ⟨by omega,by omega,λz z0 z1=>?_⟩;obtain ⟨v,hv,e⟩:=qcz (ds:=s4.map dlD) z0 (by simp [s4];omega);obtain ⟨d,hd,rfl⟩:=mem_map.mp hv;have e':=e;simp only [s4,map_cons,List.map_nil,dlD,J9] at e';exact ⟨_,e',h' d hd⟩
 obtain ⟨a,b,c,d,rfl⟩:∃ a b c d,ds=[a,b,c,d]:=by
  match ds,ld with
  |[a,b,c,d],_=>exact ⟨a,b,c,d,rfl⟩
 have ha:=hd a (by simp);have hb:=hd b (by simp);have hc:=hd c (by simp);have hd:=hd d (by simp);have oa:=CZ ha;have ob:=CZ hb;have oc:=CZ hc;have jab:=NA ha hb;have jbc:=NA hb hc;have jcd:=NA hc hd;have m1:(Dl.joined (.joined a b) c).Ok/\(Dl.joined (.joined a b) c).dep<=2:=by
  obtain ⟨j1,j2,j3,j4,j5⟩:=jab;obtain ⟨c1,c2,c3,c4,c5⟩:=oc;exact ⟨⟨j1,c1,m16 j3 (by omega),m16 j4 (by omega),m16 j5 (by omega)⟩,by rw [Dl.dep,j2,c2];decide⟩
 have m2:(Dl.joined a (.joined b c)).Ok/\(Dl.joined a (.joined b c)).dep<=2:=by
  obtain ⟨j1,j2,j3,j4,j5⟩:=jbc;obtain ⟨c1,c2,c3,c4,c5⟩:=oa;exact ⟨⟨c1,j1,m16 (by omega) j3,m16 (by omega) j4,m16 (by omega) j5⟩,by rw [Dl.dep,j2,c2];decide⟩
 have m3:(Dl.joined (.joined a b) (.joined c d)).Ok/\(Dl.joined (.joined a b) (.joined c d)).dep<=2:=by
  obtain ⟨j1,j2,j3,j4,j5⟩:=jab;obtain ⟨c1,c2,c3,c4,c5⟩:=jcd;exact ⟨⟨j1,c1,m16 j3 c3,m16 j4 c4,m16 j5 c5⟩,by rw [Dl.dep,j2,c2];decide⟩
 simp only [map_cons,List.map_nil];refine ⟨by simp,_,_,rfl,rfl,rfl,?_⟩;rw [h3];refine VS λY4 h4=>?_;have hl:(RZ 0 (4:Int).toNat).length=4:=by simp [RZ]
 try simp only [Pu.pwA,hl]
 refine ⟨by omega,by omega,λw w0 w1=>?_⟩;generalize PyData.list _=L4;rw [h4];refine VS λY5 h5=>?_
 try simp only [Pu.pwA]
 by_cases k1:w=0
 ·try simp only [Pu.pwA,k1,decide_true]
  exact fin _ _ m1.1 m1.2 (by omega)
 try simp only [Pu.pwA,k1,decide_false]
 rw [h5];refine VS λY6 h6=>?_
 try simp only [Pu.pwA]
 by_cases k2:w=1
 ·try simp only [Pu.pwA,k2,decide_true]
  exact fin _ _ m2.1 m2.2 (by omega)
 try simp only [Pu.pwA,k2,decide_false]
 rw [h6]
 try simp only [Pu.pwA]
 exact fin _ _ m3.1 m3.2 (by omega)
def tw (d:Dl):PyData:=.tuple [dlD d,.str (txt d)]
def Pk (k:Nat) (ds:List PyData):Prop:=∃ L:List Dl,L.length<=k/\(∀ d∈L,d.Ok/\d.dep<=2)/\ds=L.map tw
def qdY:Pk 0 []:=⟨[],by simp,by simp,rfl⟩
def V3:∀ ms:List Int,Pls (ms.map PyData.int)
 |[]=>trivial
 |_::r=>⟨trivial,V3 r⟩
def JS:∀ ms:List Int,VQ (ms.map PyData.int)=0
 |[]=>rfl
 |_::r=>by simp only [map_cons,VQ,dpt,JS r];rfl
def WS:∀ cs:List (List Int),Pls (cs.map J9)
 |[]=>trivial
 |r::cs=>⟨V3 r,WS cs⟩
def UM:∀ cs:List (List Int),VQ (cs.map J9)<=1
 |[]=>by decide
 |r::cs=>by
  have:=UM cs;simp only [map_cons,VQ,J9,dpt,JS];omega
def qbS:∀ d:Dl,∃ ds,dlD d=.tuple ds/\Pls ds/\VQ ds<=d.dep+2
 |.skew ..=>⟨_,rfl,by simp [Pls,Pl],by simp [VQ,dpt]⟩
 |.rests ..=>⟨_,rfl,by simp [Pls,Pl],by simp [VQ,dpt]⟩
 |.bits h l ms=>⟨_,rfl,by simp [Pls,Pl,V3],by simp [VQ,dpt,JS]⟩
 |.table b cs=>⟨_,rfl,by simp [Pls,Pl,WS],by have:=UM cs;simp only [VQ,dpt];omega⟩
 |.joined d e=>by
  obtain ⟨ds,a1,a2,a3⟩:=qbS d;obtain ⟨es,b1,b2,b3⟩:=qbS e;refine ⟨_,rfl,?_,?_⟩
  ·rw [a1,b1];exact ⟨trivial,a2,b2,trivial⟩
  ·rw [a1,b1];simp only [VQ,dpt,Dl.dep];omega
def SJ {d:Dl} (ok:d.Ok) (dp:d.dep<=2):ET true [dlD d]=some (.str (dlD d).shown):=by
 have w:=(N6 d ok).w (by omega) (by
  have:4 ^ d.dep<=4 ^ 2:=Nat.pow_le_pow_right (by decide) dp;omega)
 obtain ⟨ds,a1,_⟩:=qbS d;rw [a1] at w ⊢;exact qcq w
def qgp {x:Str}:eqD true (.str x) (.str x)=some (.bool false):=by
 try simp only [Pu.pwA]
def qeK {d:Dl} (ok:d.Ok) (dp:d.dep<=2):W1 (.str " ") [.list ((wds d).map PyData.str)]=some (.str (txt d)):=by
 obtain ⟨a,b⟩:=WW d ok;have:3 ^ d.dep<=3 ^ 2:=Nat.pow_le_pow_right (by decide) dp;exact EG (jb (n:=12) (m:=45000) b (by omega) (by decide) (by decide)).1
def qd9 (k:Nat) (ds:List PyData) (hk:k<=60) (hP:Pk k ds):T4.w ([.un,.ow ds,.sh (.int k),.un]++List.replicate 6 .un) 0 (qeR (Pk (k+1))):=by
 obtain ⟨L,hl,hL,rfl⟩:=hP;unfold T4;simp only [List.replicate,cons_append,List.nil_append];refine VS λY1 h1=>?_
 try simp only [Pu.pwA]
 refine qeD (by omega) λd m ok dp hm=>?_;rw [h1];refine VS λY2 h2=>?_;have w1:=qfb d 3 ok (by omega) dp;have w2:=qeB d 3 ok (by omega) dp
 try simp only [Pu.pwA,w1,sD,qeK ok dp,ZU,SJ ok dp,DE,S6]
 refine ⟨_,rfl,?_⟩;rw [WH,h2];refine VS λY3 h3=>?_
 try simp (disch:=omega) only [Pu.pwA,qfS]
 refine KJ (RZ 0 (2:Int).toNat) UC.mn (λi ρ n'=>n'<=2000/\∃ s7 s8,ρ=[.un,.ow (L.map tw),.sh (.int k),.un,.sh (dlD d),.sh (.str (txt d)),.sh (.str (dlD d).shown),s7,s8,.un]) ⟨by omega,_,_,rfl⟩ ?_ ?_
 ·rintro i x ρ n' hx ⟨hn,s7,s8,rfl⟩;refine ⟨_,rfl,?_⟩;unfold UC
  try simp only [Pu.pwA,w2,ZU,SJ ok dp,qgp,W4]
  exact ⟨false,rfl,hn,_,_,rfl⟩
 ·rintro ρ n' ⟨hn,s7,s8,rfl⟩;rw [WH,h3]
  try simp only [Pu.pwA]
  refine ⟨by rw [length_map];omega,_,rfl,L++[d],by simp;omega,λe he=>?_,by simp [tw]⟩;rcases List.mem_append.mp he with he|he
  ·exact hL e he
  ·rw [List.mem_singleton.mp he];exact ⟨ok,dp⟩
def qge {L:List Dl} {d:Dl} {s2:Sl} (hL:∀ d∈L,d.Ok/\d.dep<=2) (hd:d.Ok/\d.dep<=2):lcP (lcH (Pu.qaG 2 (Pu.Z5 (gN 0) (Pu.Z5 (gN 1) Pu.NL))).f (qem (bTb (bO qam (bV 0) (bO YB (bV 2) (zR 0)))) (bTb (bO (DJ false) (bV 1) (bO YB (bV 2) (zR 1))))).f (bV 1).f [.un,.un,.sh (tw d)]) (L.map tw)=some []:=by
 rw [XF (k:=λd=>.str (txt d)) (c:=λ_=>false)]
 ·simp
 ·intro e he;obtain ⟨ds,a1,a2,a3⟩:=qbS d;obtain ⟨es,b1,b2,b3⟩:=qbS e;have hn:=qbb (ds:=es) (es:=ds) b2 a2 (by have:=(hL e he).2;omega);rw [← a1,← b1] at hn;have hq:(!deq es ds)=true->decide (txt e=txt d)=false:=by
   intro z;refine decide_eq_false λt=>?_;have:=NS t;subst this;rw [a1] at b1;cases b1;rw [JH rfl] at z;cases z
  generalize (!deq es ds)=b at hn hq;cases b with
  |false=>try simp only [Pu.pwA,X6,SI,hn,tw]
  |true=>try simp only [Pu.pwA,X6,SI,hn,tw,hq rfl]
def qey (k:Nat) (ds:List PyData) (hk:k<=61) (hP:Pk k ds):∃ fr,WC.f 1000000000 ([.un,.ow ds,.un,.un]++List.replicate 6 .un)=some (.rt (.bool true) fr):=by
 obtain ⟨L,hl,hL,rfl⟩:=hP;unfold WC
 try simp only [Pu.pwA,List.replicate,cons_append,List.nil_append]
 refine RE (Q:=λo=>∃ fr,o=some (Ot.rt (PyData.bool true) fr)) L (λ_ ρ=>∃ s,ρ=[.un,.sh (.list (L.map tw)),.un,.un,.un,.un,.un,.un,.un,s]) ⟨_,rfl⟩ ?_ ?_
 ·rintro i d ρ hx ⟨s,rfl⟩;have it:=qge (s2:=.un) hL (hL d (mem_of_getElem? hx));simp only [Pu.pwA] at it;rw [Option.bind_some];rw [J3 (ds:=L.map tw) (fs:=[]) rfl it (by simp)];have en:eqD true (.list []) (.list [])=some (.bool false):=(zr (by decide)).trans rfl;simp only [Option.bind_some,en];exact ⟨_,rfl⟩
 ·rintro ρ ⟨s,rfl⟩;exact ⟨_,rfl⟩
end K76
namespace K76
open PySem L2 L3 Bk
def Kf (P:Params):PySem.W.Frag:=[(3,Hd.oD P 26 [(.str "__name__" 165,.str "law_bankwalk_k76_dealings_written" 209),(.str "__doc__" 166,.none),(.str "__package__" 167,.none),(.str "__loader__" 168,.builtin "__main__.__loader__#opaque"),(.str "__spec__" 169,.none),(.str "__annotations__" 170,.ref 6),(.str "__builtins__" 171,.ref 4),(.str "__file__" 173,.str "/claim/cut.py" 172),(.str "__cached__" 174,.none),(.str "in_words" 194,.ref 19),(.str "in_rows" 200,.ref 24),(.str "dealing_text" 208,.ref 31),(.str "_law_mix" 219,.ref 38),(.str "_law_left" 229,.ref 45),(.str "_law_pick" 238,.ref 52),(.str "_law_sides" 248,.ref 59),(.str "_law_gcd" 256,.ref 66),(.str "_law_skew" 267,.ref 73),(.str "_law_rests" 279,.ref 80),(.str "_law_bits" 285,.ref 85),(.str "_law_table" 291,.ref 90),(.str "_law_small" 297,.ref 95),(.str "_law_dealing" 307,.ref 102),(.str "_law_dealing_words" 313,.ref 107),(.str "_law_any_dealing" 319,.ref 112),(.str "law" 325,.ref 117)]),
 (18,Hd.oC [.str "in_words" 189,.str "in_words" 190,.str "/claim/cut.py" 191,.int (2) 0,.int (1) 0,.int (0) 0,.int (0) 0,.int (3) 0,.ref 15,.bool true,.int (181) 0,.ref 16,.none,.none,.none,.ref 17,.int (192) 0,.int (2) 0,.str "/claim/cut.py" 193]),
 (19,Hd.oF "in_words" jC (.str "bankwalk.texts" 187) (.ref 18)),
 (23,Hd.oC [.str "in_rows" 195,.str "in_rows" 196,.str "/claim/cut.py" 197,.int (4) 0,.int (1) 0,.int (0) 0,.int (0) 0,.int (3) 0,.ref 20,.bool true,.int (181) 0,.ref 21,.none,.none,.none,.ref 22,.int (198) 0,.int (4) 0,.str "/claim/cut.py" 199]),
 (24,Hd.oF "in_rows" j9 (.str "bankwalk.texts" 187) (.ref 23)),
 (30,Hd.oC [.str "dealing_text" 201,.str "dealing_text" 202,.str "/claim/cut.py" 203,.int (6) 0,.int (1) 0,.int (0) 0,.int (0) 0,.int (3) 0,.ref 25,.bool true,.int (181) 0,.ref 26,.none,.ref 27,.ref 28,.ref 29,.int (206) 0,.int (6) 0,.str "/claim/cut.py" 207]),
 (31,Hd.oF "dealing_text" zC (.str "bankwalk.texts" 187) (.ref 30)),
 (37,Hd.oC [.str "_law_mix" 211,.str "_law_mix" 212,.str "/claim/cut.py" 213,.int (16) 0,.int (2) 0,.int (0) 0,.int (0) 0,.int (3) 0,.ref 32,.bool true,.int (181) 0,.ref 33,.none,.ref 34,.ref 35,.ref 36,.int (217) 0,.int (16) 0,.str "/claim/cut.py" 218]),
 (38,Hd.oF "_law_mix" QF (.str "law_bankwalk_k76_dealings_written" 209) (.ref 37)),
 (44,Hd.oC [.str "_law_left" 220,.str "_law_left" 221,.str "/claim/cut.py" 222,.int (19) 0,.int (2) 0,.int (0) 0,.int (0) 0,.int (3) 0,.ref 39,.bool true,.int (181) 0,.ref 40,.none,.ref 41,.ref 42,.ref 43,.int (227) 0,.int (19) 0,.str "/claim/cut.py" 228]),
 (45,Hd.oF "_law_left" jH (.str "law_bankwalk_k76_dealings_written" 209) (.ref 44)),
 (51,Hd.oC [.str "_law_pick" 230,.str "_law_pick" 231,.str "/claim/cut.py" 232,.int (23) 0,.int (2) 0,.int (0) 0,.int (0) 0,.int (3) 0,.ref 46,.bool true,.int (181) 0,.ref 47,.none,.ref 48,.ref 49,.ref 50,.int (236) 0,.int (23) 0,.str "/claim/cut.py" 237]),
 (52,Hd.oF "_law_pick" jQ (.str "law_bankwalk_k76_dealings_written" 209) (.ref 51)),
 (58,Hd.oC [.str "_law_sides" 239,.str "_law_sides" 240,.str "/claim/cut.py" 241,.int (30) 0,.int (1) 0,.int (0) 0,.int (0) 0,.int (3) 0,.ref 53,.bool true,.int (181) 0,.ref 54,.none,.ref 55,.ref 56,.ref 57,.int (246) 0,.int (30) 0,.str "/claim/cut.py" 247]),
 (59,Hd.oF "_law_sides" jl (.str "law_bankwalk_k76_dealings_written" 209) (.ref 58)),
 (65,Hd.oC [.str "_law_gcd" 249,.str "_law_gcd" 250,.str "/claim/cut.py" 251,.int (34) 0,.int (2) 0,.int (0) 0,.int (0) 0,.int (3) 0,.ref 60,.bool true,.int (181) 0,.ref 61,.none,.ref 62,.ref 63,.ref 64,.int (254) 0,.int (34) 0,.str "/claim/cut.py" 255]),
 (66,Hd.oF "_law_gcd" QI (.str "law_bankwalk_k76_dealings_written" 209) (.ref 65)),
 (72,Hd.oC [.str "_law_skew" 257,.str "_law_skew" 258,.str "/claim/cut.py" 259,.int (38) 0,.int (1) 0,.int (0) 0,.int (0) 0,.int (3) 0,.ref 67,.bool true,.int (181) 0,.ref 68,.none,.ref 69,.ref 70,.ref 71,.int (265) 0,.int (38) 0,.str "/claim/cut.py" 266]),
 (73,Hd.oF "_law_skew" jE (.str "law_bankwalk_k76_dealings_written" 209) (.ref 72)),
 (79,Hd.oC [.str "_law_rests" 268,.str "_law_rests" 269,.str "/claim/cut.py" 270,.int (43) 0,.int (1) 0,.int (0) 0,.int (0) 0,.int (3) 0,.ref 74,.bool true,.int (181) 0,.ref 75,.none,.ref 76,.ref 77,.ref 78,.int (277) 0,.int (43) 0,.str "/claim/cut.py" 278]),
 (80,Hd.oF "_law_rests" jo (.str "law_bankwalk_k76_dealings_written" 209) (.ref 79)),
 (84,Hd.oC [.str "_law_bits" 280,.str "_law_bits" 281,.str "/claim/cut.py" 282,.int (51) 0,.int (2) 0,.int (0) 0,.int (0) 0,.int (3) 0,.ref 81,.bool true,.int (181) 0,.ref 82,.none,.none,.none,.ref 83,.int (283) 0,.int (51) 0,.str "/claim/cut.py" 284]),
 (85,Hd.oF "_law_bits" jO (.str "law_bankwalk_k76_dealings_written" 209) (.ref 84)),
 (89,Hd.oC [.str "_law_table" 286,.str "_law_table" 287,.str "/claim/cut.py" 288,.int (56) 0,.int (1) 0,.int (0) 0,.int (0) 0,.int (3) 0,.ref 86,.bool true,.int (181) 0,.ref 87,.none,.none,.none,.ref 88,.int (289) 0,.int (56) 0,.str "/claim/cut.py" 290]),
 (90,Hd.oF "_law_table" jm (.str "law_bankwalk_k76_dealings_written" 209) (.ref 89)),
 (94,Hd.oC [.str "_law_small" 292,.str "_law_small" 293,.str "/claim/cut.py" 294,.int (61) 0,.int (1) 0,.int (0) 0,.int (0) 0,.int (3) 0,.ref 91,.bool true,.int (181) 0,.ref 92,.none,.none,.none,.ref 93,.int (295) 0,.int (61) 0,.str "/claim/cut.py" 296]),
 (95,Hd.oF "_law_small" jk (.str "law_bankwalk_k76_dealings_written" 209) (.ref 94)),
 (101,Hd.oC [.str "_law_dealing" 298,.str "_law_dealing" 299,.str "/claim/cut.py" 300,.int (79) 0,.int (1) 0,.int (0) 0,.int (0) 0,.int (3) 0,.ref 96,.bool true,.int (181) 0,.ref 97,.none,.ref 98,.ref 99,.ref 100,.int (305) 0,.int (79) 0,.str "/claim/cut.py" 306]),
 (102,Hd.oF "_law_dealing" zP (.str "law_bankwalk_k76_dealings_written" 209) (.ref 101)),
 (106,Hd.oC [.str "_law_dealing_words" 308,.str "_law_dealing_words" 309,.str "/claim/cut.py" 310,.int (96) 0,.int (1) 0,.int (0) 0,.int (0) 0,.int (3) 0,.ref 103,.bool true,.int (181) 0,.ref 104,.none,.none,.none,.ref 105,.int (311) 0,.int (96) 0,.str "/claim/cut.py" 312]),
 (107,Hd.oF "_law_dealing_words" qT (.str "law_bankwalk_k76_dealings_written" 209) (.ref 106)),
 (111,Hd.oC [.str "_law_any_dealing" 314,.str "_law_any_dealing" 315,.str "/claim/cut.py" 316,.int (108) 0,.int (1) 0,.int (0) 0,.int (0) 0,.int (3) 0,.ref 108,.bool true,.int (181) 0,.ref 109,.none,.none,.none,.ref 110,.int (317) 0,.int (108) 0,.str "/claim/cut.py" 318]),
 (112,Hd.oF "_law_any_dealing" qZ (.str "law_bankwalk_k76_dealings_written" 209) (.ref 111)),
 (116,Hd.oC [.str "law" 320,.str "law" 321,.str "/claim/cut.py" 322,.int (119) 0,.int (1) 0,.int (0) 0,.int (0) 0,.int (3) 0,.ref 113,.bool true,.int (181) 0,.ref 114,.none,.none,.none,.ref 115,.int (323) 0,.int (119) 0,.str "/claim/cut.py" 324]),
 (117,Hd.oF "law" QQ (.str "law_bankwalk_k76_dealings_written" 209) (.ref 116))]
def qcb {l:PySem.W.OpenLaw} {w:World} {h:Heap} {mg:Str->Option Value} {fa:Addr} (X:(Kf w.params).In h) (G:h.Ns mainGlobals mg) (hfa:mg "law" = some (.ref fa)) :
  ∃ fd:FuncData,(∀ (s:Shared) (v:Value),BindsTo s fd ⟨[v],[]⟩ [("_law_script",v)])/\∀ base:Heap,(Kf w.params).In base->base.Ns mainGlobals mg->FnOk l.prog w (Kf w.params) mg base CX0 7 fa fd ["_law_script"] (lSp (Kf w.params) VB):=by
 have e:=hfa.symm.trans (Hd.j6 X G "law" (.ref 117) (by kernel_rfl));cases e;have F0:=Hd.jX (K:=Kf w.params) "in_words" jC 19 (.str "bankwalk.texts" 187) (.ref 18) (by kernel_rfl) (by kernel_rfl) (by kernel_rfl);have b0:=F0.binds (ps:=ZW) λ_ _ _ _ _ _ us hl=>by obtain ⟨_,rfl⟩:=Pu.XT hl;rfl
 have m0:=Hd.j6 X G "in_words" (.ref 19) (by kernel_rfl);have F1:=Hd.jX (K:=Kf w.params) "in_rows" j9 24 (.str "bankwalk.texts" 187) (.ref 23) (by kernel_rfl) (by kernel_rfl) (by kernel_rfl);have b1:=F1.binds (ps:=JY) λ_ _ _ _ _ _ us hl=>by obtain ⟨_,rfl⟩:=Pu.XT hl;rfl
 have m1:=Hd.j6 X G "in_rows" (.ref 24) (by kernel_rfl);have F2:=Hd.jX (K:=Kf w.params) "dealing_text" zC 31 (.str "bankwalk.texts" 187) (.ref 30) (by kernel_rfl) (by kernel_rfl) (by kernel_rfl);have b2:=F2.binds (ps:=jx) λ_ _ _ _ _ _ us hl=>by obtain ⟨_,rfl⟩:=Pu.XT hl;rfl
 have m2:=Hd.j6 X G "dealing_text" (.ref 31) (by kernel_rfl);have F3:=Hd.jX (K:=Kf w.params) "_law_mix" QF 38 (.str "law_bankwalk_k76_dealings_written" 209) (.ref 37) (by kernel_rfl) (by kernel_rfl) (by kernel_rfl);have b3:=F3.binds (ps:=J1) λ_ _ _ _ _ _ us hl=>by obtain ⟨_,_,rfl⟩:=Pu.qdq hl;rfl
 have m3:=Hd.j6 X G "_law_mix" (.ref 38) (by kernel_rfl);have F4:=Hd.jX (K:=Kf w.params) "_law_left" jH 45 (.str "law_bankwalk_k76_dealings_written" 209) (.ref 44) (by kernel_rfl) (by kernel_rfl) (by kernel_rfl);have b4:=F4.binds (ps:=Z1) λ_ _ _ _ _ _ us hl=>by obtain ⟨_,_,rfl⟩:=Pu.qdq hl;rfl
 have m4:=Hd.j6 X G "_law_left" (.ref 45) (by kernel_rfl);have F5:=Hd.jX (K:=Kf w.params) "_law_pick" jQ 52 (.str "law_bankwalk_k76_dealings_written" 209) (.ref 51) (by kernel_rfl) (by kernel_rfl) (by kernel_rfl);have b5:=F5.binds (ps:=ZV) λ_ _ _ _ _ _ us hl=>by obtain ⟨_,_,rfl⟩:=Pu.qdq hl;rfl
 have m5:=Hd.j6 X G "_law_pick" (.ref 52) (by kernel_rfl);have F6:=Hd.jX (K:=Kf w.params) "_law_sides" jl 59 (.str "law_bankwalk_k76_dealings_written" 209) (.ref 58) (by kernel_rfl) (by kernel_rfl) (by kernel_rfl);have b6:=F6.binds (ps:=QU) λ_ _ _ _ _ _ us hl=>by obtain ⟨_,rfl⟩:=Pu.XT hl;rfl
 have m6:=Hd.j6 X G "_law_sides" (.ref 59) (by kernel_rfl);have F7:=Hd.jX (K:=Kf w.params) "_law_gcd" QI 66 (.str "law_bankwalk_k76_dealings_written" 209) (.ref 65) (by kernel_rfl) (by kernel_rfl) (by kernel_rfl);have b7:=F7.binds (ps:=J4) λ_ _ _ _ _ _ us hl=>by obtain ⟨_,_,rfl⟩:=Pu.qdq hl;rfl
 have m7:=Hd.j6 X G "_law_gcd" (.ref 66) (by kernel_rfl);have F8:=Hd.jX (K:=Kf w.params) "_law_skew" jE 73 (.str "law_bankwalk_k76_dealings_written" 209) (.ref 72) (by kernel_rfl) (by kernel_rfl) (by kernel_rfl);have b8:=F8.binds (ps:=ZZ) λ_ _ _ _ _ _ us hl=>by obtain ⟨_,rfl⟩:=Pu.XT hl;rfl
 have m8:=Hd.j6 X G "_law_skew" (.ref 73) (by kernel_rfl);have F9:=Hd.jX (K:=Kf w.params) "_law_rests" jo 80 (.str "law_bankwalk_k76_dealings_written" 209) (.ref 79) (by kernel_rfl) (by kernel_rfl) (by kernel_rfl);have b9:=F9.binds (ps:=QW) λ_ _ _ _ _ _ us hl=>by obtain ⟨_,rfl⟩:=Pu.XT hl;rfl
 have m9:=Hd.j6 X G "_law_rests" (.ref 80) (by kernel_rfl);have F10:=Hd.jX (K:=Kf w.params) "_law_bits" jO 85 (.str "law_bankwalk_k76_dealings_written" 209) (.ref 84) (by kernel_rfl) (by kernel_rfl) (by kernel_rfl);have b10:=F10.binds (ps:=Z2) λ_ _ _ _ _ _ us hl=>by obtain ⟨_,_,rfl⟩:=Pu.qdq hl;rfl
 have m10:=Hd.j6 X G "_law_bits" (.ref 85) (by kernel_rfl);have F11:=Hd.jX (K:=Kf w.params) "_law_table" jm 90 (.str "law_bankwalk_k76_dealings_written" 209) (.ref 89) (by kernel_rfl) (by kernel_rfl) (by kernel_rfl);have b11:=F11.binds (ps:=QV) λ_ _ _ _ _ _ us hl=>by obtain ⟨_,rfl⟩:=Pu.XT hl;rfl
 have m11:=Hd.j6 X G "_law_table" (.ref 90) (by kernel_rfl);have F12:=Hd.jX (K:=Kf w.params) "_law_small" jk 95 (.str "law_bankwalk_k76_dealings_written" 209) (.ref 94) (by kernel_rfl) (by kernel_rfl) (by kernel_rfl);have b12:=F12.binds (ps:=QT) λ_ _ _ _ _ _ us hl=>by obtain ⟨_,rfl⟩:=Pu.XT hl;rfl
 have m12:=Hd.j6 X G "_law_small" (.ref 95) (by kernel_rfl);have F13:=Hd.jX (K:=Kf w.params) "_law_dealing" zP 102 (.str "law_bankwalk_k76_dealings_written" 209) (.ref 101) (by kernel_rfl) (by kernel_rfl) (by kernel_rfl);have b13:=F13.binds (ps:=jJ) λ_ _ _ _ _ _ us hl=>by obtain ⟨_,rfl⟩:=Pu.XT hl;rfl
 have m13:=Hd.j6 X G "_law_dealing" (.ref 102) (by kernel_rfl);have F14:=Hd.jX (K:=Kf w.params) "_law_dealing_words" qT 107 (.str "law_bankwalk_k76_dealings_written" 209) (.ref 106) (by kernel_rfl) (by kernel_rfl) (by kernel_rfl);have b14:=F14.binds (ps:=zu) λ_ _ _ _ _ _ us hl=>by obtain ⟨_,rfl⟩:=Pu.XT hl;rfl
 have m14:=Hd.j6 X G "_law_dealing_words" (.ref 107) (by kernel_rfl);have F15:=Hd.jX (K:=Kf w.params) "_law_any_dealing" qZ 112 (.str "law_bankwalk_k76_dealings_written" 209) (.ref 111) (by kernel_rfl) (by kernel_rfl) (by kernel_rfl);have b15:=F15.binds (ps:=zI) λ_ _ _ _ _ _ us hl=>by obtain ⟨_,rfl⟩:=Pu.XT hl;rfl
 have m15:=Hd.j6 X G "_law_any_dealing" (.ref 112) (by kernel_rfl);have F16:=Hd.jX (K:=Kf w.params) "law" QQ 117 (.str "law_bankwalk_k76_dealings_written" 209) (.ref 116) (by kernel_rfl) (by kernel_rfl) (by kernel_rfl);have g_str:=Hd.V7 X G "str" (by kernel_rfl);have g_len:=Hd.V7 X G "len" (by kernel_rfl);have g_abs:=Hd.V7 X G "abs" (by kernel_rfl);have g_range:=Hd.V7 X G "range" (by kernel_rfl);have g_tuple:=Hd.V7 X G "tuple" (by kernel_rfl);have g_list:=Hd.V7 X G "list" (by kernel_rfl);have g_enumerate:=Hd.V7 X G "enumerate" (by kernel_rfl);have g_min:=Hd.V7 X G "min" (by kernel_rfl);have g_isinstance:=Hd.V7 X G "isinstance" (by kernel_rfl);refine ⟨PySem.W.fnOf "law" "law" (jW QQ) (zF QQ) (qi QQ) .none .none .none (.str "law_bankwalk_k76_dealings_written" 209) none (.ref 116) .none,λs v=>.of_eq rfl,λbase Xb _=>?_⟩;have O_in_words:=EH (P:=l.prog) (w:=w) (base:=base) (k:=0) F0 b0 m0  g_str DB;have O_in_rows:=XD (P:=l.prog) (w:=w) (base:=base) (k:=1) F1 b1 m1 O_in_words  WZ;have O_law_mix:=XI (P:=l.prog) (w:=w) (base:=base) (k:=0) F3 b3 m3   XE;have O_law_left:=EW (P:=l.prog) (w:=w) (base:=base) (k:=0) F4 b4 m4  g_len g_abs EC;have O_law_pick:=EZ (P:=l.prog) (w:=w) (base:=base) (k:=1) F5 b5 m5 O_law_mix  E9;have O_law_sides:=U7 (P:=l.prog) (w:=w) (base:=base) (k:=2) F6 b6 m6 O_law_pick  UJ;have O_law_gcd:=WX (P:=l.prog) (w:=w) (base:=base) (k:=0) F7 b7 m7   XB;have O_law_skew:=EF (P:=l.prog) (w:=w) (base:=base) (k:=3) F8 b8 m8 O_law_sides (O_law_pick.mono (by decide))  EY;have O_law_rests:=U6 (P:=l.prog) (w:=w) (base:=base) (k:=3) F9 b9 m9 O_law_sides (O_law_pick.mono (by decide)) (O_law_gcd.mono (by decide)) g_range UP;have O_law_bits:=DC (P:=l.prog) (w:=w) (base:=base) (k:=2) F10 b10 m10 O_law_pick g_range g_tuple DH;have O_law_table:=UX (P:=l.prog) (w:=w) (base:=base) (k:=3) F11 b11 m11 O_law_sides (O_law_pick.mono (by decide)) g_range g_tuple U9;have O_law_small:=UN (P:=l.prog) (w:=w) (base:=base) (k:=2) F12 b12 m12 O_law_pick (O_law_gcd.mono (by decide)) g_range g_tuple UK;have O_law_dealing:=YT (P:=l.prog) (w:=w) (base:=base) (k:=4) F13 b13 m13 (O_law_pick.mono (by decide)) O_law_skew O_law_rests (O_law_bits.mono (by decide)) O_law_table (O_law_small.mono (by decide))  YS;have O_law_any_dealing:=ZG (P:=l.prog) (w:=w) (base:=base) (k:=5) F15 b15 m15 (O_law_pick.mono (by decide)) O_law_dealing g_range ZB;have O_dealing_text_0:=Pu.Fn3.pz (D6 (P:=l.prog) (w:=w) (base:=base) F2 b2 m2) false;have O_dealing_text_1:=jg (P:=l.prog) (w:=w) (base:=base) (k:=2) F2 b2 m2 (O_in_words.mono (by decide)) O_in_rows (O_dealing_text_0.mono (by decide))  (jd 0);have O_dealing_text_2:=jg (P:=l.prog) (w:=w) (base:=base) (k:=3) F2 b2 m2 (O_in_words.mono (by decide)) (O_in_rows.mono (by decide)) O_dealing_text_1  (jd 1);have O_dealing_text_3:=jg (P:=l.prog) (w:=w) (base:=base) (k:=4) F2 b2 m2 (O_in_words.mono (by decide)) (O_in_rows.mono (by decide)) O_dealing_text_2  (jd 2);have O_law_dealing_words_0:=Pu.Fn3.pz (D6 (P:=l.prog) (w:=w) (base:=base) F14 b14 m14) false;have O_law_dealing_words_1:=zj (P:=l.prog) (w:=w) (base:=base) (k:=0) F14 b14 m14 O_law_dealing_words_0 g_list g_str g_enumerate (zm 0);have O_law_dealing_words_2:=zj (P:=l.prog) (w:=w) (base:=base) (k:=1) F14 b14 m14 O_law_dealing_words_1 g_list g_str g_enumerate (zm 1);have O_law_dealing_words_3:=zj (P:=l.prog) (w:=w) (base:=base) (k:=2) F14 b14 m14 O_law_dealing_words_2 g_list g_str g_enumerate (zm 2);exact qa9 (k:=6) F16 (O_law_left.mono (by decide)) O_law_any_dealing (O_law_dealing_words_3.mono (by decide)) (O_dealing_text_3.mono (by decide)) g_len g_min g_range g_str g_isinstance (qcH Pk qdY qd9 qey)
abbrev Q : Program := PySem.W.view PySem.Challenge.pw_bankwalk_k76_dealings_written [1,2,3,5,6,7,8,9,10,11,12,13,14,15,16,17,18]
set_option maxRecDepth 100000 in
set_option maxHeartbeats 0 in
def left : PySem.W.LeftO PySem.Challenge.pw_bankwalk_k76_dealings_written Q [] (λs => PySem.W.xlAt Q [] s && PySem.W.recOk [] s) (λs => ([3,18,19,23,24,30,31,37,38,44,45,51,52,58,59,65,66,72,73,79,80,84,85,89,90,94,95,101,102,106,107,111,112,116,117] : List Addr).map s.heap.get?) (λw => (Kf w.params).map λp => some p.2) 1148 :=
 λw=>by kernel_rfl
end K76
open PySem PySem.W PyProof.Rows
set_option maxRecDepth 100000 in
set_option maxHeartbeats 0 in
theorem PySem.Challenge.cw_bankwalk_k76_dealings_written_holds : PySem.Challenge.rw_bankwalk_k76_dealings_written.Holds :=
 Hd.head (l := PySem.Challenge.rw_bankwalk_k76_dealings_written) (q := K76.Q) (loose := []) (K := K76.Kf) (as := [3,18,19,23,24,30,31,37,38,44,45,51,52,58,59,65,66,72,73,79,80,84,85,89,90,94,95,101,102,106,107,111,112,116,117]) (N := 1148) (k := 7) (x := "_law_script")
  (d:=⟨"law",L2.jW K76.QQ,L2.zF K76.QQ,L2.qi K76.QQ,⟨119,0,133,15⟩⟩) (λ_=>by kernel_rfl) (by kernel_rfl) K76.left (by kernel_rfl) (by kernel_rfl) (by kernel_rfl) (by kernel_rfl) (by kernel_rfl)
  ⟨rfl,rfl,rfl,rfl,rfl,by decide +kernel⟩ (by w_witness2) rfl (by kernel_rfl) ⟨rfl,by decide,by decide,rfl⟩ (λw=>by kernel_rfl) λw mg fa h KX G hmg=>K76.qcb KX G hmg
